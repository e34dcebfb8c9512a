import PyProof.Rows.All
import Wide.All
import OpenK.AllK
import Wide.FinOn
import Lean
import PyProof.EqAt
import PyProof.EqKinds
import PyProof.TupleCall
import PyProof.StrLawsIdx
import PyProof.StrBlockH
import PyProof.EnumStmt
import PyProof.ListNew
import PyProof.AutoListH
import PyProof.TupleIter
import KE.KDictOf
import PyProof.ZipIter
import PyProof.Rows.ZipGen
import PyProof.ListIndex
import PyProof.AttrMissHeap
import PyProof.NeKinds
import KE.KLam
import KE.KNestM
import KE.KDictLaws
import PyProof.SeqI3
import PyProof.DictWalks
import KE.KIntText
import PyProof.StationsW
import PyProof.ExcClass2
import PyProof.InstStore
import PyProof.InstStoreFacts
import KE.KIsAll
import PyProof.ExcAttrAll.ValueError
import KE.KTryMore
import PyProof.StrLawsIn
import PySem.Challenge.RW_menutree_k03_what_is_no_house
set_option Elab.async false
set_option linter.all false
set_option maxRecDepth 100000
set_option maxHeartbeats 16000000
set_option compiler.extract_closed false
open Array renaming find?_toList->TQ,forIn_toList->TN,getElem?_eq_getElem->Ol,getElem?_eq_some_iff->OX,getElem?_toList->Sg,length_toList->Na
open Bool renaming and_eq_true->Mk,and_false->OJ,and_true->SS,eq_iff_iff->OP,false_and->Oe,false_eq_true->O9,false_ne_true->ML,false_or->SR,not_eq_true->QG,not_eq_true'->Q5,not_true->SQ,or_eq_false_iff->T7,or_eq_true->Ra,or_false->Pb,true_and->P4
open Eq renaming refl->Mh
open False renaming elim->MG
open ForInStep renaming yield->O8
open Function renaming comp->Tu,comp_def->OA
open Int renaming emod_lt_of_pos->R7,emod_nonneg->Qc,natCast_add->Qb,toNat_natCast->RD
open LawfulBEq renaming eq_of_beq->S7
open List renaming all_cons->P3,all_eq_true->NY,all_map->Sf,any_cons->OG,any_eq_true->QF,any_map->Pm,append_assoc->Q4,append_nil->N1,dropLast_concat->Qn,dropWhile_append_of_pos->RZ,drop_append->RJ,drop_drop->Pr,drop_eq_getElem_cons->On,drop_length->QE,eq_nil_of_length_eq_zero->Nb,filterMap_cons->Qu,find?_cons->OE,flatMap_append->Ot,flatMap_cons->Nw,forIn_cons->QW,getD_eq_getElem?_getD->NA,getElem?_append_left->Mw,getElem?_append_right->N9,getElem?_cons_succ->Mg,getElem?_cons_zero->Mv,getElem?_eq_getElem->Ml,getElem?_eq_none->Nl,getElem?_eq_some_iff->Mc,getElem?_map->MS,getElem?_range->Os,getElem?_replicate->N8,getElem?_set->Q3,getElem?_set_ne->Qm,getElem?_set_self->Se,getElem?_toArray->Sx,getElem?_zipWith->PL,getElem_mem->O6,getElem_of_mem->TM,getLast?_concat->Od,head?->R0,length->Np,length_append->MW,length_cons->MI,length_drop->NI,length_map->MC,length_nil->OD,length_replicate->Qa,length_singleton->QZ,length_take->Mn,length_zipWith->Qt,lookup_cons->NH,map->Ql,map_append->Mp,map_congr_left->Oq,map_cons->MN,map_drop->SO,map_map->Mt,map_nil->RA,map_take->Pa,map_zipWith->QD,mem_append->N4,mem_append_left->Oc,mem_append_right->N2,mem_cons->MH,mem_cons_of_mem->MY,mem_cons_self->Mb,mem_filterMap->Tc,mem_iff_getElem?->QY,mem_map->Mr,mem_map_of_mem->Oo,mem_of_getElem?->Nf,mem_of_mem_drop->Qk,mem_of_mem_take->Ob,mem_range->Pq,mem_singleton->NT,nil_append->RY,nodup_append->OF,nodup_cons->Mo,not_mem_nil->Mf,of_mem_zip->QV,range->Mz,range'->T6,range'_succ->PP,range_succ_eq_map->Sd,replicate->NS,size_toArray->Mj,sum_cons->SN,tail->RI,takeWhile_append_dropWhile->PJ,take_append_drop->Sw,take_of_length_le->Ni,take_sublist->Tt,take_succ_cons->TL,zipWith_cons_cons->QM
open List.cons renaming injEq->R6
open Min renaming min->TK
open Nat renaming add_assoc->OS,add_lt_add_left->Tb,add_sub_cancel_left->QI,le_add_right->NK,le_of_eq->QU,le_of_lt->QT,le_refl->MX,le_succ->Q7,le_trans->Mm,lt_add_of_pos_right->P9,lt_irrefl->Ms,lt_of_le_of_lt->P8,lt_of_lt_of_le->MF,lt_of_succ_lt_succ->Sv,lt_succ_of_lt->Q6,lt_trans->Su,ne_of_gt->NZ,ne_of_lt->MU,not_lt->Pz,not_lt_zero->OQ,succ_ne_self->RV,zero_add->QS,zero_le->O5
open Ne renaming symm->Nd
open Option renaming bind_eq_some_iff->MQ,bind_some->Oa,getD_none->Ta,isSome_iff_exists->Rp,map_eq_some_iff->MR,map_some->Ts
open Option.some renaming inj->N6,injEq->Oz
open Or renaming inl->T5,inr->SM
open PyProof.Rows renaming AllBare->Q1,IntsAre->Tq,callWith_type1->OL,envOfC->Og,slot_tuple_getitem->P0,subscriptTail->TJ,subscriptTail_builtinR->To
open PySem renaming Around->Mi,BindsTo->Rm,CmpOp->Sr,Draws->SJ,Env->QX,ExcBaseFacts->Tn,IsPair->Oy,IsPart->Rz,IsTupleKey->RO,IsZip->R4,Keyword->Ti,Model->SG,NameKind->PB,Paired->Sq,PassesOwn->R9,Pos->O4,Program->MP,Result->Th,Shared->MB,Tok->Sn,World->Me,assign->Ry,assignEach->OC,atKey->Sk,attributeBase->OZ,backTo->Nq,backToKw->Ox,behindInMarks->Pk,binaryOp->Ow,bindArgs->Rg,bindC->TZ,bindL->TY,bootBuiltins->Nv,builtinsNs->Qq,call->T9,callWith->Rf,call_meets->Pg,callerA->Re,cellsFrom->Rx,codeAny->Pj,codeAny_call_builtin->Ov,codeAny_mono->PR,compareOp->Mx,concat_meets->Tf,eqIsQuiet->Rv,eval->NC,excClassObj->QL,field->TV,foldedSetIterable->Oi,getItem->R8,getMethod->TU,holding->Qp,intText?->Rc,keywordEach->Ny,lastMarks->TR,letOwnedTupleGo->Qs,limitOf->Sa,mainGlobals->MM,mem_of_lookup->NG,model->MV,newFunctionEnv->Sj,noFill_tuple_add->Ru,noteFrame->Qf,ofString_length->SZ,rawInt->OK,relabel->Te,seq_tuple_add->T8,setFlight->Rt,sizeLine_eq->My,sliceBounds->Pn,standAt->QK,starEach->MO,strIterType->Ou,strLen_append->QQ,subscripted->S9,swapsWith->Nk,sysModules->NL,typeIs_str->PD,typeLookup->Si,valueAt->Nu,wpAny->MK,wpAny_Call_Name_kw->OB,wpAny_Call_method_late->Td,wpAny_attempt->RE,wpAny_bind->MA,wpAny_call->Pf,wpAny_callSpecial?_slot->ON,wpAny_call_entry->OM,wpAny_comprehension_free->QP,wpAny_dictEntries->QJ,wpAny_execs_cons->Pe,wpAny_execs_nil->OV,wpAny_field->NB,wpAny_forIn_list->Rr,wpAny_holding->Nt,wpAny_isInstance->Qe,wpAny_letGo->S8,wpAny_loadPart_at->PQ,wpAny_mono->N7,wpAny_newFunctionEnv_cells->Sh,wpAny_newObj_type->O3,wpAny_onRaise->QO,wpAny_passesOwn->OU,wpAny_pure->ME,wpAny_pyIter_enum->Oh,wpAny_pyIter_list->OI,wpAny_pyIter_zip->Rq,wpAny_rule->Qo,wpAny_seqItems->Nx,wpAny_setField->Q8,wpAny_setField_rec->PC,wpAny_specialOf->Pu,wpAny_standAt->Pi,wpAny_truthy_bool->ND,wpAny_typeOf->Rb,wpAny_updateSeq->SU,wpAny_updateSeq_pair->R1
open PySem.Around renaming under->SK
open PySem.AutoSeq1 renaming wpAny_loadPart'->Pp
open PySem.Builtin.Dict renaming dictSlotArgs->R5,samePairs->RG
open PySem.Builtin.List renaming listExtendWith->PH,listItems->RF
open PySem.Builtin.Slice renaming sliceAdjust->PZ,sliceApplied->Qx,slicePlaces->OO
open PySem.Builtin.SmallTypes renaming nextOf->N0,ownedTupleHandOut->Po,ownedTupleIsFree->Nm
open PySem.Builtin.Str renaming occurrences->Md,partsBetween->Nj,strKind->NU
open PySem.Builtin.Tuple renaming tupleExact->OT,tupleHashOf->Ng,tupleItemsOf->Qw
open PySem.Calls renaming Constant_str->TH,Name_function_global->Rl,callWith_builtin->SY,evalArgs_plain->Ss
open PySem.Data renaming cell->QC,fields->Qj
open PySem.Draws renaming list->TF
open PySem.EntryCells renaming newEntry->S6
open PySem.F renaming args_str_split_2->Py,args_str_split_3->Px,args_tuple_add_2->Pw,args_tuple_iterator_next_1->S5,entry_str_split->Nn,entry_tuple_add->Q0,entry_tuple_iterator_next->SI,excBase_ValueError->RU,plainAttrs_list->Ro,plainAttrs_str->S0,slot_dict_eq->SX,slot_dict_get->SH,slot_dict_getitem->RW,slot_list_append->QH,slot_str_partition->RT,slot_str_split->Nh,slot_tuple_add->QA,slot_tuple_hash->QB,slot_tuple_iterator_next->Om,slot_zip_next->Qi,type_list_append->Rj
open PySem.Heap renaming SameBut->Oj,get?_none_of_le->Pd,get?_push_at->Tj,get?_push_of_some->MD,get?_push_size->MZ,get?_update_ne->TC,get?_update_other->N5,get?_update_self->Nc,lt_size->MJ,size_push->O7,size_update->PN
open PySem.Heap.SameBut renaming update->Ri
open PySem.IsTupleKey renaming inj->T4
open PySem.NameKind renaming cell->Qh,free->NF
open PySem.Obj renaming data_mapFields->Pv,isFreed_of_fields->Qg,mapFields->Pc,mapSeq->Nz
open PySem.Paired renaming length->NP
open PySem.PassesOwn renaming never->R3
open PySem.SeqAt renaming EqAt->P6
open PySem.SeqAt.EqAt renaming int_str->SE,of_refs->SD,same->Qz,str_int->SA
open PySem.SeqAt.RcAt renaming tuples->SW
open PySem.Shared renaming heap->Sb
open PySem.Str renaming join->P5,length->Of,ofString->M8
open PySem.StrLaws renaming occBody->PY,partsBetween_eq->Rn,partsFrom->T3
open PySem.Value renaming bool->Rh,builtin->PM,int->RC,none->N3,ref->Mq,str->Pl,type->OW
open PySem.W renaming Frag->M9,InstAt->Tg,OpenLaw->RB,callWith_K->Qr,cellsFrom_some->Q9,codeIn->OH,codeRec_of->Sm,exmOne->RN,findIn->P7,fnOf->NJ,keepIn->NO,kia_one->Nr,kitOne->QR,kitx_dict->Sz,lookIn->RL,methodObj->Qv,mg_none_of->Mu,mg_of->O0,notCls->RK,nsIn->Ma,specialIn->Sy
open PySem.WalksT renaming enumerateD->Qy
open Sum renaming inl->QN,inr->NQ
open ToString renaming toString->Qd
open True renaming intro->OY
noncomputable section
section
namespace L2
open PySem PySem.Spec PyProof.Rows
abbrev Key:=Sum Int Str
noncomputable def rV:Key->Value->Bool
 | .inl k,v=>Value.isInt k v
 | .inr x,v=>Value.isStrOf x v
noncomputable def Ln(w:Me):Key->Int
 | .inl k=>hashInt k
 | .inr x=>hashStr w x
theorem bz:∀{k:Key}{v:Value},rV k v=true->(∃i t,k=QN i/\v=RC i t)\/(∃x t,k=NQ x/\v=Pl x t)
 | .inl i,v,h=>by
  obtain⟨t,e⟩:=Value.isInt_shape (k:=i) (v:=v) h;exact .inl ⟨i,t,rfl,e⟩
 | .inr x,v,h=>by
  obtain⟨t,e⟩:=Value.isStrOf_shape (x:=x) (v:=v) h;exact .inr ⟨x,t,rfl,e⟩
theorem xo(i:Int)(t:Sn):rV (.inl i) (.int i t)=true:=by simp[rV,Value.isInt]
theorem xn(x:Str)(t:Sn):rV (.inr x) (.str x t)=true:=by simp[rV,Value.isStrOf]
theorem GE(a b:Int):decide ((QN a:Key)=QN b)=(a == b):=by
 by_cases e:a=b
 ·subst e;simp
 ·have h:¬ (QN a:Key)=QN b:=fun q=>e (Sum.inl.inj q)
  rw[decide_eq_false h];exact(beq_eq_false_iff_ne.mpr e).symm
theorem GB(a b:Str):decide ((NQ a:Key)=NQ b)=decide (a=b):=by
 by_cases e:a=b
 ·subst e;simp
 ·have h:¬ (NQ a:Key)=NQ b:=fun q=>e (Sum.inr.inj q)
  rw[decide_eq_false h,decide_eq_false e]
theorem GD(a:Int)(b:Str):decide ((QN a:Key)=NQ b)=false:=decide_eq_false (fun q=>nomatch q)
theorem GC(a:Str)(b:Int):decide ((NQ a:Key)=QN b)=false:=decide_eq_false (fun q=>nomatch q)
def aE(prog:MP)(w:Me):PySem.KeyKind prog w Key where
 is:=rV
 hash:=Ln w
 inj:=fun v a b ha hb=>by
  rcases bz ha with⟨i,t,rfl,rfl⟩|⟨x,t,rfl,rfl⟩
  ·rcases bz hb with⟨j,u,rfl,e⟩|⟨y,u,rfl,e⟩
   ·injection e with e1 _;rw[e1]
   ·exact nomatch e
  ·rcases bz hb with⟨j,u,rfl,e⟩|⟨y,u,rfl,e⟩
   ·exact nomatch e
   ·injection e with e1 _;rw[e1]
 byValue:=fun k v h=>by
  rcases bz h with⟨i,t,rfl,rfl⟩|⟨x,t,rfl,rfl⟩ <;> rfl
 pyHash:=fun hv h=>by
  rcases bz hv with⟨i,t,rfl,rfl⟩|⟨x,t,rfl,rfl⟩
  ·exact wpAny_pyHash_int h
  ·exact wpAny_pyHash_str h
 eqBool:=fun hu hv h=>by
  rcases bz hu with⟨i,t,rfl,rfl⟩|⟨x,t,rfl,rfl⟩
  ·rcases bz hv with⟨j,u,rfl,rfl⟩|⟨y,u,rfl,rfl⟩
   ·rw[GE] at h;exact wpAny_eqBool_int h
   ·rw[GD] at h;exact SE i t y u _ _ _ _ h
  ·rcases bz hv with⟨j,u,rfl,rfl⟩|⟨y,u,rfl,rfl⟩
   ·rw[GC] at h;exact SA x t j u _ _ _ _ h
   ·rw[GB] at h;exact wpAny_eqBool_str h
 «strs»:=fun k x t v h=>by
  rcases bz h with⟨i,u,rfl,e⟩|⟨y,u,rfl,e⟩
  ·exact nomatch e
  ·injection e with e1 _
   subst e1;cases v <;> rfl
theorem rQ(prog:MP)(w:Me)(i:Int)(t:Sn):(aE prog w).is (.inl i) (.int i t)=true:=xo i t
theorem ja(prog:MP)(w:Me)(x:Str)(t:Sn):(aE prog w).is (.inr x) (.str x t)=true:=xn x t
abbrev jX:=List (Key ⊕ List Key)
section
variable{prog : MP}{w : Me}{K : Type}[DecidableEq K](knd : KeyKind prog w K)
inductive NItems (h:Heap):List (K ⊕ List K)->List Value->Prop
 | nil:NItems h [] []
 | sc {k:K} {v:Value} {ks:List (K ⊕ List K)} {vs:List Value}:knd.is k v=true->NItems h ks vs->NItems h (.inl k::ks) (v::vs)
 | tp {k:List K} {b:Addr} {ks:List (K ⊕ List K)} {vs:List Value}:RO knd h k b->NItems h ks vs->NItems h (.inr k::ks) (.ref b::vs)
def bM (h:Heap) (ks:List (K ⊕ List K)) (a:Addr):Prop:=∃o items n,h.get? a=some o/\o.cls=.type "tuple"/\o.data=.seq items n/\NItems knd h ks items.toList
variable{knd}
theorem sW{h:Heap}{k:K}{b:Addr}(h1:knd.is k (.ref b)=true):False:=by
 have:=knd.byValue _ _ h1;simp[carriedByValue] at this
theorem NItems.inj{h:Heap}{x y:List (K ⊕ List K)}{vs:List Value}(hx:NItems knd h x vs)(hy:NItems knd h y vs):x=y:=by
 induction hx generalizing y with
 | nil=>cases hy;rfl
 | sc h1 _ ih=>
  cases hy with
  | sc h2 t2=>rw[knd.inj _ _ _ h1 h2,ih t2]
  | tp h2 t2=>exact(sW (h:=h) h1).elim
 | tp h1 _ ih=>
  cases hy with
  | sc h2 t2=>exact(sW (h:=h) h2).elim
  | tp h2 t2=>rw[T4 h1 h2,ih t2]
theorem bM.typeIs {s:MB} {ks:List (K ⊕ List K)} {a:Addr} (x:bM knd s.heap ks a):s.TypeIs (.ref a) "tuple":=let ⟨o,_,_,ho,hc,_⟩:=x;⟨o,ho,hc⟩
theorem bM.inj{h:Heap}{a:Addr}{x y:List (K ⊕ List K)}(hx:bM knd h x a)(hy:bM knd h y a):x=y:=by
 obtain⟨o,items,n,ho,_,hd,hi⟩:=hx;obtain⟨o',items',n',ho',_,hd',hi'⟩:=hy;obtain rfl:o=o':=N6 (ho.symm.trans ho');rw[hd] at hd';injection hd' with h1 _;subst h1;exact hi.inj hi'
theorem NItems.keeps{h h':Heap}{ks:List (K ⊕ List K)}{vs:List Value}{d:Addr}{o:Obj}{es ep}(x:NItems knd h ks vs)(ho:h.get? d=some o)(hd:o.data=.dict es ep)(hs:Oj d h h'):NItems knd h' ks vs:=by
 induction x with
 | nil=>exact .nil
 | sc h1 _ ih=>exact .sc h1 ih
 | tp h1 _ ih=>exact .tp (h1.keeps ho hd hs) ih
theorem bM.keeps{h h':Heap}{ks:List (K ⊕ List K)}{a d:Addr}{o:Obj}{es ep}(x:bM knd h ks a)(ho:h.get? d=some o)(hd:o.data=.dict es ep)(hs:Oj d h h'):bM knd h' ks a:=by
 obtain⟨o',items,n,ho',hc,hd',hi⟩:=x
 have hne:a≠d:=by
  rintro rfl;obtain rfl:o'=o:=N6 (ho'.symm.trans ho);rw[hd] at hd';exact nomatch hd'
 exact⟨o',items,n,(hs.2 a hne).trans ho',hc,hd',hi.keeps ho hd hs⟩
noncomputable def mP(knd:KeyKind prog w K):K ⊕ List K->Int
 | .inl k=>knd.hash k
 | .inr ks=>tupleKeyHash knd ks
def rO:K ⊕ List K->Nat
 | .inl _=>1
 | .inr ks=>ks.length+1
def oC(knd:KeyKind prog w K)(ks:List (K ⊕ List K)):Int:=reduceHash (Ng (ks.map (mP knd)))
variable{A : Mi}{E : Value → MB → Prop}{s : MB}
theorem rE{ks:List (K ⊕ List K)}{a:Addr}{Q:Int->MB->Prop}(hu:A.units+8<cLine)(hk:bM knd s.heap ks a)(h:Q (oC knd ks) { s with toks:=s.toks+((ks.map rO).sum+1) }) :
  MK (MV prog w) A (pyHash (.ref a)) Q E s:=by
 have hT:=hk.typeIs;obtain⟨o,items,n,ho,_,hd,hi⟩:=hk;unfold pyHash
 first | unfold pyHashByItsType | skip
 first | refine MA (wpAny_cRoomFor_or (.inr (show A.units<cLine by omega)) ?_) | skip
 refine MA (Pu hT QB.lookup ?_);show MK _ _ (if (some (PM "tuple.__hash__") == some N3)=true then _ else _) Q E s;rw[if_neg (by rw[beq_builtin_none];exact ML)];refine MA (Pu hT QB.lookup ?_);show MK _ _ (callSpecialIfBoundUnlessNone? (.ref a) "__hash__" _ >>= _) Q E s;refine MA (wpAny_callSpecialIfBoundUnlessNone?_slot hT QB (OM QB hT F.entry_tuple_hash ?_ (F.args_tuple_hash_1 _)));show MK _ _ (Qw (.ref a) >>= _) _ _ s;refine MA (wpAny_tupleItemsOf ho hd ?_);refine MA ?_;rw[← TN]
 refine Rr _
  (fun rest (b:Array Int) s'=>∃done left,ks=done++left/\NItems knd s.heap left rest/\b.toList=done.map (mP knd)/\s'={ s with toks:=s.toks+(done.map rO).sum })
  _ ?_ ?_ _ _ ⟨[],ks,rfl,hi,rfl,rfl⟩
 ·rintro x rest b s' ⟨done,left,rfl,hl,hb,rfl⟩
  cases hl with
  | @sc k _ ks' _ h1 hl'=>
   refine MA (knd.pyHash h1 ?_)
   first
    | exact ME ⟨done++[.inl k],ks',by simp,hl',by simp[hb,mP],by simp[OS,rO]⟩
    | exact MA (ME (ME ⟨done++[.inl k],ks',by simp,hl',by simp[hb,mP],by simp[OS,rO]⟩))
  | @tp k b' ks' _ h1 hl'=>
   refine MA (wpAny_pyHash_tuple (knd:=knd) (ks:=k) (show A.units+1<cLine by omega) h1 ?_)
   first
    | exact ME ⟨done++[.inr k],ks',by simp,hl',by simp[hb,mP],by simp[OS,rO]⟩
    | exact MA (ME (ME ⟨done++[.inr k],ks',by simp,hl',by simp[hb,mP],by simp[OS,rO]⟩))
 ·rintro b s' ⟨done,left,rfl,hl,hb,rfl⟩
  cases hl;rw[N1] at h;show MK _ _ (retInt (Ng b.toList)) _ _ _;rw[hb];refine wpAny_ret_mkInt ?_;show MK _ _ (if (decide (-(2:Int) ^ 63<=Ng (done.map (mP knd))) && decide (Ng (done.map (mP knd))<2 ^ 63))=true then _ else _) Q E _;unfold oC reduceHash at h
  by_cases hr:(decide (-(2:Int) ^ 63<=Ng (done.map (mP knd))) && decide (Ng (done.map (mP knd))<2 ^ 63))=true
  ·rw[if_pos hr]
   rw[if_pos hr] at h;exact ME (by simpa [OS] using h)
  ·rw[if_neg hr]
   rw[if_neg hr] at h;exact MA (Qo (ME (by simpa [OS] using h)))
end
theorem se{α:Type}[DecidableEq α]:∀k j:List α,((Mz (TK k.length j.length)).all (fun i=>decide (k[i]?=j[i]?)) && k.length == j.length)=decide (k=j)
 | [],[]=>by simp
 | [],_::_=>by simp
 | _::_,[]=>by simp
 | x::k,y::j=>by
  have ih:=se k j;have hm:TK (x::k).length (y::j).length=TK k.length j.length+1:=by simp only[MI];omega
  rw[hm,Sd,P3,Sf];have hs:((fun i=>decide ((x::k)[i]?=(y::j)[i]?)) ∘ Nat.succ)=fun i=>decide (k[i]?=j[i]?):=by funext i;simp
  rw[hs,MI,MI];have h0:decide ((x::k)[0]?=(y::j)[0]?)=decide (x=y):=by simp
  rw[h0];have e2:(k.length+1 == j.length+1)=(k.length == j.length):=by simp
  rw[e2,Bool.and_assoc,ih,OP];simp
theorem BI{P P':MP}{w w':Me}{A:Mi}{s:MB}{k j:Key}{v u:Value}(h1:(aE P w).is k v=true)(h2:(aE P' w').is j u=true):P6 A s v u (decide (k=j)):=fun prog ww E Q q=>(aE prog ww).eqBool (a:=k) (b:=j) h1 h2 q
theorem nS{P:MP}{w:Me}{A:Mi}{s:MB}:∀{k j:List Key}{vs us:List Value},ItemsAre (aE P w) k vs->ItemsAre (aE P w) j us->∀(i:Nat)(h1:i<vs.length)(h2:i<us.length),P6 A s vs[i] us[i] (decide (k[i]?=j[i]?))
 | _,_,_,_,.nil,_,i,h1,_=>absurd h1 (OQ _)
 | _,_,_,_,.cons _ _,.nil,i,_,h2=>absurd h2 (OQ _)
 | _,_,_,_,.cons (k:=k) a1 t1,.cons (k:=j) a2 t2,0,_,_=>by
  rw[Mv,Mv,show decide (some k=some j)=decide (k=j) by simp];exact BI a1 a2
 | _,_,_,_,.cons a1 t1,.cons a2 t2,i+1,h1,h2=>by
  rw[Mg,Mg];exact nS t1 t2 i (by simpa using h1) (by simpa using h2)
theorem DQ{P:MP}{w:Me}{A:Mi}{s:MB}{k j:List Key}{a b:Addr}(hu:A.units+1<cLine)(h1:RO (aE P w) s.heap k a)(h2:RO (aE P w) s.heap j b):P6 A s (.ref a) (.ref b) (decide (k=j)):=by
 by_cases e:a=b
 ·subst e
  rw[T4 h1 h2,decide_eq_true rfl];exact Qz _
 ·obtain⟨o1,i1,n1,g1,c1,d1,m1⟩:=h1
  obtain⟨o2,i2,n2,g2,c2,d2,m2⟩:=h2;have l1:=m1.length;have l2:=m2.length;have z:=se k j;rw[l1,l2,Na,Na] at z;rw[← z];refine SD (fun q=>e q) (SW ⟨o1,g1,c1,n1,d1⟩ ⟨o2,g2,c2,n2,d2⟩ (by omega) fun i h1 h2=>?_);have:=nS (A:=A.in1) (s:=s) m1 m2 i (by simpa using h1) (by simpa using h2);simpa using this
theorem BB{P:MP}{w:Me}{A:Mi}{s:MB}{k:Key}{j:List Key}{v:Value}{b:Addr}(hu:A.units<cLine)(h1:(aE P w).is k v=true)(h2:RO (aE P w) s.heap j b):P6 A s v (.ref b) false/\P6 A s (.ref b) v false:=by
 obtain⟨o2,i2,n2,g2,c2,d2,m2⟩:=h2;have pl:s.heap.IsTuple b i2:=⟨o2,g2,c2,n2,d2⟩;rcases bz h1 with⟨i,t,rfl,rfl⟩|⟨x,t,rfl,rfl⟩
 ·exact⟨SeqAt.EqAt.int_tuple i t pl hu,SeqAt.EqAt.tuple_int i t pl hu⟩
 ·exact⟨SeqAt.EqAt.str_tuple x t pl hu,SeqAt.EqAt.tuple_str x t pl hu⟩
theorem uF{P:MP}{w:Me}{A:Mi}{s:MB}(hu:A.units+1<cLine):∀{k j:List (Key ⊕ List Key)}{vs us:List Value},NItems (aE P w) s.heap k vs->NItems (aE P w) s.heap j us->∀(i:Nat)(h1:i<vs.length)(h2:i<us.length),P6 A s vs[i] us[i] (decide (k[i]?=j[i]?)):=by
 intro k j vs us h1
 induction h1 generalizing j us with
 | nil=>intro _ i h;exact absurd h (OQ _)
 | @sc k v ks vs a1 t1 ih=>
  intro h2 i l1 l2;cases h2 with
  | nil=>exact absurd l2 (OQ _)
  | @sc j u js us a2 t2=>
   cases i with
   | zero=>
    rw[Mv,Mv,show decide (some (QN k:Key ⊕ List Key)=some (.inl j))=decide (k=j) by simp];exact BI a1 a2
   | succ i=>rw[Mg,Mg];exact ih t2 i (by simpa using l1) (by simpa using l2)
  | @tp j b js us a2 t2=>
   cases i with
   | zero=>
    rw[Mv,Mv,show decide (some (QN k:Key ⊕ List Key)=some (.inr j))=false by simp];exact(BB (by omega) a1 a2).1
   | succ i=>rw[Mg,Mg];exact ih t2 i (by simpa using l1) (by simpa using l2)
 | @tp k b ks vs a1 t1 ih=>
  intro h2 i l1 l2;cases h2 with
  | nil=>exact absurd l2 (OQ _)
  | @sc j u js us a2 t2=>
   cases i with
   | zero=>
    rw[Mv,Mv,show decide (some (NQ k:Key ⊕ List Key)=some (.inl j))=false by simp];exact(BB (by omega) a2 a1).2
   | succ i=>rw[Mg,Mg];exact ih t2 i (by simpa using l1) (by simpa using l2)
  | @tp j c js us a2 t2=>
   cases i with
   | zero=>
    rw[Mv,Mv,show decide (some (NQ k:Key ⊕ List Key)=some (.inr j))=decide (k=j) by simp];exact DQ hu a1 a2
   | succ i=>rw[Mg,Mg];exact ih t2 i (by simpa using l1) (by simpa using l2)
theorem NItems.length{P:MP}{w:Me}{h:Heap}{k:List (Key ⊕ List Key)}{vs:List Value}(x:NItems (aE P w) h k vs):k.length=vs.length:=by
 induction x with
 | nil=>rfl
 | sc _ _ ih=>simp[ih]
 | tp _ _ ih=>simp[ih]
theorem Dh{P:MP}{w:Me}{A:Mi}{s:MB}{k j:List (Key ⊕ List Key)}{a b:Addr}(hu:A.units+8<cLine)(h1:bM (aE P w) s.heap k a)(h2:bM (aE P w) s.heap j b):P6 A s (.ref a) (.ref b) (decide (k=j)):=by
 by_cases e:a=b
 ·subst e
  rw[bM.inj h1 h2,decide_eq_true rfl];exact Qz _
 ·obtain⟨o1,i1,n1,g1,c1,d1,m1⟩:=h1
  obtain⟨o2,i2,n2,g2,c2,d2,m2⟩:=h2;have l1:=m1.length;have l2:=m2.length;have z:=se k j;rw[l1,l2,Na,Na] at z;rw[← z];refine SD (fun q=>e q) (SW ⟨o1,g1,c1,n1,d1⟩ ⟨o2,g2,c2,n2,d2⟩ (by omega) fun i h1 h2=>?_);have:=uF (A:=A.in1) (s:=s) (show A.units+1+1<cLine by omega) m1 m2 i (by simpa using h1) (by simpa using h2);simpa using this
section
variable{prog : MP}{w : Me}{A : Mi}{E : Value → MB → Prop}{s : MB}
theorem qd{n:Nat}{a:Addr}{items:Array Value}{Q:Bool->MB->Prop}(ht:s.heap.IsTuple a items)(hq:∀v∈items.toList,∀(Q':Bool->MB->Prop),Q' true s->MK (MV prog w) A (Rv n v) Q' E s)(h:Q true s):MK (MV prog w) A (Rv (n+1) (.ref a)) Q E s:=by
 have hT:=ht.typeIs;obtain⟨o,ho,hc,m,hd⟩:=ht;unfold Rv;refine MA (Pu hT F.slot_tuple_eq.lookup ?_);show MK _ _ (isInstance (.ref a) (.type "tuple") >>= _) _ _ s;refine MA (Qe hT isSubtype_tuple_tuple ?_);simp only[SQ,O9,if_false];refine MA (Nx ho hd ?_);refine MA ?_;show MK _ _ (forIn items _ _) _ _ s;rw[← TN];refine Rr _ (fun rest r s'=>r.1=none/\s'=s/\∀v∈rest,v∈items.toList) _ ?_ ?_ _ _ ⟨rfl,rfl,fun v h=>h⟩
 ·rintro v rest r s' ⟨hr,rfl,hall⟩
  refine MA (hq v (hall v Mb) _ ?_);simp only[SQ,O9,if_false];exact ME ⟨rfl,rfl,fun u hu'=>hall u (MY _ hu')⟩
 ·rintro⟨r1,r2⟩ s' ⟨hr,rfl,_⟩
  simp only at hr;subst hr;exact ME h
theorem NItems.quiet{n:Nat}{k:List (Key ⊕ List Key)}{vs:List Value}(x:NItems (aE prog w) s.heap k vs):∀v∈vs,∀(Q':Bool->MB->Prop),Q' true s->MK (MV prog w) A (Rv (n+1) v) Q' E s:=by
 induction x with
 | nil=>intro v h;cases h
 | sc h1 _ ih=>
  intro v hv Q' hQ;rcases MH.mp hv with rfl | hv
  ·rw[eqIsQuiet_byValue _ ((aE prog w).byValue _ _ h1)]
   exact ME hQ
  ·exact ih v hv Q' hQ
 | tp h1 _ ih=>
  intro v hv Q' hQ;rcases MH.mp hv with rfl | hv
  ·obtain⟨o,items,m,ho,hc,hd,hi⟩:=h1
   refine qd ⟨o,ho,hc,m,hd⟩ (fun u hu Q2 h2=>?_) hQ;rw[eqIsQuiet_byValue _ (hi.byValue u hu)];exact ME h2
  ·exact ih v hv Q' hQ
theorem ux{k:List (Key ⊕ List Key)}{a:Addr}{Q:Bool->MB->Prop}(hk:bM (aE prog w) s.heap k a)(h:Q true s):MK (MV prog w) A (Rv 8 (.ref a)) Q E s:=by
 obtain⟨o,items,m,ho,hc,hd,hi⟩:=hk;exact qd ⟨o,ho,hc,m,hd⟩ hi.quiet h
end
def jD(prog:MP)(w:Me):HeapKind prog w (List (Key ⊕ List Key)) where
 is:=bM (aE prog w)
 hash:=oC (aE prog w)
 draws:=fun ks=>(ks.map rO).sum+1
 room:=fun A=>A.units+8<cLine
 inj:=fun hx hy=>hx.inj hy
 keeps:=fun x ho hd hs=>x.keeps ho hd hs
 pyHash:=fun hu hk h=>rE hu hk h
 eqBool:=fun hu hx hy h=>Dh hu hx hy _ _ _ _ h
 quiet:=fun hk h=>ux hk h
end L2
namespace L2
open PySem PySem.Spec PyProof.Rows
inductive V where
 | non | bl (b:Bool) | int (i:Int) | str (x:Str) | byt (b:Array UInt8) | flt (b:UInt64) | ref (a:Addr) | ty (n:String)
 deriving DecidableEq
def RelV:V->Value->Prop
 | .non,u=>u=N3
 | .bl b,u=>u=Rh b
 | .int i,u=>∃t,u=RC i t
 | .str x,u=>∃t,u=Pl x t
 | .byt b,u=>∃t,u=Value.bytes b t
 | .flt b,u=>∃t,u=Value.float b t
 | .ref a,u=>u=Mq a
 | .ty n,u=>u=OW n
abbrev Vals:List V->List Value->Prop:=Sq RelV
theorem Vals.length{xs:List V}{us:List Value}(r:Vals xs us):xs.length=us.length:=NP r
theorem Vals.get:∀{xs:List V}{us:List Value}{i:Nat}{x:V},Vals xs us->xs[i]?=some x->∃u,us[i]?=some u/\RelV x u
 | _,_,_,_,.nil,e=>by simp at e
 | _,_,0,_,.cons r _,e=>by simp at e;subst e;exact⟨_,rfl,r⟩
 | _,_,i+1,x,.cons _ t,e=>by
  obtain⟨u,h1,h2⟩:=Vals.get (i:=i) (x:=x) t (by simpa using e);exact⟨u,by simpa using h1,h2⟩
theorem Vals.append:∀{xs ys:List V}{us ws:List Value},Vals xs us->Vals ys ws->Vals (xs++ys) (us++ws)
 | _,_,_,_,.nil,s=>s
 | _,_,_,_,.cons r t,s=>.cons r (Vals.append t s)
theorem Vals.take:∀{xs:List V}{us:List Value}(n:Nat),Vals xs us->Vals (xs.take n) (us.take n)
 | _,_,0,_=>.nil
 | _,_,_+1,.nil=>.nil
 | _,_,n+1,.cons r t=>.cons r (Vals.take n t)
theorem Vals.drop:∀{xs:List V}{us:List Value}(n:Nat),Vals xs us->Vals (xs.drop n) (us.drop n)
 | _,_,0,r=>r
 | _,_,_+1,.nil=>.nil
 | _,_,n+1,.cons _ t=>Vals.drop n t
def sv:Option V->Option Value->Prop
 | some v,some u=>RelV v u
 | none,none=>True
 | _,_=>False
def KV{κ:Type}:List (κ×V)->List (κ×Value)->Prop:=Sq fun (p:κ×V) (q:κ×Value)=>p.1=q.1/\RelV p.2 q.2
def kV:Key->V
 | .inl i=>.int i
 | .inr x=>.str x
inductive HO where
  | lst (xs:List V)
  | tup (xs:List V)
  | dK (kvs:List (Key×V)) | dT (kvs:List (jX×V))
  | set (S:Int->Bool) (n:Nat)
  | ins (C dx:Addr) (fs:List (Str×V))
  | own (x:Addr)
  | xd (fs:List (Str×V))
  | met (f x:Addr)
  | rng (lo hi:Int)
  | frz (o:Obj) (u:HO)
  | tbl (ps:Array Value)
  | ext (φ:Heap->Prop)
abbrev Hp:=Addr->Option HO
noncomputable def upd(H:Hp)(a:Addr)(o:HO):Hp:=fun b=>if b=a then some o else H b
theorem aA{H:Hp}{a:Addr}{o:HO}:upd H a o a=some o:=by unfold upd;rw[if_pos rfl]
theorem az{H:Hp}{a b:Addr}{o:HO}(h:b≠a):upd H a o b=H b:=by unfold upd;rw[if_neg h]
theorem Jl{H:Hp}{a b:Addr}{o u:HO}(h:H a=some o)(h':H b=some u)(d:o≠u):a≠b:=by
 intro e;subst e;rw[h] at h';exact d (N6 h')
theorem bT{H:Hp}{a b:Addr}{o:HO}(h:H a=some o)(h':H b=none):a≠b:=by
 intro e;subst e;rw[h] at h';cases h'
def B5 (h:Heap) (a:Addr) (items:Array Value):Prop:=∃o,h.get? a=some o/\o.cls=.type "tuple"/\(∃n,o.data=.seq items n)/\((∀v∈items.toList,∃b,v=Mq b)->o.dict=none)
theorem B5.up{h:Heap}{a:Addr}{items:Array Value}(x:B5 h a items):IsTup h a items:=by
 obtain⟨o,e,c,d,_⟩:=x;exact⟨o,e,c,d⟩
theorem B5.new (h:Heap) (items:Array Value):B5 (h.push { cls:=.type "tuple",data:=.seq items }) h.objs.size items:=⟨_,MZ _ rfl,rfl,⟨_,rfl⟩,fun _=>rfl⟩
def NV(H:Hp):jX->List V->Prop
 | [],vs=>vs=[]
 | .inl k::ks,vs=>∃r,vs=kV k::r/\NV H ks r
 | .inr l::ks,vs=>∃c r,vs=.ref c::r/\H c=some (.tup (l.map kV))/\NV H ks r
def jW(H:Hp)(b:Addr)(k:jX):Prop:=∃vs,H b=some (.tup vs)/\NV H k vs
theorem NV.keeps{H H':Hp}(ht:∀b ys,H b=some (.tup ys)->H' b=some (.tup ys)):∀{k:jX}{vs:List V},NV H k vs->NV H' k vs
 | [],_,h=>h
 | .inl _::_,_,⟨r,e,t⟩=>⟨r,e,NV.keeps ht t⟩
 | .inr _::_,_,⟨c,r,e,hc,t⟩=>⟨c,r,e,ht _ _ hc,NV.keeps ht t⟩
theorem jW.keeps{H H':Hp}{b:Addr}{k:jX}(x:jW H b k)(ht:∀b ys,H b=some (.tup ys)->H' b=some (.tup ys)):jW H' b k:=let ⟨vs,e,t⟩:=x;⟨vs,ht _ _ e,t.keeps ht⟩
section
variable(P : MP)(w : Me)
def eK(H:Hp)(h:Heap)(a:Addr):HO->Prop
 | .lst xs=>xs.length<=sizeLine/\∃(its:List Value) (n:Nat),Vals xs its/\h.get? a=some { cls:=.type "list",data:=.seq its.toArray n }
 | .tup xs=>xs.length<=sizeLine/\∃its:List Value,Vals xs its/\B5 h a its.toArray
 | .dK kvs=>kvs.length<=sizeLine/\(a == NL)=false/\∃vs,KV kvs vs/\h.DictOf (aE P w) a vs
 | .dT kvs=>kvs.length<=sizeLine/\(a == NL)=false/\∃xs:List (jX×Addr×Value),
   Sq (fun (p:jX×V) (q:jX×Addr×Value)=>p.1=q.1/\jW H q.2.1 p.1/\RelV p.2 q.2.2) kvs xs/\
   ∃o es ep,h.get? a=some o/\o.ExactDict/\o.data=.dict es ep/\es.toList=xs.map (entryOfKey (jD P w))/\(xs.map (·.1)).Nodup
 | .set S n=>h.SetOf (intKind P w) a S n
 | .ins C dx fs=>H dx=some (.own a)/\fs.length<=1000/\dx≠a/\h.get? a=some (PySem.W.instObj C dx)/\
   ∃mA,h.Ns1 dx mA/\(∀f,sv (fs.lookup f) (mA f))/\PySem.Within mA (fs.map (·.1))
 | .own _=>∃o,h.get? a=some o
 | .xd fs=>∃mA,h.Ns1 a mA/\∀f,sv (fs.lookup f) (mA f)
 | .rng lo hi=>∃t u v,h.get? a=some { cls:=.type "range",data:=.fields #[.int lo t,.int hi u,.int 1 v] }
 | .frz o u=>h.get? a=some o/\eK H h a u
 | .tbl ps=>h.get? a=some { cls:=.none,data:=.fields ps }
 | .met f x=>h.get? a=some (Qv (.ref f) (.ref x))
 | .ext φ=>φ h/\(∃o,h.get? a=some o)/\∀h1 h2:Heap,φ h1->(∀o,h1.get? a=some o->h2.get? a=some o)->φ h2
def HOk(H:Hp)(h:Heap):Prop:=∀a o,H a=some o->eK P w H h a o
end
section
variable{P : MP}{w : Me}{H H' : Hp}{h h' : Heap}{a : Addr}{o : HO}
theorem eK.lt(x:eK P w H h a o):a<h.objs.size:=by
 cases o with
 | lst xs=>obtain⟨_,_,_,_,e⟩:=x;exact MJ e
 | tup xs=>obtain⟨_,_,_,p⟩:=x;exact p.up.lt
 | dK kvs=>obtain⟨_,_,_,_,o,_,_,e,_⟩:=x;exact MJ e
 | dT kvs=>obtain⟨_,_,_,_,o,_,_,e,_⟩:=x;exact MJ e
 | set S n=>obtain⟨o,_,_,_,e,_⟩:=x;exact MJ e
 | ins C dx fs=>obtain⟨_,_,_,e,_⟩:=x;exact MJ e
 | own y=>obtain⟨_,e⟩:=x;exact MJ e
 | xd fs=>obtain⟨_,⟨_,_,_,e,_⟩,_⟩:=x;exact MJ e
 | rng lo hi=>obtain⟨_,_,_,e⟩:=x;exact MJ e
 | frz ob u=>obtain⟨e,_⟩:=x;exact MJ e
 | tbl ps=>exact MJ (show h.get? a=some _ from x)
 | met f y=>exact MJ (show h.get? a=some _ from x)
 | ext φ=>obtain⟨_,⟨_,e⟩,_⟩:=x;exact MJ e
theorem Paired.mapP{α β:Type}{F G:α->β->Prop}:∀{l₁:List α}{l₂:List β},Sq F l₁ l₂->(∀a b,F a b->G a b)->Sq G l₁ l₂
 | _,_,.nil,_=>.nil
 | _,_,.cons r t,f=>.cons (f _ _ r) (Paired.mapP t f)
theorem eK.stay(x:eK P w H h a o)(k:∀b u,(b=a\/H b=some (.own a))->h.get? b=some u->h'.get? b=some u)
  (ho:∀b,H b=some (.own a)->H' b=some (.own a)) (ht:∀b xs,H b=some (.tup xs)->H' b=some (.tup xs)):eK P w H' h' a o:=by
 induction o with
 | lst xs=>obtain⟨z,its,n,r,e⟩:=x;exact⟨z,its,n,r,k _ _ (.inl rfl) e⟩
 | tup xs=>obtain⟨z,its,r,ob,e,c⟩:=x;exact⟨z,its,r,ob,k _ _ (.inl rfl) e,c⟩
 | dK kvs=>obtain⟨z,y,vs,r,ob,es,ep,e,c⟩:=x;exact⟨z,y,vs,r,ob,es,ep,k _ _ (.inl rfl) e,c⟩
 | dT kvs=>
  obtain⟨z,y,xs,r,ob,es,ep,e,c⟩:=x;exact⟨z,y,xs,Paired.mapP r fun p q z=>⟨z.1,z.2.1.keeps ht,z.2.2⟩,ob,es,ep,k _ _ (.inl rfl) e,c⟩
 | set S n=>obtain⟨ob,es,ep,t,e,c⟩:=x;exact⟨ob,es,ep,t,k _ _ (.inl rfl) e,c⟩
 | ins C dx fs=>
  obtain⟨d,z,ne,e,mA,⟨od,es,ep,e2,c⟩,r⟩:=x;exact⟨ho _ d,z,ne,k _ _ (.inl rfl) e,mA,⟨od,es,ep,k _ _ (.inr d) e2,c⟩,r⟩
 | own y=>obtain⟨ob,e⟩:=x;exact⟨ob,k _ _ (.inl rfl) e⟩
 | xd fs=>obtain⟨mA,⟨od,es,ep,e,c⟩,r⟩:=x;exact⟨mA,⟨od,es,ep,k _ _ (.inl rfl) e,c⟩,r⟩
 | rng lo hi=>obtain⟨t,u,v,e⟩:=x;exact⟨t,u,v,k _ _ (.inl rfl) e⟩
 | frz ob u ih=>obtain⟨e,q⟩:=x;exact⟨k _ _ (.inl rfl) e,ih q⟩
 | tbl ps=>
  have e:h.get? a=some { cls:=.none,data:=.fields ps }:=x;show h'.get? a=some { cls:=.none,data:=.fields ps };exact k a _ (.inl rfl) e
 | met f y=>
  have e:h.get? a=some (Qv (.ref f) (.ref y)):=x;show h'.get? a=some (Qv (.ref f) (.ref y));exact k a _ (.inl rfl) e
 | ext φ=>obtain⟨p,⟨o,e⟩,st⟩:=x;exact⟨st _ _ p fun o q=>k _ _ (.inl rfl) q,⟨o,k _ _ (.inl rfl) e⟩,st⟩
theorem HOk.lt(x:HOk P w H h)(e:H a=some o):a<h.objs.size:=(x a o e).lt
theorem HOk.fresh(x:HOk P w H h)(e:h.objs.size<=a):H a=none:=by
 cases q:H a with
 | none=>rfl
 | some u=>exact absurd (MF (x.lt q) e) (Ms _)
theorem HOk.kept(x:HOk P w H h)(k:∀b u,h.get? b=some u->h'.get? b=some u):HOk P w H h':=fun a o e=>
 (x a o e).stay (fun b u _ q=>k b u q) (fun _ q=>q) fun _ _ q=>q
theorem HOk.laid(x:HOk P w H h)(k:∀b u,h.get? b=some u->h'.get? b=some u)(hp:h.objs.size<=a)(new:eK P w (upd H a o) h' a o):HOk P w (upd H a o) h':=fun b u e=>by
 have hn:=x.fresh hp
 by_cases hb:b=a
 ·subst hb;rw[aA] at e;cases e;exact new
 ·rw[az hb] at e
  exact(x b u e).stay (fun c v _ q=>k c v q) (fun c q=>by rw[az (bT q hn)];exact q) fun c xs q=>by rw[az (bT q hn)];exact q
end
def Rd(H:Hp)(a:Addr)(u:HO):Prop:=H a=some u\/∃o,H a=some (.frz o u)
theorem Rd.ok{P:MP}{w:Me}{H:Hp}{h:Heap}{a:Addr}{u:HO}(r:Rd H a u)(x:HOk P w H h):eK P w H h a u:=by
 rcases r with r | ⟨o,r⟩
 ·exact x a u r
 ·obtain⟨_,q⟩:=x a _ r
  exact q
def Mut:Option HO->Prop
 | some (.lst _)=>True
 | some (.dK _)=>True
 | some (.dT _)=>True
 | some (.set _ _)=>True
 | some (.ins _ _ _)=>True
 | some (.ext _)=>True
 | _=>False
section
variable{P : MP}{w : Me}{H : Hp}{h h' : Heap}{x e : Addr}{o' : HO}
theorem HOk.write(ok:HOk P w H h)(mu:Mut (H x))(he:e=x\/H e=some (.own x))(k:∀b u,b≠e->h.get? b=some u->h'.get? b=some u)(heo:∃u,h'.get? e=some u)
  (new:eK P w (upd H x o') h' x o'):HOk P w (upd H x o') h':=fun b u q=>by
 have nown:∀c y,H c=some (.own y)->c≠x:=fun c y r z=>by subst z;rw[r] at mu;exact mu
 have ntup:∀c xs,H c=some (.tup xs)->c≠x:=fun c xs r z=>by subst z;rw[r] at mu;exact mu
 by_cases hb:b=x
 ·subst hb;rw[aA] at q;cases q;exact new
 ·rw[az hb] at q
  by_cases hbe:b=e
  ·have q':H b=some (.own x):=by
    rcases he with z | z
    ·exact absurd (hbe.trans z) hb
    ·rw[hbe];exact z
   rw[q] at q';cases q';obtain⟨v,hv⟩:=heo;exact⟨v,by rw[hbe];exact hv⟩
  ·refine(ok b u q).stay (fun c v hc r=>k c v ?_ r) (fun c r=>by rw[az (nown c b r)];exact r) fun c xs r=>by rw[az (ntup c xs r)];exact r
   rcases hc with rfl | hc
   ·exact hbe
   ·rintro rfl
    rcases he with z | z
    ·exact nown c b hc z
    ·rw[hc] at z;cases z;exact hb rfl
end
structure Un(fs ex:List Addr)(H H':Hp)(h h':Heap):Prop where
 keep:∀b o,h.get? b=some o->H b=none->b ∉ fs->b ∉ ex->h'.get? b=some o
 slot:∀b o,h.get? b=some o->H b=none->b∈fs->b ∉ ex->∃sl,h'.get? b=some { o with slots:=sl }
 free:∀b o,h.get? b=some o->H b=none->b ∉ ex->H' b=none
 there:∀b o,h.get? b=some o->b ∉ ex->∃o',h'.get? b=some o'
 tups:∀b xs,H b=some (.tup xs)->H' b=some (.tup xs)
 frzs:∀b o u,H b=some (.frz o u)->H' b=some (.frz o u)
 tbls:∀b ps,H b=some (.tbl ps)->∃more,H' b=some (.tbl (ps++more))
section
variable{fs fs' ex ex' : List Addr}{H H1 H2 : Hp}{h h1 h2 h' : Heap}{a x e : Addr}{o : HO}
theorem Un.any(u:Un fs ex H H1 h h1){b:Addr}{ob:Obj}(q:h.get? b=some ob)(n:H b=none)(hx:b ∉ ex):∃sl,h1.get? b=some { ob with slots:=sl }:=by
 by_cases hb:b∈fs
 ·exact u.slot b ob q n hb hx
 ·exact⟨ob.slots,u.keep b ob q n hb hx⟩
theorem Un.kept(k:∀b u,h.get? b=some u->h'.get? b=some u):Un fs ex H H h h':=
 ⟨fun b ob q _ _ _=>k b ob q,fun b ob q _ _ _=>⟨ob.slots,k b ob q⟩,fun _ _ _ n _=>n,fun b ob q _=>⟨ob,k b ob q⟩,fun _ _ q=>q,fun _ _ _ q=>q,fun _ ps q=>⟨#[],by rw[q];simp⟩⟩
theorem Un.refl:Un fs ex H H h h:=Un.kept fun _ _ q=>q
theorem Un.laid(k:∀b u,h.get? b=some u->h'.get? b=some u)(hp:h.objs.size<=a)(hn:H a=none):Un fs ex H (upd H a o) h h' where
 keep:=fun b u q _ _ _=>k b u q
 slot:=fun b u q _ _ _=>⟨u.slots,k b u q⟩
 free:=fun b u q n _=>by rw[az (MU (MF (MJ q) hp))];exact n
 there:=fun b u q _=>⟨u,k b u q⟩
 tups:=fun b xs q=>by rw[az (bT q hn)];exact q
 frzs:=fun b u xs q=>by rw[az (bT q hn)];exact q
 tbls:=fun b ps q=>⟨#[],by rw[az (bT q hn),q];simp⟩
theorem Un.write(mu:Mut (H x))(he:e=x\/H e=some (.own x))(k:∀b u,b≠e->h.get? b=some u->h'.get? b=some u)(heo:∃u,h'.get? e=some u):Un fs ex H (upd H x o) h h':=by
 have hx:∀b,H b=none->b≠x:=fun b n z=>by subst z;rw[n] at mu;exact mu
 have hb:∀b,H b=none->b≠e:=fun b n z=>by
  subst z;rcases he with r | r
  ·exact hx b n r
  ·rw[n] at r;cases r
 have hm:∀b u,H b=some u->¬ Mut (some u)->b≠x:=fun b u q nm z=>by subst z;rw[q] at mu;exact nm mu
 refine⟨fun b u q n _ _=>k b u (hb b n) q,fun b u q n _ _=>⟨u.slots,k b u (hb b n) q⟩,fun b u q n _=>by rw[az (hx b n)];exact n,fun b u q _=>?_,
  fun b xs q=>by rw[az (hm b _ q fun z=>z)];exact q,fun b u xs q=>by rw[az (hm b _ q fun z=>z)];exact q,fun b ps q=>⟨#[],by rw[az (hm b _ q fun z=>z),q];simp⟩⟩
 by_cases hbe:b=e
 ·subst hbe;exact heo
 ·exact⟨u,k b u hbe q⟩
theorem Un.mono(u:Un fs ex H H1 h h1)(hs:∀b∈fs,b∈fs')(hx:∀b∈ex,b∈ex'):Un fs' ex' H H1 h h1:=
 ⟨fun b ob q n hb he=>u.keep b ob q n (fun z=>hb (hs b z)) fun z=>he (hx b z),fun _ _ q n _ he=>u.any q n fun z=>he (hx _ z),fun b ob q n he=>u.free b ob q n fun z=>he (hx b z),fun b ob q he=>u.there b ob q fun z=>he (hx b z),u.tups,u.frzs,u.tbls⟩
end
noncomputable def trk(h:Heap)(H:Hp):List Addr:=(Mz h.objs.size).filter fun a=>(H a).isSome
def Ap(h:Heap)(H:Hp):Heap:=PySem.W.hideAll h (trk h H)
theorem xD(h:Heap)(H:Hp):(Ap h H).objs.size=h.objs.size:=PySem.W.hideAll_size _ _
theorem Ao{h:Heap}{H:Hp}{b:Addr}{o:Obj}(e:h.get? b=some o)(n:H b=none):(Ap h H).get? b=some o:=
 PySem.W.hideAll_get _ e fun hm=>by
  have q:(H b).isSome=true:=(List.mem_filter.mp hm).2;rw[n] at q;simp at q
theorem Dc{h:Heap}{H:Hp}{b:Addr}{o:Obj}(e:(Ap h H).get? b=some o):h.get? b=some o/\H b=none:=by
 have e':h.get? b=some o:=PySem.W.of_hideAll (trk h H) e;refine⟨e',?_⟩;cases q:H b with
 | none=>rfl
 | some x=>
  have hm:b∈trk h H:=List.mem_filter.mpr ⟨Pq.mpr (MJ e'),by simp[q]⟩;have z:(Ap h H).get? b=none:=PySem.W.hideAll_none (trk h H) hm;rw[z] at e;cases e
noncomputable def Em(g h:Heap)(L:Addr):List (Addr×Obj):=(Mz h.objs.size).filterMap fun a=>if a=L\/(g.get? a).isSome=true then none else (h.get? a).map fun o=>(a,o)
def rest(g h:Heap)(L d:Addr):List (Addr×Obj):=(Em g h L).filter fun p=>decide (p.1≠d)
end L2
namespace L2
open PySem PySem.Spec PyProof.Rows
structure Mod(K:M9)(mg:Str->Option Value)(base:Heap):Prop where
 kin:K.In base
 glob:base.Ns MM mg
 blt:∃mb,base.Ns Qq mb/\∀x:Str,x≠"__name__"->mb x=Nv x
 nolimit:base.NoLimit
structure Cx where
 prog:MP
 w:Me
 K:M9
 mg:Str->Option Value
 base:Heap
 A:Mi
 N:List Str
 s₀:MB
 H₀:Hp
 env:QX
 outer:List QX
 stack:List QX
 ex:List Addr
 fn:Str->Bool
 calm:Bool
 pn:List (Addr×Obj)
 xe:Value->MB->Prop
def frs(l:List QX):List Addr:=l.filterMap (·.frame)
abbrev Cx.fs(X:Cx):List Addr:=frs X.outer
def Vis(sc:Scope)(x:Str):Prop:=sc.names.lookup x=some .local\/sc.names.lookup x=some .cell\/sc.names.lookup x=some .free
def Loc(sc:Scope)(x:Str):Prop:=sc.names.lookup x=some .local\/sc.names.lookup x=some .cell
def Look(env:QX)(h:Heap)(m:Str->Option Value)(x:Str)(u:Value):Prop:=
 (env.kindOf x=some .local/\m x=some u)\/((env.kindOf x=some .cell\/env.kindOf x=some .free)/\∃c,env.cells.lookup x=some c/\h.IsCell c (some u))
structure Cx.Ok(X:Cx):Prop where
 mod:Mod X.K X.mg X.base
 kind:X.env.scope.kind=.function
 glob:X.env.globals=MM
 blt:X.env.builtins=Qq
 above:X.s₀.heap.objs.size<=X.env.locals
 inj:∀x y c,X.env.cells.lookup x=some c->X.env.cells.lookup y=some c->x=y
 has:∀x,(X.env.kindOf x=some .cell\/X.env.kindOf x=some .free)->∃c,X.env.cells.lookup x=some c
 cab:∀x c,X.fn x=true->X.env.cells.lookup x=some c->X.s₀.heap.objs.size<=c
 hd:X.calm=true->X.A.handled=none
 frames:X.A.frames=some X.stack
 stk:X.stack=X.outer\/(X.stack=X.env::X.outer/\X.env.frame=some X.env.locals)
 exf:∀b∈X.ex,b≠X.env.locals/\∀x c,X.env.cells.lookup x=some c->c≠b
 bs:∀b o,X.base.get? b=some o->X.s₀.heap.get? b=some o/\X.H₀ b=none
 bsz:X.base.objs.size<=X.s₀.heap.objs.size
 noex:∀b o,X.base.get? b=some o->b ∉ X.ex
 exfs:∀b∈X.ex,b ∉ X.fs
 funs:X.s₀.heap.FunFrames X.base X.outer
 frf:∀b∈X.fs,X.H₀ b=none
structure Inv(X:Cx)(pins:List (Addr×Obj))(σ:List (Option V))(H:Hp)(s:MB):Prop where
 ok:X.Ok
 os:s.os=X.s₀.os
 bare:Q1 s.gens
 base:Un X.fs X.ex X.H₀ H X.s₀.heap s.heap
 loc:∃m,s.heap.Ns X.env.locals m/\∀(i:Nat)(x:Str)(v:V),X.N[i]?=some x->σ[i]?=some (some v)->Vis X.env.scope x->∃u,RelV v u/\Look X.env s.heap m x u
 cell:∀x c,X.env.cells.lookup x=some c->∃v,s.heap.IsCell c v
 free:H X.env.locals=none
 freeC:∀x c,X.env.cells.lookup x=some c->H c=none
 pin:∀p∈X.pn++pins,s.heap.get? p.1=some p.2/\H p.1=none/\p.1≠X.env.locals/\p.1 ∉ X.fs/\∀v,p.2.data≠.cell v
 hok:HOk X.prog X.w H s.heap
 len:σ.length=X.N.length
section
variable{X : Cx}{pins : List (Addr×Obj)}{σ : List (Option V)}{H H' : Hp}{s : MB}{h' : Heap}
theorem Cx.Ok.nofr(ok:X.Ok){b:Addr}{o:Obj}(e:X.base.get? b=some o):b ∉ X.fs:=fun hb=>by
 have:=(ok.funs.mem hb).1;rw[e] at this;cases this
theorem Inv.bs(I:Inv X pins σ H s):∀b o,X.base.get? b=some o->s.heap.get? b=some o/\H b=none:=fun b o e=>
 ⟨I.base.keep b o (I.ok.bs b o e).1 (I.ok.bs b o e).2 (I.ok.nofr e) (I.ok.noex b o e),I.base.free b o (I.ok.bs b o e).1 (I.ok.bs b o e).2 (I.ok.noex b o e)⟩
theorem Inv.bk(I:Inv X pins σ H s):∀b o,X.base.get? b=some o->s.heap.get? b=some o:=fun b o e=>(I.bs b o e).1
theorem Inv.mod(I:Inv X pins σ H s):Mod X.K X.mg X.base:=I.ok.mod
theorem Inv.kIn(I:Inv X pins σ H s):X.K.In s.heap:=I.ok.mod.kin.keeps I.bk
theorem Inv.lt(I:Inv X pins σ H s):X.env.locals<s.heap.objs.size:=let ⟨_,hn,_⟩:=I.loc;hn.lt
theorem Inv.sz(I:Inv X pins σ H s):X.s₀.heap.objs.size<=s.heap.objs.size:=Mm I.ok.above (QT I.lt)
theorem Inv.nofs(I:Inv X pins σ H s){a:Addr}(h:s.heap.objs.size<=a):a ∉ X.fs:=fun hb=>by
 obtain⟨_,o,ho,_⟩:=I.ok.funs.mem hb;exact absurd (MF (MJ ho) (Mm I.sz h)) (Ms _)
theorem Inv.cne(I:Inv X pins σ H s):∀x c,X.env.cells.lookup x=some c->c≠X.env.locals:=fun x c e z=>by
 obtain⟨v,o,ho,hd⟩:=I.cell x c e;obtain⟨m,⟨o',es,ep,ho',hd',_⟩,_⟩:=I.loc;rw[z,ho'] at ho;cases ho;rw[hd'] at hd;cases hd
theorem Inv.funs(I:Inv X pins σ H s):s.heap.FunFrames X.base X.outer:=by
 have all:∀(l:List QX),(∀b∈frs l,b∈X.fs)->X.s₀.heap.FunFrames X.base l->s.heap.FunFrames X.base l:=by
  intro l
  induction l with
  | nil=>intro _ _;trivial
  | cons env r ih=>
   intro hs hl;obtain⟨hk,⟨L,o,hf,hn,ho,hd⟩,hr⟩:=hl;have hL:L∈X.fs:=hs L (by unfold frs;rw[Qu,hf];exact Mb);obtain⟨sl,e⟩:=I.base.slot L o ho (I.ok.frf L hL) hL fun z=>I.ok.exfs L z hL;exact⟨hk,⟨L,_,hf,hn,e,hd⟩,ih (fun b hb=>hs b (by unfold frs;rw[Qu,hf];exact MY _ hb)) hr⟩
 exact all X.outer (fun _ hb=>hb) I.ok.funs
theorem Inv.stack(I:Inv X pins σ H s):s.heap.FunFrames X.base X.stack:=by
 rcases I.ok.stk with e | ⟨e,hf⟩
 ·rw[e];exact I.funs
 ·rw[e]
  obtain⟨m,hn,_⟩:=I.loc;refine .cons (by rw[I.ok.kind];decide) hf hn ?_ I.funs;exact Pd (Mm I.ok.bsz I.ok.above)
theorem Inv.stkSub(I:Inv X pins σ H s):∀b∈frs X.stack,b∈X.env.locals::X.fs:=fun b hb=>by
 rcases I.ok.stk with e | ⟨e,hf⟩
 ·rw[e] at hb;exact MY _ hb
 ·rw[e] at hb
  unfold frs at hb;rw[Qu,hf] at hb;exact hb
theorem Inv.stkFree(I:Inv X pins σ H s):∀b∈frs X.stack,H b=none:=fun b hb=>by
 rcases MH.mp (I.stkSub b hb) with e | hb
 ·rw[e];exact I.free
 ·obtain⟨_,o,ho,_⟩:=I.ok.funs.mem hb
  exact I.base.free b o ho (I.ok.frf b hb) fun z=>I.ok.exfs b z hb
theorem Inv.step{g':Array GenState}{t':Nat}{d':Drawn}{ch:List Addr}(I:Inv X pins σ H s)
  (hch:∀b∈ch,(b∈X.ex\/X.s₀.heap.objs.size<=b)/\b≠X.env.locals/\(∀x c,X.env.cells.lookup x=some c->c≠b)/\∀p∈X.pn++pins,p.1≠b)
  (keep:∀b o,b≠X.env.locals->b ∉ X.fs->b ∉ ch->s.heap.get? b=some o->H b=none->h'.get? b=some o)
  (slot:∀b o,b≠X.env.locals->b∈X.fs->b ∉ ch->s.heap.get? b=some o->H b=none->∃sl,h'.get? b=some { o with slots:=sl }) (free:∀b o,b ∉ ch->s.heap.get? b=some o->H b=none->H' b=none)
  (there:∀b o,b ∉ ch->s.heap.get? b=some o->∃o',h'.get? b=some o')
  (tups:∀b xs,H b=some (.tup xs)->H' b=some (.tup xs)) (frzs:∀b o u,H b=some (.frz o u)->H' b=some (.frz o u)) (tbls:∀b ps,H b=some (.tbl ps)->∃more,H' b=some (.tbl (ps++more)))
  (ns:∀m,s.heap.Ns X.env.locals m->h'.Ns X.env.locals m) (hok:HOk X.prog X.w H' h') (hg:Q1 g') :
  Inv X pins σ H' { s with heap:=h',gens:=g',drawn:=d',toks:=t' }:=by
 have neL:∀b o,X.s₀.heap.get? b=some o->b≠X.env.locals:=fun b o e=>MU (MF (MJ e) I.ok.above)
 have neC:∀b o,X.s₀.heap.get? b=some o->b ∉ X.ex->b ∉ ch:=fun b o e hx hb=>by
  rcases (hch b hb).1 with z | z
  ·exact hx z
  ·exact absurd (MF (MJ e) z) (Ms _)
 have cellK:∀x c,X.env.cells.lookup x=some c->∀v,s.heap.IsCell c v->h'.IsCell c v:=fun x c e v ⟨o,ho,hd⟩=>by
  have nch:c ∉ ch:=fun z=>(hch c z).2.2.1 x c e rfl
  by_cases hc:c∈X.fs
  ·obtain⟨sl,q⟩:=slot c o (I.cne x c e) hc nch ho (I.freeC x c e)
   exact⟨_,q,hd⟩
  ·exact⟨o,keep c o (I.cne x c e) hc nch ho (I.freeC x c e),hd⟩
 refine⟨I.ok,I.os,hg,⟨fun b o e n hb hx=>?_,fun b o e n hb hx=>?_,fun b o e n hx=>?_,fun b o e hx=>?_,fun b xs e=>tups b xs (I.base.tups b xs e),fun b o xs e=>frzs b o xs (I.base.frzs b o xs e),fun b ps e=>?_⟩,?_,fun x c e=>?_,?_,fun x c e=>?_,fun p hp=>?_,hok,I.len⟩
 ·exact keep b o (neL b o e) hb (neC b o e hx) (I.base.keep b o e n hb hx) (I.base.free b o e n hx)
 ·obtain⟨sl,e1⟩:=I.base.slot b o e n hb hx
  obtain⟨sl',e2⟩:=slot b _ (neL b o e) hb (neC b o e hx) e1 (I.base.free b o e n hx);exact⟨sl',e2⟩
 ·obtain⟨o',e1⟩:=I.base.there b o e hx
  exact free b o' (neC b o e hx) e1 (I.base.free b o e n hx)
 ·obtain⟨o',e1⟩:=I.base.there b o e hx
  exact there b o' (neC b o e hx) e1
 ·obtain⟨m1,e1⟩:=I.base.tbls b ps e
  obtain⟨m2,e2⟩:=tbls b _ e1;exact⟨m1++m2,by rw[e2,Array.append_assoc]⟩
 ·obtain⟨m,hn,hl⟩:=I.loc
  refine⟨m,ns m hn,fun i x v e1 e2 e3=>?_⟩;obtain⟨u,r,l⟩:=hl i x v e1 e2 e3;refine⟨u,r,?_⟩;rcases l with l | ⟨k,c,e,z⟩
  ·exact .inl l
  ·exact .inr ⟨k,c,e,cellK x c e _ z⟩
 ·obtain⟨v,z⟩:=I.cell x c e
  exact⟨v,cellK x c e v z⟩
 ·obtain⟨m,⟨o,_,_,ho,_⟩,_⟩:=I.loc
  exact free _ o (fun z=>(hch _ z).2.1 rfl) ho I.free
 ·obtain⟨v,o,ho,hd⟩:=I.cell x c e
  exact free c o (fun z=>(hch c z).2.2.1 x c e rfl) ho (I.freeC x c e)
 ·obtain⟨e,n,ne,nf,d⟩:=I.pin p hp
  have nch:p.1 ∉ ch:=fun z=>(hch p.1 z).2.2.2 p hp rfl;exact⟨keep p.1 p.2 ne nf nch e n,free p.1 p.2 nch e n,ne,nf,d⟩
theorem Inv.un{t':Nat}(I:Inv X pins σ H s)(u:Un X.fs [] H H' s.heap h')(hok:HOk X.prog X.w H' h'):Inv X pins σ H' { s with heap:=h',toks:=t' }:=by
 obtain⟨m,⟨o,es,ep,ho,r⟩,_⟩:=id I.loc;obtain⟨sl,hL⟩:=u.any ho I.free (by simp)
 exact I.step (g':=s.gens) (d':=s.drawn) (ch:=[]) (fun _ z=>nomatch z) (fun b o _ hb _ e n=>u.keep b o e n hb (by simp)) (fun b o _ hb _ e n=>u.slot b o e n hb (by simp)) (fun b o _ e n=>u.free b o e n (by simp)) (fun b o _ e=>u.there b o e (by simp)) u.tups u.frzs u.tbls (fun m' hm=>by
  obtain⟨o',es',ep',ho',r'⟩:=hm;rw[ho] at ho';cases ho';exact⟨_,es',ep',hL,r'⟩) hok I.bare
theorem Inv.call{g':Array GenState}{t':Nat}{d':Drawn}{ch:List Addr}(I:Inv X pins σ H s)(u:Un (frs X.stack) ch H H' s.heap h')(hok:HOk X.prog X.w H' h')(hg:Q1 g')
  (hch:∀b∈ch,(b∈X.ex\/X.s₀.heap.objs.size<=b)/\b≠X.env.locals/\(∀x c,X.env.cells.lookup x=some c->c≠b)/\∀p∈X.pn++pins,p.1≠b) :
  Inv X pins σ H' { s with heap:=h',gens:=g',drawn:=d',toks:=t' }:=by
 obtain⟨m,⟨o,es,ep,ho,r⟩,_⟩:=id I.loc;obtain⟨sl,hL⟩:=u.any ho I.free fun z=>(hch _ z).2.1 rfl
 exact I.step (ch:=ch) hch (fun b o hL hb hc e n=>u.keep b o e n (fun z=>(MH.mp (I.stkSub b z)).elim hL hb) hc) (fun b o _ _ hc e n=>u.any e n hc) (fun b o hc e n=>u.free b o e n hc) (fun b o hc e=>u.there b o e hc) u.tups u.frzs u.tbls (fun m' hm=>by
  obtain⟨o',es',ep',ho',r'⟩:=hm;rw[ho] at ho';cases ho';exact⟨_,es',ep',hL,r'⟩) hok hg
theorem Inv.turned{t':Nat}{it:Addr}(I:Inv X pins σ H s)(k:∀b o,b≠it->s.heap.get? b=some o->h'.get? b=some o)(hn:H it=none)(hL:it≠X.env.locals)
  (h1:it∈X.ex\/X.s₀.heap.objs.size<=it) (h2:∀x c,X.env.cells.lookup x=some c->c≠it) (h3:∀p∈X.pn++pins,p.1≠it):Inv X pins σ H { s with heap:=h',toks:=t' }:=by
 have nit:∀b u,H b=some u->b≠it:=fun b u e z=>by rw[z,hn] at e;cases e
 refine I.step (g':=s.gens) (d':=s.drawn) (ch:=[it]) (fun b hb=>?_) (fun b o _ _ hc e _=>k b o (fun z=>hc (by simp[z])) e) (fun b o _ _ hc e _=>⟨o.slots,k b o (fun z=>hc (by simp[z])) e⟩) (fun _ _ _ _ n=>n)
  (fun b o hc e=>⟨o,k b o (fun z=>hc (by simp[z])) e⟩) (fun _ _ e=>e) (fun _ _ _ e=>e) (fun b ps e=>⟨#[],by rw[e];simp⟩) (fun m hm=>?_) (fun b u e=>?_) I.bare
 ·have e:b=it:=by simpa using hb
  subst e;exact⟨h1,hL,h2,h3⟩
 ·obtain⟨o,es,ep,ho,r⟩:=hm
  exact⟨o,es,ep,k _ o (Nd hL) ho,r⟩
 ·refine(I.hok b u e).stay (fun c v hc q=>k c v ?_ q) (fun _ q=>q) fun _ _ q=>q
  rcases hc with z | z
  ·rw[z];exact nit b u e
  ·exact nit c _ z
theorem Inv.tok(I:Inv X pins σ H s)(t:Nat):Inv X pins σ H { s with toks:=t }:=I.un (h':=s.heap) (t':=t) Un.refl I.hok
theorem Inv.kept{t':Nat}(I:Inv X pins σ H s)(k:∀b u,s.heap.get? b=some u->h'.get? b=some u):Inv X pins σ H { s with heap:=h',toks:=t' }:=I.un (Un.kept k) (I.hok.kept k)
theorem Inv.laid{a:Addr}{o:HO}{t':Nat}(I:Inv X pins σ H s)(k:∀b u,s.heap.get? b=some u->h'.get? b=some u)(hp:s.heap.objs.size<=a)(new:eK X.prog X.w (upd H a o) h' a o) :
  Inv X pins σ (upd H a o) { s with heap:=h',toks:=t' }:=I.un (Un.laid k hp (I.hok.fresh hp)) (I.hok.laid k hp new)
theorem Inv.write{x e:Addr}{o:HO}{t':Nat}(I:Inv X pins σ H s)(mu:Mut (H x))(he:e=x\/H e=some (.own x))(k:∀b u,b≠e->s.heap.get? b=some u->h'.get? b=some u)(heo:∃u,h'.get? e=some u)
  (new:eK X.prog X.w (upd H x o) h' x o):Inv X pins σ (upd H x o) { s with heap:=h',toks:=t' }:=I.un (Un.write mu he k heo) (I.hok.write mu he k heo new)
theorem Inv.pins_of{pins':List (Addr×Obj)}(I:Inv X pins σ H s)(h:∀p∈pins',s.heap.get? p.1=some p.2/\H p.1=none/\p.1≠X.env.locals/\p.1 ∉ X.fs/\∀v,p.2.data≠.cell v):Inv X pins' σ H s:=
 ⟨I.ok,I.os,I.bare,I.base,I.loc,I.cell,I.free,I.freeC,fun p hp=>(N4.mp hp).elim (fun z=>I.pin p (Oc _ z)) (h p),I.hok,I.len⟩
theorem oA{N:List Str}(hN:N.Nodup){i j:Nat}{x:Str}(a:N[i]?=some x)(b:N[j]?=some x):i=j:=by
 obtain⟨h1,e1⟩:=Mc.mp a;obtain⟨h2,e2⟩:=Mc.mp b;exact(List.getElem_inj hN).mp (e1.trans e2.symm)
theorem vK{M:SG}{A:Mi}{E:Value->MB->Prop}{i:Nat}{x:Str}{v:V}{u:Value}{Q:Unit->MB->Prop}(I:Inv X pins σ H s)(hN:X.N.Nodup)(hi:X.N[i]?=some x)(hx:Loc X.env.scope x)(r:RelV v u)
  (h:∀s',Inv X pins (σ.set i (some v)) H s'->(∃a,Oj a s.heap s'.heap/\(a=X.env.locals\/X.env.cells.lookup x=some a))->Q () s') (hf:X.fn x=true\/X.env.scope.names.lookup x=some .local:=by first | exact .inl rfl | exact .inr rfl | assumption):MK M A (storeName X.env x u) Q E s:=by
 obtain⟨m,hn,hl⟩:=id I.loc;have hcls:(X.env.scope.kind == .class || (X.env.scope.kind == .module && X.env.locals != X.env.globals))=false:=by rw[I.ok.kind];rfl
 have hiσ:i<σ.length:=by rw[I.len];exact(Mc.mp hi).1
 have cne:=I.cne
 have tracked:∀{a:Addr}{h':Heap},(∃o,s.heap.get? a=some o/\H a=none)->Oj a s.heap h'->HOk X.prog X.w H h':=fun {a h'} ha hs b ob e=>by
  obtain⟨_,_,hfree⟩:=ha;refine(I.hok b ob e).stay (fun c w' hc q=>(hs.2 c ?_).trans q) (fun _ q=>q) fun _ _ q=>q;rintro rfl;rcases hc with rfl | hc
  ·rw[hfree] at e;cases e
  ·rw[hfree] at hc;cases hc
 rcases hx with hk | hk
 ·refine wpAny_storeName_local hk hn (fun h' hn' hs=>?_) hcls
  obtain⟨oL,_,_,hoL,_⟩:=id hn;refine h _ ⟨I.ok,I.os,I.bare,⟨fun b o e n hb hx=>?_,fun b o e n hb hx=>?_,I.base.free,fun b o e hx=>?_,I.base.tups,I.base.frzs,I.base.tbls⟩,⟨_,hn',fun j y v' e1 e2 e3=>?_⟩,fun y c e=>?_,I.free,I.freeC,fun p hp=>?_,tracked ⟨oL,hoL,I.free⟩ hs,by simpa using I.len⟩ ⟨_,hs,.inl rfl⟩
  ·exact(hs.2 b (MU (MF (MJ e) I.ok.above))).trans (I.base.keep b o e n hb hx)
  ·obtain⟨sl,e1⟩:=I.base.slot b o e n hb hx
   exact⟨sl,(hs.2 b (MU (MF (MJ e) I.ok.above))).trans e1⟩
  ·obtain⟨o',e1⟩:=I.base.there b o e hx
   exact⟨o',(hs.2 b (MU (MF (MJ e) I.ok.above))).trans e1⟩
  ·by_cases hj:j=i
   ·subst hj
    rw[hi] at e1;cases e1;rw[Se hiσ] at e2;cases e2;exact⟨u,r,.inl ⟨hk,by simp⟩⟩
   ·rw[Qm (Nd hj)] at e2
    obtain⟨u',r',q⟩:=hl j y v' e1 e2 e3;refine⟨u',r',?_⟩;rcases q with⟨k,e⟩|⟨k,c,e,z⟩
    ·refine .inl ⟨k,?_⟩
     have:y≠x:=fun e=>hj (oA hN e1 (e▸hi));simp[this,e]
    ·exact .inr ⟨k,c,e,z.sameBut hs (cne y c e)⟩
  ·obtain⟨w',z⟩:=I.cell y c e
   exact⟨w',z.sameBut hs (cne y c e)⟩
  ·obtain⟨e,n,ne,nf,d⟩:=I.pin p hp
   exact⟨(hs.2 p.1 ne).trans e,n,ne,nf,d⟩
 ·have hfn:X.fn x=true:=by
   rcases hf with z | z
   ·exact z
   ·rw[z] at hk;cases hk
  obtain⟨c,hc⟩:=I.ok.has x (.inl hk);obtain⟨w',z⟩:=I.cell x c hc;refine wpAny_storeName_cell I.ok.kind hk hc z (fun h' hc' hs=>?_);obtain⟨oc,hoc,hocd⟩:=id z;refine h { s with heap:=h' } ⟨I.ok,I.os,I.bare,⟨fun b o e n hb hx=>?_,fun b o e n hb hx=>?_,I.base.free,fun b o e hx=>?_,I.base.tups,I.base.frzs,I.base.tbls⟩,⟨m,hn.sameBut hs (Nd (cne x c hc)),fun j y v' e1 e2 e3=>?_⟩,fun y c' e=>?_,I.free,I.freeC,fun p hp=>?_,tracked ⟨oc,hoc,I.freeC x c hc⟩ hs,by simpa using I.len⟩ ⟨c,hs,.inr hc⟩
  ·exact(hs.2 b (MU (MF (MJ e) (I.ok.cab x c hfn hc)))).trans (I.base.keep b o e n hb hx)
  ·obtain⟨sl,e1⟩:=I.base.slot b o e n hb hx
   exact⟨sl,(hs.2 b (MU (MF (MJ e) (I.ok.cab x c hfn hc)))).trans e1⟩
  ·obtain⟨o',e1⟩:=I.base.there b o e hx
   exact⟨o',(hs.2 b (MU (MF (MJ e) (I.ok.cab x c hfn hc)))).trans e1⟩
  ·by_cases hj:j=i
   ·subst hj
    rw[hi] at e1;cases e1;rw[Se hiσ] at e2;cases e2;exact⟨u,r,.inr ⟨.inl hk,c,hc,hc'⟩⟩
   ·rw[Qm (Nd hj)] at e2
    obtain⟨u',r',q⟩:=hl j y v' e1 e2 e3;refine⟨u',r',?_⟩;rcases q with q | ⟨k,c',e,z'⟩
    ·exact .inl q
    ·refine .inr ⟨k,c',e,z'.sameBut hs ?_⟩
     rintro rfl;exact hj (oA hN e1 (I.ok.inj _ _ _ e hc▸hi))
  ·by_cases hcc:c'=c
   ·subst hcc;exact⟨_,hc'⟩
   ·obtain⟨w2,z2⟩:=I.cell y c' e
    exact⟨w2,z2.sameBut hs hcc⟩
  ·obtain⟨e,n,ne,nf,d⟩:=I.pin p hp
   refine⟨(hs.2 p.1 ?_).trans e,n,ne,nf,d⟩;intro q;rw[q,hoc] at e;have q':oc=p.2:=N6 e;exact d w' (by rw[← q'];exact hocd)
theorem kZ{M:SG}{A:Mi}{E:Value->MB->Prop}{i:Nat}{x:Str}{v:V}{u:Value}{Q:Unit->MB->Prop}(I:Inv X pins σ H s)(hN:X.N.Nodup)(hi:X.N[i]?=some x)(hx:Loc X.env.scope x)(r:RelV v u)
  (h:∀s',Inv X pins (σ.set i (some v)) H s'->Q () s') (hf:X.fn x=true\/X.env.scope.names.lookup x=some .local:=by first | exact .inl rfl | exact .inr rfl | assumption):MK M A (storeName X.env x u) Q E s:=
 vK I hN hi hx r (fun s' I' _=>h s' I') hf
theorem Inv.call'{s':MB}{ch:List Addr}(I:Inv X pins σ H s)(ho:s'.os=s.os)(u:Un (frs X.stack) ch H H' s.heap s'.heap)(hok:HOk X.prog X.w H' s'.heap)(hg:Q1 s'.gens)
  (hch:∀b∈ch,(b∈X.ex\/X.s₀.heap.objs.size<=b)/\b≠X.env.locals/\(∀x c,X.env.cells.lookup x=some c->c≠b)/\∀p∈X.pn++pins,p.1≠b):Inv X pins σ H' s':=by
 obtain⟨h',g',d',t',o'⟩:=s';have e:o'=s.os:=ho;subst e;exact I.call (g':=g') (t':=t') (d':=d') u hok hg hch
end
abbrev XK:=Value->Option Addr->Hp->Prop
abbrev St:=List (Option V)
abbrev VK:=V->Hp->Prop
abbrev TE:=St->Hp->VK->Prop
abbrev TT:=St->Hp->(Bool->Hp->Prop)->Prop
abbrev TA:=St->Hp->(List V->Hp->Prop)->Prop
structure Ends where
 nx:St->Hp->Prop
 rt:VK
 bk:St->Hp->Prop:=fun _ _=>False
 ct:St->Hp->Prop:=fun _ _=>False
abbrev TS:=Ends->St->Hp->Prop
def EP(X:Cx)(pins:List (Addr×Obj))(σ:St)(Q:VK)(u:Value)(s':MB):Prop:=∃v H',Inv X pins σ H' s'/\RelV v u/\Q v H'
def TP(X:Cx)(pins:List (Addr×Obj))(σ:St)(Q:Bool->Hp->Prop)(b:Bool)(s':MB):Prop:=∃H',Inv X pins σ H' s'/\Q b H'
def AP(X:Cx)(pins:List (Addr×Obj))(σ:St)(Q:List V->Hp->Prop)(us:List Value)(s':MB):Prop:=∃vs H',Inv X pins σ H' s'/\Vals vs us/\Q vs H'
def SP(X:Cx)(pins:List (Addr×Obj))(D:Ends)(f:Flow)(s':MB):Prop:=
 match f with
 | .next=>∃σ' H',Inv X pins σ' H' s'/\D.nx σ' H'
 | .brk=>∃σ' H',Inv X pins σ' H' s'/\D.bk σ' H'
 | .cont=>∃σ' H',Inv X pins σ' H' s'/\D.ct σ' H'
 | .ret u=>∃v σ' H',Inv X pins σ' H' s'/\RelV v u/\D.rt v H'
def PE(X:Cx)(e:Expr)(t:TE):Prop:=
 ∀(pins:List (Addr×Obj))(s:MB)(σ:St)(H:Hp)(Q:VK),Inv X pins σ H s->t σ H Q->MK (MV X.prog X.w) X.A (NC e X.env) (EP X pins σ Q) X.xe s
def PT(X:Cx)(e:Expr)(t:TT):Prop:=
 ∀(pins:List (Addr×Obj))(s:MB)(σ:St)(H:Hp)(Q:Bool->Hp->Prop),Inv X pins σ H s->t σ H Q->MK (MV X.prog X.w) X.A (isTrue e X.env (NC e X.env)) (TP X pins σ Q) X.xe s
def PW(X:Cx)(e:Expr)(t:TT):Prop:=
 ∀(whole:Sem Value)(pins:List (Addr×Obj))(s:MB)(σ:St)(H:Hp)(Q:Bool->Hp->Prop),Inv X pins σ H s->t σ H Q->MK (MV X.prog X.w) X.A (isTrue e X.env whole) (TP X pins σ Q) X.xe s
theorem PW.pt{X:Cx}{e:Expr}{t:TT}(h:PW X e t):PT X e t:=h _
def PA(X:Cx)(es:List Expr)(t:TA):Prop:=
 ∀(pos:O4)(pins:List (Addr×Obj))(s:MB)(σ:St)(H:Hp)(Q:List V->Hp->Prop),Inv X pins σ H s->t σ H Q->MK (MV X.prog X.w) X.A (spliced (Nq pos (MO es X.env))) (AP X pins σ Q) X.xe s
def PS(X:Cx)(st:Stmt)(t:TS):Prop:=
 ∀(pins:List (Addr×Obj))(s:MB)(σ:St)(H:Hp)(D:Ends),Inv X pins σ H s->t D σ H->MK (MV X.prog X.w) X.A (exec st X.env) (SP X pins D) X.xe s
def PSs(X:Cx)(st:List Stmt)(t:TS):Prop:=
 ∀(pins:List (Addr×Obj))(s:MB)(σ:St)(H:Hp)(D:Ends),Inv X pins σ H s->t D σ H->MK (MV X.prog X.w) X.A (execs st X.env) (SP X pins D) X.xe s
theorem thn{α:Type}{t:Sem α}{Q Q':α->MB->Prop}{M:SG}{A:Mi}{E:Value->MB->Prop}{s:MB}(h:MK M A t Q E s)(hQ:∀a s,Q a s->Q' a s):MK M A t Q' E s:=N7 h hQ fun _ _ x=>x
end L2
namespace L2
open PySem PySem.Spec PyProof.Rows
section
variable{X : Cx}
def Kn(i:Nat):TE:=fun σ H Q=>∃v,σ[i]?=some (some v)/\Q v H
def tC(v:V):TE:=fun _ H Q=>Q v H
theorem eC {i:Nat} {x:Str} {pos:O4} (hN:X.N[i]?=some x) (hv:Vis X.env.scope x) (hd:(x == ("__debug__":Str))=false:=by decide) (hcd:(x == ("__classdict__":Str))=false:=by decide):PE X (.Name x pos) (Kn i):=by
 intro pins s σ H Q I h;obtain⟨v,e,h⟩:=h;obtain⟨m,hn,hl⟩:=I.loc;obtain⟨u,r,l⟩:=hl i x v hN e hv;have fin:EP X pins σ Q u s:=⟨v,H,I,r,h⟩;rcases l with⟨hk,hm⟩|⟨hk,c,hc,hcell⟩
 ·exact wpAny_Name (wpAny_loadName_local I.ok.kind hk hn hm fin) hd
 ·rcases hk with hk | hk
  ·exact wpAny_Name (wpAny_loadName_cell I.ok.kind hk hc hcell fin) hd
  ·exact wpAny_Name (wpAny_loadName_free I.ok.kind hk hc hcell fin hcd) hd
theorem Bq{i j pos}:PE X (.Constant (.int i) j pos) (tC (.int i)):=fun _ _ _ H _ I h=>wpAny_Constant_int ⟨.int i,H,I.tok _,⟨_,rfl⟩,h⟩
theorem J6{b j pos}:PE X (.Constant (.bool b) j pos) (tC (.bl b)):=fun _ _ _ H _ I h=>Constant_bool ⟨.bl b,H,I,rfl,h⟩
theorem G7{j pos}:PE X (.Constant .none j pos) (tC .non):=fun _ _ _ H _ I h=>Constant_none ⟨.non,H,I,rfl,h⟩
theorem lM{x j pos}:PE X (.Constant (.str x) j pos) (tC (.str x)):=fun _ _ _ H _ I h=>TH ⟨.str x,H,I.tok _,⟨_,rfl⟩,h⟩
def Gl(X:Cx)(x:Str):Prop:=X.env.kindOf x=some .globalImplicit
theorem jc{E:Value->MB->Prop}{pins:List (Addr×Obj)}{s:MB}{σ:St}{H:Hp}{x:Str}{u:Value}{pos:O4}{Q:Value->MB->Prop}(I:Inv X pins σ H s)(hg:Gl X x)(hm:X.mg x=some u)(h:Q u s)
  (hd:(x == ("__debug__":Str))=false:=by decide):MK (MV X.prog X.w) X.A (NC (.Name x pos) X.env) Q E s:=
 Rl I.ok.kind hg (Calls.loadGlobal_global (by rw[I.ok.glob];exact I.mod.glob.keeps I.bk) hm h) hd
theorem lY{E:Value->MB->Prop}{pins:List (Addr×Obj)}{s:MB}{σ:St}{H:Hp}{x:Str}{u:Value}{pos:O4}{Q:Value->MB->Prop}(I:Inv X pins σ H s)(hg:Gl X x)(hm:X.mg x=none)(hv:Nv x=some u)(h:Q u s)
  (hn:x≠"__name__":=by decide) (hd:(x == ("__debug__":Str))=false:=by decide):MK (MV X.prog X.w) X.A (NC (.Name x pos) X.env) Q E s:=by
 obtain⟨mb,h1,h2⟩:=I.mod.blt;exact Rl I.ok.kind hg (Calls.loadGlobal_builtin (by rw[I.ok.glob];exact I.mod.glob.keeps I.bk) hm (by rw[I.ok.blt];exact h1.keeps I.bk) ((h2 x hn).trans hv) h) hd
theorem wA {x:Str} {v:V} {u:Value} {pos:O4} (hg:Gl X x) (hm:X.mg x=some u) (r:RelV v u) (hd:(x == ("__debug__":Str))=false:=by decide):PE X (.Name x pos) (tC v):=
 fun _ _ _ H _ I h=>jc I hg hm ⟨v,H,I,r,h⟩ hd
theorem wC {x:Str} {v:V} {u:Value} {pos:O4} (hg:Gl X x) (hm:X.mg x=none) (hv:Nv x=some u) (r:RelV v u) (hn:x≠"__name__":=by decide) (hd:(x == ("__debug__":Str))=false:=by decide):PE X (.Name x pos) (tC v):=
 fun _ _ _ H _ I h=>lY I hg hm hv ⟨v,H,I,r,h⟩ hn hd
variable{a b : Expr}{ta tb : TE}{pos : O4}
noncomputable def tB(t:TE):TT:=fun σ H Q=>t σ H fun x H1=>∃c,x=.bl c/\Q c H1
theorem G0{e:Expr}{t:TE}(h:PE X e t)(he:∀whole,isTrue e X.env whole=(do let v<- whole;QK e.pos;Qp [v] (truthy v)):=by intro _;rfl):PT X e (tB t):=by
 intro pins s σ H Q I hw;refine isTrue_plain (thn (h pins s σ H _ I hw) fun v s1 ⟨x,H1,I1,r1,q1⟩=>?_) (he _);obtain⟨d,rfl,q⟩:=q1;cases r1;exact ND ⟨H1,I1,q⟩
variable{tA tB' : TT}{rest : List Expr}
noncomputable def Lb(t u:TT):TT:=fun σ H Q=>t σ H fun c H1=>if c=true then u σ H1 Q else Q false H1
noncomputable def tOr(t u:TT):TT:=fun σ H Q=>t σ H fun c H1=>if c=true then Q true H1 else u σ H1 Q
def L6(t:TT):TT:=fun σ H Q=>t σ H fun c H1=>Q (!c) H1
theorem CN(ha:PT X a tA):PW X (.BoolOp .And [a] pos) tA:=by
 intro wh pins s σ H Q I h;refine isTrue_and (thn (ha pins s σ H Q I h) fun c s1 e=>?_);cases c with
 | true=>exact isTrue_and_nil e
 | false=>exact e
theorem FX(ha:PT X a tA):PW X (.BoolOp .Or [a] pos) tA:=by
 intro wh pins s σ H Q I h;refine isTrue_or (thn (ha pins s σ H Q I h) fun c s1 e=>?_);cases c with
 | false=>exact isTrue_or_nil e
 | true=>exact e
theorem FY(ha:PT X a tA)(hb:PW X (.BoolOp .And (b::rest) pos) tB'):PW X (.BoolOp .And (a::b::rest) pos) (Lb tA tB'):=by
 intro wh pins s σ H Q I h;refine isTrue_and (thn (ha pins s σ H _ I h) fun c s1 ⟨H1,I1,q1⟩=>?_);cases c with
 | true=>exact hb wh pins s1 σ H1 Q I1 q1
 | false=>exact⟨H1,I1,q1⟩
theorem IR(ha:PT X a tA)(hb:PW X (.BoolOp .Or (b::rest) pos) tB'):PW X (.BoolOp .Or (a::b::rest) pos) (tOr tA tB'):=by
 intro wh pins s σ H Q I h;refine isTrue_or (thn (ha pins s σ H _ I h) fun c s1 ⟨H1,I1,q1⟩=>?_);cases c with
 | true=>exact⟨H1,I1,q1⟩
 | false=>exact hb wh pins s1 σ H1 Q I1 q1
theorem Bm(ha:PT X a tA):PT X (.UnaryOp .Not a pos) (L6 tA):=by
 intro pins s σ H Q I h;exact isTrue_not (ha pins s σ H (fun c H1=>Q (!c) H1) I h)
noncomputable def IJ(ta tb:TE):TE:=fun σ H Q=>ta σ H fun x H1=>∃c,x=.bl c/\if c=true then tb σ H1 Q else Q (.bl false) H1
noncomputable def L5(ta tb:TE):TE:=fun σ H Q=>ta σ H fun x H1=>∃c,x=.bl c/\if c=true then Q (.bl true) H1 else tb σ H1 Q
theorem G6{op}{t:TE}(h:PE X a t):PE X (.BoolOp op [a] pos) t:=fun pins s σ H Q I hw=>BoolOp_one (h pins s σ H Q I hw)
theorem G9(ha:PE X a ta)(hb:PE X (.BoolOp .And (b::rest) pos) tb):PE X (.BoolOp .And (a::b::rest) pos) (IJ ta tb):=by
 intro pins s σ H Q I h;refine BoolOp_and (thn (ha pins s σ H _ I h) fun v s1 ⟨x,H1,I1,r1,q1⟩=>?_);obtain⟨c,rfl,q1⟩:=q1;cases r1;refine ND ?_;cases c with
 | true=>exact hb pins s1 σ H1 Q I1 q1
 | false=>exact⟨.bl false,H1,I1,rfl,q1⟩
theorem IY(ha:PE X a ta)(hb:PE X (.BoolOp .Or (b::rest) pos) tb):PE X (.BoolOp .Or (a::b::rest) pos) (L5 ta tb):=by
 intro pins s σ H Q I h;refine BoolOp_or (thn (ha pins s σ H _ I h) fun v s1 ⟨x,H1,I1,r1,q1⟩=>?_);obtain⟨c,rfl,q1⟩:=q1;cases r1;refine ND ?_;cases c with
 | false=>exact hb pins s1 σ H1 Q I1 q1
 | true=>exact⟨.bl true,H1,I1,rfl,q1⟩
noncomputable def tIf(t:TT)(ta tb:TE):TE:=fun σ H Q=>t σ H fun c H1=>if c=true then ta σ H1 Q else tb σ H1 Q
theorem zK{c:Expr}(hc:PT X c tA)(ha:PE X a ta)(hb:PE X b tb):PE X (.IfExp c a b pos) (tIf tA ta tb):=by
 intro pins s σ H Q I h;refine wpAny_IfExp (thn (hc pins s σ H _ I h) fun d s1 ⟨H1,I1,q1⟩=>?_);cases d with
 | true=>exact ha pins s1 σ H1 Q I1 q1
 | false=>exact hb pins s1 σ H1 Q I1 q1
end
end L2
namespace L2
open PySem PySem.Spec PyProof.Rows
def SqL(K:M9)(H:Hp)(a:Addr)(xs:List V):Prop:=
 Rd H a (.lst xs) ∨
  ∃(o:Obj) (its:Array Value) (n:Nat),K.lookup a=some o/\o.cls=.type "list"/\o.dict=none/\o.data=.seq its n/\its.size<=sizeLine/\Vals xs its.toList
def SqT(K:M9)(H:Hp)(a:Addr)(xs:List V):Prop:=
 Rd H a (.tup xs) ∨
  ∃(o:Obj) (its:Array Value) (n:Nat),K.lookup a=some o/\o.cls=.type "tuple"/\o.data=.seq its n/\its.size<=sizeLine/\Vals xs its.toList/\o.dict=none
noncomputable def LM:Value->Option V
 | .none=>some .non
 | .bool b=>some (.bl b)
 | .int i _=>some (.int i)
 | .str x _=>some (.str x)
 | .bytes b _=>some (.byt b)
 | .float b _=>some (.flt b)
 | .ref a=>some (.ref a)
 | .type n=>some (.ty n)
 | _=>none
theorem RelV.abs{x:V}{u:Value}(r:RelV x u):LM u=some x:=by
 cases x with
 | non=>cases r;rfl
 | bl _=>cases r;rfl
 | int _=>obtain⟨t,rfl⟩:=r;rfl
 | str _=>obtain⟨t,rfl⟩:=r;rfl
 | byt _=>obtain⟨t,rfl⟩:=r;rfl
 | flt _=>obtain⟨t,rfl⟩:=r;rfl
 | ref _=>cases r;rfl
 | ty _=>cases r;rfl
theorem RelV.inj{x y:V}{u:Value}(r:RelV x u)(q:RelV y u):x=y:=N6 (r.abs.symm.trans q.abs)
theorem Vals.inj:∀{xs ys:List V}{us:List Value},Vals xs us->Vals ys us->xs=ys
 | _,_,_,.nil,.nil=>rfl
 | _,_,_,.cons r t,.cons r' t'=>by rw[r.inj r',Vals.inj t t']
section
variable{X : Cx}{pins : List (Addr×Obj)}{σ : St}{H : Hp}{s : MB}{a : Addr}{xs ys : List V}
theorem SqL.of{K:M9}(h:H a=some (.lst xs)):SqL K H a xs:=.inl (.inl h)
theorem Inv.list(I:Inv X pins σ H s)(h:SqL X.K H a xs):∃its:List Value,Vals xs its/\PlainL s.heap a its.toArray/\xs.length<=sizeLine:=by
 rcases h with h | ⟨o,its,n,hk,hc,hd,hs,hz,r⟩
 ·obtain⟨z,its,n,r,e⟩:=h.ok I.hok
  exact⟨its,r,⟨_,n,e,rfl,rfl,rfl⟩,z⟩
 ·refine⟨its.toList,r,⟨o,n,I.kIn a o hk,hc,hd,by simpa using hs⟩,?_⟩
  have e:=r.length;simp only[Na] at e;omega
theorem Inv.tuple(I:Inv X pins σ H s)(h:SqT X.K H a xs):∃its:List Value,Vals xs its/\IsTup s.heap a its.toArray/\xs.length<=sizeLine:=by
 rcases h with h | ⟨o,its,n,hk,hc,hs,hz,r,hdn⟩
 ·obtain⟨z,its,r,p⟩:=h.ok I.hok
  exact⟨its,r,p.up,z⟩
 ·refine⟨its.toList,r,⟨o,I.kIn a o hk,hc,n,by simpa using hs⟩,?_⟩
  have e:=r.length;simp only[Na] at e;omega
theorem Inv.list_inj(I:Inv X pins σ H s)(h:SqL X.K H a xs)(h':SqL X.K H a ys):xs=ys:=by
 obtain⟨its,r,⟨o,n,e,_,_,d⟩,_⟩:=I.list h;obtain⟨its',r',⟨o',n',e',_,_,d'⟩,_⟩:=I.list h';rw[e] at e';cases e';rw[d] at d';injection d' with d1 _;have:its=its':=by simpa using congrArg Array.toList d1
 subst this;exact r.inj r'
theorem Inv.tuple_inj(I:Inv X pins σ H s)(h:SqT X.K H a xs)(h':SqT X.K H a ys):xs=ys:=by
 obtain⟨its,r,⟨o,e,_,n,d⟩,_⟩:=I.tuple h;obtain⟨its',r',⟨o',e',_,n',d'⟩,_⟩:=I.tuple h';rw[e] at e';cases e';rw[d] at d';injection d' with d1 _;have:its=its':=by simpa using congrArg Array.toList d1
 subst this;exact r.inj r'
end
abbrev Cx.wish(X:Cx)(E:Value->MB->Prop):Cx:={ X with xe:=E }
abbrev Cx.nox(X:Cx):Cx:=X.wish fun _ _=>False
theorem Cx.Ok.wish{X:Cx}(ok:X.Ok)(E:Value->MB->Prop):(X.wish E).Ok:=
 ⟨ok.mod,ok.kind,ok.glob,ok.blt,ok.above,ok.inj,ok.has,ok.cab,ok.hd,ok.frames,ok.stk,ok.exf,ok.bs,ok.bsz,ok.noex,ok.exfs,ok.funs,ok.frf⟩
theorem Cx.Ok.unwish{X:Cx}{E:Value->MB->Prop}(ok:(X.wish E).Ok):X.Ok:=
 ⟨ok.mod,ok.kind,ok.glob,ok.blt,ok.above,ok.inj,ok.has,ok.cab,ok.hd,ok.frames,ok.stk,ok.exf,ok.bs,ok.bsz,ok.noex,ok.exfs,ok.funs,ok.frf⟩
section
variable{X : Cx}{pins : List (Addr×Obj)}{σ : St}{H : Hp}{s : MB}{E : Value → MB → Prop}
theorem Inv.wish(I:Inv X pins σ H s)(E:Value->MB->Prop):Inv (X.wish E) pins σ H s:=⟨I.ok.wish E,I.os,I.bare,I.base,I.loc,I.cell,I.free,I.freeC,I.pin,I.hok,I.len⟩
theorem Inv.unwish(I:Inv (X.wish E) pins σ H s):Inv X pins σ H s:=⟨I.ok.unwish,I.os,I.bare,I.base,I.loc,I.cell,I.free,I.freeC,I.pin,I.hok,I.len⟩
theorem SP.unwish{D:Ends}{f:Flow}{s':MB}(h:SP (X.wish E) pins D f s'):SP X pins D f s':=by
 cases f with
 | next=>obtain⟨σ',H',I,q⟩:=h;exact⟨σ',H',I.unwish,q⟩
 | brk=>obtain⟨σ',H',I,q⟩:=h;exact⟨σ',H',I.unwish,q⟩
 | cont=>obtain⟨σ',H',I,q⟩:=h;exact⟨σ',H',I.unwish,q⟩
 | ret u=>obtain⟨v,σ',H',I,r,q⟩:=h;exact⟨v,σ',H',I.unwish,r,q⟩
theorem PSs.nox{st:List Stmt}{t:TS}(h:PSs X.nox st t):PSs X st t:=fun pins s σ H D I hw=>
 N7 (h pins s σ H D (I.wish _) hw) (fun _ _ q=>q.unwish) fun _ _ z=>MG z
end
section
variable{X : Cx}{st : Stmt}{rest : List Stmt}{t u : TS}{e : Expr}{te : TE}{pos : O4}
def IF:TS:=fun D σ H=>D.nx σ H
def KZ(t u:TS):TS:=fun D σ H=>t { D with nx:=u D } σ H
theorem wj:PSs X [] IF:=fun _ _ σ H _ I h=>OV ⟨σ,H,I,h⟩
theorem sQ(h1:PS X st t)(h2:PSs X rest u):PSs X (st::rest) (KZ t u):=by
 intro pins s σ H D I h;refine Pe (thn (h1 pins s σ H { D with nx:=u D } I h) fun f s1 q=>?_);cases f with
 | next=>
  obtain⟨σ',H',I',q⟩:=q;exact h2 pins s1 σ' H' D I' q
 | ret v=>exact q
 | brk=>exact q
 | cont=>exact q
theorem wg(h1:PS X st t):PSs X [st] t:=by
 intro pins s σ H D I h;refine Pe (thn (h1 pins s σ H D I h) fun f s1 q=>?_);cases f with
 | next=>exact OV q
 | ret v=>exact q
 | brk=>exact q
 | cont=>exact q
theorem Inv.quiet{pins:List (Addr×Obj)}{σ:St}{H:Hp}{s:MB}(I:Inv X pins σ H s):interactive X.env=false:=by simp[interactive,I.ok.kind]
def IG(te:TE):TS:=fun D σ H=>te σ H fun _ H1=>D.nx σ H1
theorem wo(he:PE X e te)(hs:Nk e none pos.line X.env=pure false:=by rfl):PS X (.Expr e pos) (IG te):=by
 intro pins s σ H D I h;exact wpAny_Expr_any (thn (he pins s σ H _ I h) fun v s1 ⟨x,H1,I1,r1,q1⟩=>⟨σ,H1,I1,q1⟩) I.quiet hs
def L4(te:TE):TS:=fun D σ H=>te σ H D.rt
theorem wm(he:PE X e te):PS X (.Return (some e) pos) (L4 te):=by
 intro pins s σ H D I h;exact wpAny_Return_some (thn (he pins s σ H _ I h) fun v s1 ⟨x,H1,I1,r1,q1⟩=>⟨x,σ,H1,I1,r1,q1⟩)
noncomputable def L8(c:TT)(t u:TS):TS:=fun D σ H=>c σ H fun b H1=>if b=true then t D σ H1 else u D σ H1
theorem G1{c:Expr}{a b:List Stmt}{tc:TT}(hc:PT X c tc)(ha:PSs X a t)(hb:PSs X b u):PS X (.If c a b pos) (L8 tc t u):=by
 intro pins s σ H D I h;refine wpAny_If (thn (hc pins s σ H _ I h) fun d s1 ⟨H1,I1,q1⟩=>?_);cases d with
 | true=>exact ha pins s1 σ H1 D I1 q1
 | false=>exact hb pins s1 σ H1 D I1 q1
end
abbrev TG:=V->St->Hp->(St->Hp->Prop)->Prop
abbrev TGs:=List V->St->Hp->(St->Hp->Prop)->Prop
def PG(X:Cx)(target:Expr)(t:TG):Prop:=
 ∀(pins:List (Addr×Obj))(s:MB)(σ:St)(H:Hp)(v:V)(u:Value)(Q:St->Hp->Prop),Inv X pins σ H s->RelV v u->t v σ H Q->
  MK (MV X.prog X.w) X.A (Ry target X.env u) (fun _ s'=>∃σ' H',Inv X pins σ' H' s'/\Q σ' H') X.xe s
def PGs(X:Cx)(ts:List Expr)(t:TGs):Prop:=
 ∀(pins:List (Addr×Obj))(s:MB)(σ:St)(H:Hp)(vs:List V)(us:List Value)(Q:St->Hp->Prop),Inv X pins σ H s->Vals vs us->t vs σ H Q->
  MK (MV X.prog X.w) X.A (assignInOrder ((OC ts X.env).map (·.2)) us) (fun _ s'=>∃σ' H',Inv X pins σ' H' s'/\Q σ' H') X.xe s
abbrev LP:=V->V->V->Hp->(Hp->Prop)->Prop
section
variable{X : Cx}{pos : O4}
def GV(i:Nat):TG:=fun v σ H Q=>Q (σ.set i (some v)) H
theorem rG{i:Nat}{x:Str}(hN:X.N.Nodup)(hi:X.N[i]?=some x)(hx:Loc X.env.scope x)(hf:X.fn x=true\/X.env.scope.names.lookup x=some .local:=by first | exact .inl rfl | exact .inr rfl | assumption):PG X (.Name x pos) (GV i):=by
 intro pins s σ H v u Q I r h;exact wpAny_assign_Name (kZ I hN hi hx r (fun s' I'=>⟨_,H,I',h⟩) hf)
def LB:TGs:=fun vs σ H Q=>vs=[]/\Q σ H
noncomputable def JE(t:TG)(u:TGs):TGs:=fun vs σ H Q=>∃v r,vs=v::r/\t v σ H fun σ' H'=>u r σ' H' Q
theorem wy:PGs X [] LB:=by
 intro pins s σ H vs us Q I r h;obtain⟨e,h⟩:=h;subst e;cases r;exact assignInOrder_nil ⟨σ,H,I,h⟩
theorem sS{e:Expr}{es:List Expr}{t:TG}{u:TGs}(h1:PG X e t)(h2:PGs X es u)
  (hs:(OC (e::es) X.env).map (·.2)=Ry e X.env::(OC es X.env).map (·.2):=by rfl):PGs X (e::es) (JE t u):=by
 intro pins s σ H vs us Q I r h;obtain⟨v,vr,e1,h⟩:=h;subst e1;cases r with
 | cons r rr=>
  rw[hs];refine assignInOrder_cons (thn (h1 pins s σ H _ _ _ I r h) fun _ s1 ⟨σ1,H1,I1,q1⟩=>?_);exact h2 pins s1 σ1 H1 _ _ Q I1 rr q1
noncomputable def Lz(K:M9)(n:Nat)(t:TGs):TG:=fun v σ H Q=>∃a xs,v=.ref a/\SqT K H a xs/\xs.length=n/\t xs σ H Q
theorem Bp{es:List Expr}{k:Nat}{t:TGs}{n:Nat}(hc:X.calm=true)(h:PGs X es t)
  (hn:(OC es X.env).length=n:=by rfl) (hst:(OC es X.env).findIdx? (·.1)=none:=by rfl):PG X (.Tuple es k pos) (Lz X.K n t):=by
 intro pins s σ H v u Q I r hw;obtain⟨a,xs,e1,hq,hl,hw⟩:=hw;subst e1;cases r;obtain⟨its,rv,ht,hz⟩:=I.tuple hq;refine assign_Tuple_tuple (I.ok.hd hc) ht (by simp[hn,← hl,rv.length]) hst fun h' hx=>?_;have I1:Inv X pins σ H { s with heap:=h' }:=I.kept (t':=s.toks) fun b o e=>hx b o (MU (MJ e)) e;exact h pins _ σ H xs _ Q I1 (by simpa using rv) hw
noncomputable def KG(to ti:TE)(t:LP):TG:=fun v σ H Q=>to σ H fun o H1=>ti σ H1 fun i H2=>t o i v H2 fun H3=>Q σ H3
noncomputable def La(te:TE)(g:TG):TS:=fun D σ H=>te σ H fun x H1=>g x σ H1 D.nx
theorem wk{i:Nat}{x:Str}{e:Expr}{te:TE}{pos':O4}(hN:X.N.Nodup)(hi:X.N[i]?=some x)(hx:Loc X.env.scope x)(he:PE X e te)(hs:Nk e (some (.Name x pos')) pos.line X.env=pure false:=by rfl)(hf:X.fn x=true\/X.env.scope.names.lookup x=some .local:=by first | exact .inl rfl | exact .inr rfl | assumption) :
  PS X (.Assign [.Name x pos'] e pos) (La te (GV i)):=by
 intro pins s σ H D I h;refine wpAny_Assign_Name (thn (he pins s σ H _ I h) fun v s1 ⟨y,H1,I1,r1,q1⟩=>?_) hs;exact kZ I1 hN hi hx r1 (fun s2 I2=>⟨_,H1,I2,q1⟩) hf
end
section
variable{X : Cx}{pos : O4}
noncomputable def FE(c:TT)(tb:TS):TS:=fun D σ H=>∃W:Nat->St->Hp->Prop,(∃m,W m σ H)/\∀m σ H,W m σ H->
 c σ H fun b H1=>if b=true then ∃N:St->Hp->Prop,(∀σ' H',N σ' H'->∃m',m'<m/\W m' σ' H')/\tb { D with nx:=N,ct:=N,bk:=D.nx } σ H1 else D.nx σ H1
theorem zE{c:Expr}{body:List Stmt}{tc:TT}{tb:TS}(hp:R9 (MV X.prog X.w) X.A X.env X.xe)(hc:PT X c tc)(hb:PSs X body tb):PS X (.While c body [] pos) (FE tc tb):=by
 intro pins s σ H D I h;obtain⟨W,⟨m0,w0⟩,turn⟩:=h;refine wpAny_While (codeAny_whileLoop (fun n s'=>∃σ' H',Inv X pins σ' H' s'/\W n σ' H') ?_ m0 ⟨σ,H,I,w0⟩);rintro n s1 ⟨σ1,H1,I1,w1⟩;refine OU hp (thn (hc pins s1 σ1 H1 _ I1 (turn n σ1 H1 w1)) fun b s2 ⟨H2,I2,q2⟩=>?_);cases b with
 | true=>
  obtain⟨N,hN,q2⟩:=q2;rw[if_pos rfl];refine OU hp (thn (hb pins s2 σ1 H2 _ I2 q2) fun f s3 q3=>?_);cases f with
  | next=>
   obtain⟨σ3,H3,I3,n3⟩:=q3;obtain⟨m',hm,w3⟩:=hN σ3 H3 n3;exact⟨m',hm,σ3,H3,I3,w3⟩
  | cont=>
   obtain⟨σ3,H3,I3,n3⟩:=q3;obtain⟨m',hm,w3⟩:=hN σ3 H3 n3;exact⟨m',hm,σ3,H3,I3,w3⟩
  | brk=>exact q3
  | ret v=>exact q3
 | false=>
  rw[if_neg ML];exact OV ⟨σ1,H2,I2,q2⟩
end
structure It where
 go:Nat->Hp->Prop
 yld:Nat->Hp->V->Hp->Prop
 stop:Nat->Hp->Prop
def rb(X:Cx)(pins:List (Addr×Obj))(H:Hp)(b:Addr):Prop:=
 H b=none/\b≠X.env.locals/\b ∉ X.fs/\(b∈X.ex\/X.s₀.heap.objs.size<=b)/\(∀x c,X.env.cells.lookup x=some c->c≠b)/\∀p∈X.pn++pins,p.1≠b
theorem Inv.fpOk{X:Cx}{pins:List (Addr×Obj)}{σ:St}{H H':Hp}{s:MB}{b:Addr}(I:Inv X pins σ H s)(hb:s.heap.objs.size<=b)(hn:H' b=none):rb X pins H' b:=by
 refine⟨hn,NZ (MF I.lt hb),I.nofs hb,.inr (Mm I.sz hb),fun x c e z=>?_,fun p hp z=>?_⟩
 ·obtain⟨v,q⟩:=I.cell x c e
  exact absurd (MF q.lt (by rw[z];exact hb)) (Ms _)
 ·exact absurd (MF (MJ (I.pin p hp).1) (by rw[z];exact hb)) (Ms _)
structure Turn(P:MP)(w:Me)(K:M9)(tg:Expr)(J:It)(fp:List Addr)(it:Addr)(tn:Nat->Heap->Prop):Prop where
 mem:it∈fp
 obj:∀i h,tn i h->∀b∈fp,∃o,h.get? b=some o/\∀v,o.data≠.cell v
 keep:∀i h h',tn i h->(∀b∈fp,∀o,h.get? b=some o->h'.get? b=some o)->tn i h'
 item:∀(X:Cx),X.prog=P->X.w=w->X.K=K->X.calm=true->∀(i:Nat)(pins:List (Addr×Obj))(s:MB)(σ:St)(H:Hp)(E:Value->MB->Prop),Inv X pins σ H s->(∀b∈fp,rb X pins H b)->tn i s.heap->J.go i H->
  MK (MV P w) X.A (pyNext (.ref it)) (fun r s1=>∃u,r=some u/\
   MK (MV P w) X.A (Qs tg (.ref it) u) (fun _ s2=>∃x H',Inv X pins σ H' s2/\RelV x u/\J.yld i H x H'/\tn (i+1) s2.heap/\∀b∈fp,H' b=none) E s1) E s
 done:∀(X:Cx),X.prog=P->X.w=w->X.K=K->X.calm=true->∀(i:Nat)(pins:List (Addr×Obj))(s:MB)(σ:St)(H:Hp)(E:Value->MB->Prop),Inv X pins σ H s->(∀b∈fp,rb X pins H b)->tn i s.heap->J.stop i H->
  MK (MV P w) X.A (pyNext (.ref it)) (fun r s1=>r=none/\Inv X pins σ H s1) E s
 self:∀(A:Mi)(i:Nat)(s:MB)(Q:Value->MB->Prop)(E:Value->MB->Prop),tn i s.heap->Q (.ref it) s->MK (MV P w) A (pyIter (.ref it)) Q E s
abbrev TI:=St->Hp->(It->Hp->Prop)->Prop
def PIE(X:Cx)(pins:List (Addr×Obj))(σ:St)(tg:Expr)(R:It->Hp->Prop)(itv:Value)(s2:MB):Prop:=
 ∃(it:Addr)(fp:List Addr)(tn:Nat->Heap->Prop)(J:It)(H':Hp),itv=.ref it/\Inv X pins σ H' s2/\Turn X.prog X.w X.K tg J fp it tn/\tn 0 s2.heap/\(∀b∈fp,rb X pins H' b)/\R J H'
def PI(X:Cx)(tg iter:Expr)(wi:TI):Prop:=
 ∀(pins:List (Addr×Obj))(s:MB)(σ:St)(H:Hp)(R:It->Hp->Prop),Inv X pins σ H s->wi σ H R->
  MK (MV X.prog X.w) X.A (NC iter X.env) (fun v s1=>MK (MV X.prog X.w) X.A (pyIter v) (PIE X pins σ tg R) X.xe s1) X.xe s
theorem xG{M:SG}{A:Mi}{E:Value->MB->Prop}{s:MB}{tg:Expr}{it:Addr}{u:Value}{o:Obj}{n:String}{vs:Array Value}{Q:Unit->MB->Prop}(ho:s.heap.get? it=some o)(hc:o.cls=.type n)(hd:o.data=.fields vs)
    (hn:["enumerate","zip","dict_itemiterator","dict_reverseitemiterator","odict_iterator","itertools.zip_longest","itertools.pairwise"].contains n=false) (hQ:Q () s):MK M A (Qs tg (.ref it) u) Q E s:=by
  unfold Qs
  cases tg <;> first
    | exact ME hQ
    | (cases u <;> first
        | exact ME hQ
        | (refine MA (wpAny_load ho ?_)
           rw[hc,hd];show MK M A (if (["enumerate","zip","dict_itemiterator","dict_reverseitemiterator","odict_iterator","itertools.zip_longest","itertools.pairwise"].contains n && vs[0]? == some (OK _))=true then _ else _) Q E s;rw[if_neg (by intro h;rw[hn,Oe] at h;cases h)];exact ME hQ))
noncomputable def Itl(K:M9)(a:Addr):It:=
 ⟨fun i H=>∃xs x,SqL K H a xs/\xs[i]?=some x,fun i H x H'=>H'=H/\∀xs,SqL K H a xs->xs[i]?=some x,fun i H=>∃xs,SqL K H a xs/\xs.length<=i⟩
noncomputable def Itt(K:M9)(a:Addr):It:=
 ⟨fun i H=>∃xs x,SqT K H a xs/\xs[i]?=some x,fun i H x H'=>H'=H/\∀xs,SqT K H a xs->xs[i]?=some x,fun i H=>∃xs,SqT K H a xs/\xs.length<=i⟩
noncomputable def Itr(lo:Int)(n:Nat):It:=⟨fun i _=>i<n,fun i H x H'=>H'=H/\x=.int (lo+i),fun i _=>n<=i⟩
theorem pJ{P:MP}{w:Me}{K:M9}{tg:Expr}(a it:Addr):Turn P w K tg (Itl K a) [it] it (fun i h=>h.IsListIter it a i) where
 mem:=by simp
 obj:=fun i h st b hb=>by
  have e:b=it:=by simpa using hb
  subst e;obtain⟨o,e,c,d⟩:=st;exact⟨o,e,fun v z=>by rw[d] at z;cases z⟩
 keep:=fun i h h' st k=>st.at fun o e=>k it (by simp) o e
 item:=by
  intro X hP hw hK hc i pins s σ H E I hf st hg;subst hP hw hK;obtain⟨xs,x,hq,hx⟩:=hg;obtain⟨its,rv,p,hz⟩:=I.list hq;obtain⟨u,hu,ru⟩:=rv.get hx;obtain⟨f0,f1,f2,f3,f4,f5⟩:=hf it (by simp);refine wpAny_pyNext_list_item st p.isList (x:=u) (by simpa using hu) fun h' st' sb=>?_;have I1:Inv X pins σ H { s with heap:=h' }:=I.turned (t':=s.toks) (fun b o hb e=>(sb.2 b hb).trans e) f0 f1 f3 f4 f5;obtain⟨o,e,c,d⟩:=id st';exact⟨u,rfl,xG (s:={ s with heap:=h' }) e c d (by decide) ⟨x,H,I1,ru,⟨rfl,fun ys hy=>by rw[I.list_inj hy hq];exact hx⟩,st',fun b hb=>(hf b hb).1⟩⟩
 done:=by
  intro X hP hw hK hc i pins s σ H E I hf st hg;subst hP hw hK;obtain⟨xs,hq,hx⟩:=hg;obtain⟨its,rv,p,hz⟩:=I.list hq;obtain⟨f0,f1,f2,f3,f4,f5⟩:=hf it (by simp);have hl:=rv.length;exact wpAny_pyNext_list_end (I.ok.hd hc) st p.isList (by simp;omega) fun h' eb=>⟨rfl,I.turned (t':=s.toks) (fun b o hb e=>eb b o hb e) f0 f1 f3 f4 f5⟩
 self:=fun _ _ _ _ _ st h=>wpAny_pyIter_listiter st h
theorem ua{P:MP}{w:Me}{K:M9}{tg:Expr}(a it:Addr):Turn P w K tg (Itt K a) [it] it (fun i h=>h.IsTupleIter it a i) where
 mem:=by simp
 obj:=fun i h st b hb=>by
  have e:b=it:=by simpa using hb
  subst e;obtain⟨o,e,c,d⟩:=st;exact⟨o,e,fun v z=>by rw[d] at z;cases z⟩
 keep:=fun i h h' st k=>st.at fun o e=>k it (by simp) o e
 item:=by
  intro X hP hw hK hc i pins s σ H E I hf st hg;subst hP hw hK;obtain⟨xs,x,hq,hx⟩:=hg;obtain⟨its,rv,p,hz⟩:=I.tuple hq;obtain⟨u,hu,ru⟩:=rv.get hx;obtain⟨f0,f1,f2,f3,f4,f5⟩:=hf it (by simp);refine wpAny_pyNext_tuple_item st (show s.heap.IsTuple a its.toArray from p) (x:=u) (by simpa using hu) fun h' st' sb=>?_;have I1:Inv X pins σ H { s with heap:=h' }:=I.turned (t':=s.toks) (fun b o hb e=>(sb.2 b hb).trans e) f0 f1 f3 f4 f5;obtain⟨o,e,c,d⟩:=id st';exact⟨u,rfl,xG (s:={ s with heap:=h' }) e c d (by decide) ⟨x,H,I1,ru,⟨rfl,fun ys hy=>by rw[I.tuple_inj hy hq];exact hx⟩,st',fun b hb=>(hf b hb).1⟩⟩
 done:=by
  intro X hP hw hK hc i pins s σ H E I hf st hg;subst hP hw hK;obtain⟨xs,hq,hx⟩:=hg;obtain⟨its,rv,p,hz⟩:=I.tuple hq;obtain⟨f0,f1,f2,f3,f4,f5⟩:=hf it (by simp);have hl:=rv.length;exact wpAny_pyNext_tuple_end (I.ok.hd hc) st (show s.heap.IsTuple a its.toArray from p) (by simp;omega) fun h' eb=>⟨rfl,I.turned (t':=s.toks) (fun b o hb e=>eb b o hb e) f0 f1 f3 f4 f5⟩
 self:=fun _ _ _ _ _ st h=>wpAny_pyIter_tupleiter st h
theorem ud{P:MP}{w:Me}{K:M9}{tg:Expr}(it:Addr)(lo:Int)(n:Nat):Turn P w K tg (Itr lo n) [it] it (fun i h=>IsRangeIter h it (lo+(i:Nat) * 1) ((n:Int)-(i:Nat)) 1) where
 mem:=by simp
 obj:=fun i h st b hb=>by
  have e:b=it:=by simpa using hb
  subst e
  exact⟨_,st,fun v z=>by
   have z':Qj _=QC v:=z;cases z'⟩
 keep:=fun i h h' st k=>k it (by simp) _ st
 item:=by
  intro X hP hw hK hc i pins s σ H E I hf st hg;subst hP hw hK;obtain⟨f0,f1,f2,f3,f4,f5⟩:=hf it (by simp);have W:=Walks.range (prog:=X.prog) (w:=X.w) (I.ok.hd hc) it lo 1 n;refine W.item i s _ _ hg st fun v h' tk hv st' kk=>?_;obtain⟨t,rfl⟩:=hv;have I1:Inv X pins σ H { s with heap:=h',toks:=tk }:=I.turned (fun b o hb e=>kk b o (by simpa using hb) e) f0 f1 f3 f4 f5;refine⟨_,rfl,xG (s:={ s with heap:=h',toks:=tk }) (n:="range_iterator") st' rfl rfl (by decide) ⟨.int (lo+i),H,I1,⟨t,?_⟩,⟨rfl,rfl⟩,st',fun b hb=>(hf b hb).1⟩⟩;rw[Int.mul_one]
 done:=by
  intro X hP hw hK hc i pins s σ H E I hf st hg;subst hP hw hK;obtain⟨f0,f1,f2,f3,f4,f5⟩:=hf it (by simp);exact wpAny_pyNext_range_end (I.ok.hd hc) st (by have:n<=i:=hg;omega) fun h' eb=>⟨rfl,I.turned (t':=s.toks) (fun b o hb e=>eb b o hb e) f0 f1 f3 f4 f5⟩
 self:=fun _ _ _ _ _ st h=>wpAny_pyIter_rangeiter st h
end L2
namespace L2
open PySem PySem.Spec PyProof.Rows
section
variable{X : Cx}{tg : Expr}
theorem zA{pins:List (Addr×Obj)}{σ:St}{H:Hp}{s:MB}{R:It->Hp->Prop}{E:Value->MB->Prop}{lo hi:Int}{t u v:Sn}{tk:Nat}(I:Inv X pins σ H s)(h1:-(2 ^ 62)<=lo)(h2:lo<2 ^ 62)(h3:-(2 ^ 62)<=hi)(h4:hi<2 ^ 62)
  (q:R (Itr lo (hi-lo).toNat) H):MK (MV X.prog X.w) X.A (pyIter (.ref s.heap.objs.size)) (PIE X pins σ tg R) E { s with heap:=s.heap.push { cls:=.type "range",data:=.fields #[.int lo t,.int hi u,.int 1 v] },toks:=tk }:=by
 refine wpAny_pyIter_range (IsRange.new ..) (small_one h1 h2 h3 h4) ?_;have I1:Inv X pins σ H { s with heap:=s.heap.push { cls:=.type "range",data:=.fields #[.int lo t,.int hi u,.int 1 v] },toks:=tk }:=I.kept fun b o e=>MD _ e
 refine⟨(s.heap.push { cls:=.type "range",data:=.fields #[.int lo t,.int hi u,.int 1 v] }).objs.size,[(s.heap.push { cls:=.type "range",data:=.fields #[.int lo t,.int hi u,.int 1 v] }).objs.size],_,_,H,rfl,
  I1.kept (t':=tk) fun b o e=>MD _ e,ud _ lo (hi-lo).toNat,?_,fun b hb=>?_,q⟩
 ·have e1:lo+((0:Nat):Int) * 1=lo:=by simp
  have e2:(((hi-lo).toNat:Nat):Int)-((0:Nat):Int)=Builtin.Range.rangeSize lo hi 1:=by rw[rangeSize_one];split <;> omega
  show IsRangeIter _ _ (lo+((0:Nat):Int) * 1) ((((hi-lo).toNat:Nat):Int)-((0:Nat):Int)) 1;rw[e1,e2];exact MZ _ rfl
 ·have e:b=(s.heap.push { cls:=.type "range",data:=.fields #[.int lo t,.int hi u,.int 1 v] }).objs.size:=by simpa using hb
  subst e;exact I1.fpOk (MX _) (I1.hok.fresh (MX _))
def JD(ta:TA):TI:=fun σ H R=>ta σ H fun vs H1=>∃j:Int,vs=[.int j]/\-(2 ^ 62)<=j/\j<2 ^ 62/\R (Itr 0 j.toNat) H1
theorem wx {a:Expr} {ta:TA} {p pos:O4} (hg:Gl X "range") (hm:X.mg "range"=none) (ha:PA X [a] ta) (hs:MO [a] X.env=[(false,NC a X.env)]:=by rfl):PI X tg (.Call (.Name "range" p) [a] [] pos) (JD ta):=by
 intro pins s σ H R I h;refine Call_ (lY I hg hm boot_range (OL (thn (ha pos pins s σ H _ I h) fun us s1 ⟨vs,H1,I1,r1,q1⟩=>?_) hs rfl));obtain⟨j,e,q1,q2,q⟩:=q1;subst e;cases r1 with
 | cons r rr=>
  cases rr;obtain⟨t,rfl⟩:=r;exact call_range_1 (zA I1 (by omega) (by omega) q1 q2 (by simpa using q))
noncomputable def L9(wi:TI)(g:TG)(tb:TS):TS:=fun D σ H=>wi σ H fun J H1=>∃W:Nat->Nat->St->Hp->Prop,(∃m,W 0 m σ H1)/\∀i m σ H,W i m σ H->
 (J.stop i H/\D.nx σ H)\/(J.go i H/\∃N:St->Hp->Prop,(∀σ' H',N σ' H'->∃m',m'<m/\W (i+1) m' σ' H')/\∀x H',J.yld i H x H'->g x σ H' fun σ2 H2=>tb { D with nx:=N,ct:=N,bk:=D.nx } σ2 H2)
noncomputable def nu(fp:List Addr)(h:Heap):List (Addr×Obj):=fp.filterMap fun b=>(h.get? b).map fun o=>(b,o)
theorem iC{fp:List Addr}{h:Heap}{b:Addr}{o:Obj}(hb:b∈fp)(e:h.get? b=some o):(b,o)∈nu fp h:=Tc.mpr ⟨b,hb,by rw[e];rfl⟩
theorem wL{fp:List Addr}{h:Heap}{p:Addr×Obj}(hp:p∈nu fp h):p.1∈fp/\h.get? p.1=some p.2:=by
 obtain⟨b,hb,e⟩:=Tc.mp hp;cases q:h.get? b with
 | none=>rw[q] at e;cases e
 | some o=>
  rw[q] at e;have e':(b,o)=p:=N6 e;subst e';exact⟨hb,q⟩
theorem Inv.pinned{pins:List (Addr×Obj)}{σ:St}{H:Hp}{s:MB}{fp:List Addr}(I:Inv X pins σ H s)(hf:∀b∈fp,rb X pins H b)(ho:∀b∈fp,∃o,s.heap.get? b=some o/\∀v,o.data≠.cell v):Inv X (pins++nu fp s.heap) σ H s:=
 I.pins_of fun p hp=>(N4.mp hp).elim (fun z=>I.pin p (N2 _ z)) fun z=>by
  obtain⟨hb,e⟩:=wL z;obtain⟨f0,f1,f2,_⟩:=hf p.1 hb;obtain⟨o,e',d⟩:=ho p.1 hb;rw[e] at e';cases e';exact⟨e,f0,f1,f2,d⟩
theorem Inv.unpinned{pins pl:List (Addr×Obj)}{σ:St}{H:Hp}{s:MB}(I:Inv X (pins++pl) σ H s):Inv X pins σ H s:=I.pins_of fun p hp=>I.pin p (N2 _ (Oc _ hp))
theorem Bo{iter:Expr}{body:List Stmt}{wi:TI}{g:TG}{tb:TS}{pos:O4}(hp:R9 (MV X.prog X.w) X.A X.env X.xe)(hc:X.calm=true)(hi:PI X tg iter wi)(hg:PG X tg g)(hb:PSs X body tb)
  (hs:∀x,Oi iter X.env x=pure x:=by intro _;rfl):PS X (.For tg iter body [] pos) (L9 wi g tb):=by
 intro pins s σ H D I h;refine wpAny_For (thn (hi pins s σ H _ I h) fun v s1 h1=>thn h1 fun itv s2 h2=>?_) hs;obtain⟨it,fp,tn,J,H2,e,I2,T,st2,f2,W,⟨m0,w0⟩,turn⟩:=h2;subst e;have stat:∀{H':Hp},(∀b∈fp,H' b=none)->∀b∈fp,rb X pins H' b:=fun hn b hb=>⟨hn b hb,(f2 b hb).2⟩;refine codeAny_forLoop_any (fun n s'=>∃i σ' H',Inv X pins σ' H' s'/\tn i s'.heap/\(∀b∈fp,H' b=none)/\W i n σ' H') ?_ m0 ⟨0,σ,H2,I2,st2,fun b hb=>(f2 b hb).1,w0⟩;rintro n s3 ⟨i,σ3,H3,I3,st3,fr3,w3⟩;rcases turn i n σ3 H3 w3 with⟨stop,qn⟩|⟨go,N,hN,step⟩
 ·refine OU hp (thn (T.done X rfl rfl rfl hc i pins s3 σ3 H3 X.xe I3 (stat fr3) st3 stop) fun r s4 ⟨hr,I4⟩=>?_)
  subst hr;exact OV ⟨σ3,H3,I4,qn⟩
 ·refine OU hp (thn (T.item X rfl rfl rfl hc i pins s3 σ3 H3 X.xe I3 (stat fr3) st3 go) fun r s4 ⟨u,hr,h4⟩=>?_)
  subst hr;refine OU hp (thn h4 fun _ s5 ⟨x,H5,I5,r5,y5,st5,fr5⟩=>?_);have I5':=I5.pinned (stat fr5) (T.obj _ _ st5);refine OU hp (thn (hg _ s5 σ3 H5 x u _ I5' r5 (step x H5 y5)) fun _ s6 ⟨σ6,H6,I6,q6⟩=>?_);refine OU hp (thn (hb _ s6 σ6 H6 _ I6 q6) fun f s7 q7=>?_)
  have again:∀{σ7:St}{H7:Hp},Inv X (pins++nu fp s5.heap) σ7 H7 s7->N σ7 H7->∃m,m<n/\∃i σ' H',Inv X pins σ' H' s7/\tn i s7.heap/\(∀b∈fp,H' b=none)/\W i m σ' H':=fun {σ7 H7} I7 n7=>by
   obtain⟨m',hm,w7⟩:=hN σ7 H7 n7;refine⟨m',hm,i+1,σ7,H7,I7.unpinned,T.keep _ _ _ st5 fun b hb o e=>(I7.pin (b,o) (N2 _ (N2 _ (iC hb e)))).1,fun b hb=>?_,w7⟩;obtain⟨o,e,d⟩:=T.obj _ _ st5 b hb;exact(I7.pin (b,o) (N2 _ (N2 _ (iC hb e)))).2.1
  cases f with
  | next=>obtain⟨σ7,H7,I7,n7⟩:=q7;exact again I7 n7
  | cont=>obtain⟨σ7,H7,I7,n7⟩:=q7;exact again I7 n7
  | brk=>obtain⟨σ7,H7,I7,q7⟩:=q7;exact⟨σ7,H7,I7.unpinned,q7⟩
  | ret v=>obtain⟨x7,σ7,H7,I7,r7,q7⟩:=q7;exact⟨x7,σ7,H7,I7.unpinned,r7,q7⟩
end
end L2
namespace L2
open PySem PySem.Spec PyProof.Rows
abbrev R2:=V->V->Hp->VK->Prop
def OpR(X:Cx)(f:Value->Value->Sem Value)(r:R2):Prop:=
 ∀(pins:List (Addr×Obj))(s:MB)(σ:St)(H:Hp)(x y:V)(v u:Value)(Q:VK),Inv X pins σ H s->RelV x v->RelV y u->r x y H Q->
  MK (MV X.prog X.w) X.A (f v u) (EP X pins σ Q) X.xe s
def UnR(X:Cx)(f:Value->Sem Value)(r:V->Hp->VK->Prop):Prop:=
 ∀(pins:List (Addr×Obj))(s:MB)(σ:St)(H:Hp)(x:V)(v:Value)(Q:VK),Inv X pins σ H s->RelV x v->r x H Q->
  MK (MV X.prog X.w) X.A (f v) (EP X pins σ Q) X.xe s
def fF(X:Cx)(f:Value)(r:List V->Hp->VK->Prop):Prop:=
 ∀(pins:List (Addr×Obj))(s:MB)(σ:St)(H:Hp)(xs:List V)(us:List Value)(Q:VK),Inv X pins σ H s->Vals xs us->r xs H Q->
  MK (MV X.prog X.w) X.A (call f us) (EP X pins σ Q) X.xe s
def KI(X:Cx)(r:V->Hp->(Bool->Hp->Prop)->Prop):Prop:=
 ∀(pins:List (Addr×Obj))(s:MB)(σ:St)(H:Hp)(x:V)(v:Value)(Q:Bool->Hp->Prop),Inv X pins σ H s->RelV x v->r x H Q->
  MK (MV X.prog X.w) X.A (truthy v) (TP X pins σ Q) X.xe s
noncomputable def tOp(r:R2)(ta tb:TE):TE:=fun σ H Q=>ta σ H fun x H1=>tb σ H1 fun y H2=>r x y H2 Q
noncomputable def tUn(r:V->Hp->VK->Prop)(ta:TE):TE:=fun σ H Q=>ta σ H fun x H1=>r x H1 Q
noncomputable def rI(C:Int->Int->Prop)(g:Int->Int->V):R2:=fun x y H Q=>∃i j,x=.int i/\y=.int j/\C i j/\Q (g i j) H
noncomputable def rI0(g:Int->Int->V):R2:=fun x y H Q=>∃i j,x=.int i/\y=.int j/\Q (g i j) H
def rU(g:Int->V):V->Hp->VK->Prop:=fun x H Q=>∃i,x=.int i/\Q (g i) H
section
variable{X : Cx}{a b c : Expr}{ta tb tc : TE}{pos : O4}
theorem JU(ha:PE X a ta)(hb:PE X b tb){pins:List (Addr×Obj)}{s:MB}{σ:St}{H:Hp}{R:V->V->Hp->Prop}(I:Inv X pins σ H s)
  (h:ta σ H fun x H1=>tb σ H1 fun y H2=>R x y H2) {Q:Value->MB->Prop} {f:Value->Value->Sem Value}
  (hf:∀v u s2 x y H2,Inv X pins σ H2 s2->RelV x v->RelV y u->R x y H2->MK (MV X.prog X.w) X.A (f v u) Q X.xe s2) :
  MK (MV X.prog X.w) X.A (NC a X.env) (fun v s₁=>MK (MV X.prog X.w) X.A (NC b X.env) (fun u s₂=>MK (MV X.prog X.w) X.A (f v u) Q X.xe s₂) X.xe s₁) X.xe s:=by
 refine thn (ha pins s σ H _ I h) fun v s1 ⟨x,H1,I1,r1,q1⟩=>?_;refine thn (hb pins s1 σ H1 _ I1 q1) fun u s2 ⟨y,H2,I2,r2,q2⟩=>?_;exact hf v u s2 x y H2 I2 r1 r2 q2
theorem IZ{op:Operator}{r:R2}(ho:OpR X (Ow op) r)(ha:PE X a ta)(hb:PE X b tb):PE X (.BinOp a op b pos) (tOp r ta tb):=by
 intro pins s σ H Q I h;exact wpAny_BinOp (JU ha hb I h fun v u s2 x y H2 I2 rx ry q=>ho pins s2 σ H2 x y v u Q I2 rx ry q)
theorem IX{op:UnaryOp}{r:V->Hp->VK->Prop}(ho:UnR X (unaryOp op) r)(ha:PE X a ta):PE X (.UnaryOp op a pos) (tUn r ta):=by
 intro pins s σ H Q I h;exact UnaryOp_ (thn (ha pins s σ H _ I h) fun v s1 ⟨x,H1,I1,r1,q1⟩=>ho pins s1 σ H1 x v Q I1 r1 q1)
theorem opI{f:Value->Value->Sem Value}{C:Int->Int->Prop}{g:Int->Int->Int}
  (rule:∀(i j:Int)(t u:Sn)(s:MB)(Q:Value->MB->Prop)(E:Value->MB->Prop),C i j->Q (.int (g i j) s.toks) { s with toks:=s.toks+1 }->MK (MV X.prog X.w) X.A (f (.int i t) (.int j u)) Q E s) :
  OpR X f (rI C fun i j=>.int (g i j)):=by
 intro pins s σ H x y v u Q I rx ry h;obtain⟨i,j,rfl,rfl,hc,q⟩:=h;obtain⟨t,rfl⟩:=rx;obtain⟨t',rfl⟩:=ry;exact rule i j t t' s _ _ hc ⟨.int (g i j),H,I.tok _,⟨_,rfl⟩,q⟩
theorem Lm{f:Value->Value->Sem Value}{g:Int->Int->Int}
  (rule:∀(i j:Int)(t u:Sn)(s:MB)(Q:Value->MB->Prop)(E:Value->MB->Prop),Q (.int (g i j) s.toks) { s with toks:=s.toks+1 }->MK (MV X.prog X.w) X.A (f (.int i t) (.int j u)) Q E s) :
  OpR X f (rI0 fun i j=>.int (g i j)):=by
 intro pins s σ H x y v u Q I rx ry h;obtain⟨i,j,rfl,rfl,q⟩:=h;obtain⟨t,rfl⟩:=rx;obtain⟨t',rfl⟩:=ry;exact rule i j t t' s _ _ ⟨.int (g i j),H,I.tok _,⟨_,rfl⟩,q⟩
theorem Jh{f:Value->Value->Sem Value}{g:Int->Int->Bool}
  (rule:∀(i j:Int)(t u:Sn)(s:MB)(Q:Value->MB->Prop)(E:Value->MB->Prop),Q (.bool (g i j)) s->MK (MV X.prog X.w) X.A (f (.int i t) (.int j u)) Q E s) :
  OpR X f (rI0 fun i j=>.bl (g i j)):=by
 intro pins s σ H x y v u Q I rx ry h;obtain⟨i,j,rfl,rfl,q⟩:=h;obtain⟨t,rfl⟩:=rx;obtain⟨t',rfl⟩:=ry;exact rule i j t t' s _ _ ⟨.bl (g i j),H,I,rfl,q⟩
def LS(i j:Int):Prop:=0<j/\j<1073741824
def JX(i j:Int):Prop:=(-(2 ^ 64)<i/\i<2 ^ 64)\/(-(2 ^ 64)<j/\j<2 ^ 64)
theorem JX.ok{i j:Int}(h:JX i j):IntMulOk i j:=by
 rcases h with⟨h1,h2⟩|⟨h1,h2⟩
 ·exact .of_left (intBits_le_64 h1 h2)
 ·exact .of_right (intBits_le_64 h1 h2)
theorem Gf:OpR X (Ow .Add) (rI0 fun i j=>.int (i+j)):=Lm fun _ _ _ _ _ _ _ q=>add_int q
theorem Gb:OpR X (Ow .Mult) (rI JX fun i j=>.int (i * j)):=opI fun _ _ _ _ _ _ _ hc q=>mul_int q hc.ok
theorem D8:OpR X (Ow .FloorDiv) (rI LS fun i j=>.int (i / j)):=opI fun i j _ _ _ _ _ hc q=>by
 have h1:(0:Int)<j:=hc.1;have h2:j<1073741824:=hc.2;exact floordiv_int (by omega) (by rw[Int.fdiv_eq_ediv_of_nonneg i (by omega)];exact q) (.inl (PyProof.noPylong_small (by omega)))
theorem Gc:OpR X (Ow .Mod) (rI (fun _ j=>0<j) fun i j=>.int (i % j)):=opI fun i j _ _ _ _ _ hc q=>by
 have h1:(0:Int)<j:=hc;exact mod_int' (by omega) (by rw[Int.fmod_eq_emod_of_nonneg i (by omega)];exact q)
theorem unI{f:Value->Sem Value}{g:Int->Int}
  (rule:∀(i:Int)(t:Sn)(s:MB)(Q:Value->MB->Prop)(E:Value->MB->Prop),Q (.int (g i) s.toks) { s with toks:=s.toks+1 }->MK (MV X.prog X.w) X.A (f (.int i t)) Q E s) :
  UnR X f (rU fun i=>.int (g i)):=by
 intro pins s σ H x v Q I rx h;obtain⟨i,rfl,q⟩:=h;obtain⟨t,rfl⟩:=rx;exact rule i t s _ _ ⟨.int (g i),H,I.tok _,⟨_,rfl⟩,q⟩
theorem FC:UnR X (unaryOp .USub) (rU fun i=>.int (-i)):=unI fun _ _ _ _ _ q=>neg_int q
end
noncomputable def Bg:V->V->Bool
 | .non,.non=>true | .non,.int _=>true | .int _,.non=>true | .non,.bl _=>true | .bl _,.non=>true | .non,.str _=>true | .str _,.non=>true
 | .int _,.int _=>true | .bl _,.bl _=>true | .str _,.str _=>true | .byt _,.byt _=>true
 | .int _,.str _=>true | .str _,.int _=>true | .bl _,.str _=>true | .str _,.bl _=>true
 | _,_=>false
def rEq:R2:=fun x y H Q=>Bg x y=true/\Q (.bl (decide (x=y))) H
def rNe:R2:=fun x y H Q=>Bg x y=true/\Q (.bl (!decide (x=y))) H
theorem yh{i j:Int}:decide (V.int i=V.int j)=(i == j):=by
 rw[OP];simp
theorem BR{i j:Bool}:decide (V.bl i=V.bl j)=(i == j):=by
 rw[OP];simp
theorem yg{i j:Str}:decide (V.str i=V.str j)=(i == j):=by
 rw[OP];simp
theorem yi{i j:Array UInt8}:decide (V.byt i=V.byt j)=(i.toList == j.toList):=by
 rw[OP];cases i;cases j;simp
section
variable{X : Cx}{a b c : Expr}{ta tb tc : TE}{pos : O4}
theorem bD{pins:List (Addr×Obj)}{σ:St}{H:Hp}{s:MB}{Q:VK}{k k':Bool}(I:Inv X pins σ H s)(q:Q (.bl k) H)(e:k=k'):EP X pins σ Q (.bool k') s:=by
 subst e;exact⟨.bl k,H,I,rfl,q⟩
theorem Je:OpR X (Mx .Eq) rEq:=by
 intro pins s σ H x y v u Q I rx ry h;obtain⟨hs,q⟩:=h;cases x with
 | non=>
  cases rx;cases y with
  | non=>cases ry;exact PySem.EqNone.eq_none_none (bD I q (by simp))
  | bl j=>cases ry;exact PySem.EqNone.eq_none_bool (bD I q (by simp))
  | int j=>obtain⟨t',rfl⟩:=ry;exact PySem.EqNone.eq_none_int (bD I q (by simp))
  | str j=>obtain⟨t',rfl⟩:=ry;exact PySem.EqNone.eq_none_str (bD I q (by simp))
  | _=>exact absurd (show false=true from hs) ML
 | bl i=>
  cases rx;cases y with
  | non=>cases ry;exact PySem.EqNone.eq_bool_none (bD I q (by simp))
  | bl j=>cases ry;exact eq_bool (bD I q BR)
  | str j=>obtain⟨t',rfl⟩:=ry;exact PySem.EqMixed.eq_bool_str (bD I q (by simp))
  | _=>exact absurd (show false=true from hs) ML
 | int i=>
  obtain⟨t,rfl⟩:=rx;cases y with
  | non=>cases ry;exact PySem.EqNone.eq_int_none (bD I q (by simp))
  | int j=>obtain⟨t',rfl⟩:=ry;exact eq_int (bD I q yh)
  | str j=>obtain⟨t',rfl⟩:=ry;exact PySem.EqMixed.eq_int_str (bD I q (by simp))
  | _=>exact absurd (show false=true from hs) ML
 | str i=>
  obtain⟨t,rfl⟩:=rx;cases y with
  | non=>cases ry;exact PySem.EqNone.eq_str_none (bD I q (by simp))
  | bl j=>cases ry;exact PySem.EqMixed.eq_str_bool (bD I q (by simp))
  | int j=>obtain⟨t',rfl⟩:=ry;exact PySem.EqMixed.eq_str_int (bD I q (by simp))
  | str j=>obtain⟨t',rfl⟩:=ry;exact eq_str (bD I q yg)
  | _=>exact absurd (show false=true from hs) ML
 | byt i=>
  obtain⟨t,rfl⟩:=rx;cases y with
  | byt j=>obtain⟨t',rfl⟩:=ry;exact PySem.W.eq_bytes (bD I q yi)
  | _=>exact absurd (show false=true from hs) ML
 | _=>cases y <;> exact absurd (show false=true from hs) ML
theorem Ja:OpR X (Mx .NotEq) rNe:=by
 intro pins s σ H x y v u Q I rx ry h;obtain⟨hs,q⟩:=h;cases x with
 | non=>
  cases rx;cases y with
  | non=>cases ry;exact PySem.EqNone.ne_none_none (bD I q (by simp))
  | bl j=>cases ry;exact PySem.EqNone.ne_none_bool (bD I q (by simp))
  | int j=>obtain⟨t',rfl⟩:=ry;exact PySem.EqNone.ne_none_int (bD I q (by simp))
  | str j=>obtain⟨t',rfl⟩:=ry;exact PySem.EqNone.ne_none_str (bD I q (by simp))
  | _=>exact absurd (show false=true from hs) ML
 | bl i=>
  cases rx;cases y with
  | non=>cases ry;exact PySem.EqNone.ne_bool_none (bD I q (by simp))
  | bl j=>cases ry;exact ne_bool (bD I q (congrArg not BR))
  | str j=>obtain⟨t',rfl⟩:=ry;exact PySem.EqMixed.ne_bool_str (bD I q (by simp))
  | _=>exact absurd (show false=true from hs) ML
 | int i=>
  obtain⟨t,rfl⟩:=rx;cases y with
  | non=>cases ry;exact PySem.EqNone.ne_int_none (bD I q (by simp))
  | int j=>obtain⟨t',rfl⟩:=ry;exact ne_int (bD I q (congrArg not yh))
  | str j=>obtain⟨t',rfl⟩:=ry;exact PySem.EqMixed.ne_int_str (bD I q (by simp))
  | _=>exact absurd (show false=true from hs) ML
 | str i=>
  obtain⟨t,rfl⟩:=rx;cases y with
  | non=>cases ry;exact PySem.EqNone.ne_str_none (bD I q (by simp))
  | bl j=>cases ry;exact PySem.EqMixed.ne_str_bool (bD I q (by simp))
  | int j=>obtain⟨t',rfl⟩:=ry;exact PySem.EqMixed.ne_str_int (bD I q (by simp))
  | str j=>obtain⟨t',rfl⟩:=ry;exact ne_str (bD I q (congrArg not yg))
  | _=>exact absurd (show false=true from hs) ML
 | byt i=>
  obtain⟨t,rfl⟩:=rx;cases y with
  | byt j=>obtain⟨t',rfl⟩:=ry;exact PySem.W.ne_bytes (bD I q (congrArg not yi))
  | _=>exact absurd (show false=true from hs) ML
 | _=>cases y <;> exact absurd (show false=true from hs) ML
theorem Jb:OpR X (Mx .Lt) (rI0 fun i j=>.bl (decide (i<j))):=Jh fun _ _ _ _ _ _ _ q=>lt_int q
theorem Jc:OpR X (Mx .LtE) (rI0 fun i j=>.bl (decide (i<=j))):=Jh fun _ _ _ _ _ _ _ q=>le_int q
theorem Jd:OpR X (Mx .Gt) (rI0 fun i j=>.bl (decide (j<i))):=Jh fun _ _ _ _ _ _ _ q=>gt_int q
theorem wH:OpR X (Mx .Lt) (fun x y H Q=>∃i j,x=.str i/\y=.str j/\Q (.bl (decide (i.cps.toList<j.cps.toList))) H):=by
 intro pins s σ H x y v u Q I rx ry h;obtain⟨i,j,rfl,rfl,q⟩:=h;obtain⟨t,rfl⟩:=rx;obtain⟨t',rfl⟩:=ry;exact lt_str (bD I q rfl)
theorem wI:OpR X (Mx .In) (fun x y H Q=>∃i j,x=.str i/\y=.str j/\Q (.bl (!(Md j i 0 j.length 1).isEmpty)) H):=by
 intro pins s σ H x y v u Q I rx ry h;obtain⟨i,j,rfl,rfl,q⟩:=h;obtain⟨t,rfl⟩:=rx;obtain⟨t',rfl⟩:=ry;exact in_str (bD I q rfl)
theorem Ge:OpR X (Mx .Is) (fun x y H Q=>y=.non/\Q (.bl (decide (x=.non))) H):=by
 intro pins s σ H x y v u Q I rx ry h;obtain⟨rfl,q⟩:=h;cases ry;refine is_none_gen (bD I q ?_)
 cases x <;> first
  | (cases rx;rfl)
  | (obtain⟨t,rfl⟩:=rx;rfl)
theorem By(b:Expr){op:Sr}(h:op≠.In:=by decide)(h2:op≠.NotIn:=by decide):Pk op b=false:=by
 have e1:(op == CmpOp.In)=false:=by cases op <;> first | rfl | exact absurd rfl h
 have e2:(op == CmpOp.NotIn)=false:=by cases op <;> first | rfl | exact absurd rfl h2
 cases b <;> simp[Pk,e1,e2]
theorem D4{op:Sr}{r:R2}(ho:OpR X (Mx op) r)(ha:PE X a ta)(hb:PE X b tb)(hm:Pk op b=false):PE X (.Compare a [op] [b] pos) (tOp r ta tb):=by
 intro pins s σ H Q I h;exact wpAny_Compare1 (JU ha hb I h fun v u s2 x y H2 I2 rx ry q=>ho pins s2 σ H2 x y v u Q I2 rx ry q) hm
noncomputable def FF(t:TE):TT:=fun σ H Q=>t σ H fun x H'=>∃k,x=.bl k/\Q k H'
theorem CT{op:Sr}{r:R2}(ho:OpR X (Mx op) r)(ha:PE X a ta)(hb:PE X b tb)(hm:Pk op b=false):PT X (.Compare a [op] [b] pos) (FF (tOp r ta tb)):=by
 intro pins s σ H Q I h
 refine wpAny_isTrue_Compare1 (thn (ha pins s σ H _ I h) fun v s1 ⟨x,H1,I1,r1,q1⟩=>thn (hb pins s1 σ H1 _ I1 q1) fun u s2 ⟨y,H2,I2,r2,q2⟩=>
  thn (ho pins s2 σ H2 x y v u _ I2 r1 r2 q2) fun c s3 ⟨z,H3,I3,r3,k,e,q3⟩=>?_) hm
 subst e;cases r3;exact ND ⟨H3,I3,q3⟩
noncomputable def Bd(r r':R2)(ta tb tc:TE):TE:=fun σ H Q=>ta σ H fun x H1=>tb σ H1 fun y H2=>r x y H2 fun z H3=>∃k,z=.bl k/\
 (if k=true then tc σ H3 fun w' H4=>r' y w' H4 Q else Q (.bl false) H3)
theorem zM{op op':Sr}{r r':R2}(ho:OpR X (Mx op) r)(ho':OpR X (Mx op') r')(ha:PE X a ta)(hb:PE X b tb)(hc:PE X c tc)
  (hm:TR [op,op'] [b,c]=false:=by with_unfolding_all rfl):PE X (.Compare a [op,op'] [b,c] pos) (Bd r r' ta tb tc):=by
 intro pins s σ H Q I h
 refine Compare_chain (thn (ha pins s σ H _ I h) fun v s1 ⟨x,H1,I1,r1,q1⟩=>chain_link (thn (hb pins s1 σ H1 _ I1 q1) fun u s2 ⟨y,H2,I2,r2,q2⟩=>
  thn (ho pins s2 σ H2 x y v u _ I2 r1 r2 q2) fun d s3 ⟨z,H3,I3,r3,k,e,q3⟩=>?_)) hm
 subst e;cases r3;refine ND ?_;cases k with
 | false=>exact ite_ff ⟨.bl false,H3,I3,rfl,q3⟩
 | true=>exact ite_tt (chain_last (thn (hc pins s3 σ H3 _ I3 q3) fun w' s4 ⟨z',H4,I4,r4,q4⟩=>ho' pins s4 σ H4 y z' u w' Q I4 r2 r4 q4))
theorem zD{op op':Sr}{r r':R2}(ho:OpR X (Mx op) r)(ho':OpR X (Mx op') r')(ha:PE X a ta)(hb:PE X b tb)(hc:PE X c tc)
  (hm:TR [op,op'] [b,c]=false:=by with_unfolding_all rfl):PT X (.Compare a [op,op'] [b,c] pos) (FF (Bd r r' ta tb tc)):=by
 intro pins s σ H Q I h
 refine isTrue_chain (thn (ha pins s σ H _ I h) fun v s1 ⟨x,H1,I1,r1,q1⟩=>test_link (thn (hb pins s1 σ H1 _ I1 q1) fun u s2 ⟨y,H2,I2,r2,q2⟩=>
  thn (ho pins s2 σ H2 x y v u _ I2 r1 r2 q2) fun d s3 ⟨z,H3,I3,r3,k,e,q3⟩=>?_)) hm
 subst e;cases r3;refine ND ?_;cases k with
 | false=>
  obtain⟨k',e',q'⟩:=q3;cases e';exact ite_ff ⟨H3,I3,q'⟩
 | true=>
  refine ite_tt (test_last (thn (hc pins s3 σ H3 _ I3 q3) fun w' s4 ⟨z',H4,I4,r4,q4⟩=>thn (ho' pins s4 σ H4 y z' u w' _ I4 r2 r4 q4) fun d' s5 ⟨z2,H5,I5,r5,k2,e2,q5⟩=>?_));subst e2;cases r5;exact ND ⟨H5,I5,q5⟩
def LO(K:M9)(x:V)(H:Hp)(k:Bool):Prop:=
 match x with
 | .non=>k=false
 | .bl b=>k=b
 | .int i=>k=(i != 0)
 | .str y=>y.length<=sizeLine/\k=((y.length:Int) != 0)
 | .byt y=>y.size<=sizeLine/\k=((y.size:Int) != 0)
 | .ref p=>(∃xs,SqL K H p xs/\k=!xs.isEmpty)\/(∃xs,SqT K H p xs/\k=!xs.isEmpty)\/∃kvs,H p=some (.dK kvs)/\k=!kvs.isEmpty
 | _=>False
theorem nN{κ:Type}{kvs:List (κ×V)}{vs:List (κ×Value)}(r:KV kvs vs):(!vs.isEmpty)=!kvs.isEmpty:=by
 cases r <;> rfl
theorem nM{xs:List V}{its:List Value}(r:Vals xs its):(!its.toArray.isEmpty)=!xs.isEmpty:=by
 cases r <;> simp
theorem qt:(sizeLine:Nat)<2 ^ 63:=by rw[My];decide
theorem mY:KI X (fun x H Q=>∃k,LO X.K x H k/\Q k H):=by
 intro pins s σ H x v Q I rx h;obtain⟨k,e,q⟩:=h;have hl:=qt;have hs:sizeLine=16777216:=My;cases x with
 | non=>
  cases rx;have e':k=false:=e;subst e';exact truthy_none ⟨H,I,q⟩
 | bl b=>
  cases rx;have e':k=b:=e;subst e';exact ND ⟨H,I,q⟩
 | int i=>
  obtain⟨t,rfl⟩:=rx;have e':k=(i != 0):=e;subst e';exact PySem.P.truthy_int ⟨H,I,q⟩
 | str y=>
  obtain⟨t,rfl⟩:=rx;obtain⟨hy,e'⟩:y.length<=sizeLine/\k=((y.length:Int) != 0):=e;subst e';exact PySem.P.truthy_str (by omega) ⟨H,I.tok _,q⟩
 | byt y=>
  obtain⟨t,rfl⟩:=rx;obtain⟨hy,e'⟩:y.size<=sizeLine/\k=((y.size:Int) != 0):=e;subst e';exact PySem.W.truthy_bytes (by omega) ⟨H,I.tok _,q⟩
 | ref p=>
  cases rx;have e':(∃xs,SqL X.K H p xs/\k=!xs.isEmpty)\/(∃xs,SqT X.K H p xs/\k=!xs.isEmpty)\/∃kvs,H p=some (.dK kvs)/\k=!kvs.isEmpty:=e;rcases e' with⟨xs,hx,e'⟩|⟨xs,hx,e'⟩|⟨kvs,hx,e'⟩
  ·subst e'
   obtain⟨its,r,pl,hz⟩:=I.list hx;have hlen:=r.length;exact wpAny_truthy_list pl.isList (by simp only[Mj];omega) ⟨H,I.tok _,by rw[nM r];exact q⟩
  ·subst e'
   obtain⟨its,r,pl,hz⟩:=I.tuple hx;have hlen:=r.length;exact truthy_tuple pl (by simp only[Mj];omega) ⟨H,I.tok _,by rw[nM r];exact q⟩
  ·subst e'
   obtain⟨hz,hS,vs,r,m⟩:kvs.length<=sizeLine/\(p == NL)=false/\∃vs,KV kvs vs/\s.heap.DictOf (aE X.prog X.w) p vs:=I.hok p _ hx;have hlen:kvs.length=vs.length:=NP r;exact wpAny_truthy_dict hS m (by omega) ⟨H,I.tok _,by rw[nN r];exact q⟩
 | _=>exact(show False from e).elim
theorem uB:OpR X (Ow .Add) (fun x y H Q=>∃i j,x=.str i/\y=.str j/\i.length+j.length<=sizeLine/\Q (.str (i++j)) H):=by
 intro pins s σ H x y v u Q I rx ry h;obtain⟨i,j,rfl,rfl,hz,q⟩:=h;obtain⟨t,rfl⟩:=rx;obtain⟨t',rfl⟩:=ry;exact add_str (fun t' tk=>⟨.str (i++j),H,I.tok _,⟨_,rfl⟩,q⟩) hz
theorem vals1{x:V}{us:List Value}(r:Vals [x] us):∃u,us=[u]/\RelV x u:=by
 cases r with
 | cons r1 r2=>cases r2;exact⟨_,rfl,r1⟩
theorem vals2{x y:V}{us:List Value}(r:Vals [x,y] us):∃u w',us=[u,w']/\RelV x u/\RelV y w':=by
 cases r with
 | cons r1 r2=>
  cases r2 with
  | cons r3 r4=>cases r4;exact⟨_,_,rfl,r1,r3⟩
theorem qQ:fF X (.type "int") (fun xs H Q=>(∃i,xs=[.int i]/\Q (.int i) H)\/∃k,xs=[.bl k]/\Q (.int (if k then 1 else 0)) H):=by
 intro pins s σ H xs us Q I r h;rcases h with⟨i,rfl,q⟩|⟨k,rfl,q⟩
 ·obtain⟨u,rfl,t,rfl⟩:=vals1 r
  exact call_int_int ⟨.int i,H,I,⟨_,rfl⟩,q⟩
 ·obtain⟨u,rfl,r1⟩:=vals1 r
  cases r1;exact call_int_bool ⟨.int (if k then 1 else 0),H,I.tok _,⟨_,rfl⟩,q⟩
theorem qP:fF X (.type "str") (fun xs H Q=>∃i,xs=[.int i]/\i.natAbs.log2<1920/\Q (.str (Qd i)) H):=by
 intro pins s σ H xs us Q I r h;obtain⟨i,rfl,hz,q⟩:=h;obtain⟨u,rfl,t,rfl⟩:=vals1 r;exact PySem.P.str_of_int hz ⟨.str _,H,I.tok _,⟨_,rfl⟩,q⟩
theorem AQ:fF X (.builtin "ord") (fun xs H Q=>∃x,xs=[.str x]/\x.length=1/\Q (.int (x.cps.getD 0 0:Nat)) H):=by
 intro pins s σ H xs us Q I r h;obtain⟨x,rfl,hz,q⟩:=h;obtain⟨u,rfl,t,rfl⟩:=vals1 r;exact ord_of_one hz ⟨.int _,H,I.tok _,⟨_,rfl⟩,q⟩
def LR(K:M9)(x:V)(H:Hp)(n:Nat):Prop:=
 match x with
 | .str y=>y.length<=sizeLine/\n=y.length
 | .byt y=>y.size<=sizeLine/\n=y.size
 | .ref p=>(∃xs,SqL K H p xs/\n=xs.length)\/∃xs,SqT K H p xs/\n=xs.length
 | _=>False
theorem pz:fF X (.builtin "len") (fun xs H Q=>∃x n,xs=[x]/\LR X.K x H n/\Q (.int n) H):=by
 intro pins s σ H xs us Q I r h;obtain⟨x,n,rfl,e,q⟩:=h;obtain⟨u,rfl,rx⟩:=vals1 r;have hl:=qt;have hs:sizeLine=16777216:=My;cases x with
 | str y=>
  obtain⟨t,rfl⟩:=rx;obtain⟨hy,e'⟩:y.length<=sizeLine/\n=y.length:=e;subst e';exact len_str (by omega) ⟨.int _,H,I.tok _,⟨_,rfl⟩,q⟩
 | byt y=>
  obtain⟨t,rfl⟩:=rx;obtain⟨hy,e'⟩:y.size<=sizeLine/\n=y.size:=e;subst e';exact PySem.W.len_bytes (by omega) ⟨.int _,H,I.tok _,⟨_,rfl⟩,q⟩
 | ref p=>
  cases rx;have e':(∃xs,SqL X.K H p xs/\n=xs.length)\/∃xs,SqT X.K H p xs/\n=xs.length:=e;rcases e' with⟨xs,hx,e'⟩|⟨xs,hx,e'⟩
  ·subst e'
   obtain⟨its,r',pl,hz⟩:=I.list hx;have hlen:=r'.length;exact Calls.call_len_list pl.isList (by simp only[Mj];omega) ⟨.int xs.length,H,I.tok _,⟨_,by simp only[Mj];rw[hlen]⟩,q⟩
  ·subst e'
   obtain⟨its,r',pl,hz⟩:=I.tuple hx;have hlen:=r'.length;exact len_tuple pl (by simp only[Mj];omega) ⟨.int xs.length,H,I.tok _,⟨_,by simp only[Mj];rw[hlen]⟩,q⟩
 | _=>exact(show False from e).elim
end
end L2
namespace L2
open PySem PySem.Spec PyProof.Rows
theorem xa{h:Heap}{dx:Addr}{mA:Str->Option Value}(n:h.Ns1 dx mA):∃od,h.get? dx=some od/\∀name,RL name od=some (mA name):=by
 obtain⟨o,es,ep,ho,hd,hk,_,hm⟩:=n;refine⟨o,ho,fun name=>?_⟩;have e:=hm name;unfold nsFind findBy at e;rw[← TQ] at e;unfold RL;rw[hd];dsimp only
 split
 ·rename_i y q
  rw[q] at e;exact congrArg some e
 ·rename_i q
  rw[q] at e
  have a:es.toList.any (·.refKey)=false:=by
   rw[List.any_eq_false];intro y hy;obtain⟨z,t,hkey⟩:=hk y (Array.mem_toList_iff.mp hy);simp[DictEntry.refKey,hkey]
  have a':¬ es.toList.any (·.refKey)=true:=by rw[a];exact ML
  rw[if_neg a'];exact congrArg some e
theorem sv.some_of{v:V}{o:Option Value}(r:sv (some v) o):∃u,o=some u/\RelV v u:=by
 cases o with
 | none=>exact(show False from r).elim
 | some u=>exact⟨u,rfl,r⟩
theorem sv.none_of{o:Option Value}(r:sv none o):o=none:=by
 cases o with
 | none=>rfl
 | some u=>exact(show False from r).elim
theorem xE{v:V}{u:Value}(r:RelV v u):PySem.W.handedIn u=true:=by
 cases v with
 | non=>cases (show u=N3 from r);rfl
 | bl b=>cases (show u=Rh b from r);rfl
 | int i=>obtain⟨t,e⟩:=(show ∃t,u=RC i t from r);cases e;rfl
 | str x=>obtain⟨t,e⟩:=(show ∃t,u=Pl x t from r);cases e;rfl
 | byt b=>obtain⟨t,e⟩:=(show ∃t,u=Value.bytes b t from r);cases e;rfl
 | flt b=>obtain⟨t,e⟩:=(show ∃t,u=Value.float b t from r);cases e;rfl
 | ref a=>cases (show u=Mq a from r);rfl
 | ty n=>cases (show u=OW n from r);rfl
structure Con(K:M9)(C:Addr)(f:Str)(v:V)(u:Value):Prop where
 at_:P7 K (.ref C) f=some (some u)
 rel:RelV v u
 get:Sy K u "__get__"=some none
 cp:PySem.W.copiedNames.contains f=false
section
variable{X : Cx}{pins : List (Addr×Obj)}{σ : St}{H : Hp}{s : MB}{a C dx : Addr}{fs : List (Str×V)}{f : Str}{v : V}{A : Mi}{E : Value → MB → Prop}
theorem Ek{prog:MP}{w:Me}{env:QX}{e:Expr}{f:Str}{pos:O4}{s:MB}{Q:Value->MB->Prop}(hb:OZ e f env (NC e env)=NC e env)
  (h:MK (MV prog w) A (NC e env) (fun o s₁=>MK (MV prog w) A (getAttr o f true) Q E s₁) E s):MK (MV prog w) A (NC (.Attribute e f pos) env) Q E s:=
 Attribute_any_ h (by rw[arm_eval_Attribute,hb])
end
end L2
namespace L2
open PySem PySem.Spec PyProof.Rows
structure Room(k:Nat)(A:Mi):Prop where
 hd:A.handled=none
 dp:A.depth+3 * k+5<recursionLimit
 un:A.units+16 * k+200<cLine
theorem Room.mono{j k:Nat}{A:Mi}(r:Room k A)(h:j<=k):Room j A:=⟨r.hd,by have:=r.dp;omega,by have:=r.un;omega⟩
theorem Room.deeper{k:Nat}{A:Mi}(r:Room (k+1) A)(env:QX):Room k (A.deeper env):=
 ⟨r.hd,by have:=r.dp;show A.depth+1+3 * k+5<_;omega,by have:=r.un;show A.units+3+16 * k+200<_;omega⟩
theorem uH {A:Mi} {C:Addr} {us:List Value} {kw:List (Str×Value)}:(A.under (.builtin "type.__call__" ⟨.ref C::us,kw⟩)).depth=A.depth+1:=by
 first | rfl | simp[SK,Code.weight,Code.isCreation,Code.isGuard,Code.isCaller,Code.frames,Code.isFrame,guardIds]
theorem uG {A:Mi} {C:Addr} {us:List Value} {kw:List (Str×Value)}:(A.under (.builtin "type.__call__" ⟨.ref C::us,kw⟩)).units=A.units+1:=by
 first | rfl | simp[SK,Code.cUnits,Code.frames,Code.isFrame]
theorem Room.make {k:Nat} {A:Mi} (r:Room (k+1) A) (C:Addr) (us:List Value) (kw:List (Str×Value)):Room k (A.under (.builtin "type.__call__" ⟨.ref C::us,kw⟩)):=
 ⟨r.hd,by have:=r.dp;rw[uH];omega,by have:=r.un;rw[uG];omega⟩
theorem Room.depth{k:Nat}{A:Mi}(r:Room k A):A.depth<recursionLimit:=by have:=r.dp;omega
theorem Room.units{k:Nat}{A:Mi}(r:Room k A):A.units+64<cLine:=by have:=r.un;omega
def HX:TA:=fun _ H Q=>Q [] H
noncomputable def zc(ta:TE)(tr:TA):TA:=fun σ H Q=>ta σ H fun x H1=>tr σ H1 fun xs H2=>Q (x::xs) H2
section
variable{X : Cx}{e : Expr}{es : List Expr}{te : TE}{t : TA}{pos : O4}
theorem gg:PA X [] HX:=fun _ _ _ _ H Q I h=>Calls.spliced_nil ⟨[],H,I,.nil,h⟩
theorem cg(ha:PE X e te)(hr:PA X es t)(hs:MO (e::es) X.env=(false,NC e X.env)::MO es X.env:=by rfl):PA X (e::es) (zc te t):=by
 intro pos pins s σ H Q I h;rw[hs];show MK _ _ (spliced ((false,NC e X.env)::Nq pos (MO es X.env))) _ _ s;refine Calls.spliced_cons (thn (ha pins s σ H _ I h) fun u s1 ⟨x,H1,I1,r1,q1⟩=>?_);exact thn (hr pos pins s1 σ H1 _ I1 q1) fun us s2 ⟨xs,H2,I2,r2,q2⟩=>⟨x::xs,H2,I2,.cons r1 r2,q2⟩
def KU(t:TA):TE:=fun σ H Q=>t σ H fun xs H1=>xs.length<=sizeLine/\∀p,H1 p=none->Q (.ref p) (upd H1 p (.tup xs))
def L7(t:TA):TE:=fun σ H Q=>t σ H fun xs H1=>xs.length<=sizeLine/\∀p,H1 p=none->Q (.ref p) (upd H1 p (.lst xs))
theorem G5{x1}(h:PA X es t):PE X (.Tuple es x1 pos) (KU t):=by
 intro pins s σ H Q I hq;refine wpAny_Tuple_spliced (thn (h pos pins s σ H _ I hq) fun us s1 ⟨xs,H1,I1,r,z,q⟩=>⟨by rw[← r.length];exact z,?_⟩);have hf:H1 s1.heap.objs.size=none:=I1.hok.fresh (MX _);refine⟨.ref s1.heap.objs.size,upd H1 s1.heap.objs.size (.tup xs),I1.laid (t':=s1.toks) (fun b u e=>MD _ e) (MX _) ?_,rfl,q _ hf⟩;exact⟨z,us,r,⟨_,MZ _ rfl,rfl,⟨_,rfl⟩,fun _=>rfl⟩⟩
theorem G8(h:PA X es t):PE X (.List es pos) (L7 t):=by
 intro pins s σ H Q I hq;refine wpAny_List_spliced (thn (h pos pins s σ H _ I hq) fun us s1 ⟨xs,H1,I1,r,z,q⟩=>⟨by rw[← r.length];exact z,?_⟩);have hf:H1 s1.heap.objs.size=none:=I1.hok.fresh (MX _);refine⟨.ref s1.heap.objs.size,upd H1 s1.heap.objs.size (.lst xs),I1.laid (t':=s1.toks) (fun b u e=>MD _ e) (MX _) ?_,rfl,q _ hf⟩;exact⟨z,us,0,r,MZ _ rfl⟩
end
abbrev Sp:=List V->Hp->VK->XK->Prop
abbrev CXT:=List QX->Hp->MB->XK->Value->MB->Prop
structure Env0(P:MP)(w:Me)(K:M9)(mg:Str->Option Value)(base:Heap)(A:Mi)(outer:List QX)(s:MB)(H:Hp):Prop where
 frames:A.frames=some outer
 mod:Mod K mg base
 bs:∀b o,base.get? b=some o->s.heap.get? b=some o/\H b=none
 bsz:base.objs.size<=s.heap.objs.size
 funs:s.heap.FunFrames base outer
 frf:∀b∈frs outer,H b=none
 hok:HOk P w H s.heap
 bare:Q1 s.gens
def CE(outer:List QX)(P:MP)(w:Me)(H:Hp)(s:MB)(Q:VK)(u:Value)(s':MB):Prop:=
 ∃v H',s'.os=s.os/\Q1 s'.gens/\Un (frs outer) [] H H' s.heap s'.heap/\HOk P w H' s'.heap/\RelV v u/\Q v H'
def CR(CX:CXT)(outer:List QX)(P:MP)(w:Me)(H:Hp)(s:MB)(Q:VK)(E:XK)(r:Th)(s':MB):Prop:=
 match r with
 | .ok (.ret u)=>CE outer P w H s Q u s'
 | .ok _=>False
 | .error e=>CX outer H s E e s'
structure FnOk(P:MP)(w:Me)(K:M9)(mg:Str->Option Value)(base:Heap)(CX:CXT)(k:Nat)(f:Addr)(fd:FuncData)(ps:List Str)(sp:Sp):Prop where
 len:∀vs H Q E,sp vs H Q E->vs.length=ps.length
 run:∀(A:Mi)(outer:List QX)(s:MB)(H:Hp)(args:Args)(us:List Value)(vs:List V)(Q:VK)(E:XK),Room k A->Env0 P w K mg base A outer s H->Rm s fd args (ps.zip us)->Vals vs us->sp vs H Q E->
  Pj (MV P w) A (.call (.ref f) args) (CR CX outer P w H s Q E) s
theorem Env0.make{P:MP}{w:Me}{K:M9}{mg:Str->Option Value}{base:Heap}{A:Mi}{outer:List QX}{s:MB}{H:Hp}(e:Env0 P w K mg base A outer s H)(C:Addr)(us:List Value)(kw:List (Str×Value)) :
  Env0 P w K mg base (A.under (.builtin "type.__call__" ⟨.ref C::us,kw⟩)) outer s H:=⟨by first | exact e.frames | (simpa [SK,Code.envs,Code.isFrame,pushEnvs] using e.frames),e.mod,e.bs,e.bsz,e.funs,e.frf,e.hok,e.bare⟩
section
variable{X : Cx}{pins : List (Addr×Obj)}{σ : St}{H : Hp}{s s' : MB}
theorem Inv.env0(I:Inv X pins σ H s):Env0 X.prog X.w X.K X.mg X.base X.A X.stack s H:=
 ⟨I.ok.frames,I.ok.mod,I.bs,Mm I.ok.bsz I.sz,I.stack,I.stkFree,I.hok,I.bare⟩
theorem Inv.after{Q:VK}{u:Value}(I:Inv X pins σ H s)(h:CE X.stack X.prog X.w H s Q u s'):EP X pins σ Q u s':=by
 obtain⟨v,H',os,bare,un,hok,r,q⟩:=h;obtain⟨hh,g,d,t,os'⟩:=s';obtain rfl:os'=s.os:=os;exact⟨v,H',I.call (h':=hh) (g':=g) (d':=d) (t':=t) (ch:=[]) un hok bare (fun b z=>absurd z (by simp)),r,q⟩
end
noncomputable def FI(sp:Sp)(dvs:List V)(E:XK)(t:TA):TE:=fun σ H Q=>t σ H fun vs H1=>sp (vs++dvs) H1 Q E
def Binds(K:M9)(fd:FuncData)(ps:List Str)(ds:List Value):Prop:=
 ∀(s:MB)(us:List Value),K.In s.heap->(us++ds).length=ps.length->Rm s fd ⟨us,[]⟩ (ps.zip (us++ds))
theorem Binds.all{K:M9}{fd:FuncData}{ps:List Str}(h:∀us:List Value,us.length=ps.length->Rg fd ⟨us,[]⟩=pure (ps.zip us)):Binds K fd ps []:=fun s us _ hl=>by
 rw[N1] at hl ⊢;exact .of_eq (h us hl)
def Passes(CX:CXT)(X:Cx)(E:XK):Prop:=∀(pins:List (Addr×Obj))(σ:St)(H:Hp)(s:MB)(e:Value)(s':MB),Inv X pins σ H s->CX X.stack H s E e s'->X.xe e s'
section
variable{X : Cx}{CX : CXT}{k : Nat}{f C : Addr}{fd : FuncData}{ps : List Str}{sp : Sp}{dvs : List V}{ds : List Value}{E : XK}{x m : Str}{p pos apos : O4}{e o : Expr}{es : List Expr}{ta : TE}{t : TA}
theorem Bj{pins:List (Addr×Obj)}{σ:St}{H:Hp}{s:MB}{Q:VK}{us:List Value}{vs:List V}(F:FnOk X.prog X.w X.K X.mg X.base CX k f fd ps sp)(hr:Room k X.A)(hb:Binds X.K fd ps ds)(hd:Vals dvs ds)(hx:Passes CX X E)
  (I:Inv X pins σ H s) (r:Vals vs us) (h:sp (vs++dvs) H Q E):MK (MV X.prog X.w) X.A (call (.ref f) us) (EP X pins σ Q) X.xe s:=by
 have r2:Vals (vs++dvs) (us++ds):=r.append hd;have hl:(us++ds).length=ps.length:=by rw[← r2.length];exact F.len _ _ _ _ h
 refine Pf (PR (F.run X.A X.stack s H ⟨us,[]⟩ (us++ds) (vs++dvs) Q E hr I.env0 (hb s us I.kIn hl) r2 h) fun r s' hq=>?_);cases r with
 | error e=>exact hx pins σ H s e s' I hq
 | ok fl=>
  cases fl with
  | ret u=>exact I.after hq
  | next=>exact MG hq
  | brk=>exact MG hq
  | cont=>exact MG hq
theorem wB(F:FnOk X.prog X.w X.K X.mg X.base CX k f fd ps sp)(hr:Room k X.A)(hg:Gl X x)(hm:X.mg x=some (.ref f))(hk:NO X.K (.ref f)=true)(hb:Binds X.K fd ps ds)(hd:Vals dvs ds)(hx:Passes CX X E)
  (ha:PA X (e::es) t) (hdb:(x == ("__debug__":Str))=false:=by decide) (he:MO (e::es) X.env=(false,NC e X.env)::MO es X.env:=by rfl) (hpl:(Nq pos (MO es X.env)).any (·.1)=false:=by rfl) :
  PE X (.Call (.Name x p) (e::es) [] pos) (FI sp dvs E t):=by
 intro pins s σ H Q I h;refine OB (jc I hg hm ?_ hdb);refine Qr (h₀:=X.base) I.ok.mod.kin hk (thn (ha pos pins s σ H _ I h) fun us s1 ⟨vs,H1,I1,r,q⟩=>⟨I1.kIn,?_⟩) he hpl;exact Bj F hr hb hd hx I1 r q
theorem zN(F:FnOk X.prog X.w X.K X.mg X.base CX k f fd ps sp)(hr:Room k X.A)(hg:Gl X x)(hm:X.mg x=some (.ref f))(hk:NO X.K (.ref f)=true)(hb:Binds X.K fd ps ds)(hd:Vals dvs ds)(hx:Passes CX X E)
  (hdb:(x == ("__debug__":Str))=false:=by decide):PE X (.Call (.Name x p) [] [] pos) (FI sp dvs E HX):=by
 intro pins s σ H Q I h;refine OB (jc I hg hm ?_ hdb);exact PySem.W.callWith_K0 I.kIn hk (Bj (us:=[]) F hr hb hd hx I .nil h)
end
def PK(X:Cx)(kws:List Ti)(t:TA):Prop:=
 ∀(pos:O4)(pins:List (Addr×Obj))(s:MB)(σ:St)(H:Hp)(Q:List V->Hp->Prop),Inv X pins σ H s->t σ H Q->MK (MV X.prog X.w) X.A (evalAll ((Ox pos (Ny kws X.env)).map (·.2))) (AP X pins σ Q) X.xe s
section
variable{X : Cx}{CX : CXT}{k : Nat}{f C : Addr}{fd : FuncData}{ps ks : List Str}{sp : Sp}{E : XK}{x m : Str}{p pos apos kpos : O4}{e o : Expr}{es : List Expr}{kws : List Ti}{te ta : TE}{t tk : TA}{nm : Option Str}
theorem G3:PK X [] HX:=fun _ _ _ _ H Q I h=>wpAny_evalAll_nil ⟨[],H,I,.nil,h⟩
theorem D0(ha:PE X e te)(hr:PK X kws t):PK X (⟨nm,e,kpos⟩::kws) (zc te t):=by
 intro pos pins s σ H Q I h;show MK _ _ (evalAll ((do let v<- NC e X.env;QK pos;pure v)::(Ox pos (Ny kws X.env)).map (·.2))) _ _ s;refine wpAny_evalAll_cons (MA (thn (ha pins s σ H _ I h) fun u s1 ⟨x,H1,I1,r1,q1⟩=>MA (Pi (ME ?_))));exact thn (hr pos pins s1 σ H1 _ I1 q1) fun us s2 ⟨xs,H2,I2,r2,q2⟩=>⟨x::xs,H2,I2,.cons r1 r2,q2⟩
variable{g : List Value → List Value → List Value}{gV : List V → List V → List V}
end
structure FnScope(N P:List Str)(sc:Scope):Prop where
 kind:sc.kind=.function
 co:sc.isCoroutine=false
 gen:sc.isGenerator=false
 nd:N.Nodup
 pre:N.take P.length=P
 par:∀x∈P,sc.names.lookup x=some .local\/sc.names.lookup x=some .cell
 nofree:∀y∈sc.names,y.2≠.free
theorem qS{kindOf:Str->Option PB}{x:Str}:∀{binds:List (Str×Value)}{m:Str->Option Value},(∀v,(x,v) ∉ binds)->TY kindOf binds m x=m x
 | [],_,_=>rfl
 | (n,v)::r,m,h=>by
  unfold TY;rw[qS fun w hw=>h w (MY _ hw)]
  split
  ·have:x≠n:=by rintro rfl;exact h v Mb
   simp[this]
  ·rfl
theorem qU{kindOf:Str->Option PB}{x:Str}:∀{binds:List (Str×Value)}{m:Str->Option Value},(∀v,(x,v) ∉ binds)->TZ kindOf binds m x=m x
 | [],_,_=>rfl
 | (n,v)::r,m,h=>by
  unfold TZ;rw[qU fun w hw=>h w (MY _ hw)]
  split
  ·rfl
  ·have:x≠n:=by rintro rfl;exact h v Mb
   simp[this]
theorem qT{kindOf:Str->Option PB}{x:Str}{v:Value}:∀{P:List Str}{vs:List Value}{i:Nat}{m:Str->Option Value},P.Nodup->P[i]?=some x->vs[i]?=some v->kindOf x=some .local->
  TY kindOf (P.zip vs) m x=some v
 | [],_,_,_,_,h,_,_=>by simp at h
 | _::_,[],_,_,_,_,h,_=>by simp at h
 | p::P,w::vs,0,m,nd,h1,h2,hk=>by
  simp at h1 h2;subst h1;subst h2;show TY kindOf ((p,w)::P.zip vs) m p=_;unfold TY;rw[qS fun v hv=>(Mo.mp nd).1 (QV hv).1,if_pos hk];simp
 | p::P,w::vs,i+1,m,nd,h1,h2,hk=>by
  show TY kindOf ((p,w)::P.zip vs) m x=_;unfold TY;exact qT (i:=i) (Mo.mp nd).2 (by simpa using h1) (by simpa using h2) hk
theorem qV{kindOf:Str->Option PB}{x:Str}{v:Value}:∀{P:List Str}{vs:List Value}{i:Nat}{m:Str->Option Value},P.Nodup->P[i]?=some x->vs[i]?=some v->kindOf x≠some .local->
  TZ kindOf (P.zip vs) m x=some v
 | [],_,_,_,_,h,_,_=>by simp at h
 | _::_,[],_,_,_,_,h,_=>by simp at h
 | p::P,w::vs,0,m,nd,h1,h2,hk=>by
  simp at h1 h2;subst h1;subst h2;show TZ kindOf ((p,w)::P.zip vs) m p=_;unfold TZ;rw[qU fun v hv=>(Mo.mp nd).1 (QV hv).1,if_neg hk];simp
 | p::P,w::vs,i+1,m,nd,h1,h2,hk=>by
  show TZ kindOf ((p,w)::P.zip vs) m x=_;unfold TZ;exact qV (i:=i) (Mo.mp nd).2 (by simpa using h1) (by simpa using h2) hk
noncomputable def start(N:List Str)(vs:List V):St:=vs.map some++NS (N.length-vs.length) none
noncomputable def ym(CX:CXT)(P:MP)(w:Me)(K:M9)(mg:Str->Option Value)(base:Heap)(N:List Str)(qual:Str)(scope:Scope)(f:Addr)(cd:Value)(A:Mi)(outer:List QX)(s:MB)(H:Hp)(E:XK):Cx where
 prog:=P
 w:=w
 K:=K
 mg:=mg
 base:=base
 A:=A.deeper (Og qual scope s.heap.objs.size f cd)
 N:=N
 s₀:=s
 H₀:=H
 env:=Og qual scope s.heap.objs.size f cd
 outer:=outer
 stack:=Og qual scope s.heap.objs.size f cd::outer
 ex:=[]
 calm:=true
 fn:=fun _=>true
 pn:=[]
 xe:=fun e s'=>MK (MV P w) (A.deeper (Og qual scope s.heap.objs.size f cd)) (leaving (Og qual scope s.heap.objs.size f cd) e) (fun _ s''=>CX outer H s E e s'') (fun e' s''=>CX outer H s E e' s'') s'
theorem tT{sc:Scope}{n:Nat}{x:Str}(h:sc.names.lookup x=some .cell):∃c,(Rx n sc.names []).lookup x=some c:=by
 have q:=Q9 sc.names n [] (.inl h);exact Rp.mp q
theorem qC{CX:CXT}{P:MP}{w:Me}{K:M9}{mg:Str->Option Value}{base:Heap}{N ps:List Str}{qual:Str}{scope:Scope}{f:Addr}{cd:Value}{A:Mi}{outer:List QX}{s s1:MB}{H:Hp}{E:XK}{us:List Value}{vs:List V}
  (S:FnScope N ps scope) (hd:A.handled=none) (e0:Env0 P w K mg base A outer s H) (hl:vs.length=ps.length) (r:Vals vs us)
  (x:InCallC s s.heap.objs.size (TY (Og qual scope s.heap.objs.size f cd).kindOf (ps.zip us) fun _=>none) (Rx (s.heap.objs.size+1) scope.names []) (TZ (Og qual scope s.heap.objs.size f cd).kindOf (ps.zip us) fun _=>none) s1) :
  Inv (ym CX P w K mg base N qual scope f cd A outer s H E) [] (start N vs) H s1:=by
 have hpl:ps.length<=N.length:=by have:=congrArg Np S.pre;rw[Mn] at this;omega
 obtain⟨h1,tk,rfl,hk⟩:=x.done;have noA:∀b:Addr,b ∉ (ym CX P w K mg base N qual scope f cd A outer s H E).ex:=fun b z=>absurd (show b∈([]:List Addr) from z) (by simp)
 refine⟨⟨e0.mod,S.kind,rfl,rfl,MX _,fun y z c h1 h2=>?_,fun y hy=>?_,fun y c _ h=>?_,fun _=>hd,Around.frames_deeper e0.frames,.inr ⟨rfl,rfl⟩,fun b z=>absurd z (noA b),e0.bs,e0.bsz,fun b _ _=>noA b,fun b z=>absurd z (noA b),e0.funs,e0.frf⟩,
  rfl,e0.bare,Un.kept hk,⟨_,x.toInCall.ns,fun i y v h1 h2 h3=>?_⟩,fun y c h=>⟨_,x.cell y c h⟩,e0.hok.fresh (MX _),fun y c h=>?_,fun p hp=>absurd (show p∈([]:List (Addr×Obj)) from hp) (by simp),e0.hok.kept hk,?_⟩
 ·exact name_of_addr x.apart (NG h1) (NG h2)
 ·have hy:scope.names.lookup y=some .cell\/scope.names.lookup y=some .free:=hy
  rcases hy with hy | hy
  ·exact tT hy
  ·exact absurd rfl (S.nofree _ (NG hy))
 ·exact QT (x.above y c (NG h))
 ·have hi:i<vs.length:=by
   unfold start at h2
   by_cases hi:i<vs.length
   ·exact hi
   ·rw[N9 (by simpa using hi)] at h2
    rw[N8] at h2;split at h2 <;> cases h2
  have ha:vs[i]?=some v:=by
   unfold start at h2;rw[Mw (by simpa using hi),MS] at h2;cases e:vs[i]? with
   | none=>rw[e] at h2;cases h2
   | some a=>rw[e] at h2;cases h2;rfl
  obtain⟨u,hu,rv⟩:=r.get ha
  have hp:ps[i]?=some y:=by
   rw[← S.pre,List.getElem?_take_of_lt (by omega)];exact h1
  have ndP:ps.Nodup:=by rw[← S.pre];exact S.nd.sublist (Tt _ _)
  refine⟨u,rv,?_⟩;rcases S.par y (Nf hp) with k | k
  ·exact .inl ⟨k,qT ndP hp hu k⟩
  ·obtain⟨c,e⟩:=tT (n:=s.heap.objs.size+1) k
   refine .inr ⟨.inl k,c,e,?_⟩;have q:=x.cell y c e;rw[qV ndP hp hu (by show scope.names.lookup y≠_;rw[k];decide)] at q;exact q
 ·exact e0.hok.fresh (QT (x.above y c (NG h)))
 ·unfold start
  show _=N.length;rw[MW,MC,Qa];omega
theorem GZ{CX:CXT}{P:MP}{w:Me}{K:M9}{mg:Str->Option Value}{base:Heap}{k:Nat}{f:Addr}{name qual:Str}{params:Arguments}{body:List Stmt}{scope:Scope}{dV kV doc pm cdv ct oc:Value}{an od:Option Addr}
  {osl:Array (Option Value)} {N ps:List Str} {sp:Sp} (lk:K.lookup f=some ⟨oc,od,.func (NJ name qual params body scope dV kV doc pm an cdv ct),osl⟩) (hcd:OH K cdv qual=true) (S:FnScope N ps scope)
  (len:∀vs H Q E,sp vs H Q E->vs.length=ps.length)
  (hbody:∀(A:Mi)(outer:List QX)(s:MB)(H:Hp)(vs:List V)(Q:VK)(E:XK),Room k (A.deeper (Og qual scope s.heap.objs.size f cdv))->sp vs H Q E->
   ∃t,PSs (ym CX P w K mg base N qual scope f cdv A outer s H E) body t/\t { nx:=fun _ H'=>Q .non H',rt:=Q } (start N vs) H) :
  FnOk P w K mg base CX (k+1) f (NJ name qual params body scope dV kV doc pm an cdv ct) ps sp:=by
 refine⟨len,fun A outer s H args us vs Q E hr e0 hb r hsp=>?_⟩;have hl:=len _ _ _ _ hsp;have KX:K.In s.heap:=e0.mod.kin.keeps fun b o e=>(e0.bs b o e).1;have lim:s.heap.NoLimit:=e0.mod.nolimit.keeps fun b o e=>(e0.bs b o e).1
 have hkind:∀y∈ps.zip us,scope.names.lookup y.1=some .local\/(scope.names.lookup y.1=some .cell/\((Rx (s.heap.objs.size+1) scope.names []).lookup y.1).isSome=true):=fun ⟨n,v⟩ hy=>by
  rcases S.par n (QV hy).1 with q | q
  ·exact .inl q
  ·exact .inr ⟨q,Q9 _ _ _ (.inl q)⟩
 refine codeAny_call_function hr.depth (KX _ _ lk) rfl S.co S.gen rfl (Sm KX hcd) (hb _ _ _ _ ?_);refine Sh S.kind hkind fun env he s1 x=>?_;subst he;refine⟨lim.keeps x.toInCall.keep,codeAny_func ?_⟩;obtain⟨t,ht,hq⟩:=hbody A outer s H vs Q E (hr.deeper _) hsp;have I:Inv (ym CX P w K mg base N qual scope f cdv A outer s H E) [] (start N vs) H s1:=qC S hr.hd e0 hl r x;refine N7 (ht [] s1 (start N vs) H _ I hq) (fun fl s' hs=>?_) fun e s' hs=>hs
 have fin:∀{σ':St}{H':Hp}{v:V}{u:Value},Inv (ym CX P w K mg base N qual scope f cdv A outer s H E) [] σ' H' s'->RelV v u->Q v H'->CE outer P w H s Q u s':=
  fun {σ' H' v u} J rv q=>⟨v,H',J.os,J.bare,J.base,J.hok,rv,q⟩
 cases fl with
 | ret u=>
  obtain⟨v,σ',H',J,rv,q⟩:=hs;exact fin J rv q
 | next=>
  obtain⟨σ',H',J,q⟩:=hs;exact fin (v:=V.non) (u:=N3) J rfl q
 | brk=>
  obtain⟨_,_,_,q⟩:=hs;exact MG q
 | cont=>
  obtain⟨_,_,_,q⟩:=hs;exact MG q
end L2
namespace L2
open PySem PySem.Spec PyProof.Rows
section
variable{X : Cx}{x : Str}{p pos : O4}{e : Expr}{es : List Expr}{t : TA}{id T : String}{r : List V → Hp → VK → Prop}
noncomputable def tCB(r:List V->Hp->VK->Prop)(t:TA):TE:=fun σ H Q=>t σ H fun vs H1=>r vs H1 Q
theorem oy (hc:fF X (.builtin id) r) (hg:Gl X x) (hm:X.mg x=none) (hv:Nv x=some (.builtin id)) (ha:PA X (e::es) t) (hn:x≠"__name__":=by decide) (hdb:(x == ("__debug__":Str))=false:=by decide)
  (he:MO (e::es) X.env=(false,NC e X.env)::MO es X.env:=by rfl) (hpl:(Nq pos (MO es X.env)).any (·.1)=false:=by rfl):PE X (.Call (.Name x p) (e::es) [] pos) (tCB r t):=by
 intro pins s σ H Q I h;refine OB (lY I hg hm hv ?_ hn hdb);exact PyProof.Rows.callWith_builtin1 (thn (ha pos pins s σ H _ I h) fun us s1 ⟨vs,H1,I1,r1,q1⟩=>hc pins s1 σ H1 vs us Q I1 r1 q1) he hpl
theorem qf (hc:fF X (.type T) r) (hg:Gl X x) (hm:X.mg x=none) (hv:Nv x=some (.type T)) (ha:PA X (e::es) t) (hn:x≠"__name__":=by decide) (hdb:(x == ("__debug__":Str))=false:=by decide)
  (he:MO (e::es) X.env=(false,NC e X.env)::MO es X.env:=by rfl) (hpl:(Nq pos (MO es X.env)).any (·.1)=false:=by rfl):PE X (.Call (.Name x p) (e::es) [] pos) (tCB r t):=by
 intro pins s σ H Q I h;refine OB (lY I hg hm hv ?_ hn hdb);exact OL (thn (ha pos pins s σ H _ I h) fun us s1 ⟨vs,H1,I1,r1,q1⟩=>hc pins s1 σ H1 vs us Q I1 r1 q1) he hpl
end
end L2
namespace HT
open PySem PyProof.Rows
section
variable{prog : MP}{w : Me}{A : Mi}{E : Value → MB → Prop}{s : MB}
noncomputable def sIx(n d:Nat):Option Int->Nat
 | none=>d
 | some v=>if v<0 then (v+(n:Int)).toNat else TK v.toNat n
theorem sIx_nat(n d k:Nat):sIx n d (some (k:Int))=TK k n:=by
 show (if (k:Int)<0 then ((k:Int)+(n:Int)).toNat else TK (k:Int).toNat n)=TK k n;rw[if_neg (by omega),RD]
theorem FR(n d:Nat)(hd:d<=n)(o:Option Int):sIx n d o<=n:=by
 cases o with
 | none=>exact hd
 | some v=>
  show (if v<0 then (v+(n:Int)).toNat else TK v.toNat n)<=n
  by_cases hv:v<0
  ·rw[if_pos hv];omega
  ·rw[if_neg hv];exact Nat.min_le_right _ _
theorem yp(v:Int)(n d:Nat):(if v<0 then max (v+(n:Int)) 0 else TK v (n:Int))=((sIx n d (some v):Nat):Int):=by
 show (if v<0 then max (v+(n:Int)) 0 else TK v (n:Int))=(((if v<0 then (v+(n:Int)).toNat else TK v.toNat n):Nat):Int)
 by_cases hv:v<0
 ·simp only[if_pos hv];omega
 ·simp only[if_neg hv];omega
theorem uW(lo hi:Option Int)(n:Nat):PZ lo hi 1 (n:Int)=(((sIx n 0 lo:Nat):Int),((sIx n n hi:Nat):Int)):=by
 have h1:¬ ((1:Int)<0):=by omega
 unfold PZ;simp only[h1,if_false];refine Prod.ext ?_ ?_
 ·cases lo with
  | none=>rfl
  | some v=>exact yp v n 0
 ·cases hi with
  | none=>rfl
  | some v=>exact yp v n n
theorem uy(i j:Nat):OO (i:Int) (j:Int) 1=j-i:=by
 unfold OO;have h1:(1:Int) > 0:=by omega
 simp only[h1,if_true,Int.ediv_one]
 split <;> omega
theorem nj{v:Value}{o:Option Int}{Q:Option Int->MB->Prop}(p:Rz v o)(h:Q o s):MK (MV prog w) A (Builtin.Slice.slicePartIndex v) Q E s:=by
 cases p with
 | none=>exact slicePart_none h
 | int i t=>exact slicePart_int h
theorem kQ{sl:Addr}{vl vu:Value}{lo hi:Option Int}{n:Nat}{Q:Int×Int×Nat->MB->Prop}(hs:s.heap.IsSliceOf sl vl vu .none)(pl:Rz vl lo)(pu:Rz vu hi)
  (h:Q (((sIx n 0 lo:Nat):Int),1,sIx n n hi-sIx n 0 lo) s):MK (MV prog w) A (Qx (.ref sl) (pure (n:Int))) Q E s:=by
 obtain⟨os,hos,hcs,hds⟩:=id hs;unfold Qx Builtin.Slice.sliceFields;refine MA (MA (NB hos hds (x:=vl) rfl (MA (NB hos hds (x:=vu) rfl (MA (NB hos hds (x:=.none) rfl (ME ?_)))))));refine MA (slicePart_none ?_);show MK _ _ (if ((1:Int) == 0)=true then _ else _) _ _ s;rw[if_neg (by decide)];refine MA (nj pl (MA (nj pu (MA (ME ?_)))));show MK _ _ (match PZ lo hi 1 (n:Int) with | (lo,hi)=>pure (lo,(1:Int),OO lo hi 1)) _ _ s;rw[uW lo hi n];show MK _ _ (pure (((sIx n 0 lo:Nat):Int),(1:Int),OO ((sIx n 0 lo:Nat):Int) ((sIx n n hi:Nat):Int) 1)) _ _ s;rw[uy];exact ME h
theorem zG(xs:Array Value)(i k:Nat):((Mz k).filterMap fun (m:Nat)=>xs[((i:Int)+(m:Int) * 1).toNat]?).toArray=((xs.toList.drop i).take k).toArray:=by
 have e:(fun (m:Nat)=>xs[((i:Int)+(m:Int) * 1).toNat]?)=fun m=>xs[i+m]?:=by
  funext m
  have:((i:Int)+(m:Int) * 1).toNat=i+m:=by omega
  rw[this]
 rw[e];have:=pick_run xs i k;rw[List.filterMap_map] at this;have e2:((fun x=>xs[x]?) ∘ fun x=>i+x)=fun m=>xs[i+m]?:=rfl;rw[e2] at this;rw[this]
theorem getItem_tuple_cut{t sl:Addr}{items:Array Value}{vl vu:Value}{lo hi:Option Int}{Q:Value->MB->Prop}(ht:IsTup s.heap t items)(hs:s.heap.IsSliceOf sl vl vu .none)(pl:Rz vl lo)(pu:Rz vu hi)
  (hw:¬ (sIx items.size 0 lo=0/\sIx items.size items.size hi=items.size))
  (h:Q (.ref s.heap.objs.size) { s with heap:=s.heap.push { cls:=.type "tuple",data:=.seq ((items.toList.drop (sIx items.size 0 lo)).take (sIx items.size items.size hi-sIx items.size 0 lo)).toArray } })
  (hsz:items.size<=sizeLine):MK (MV prog w) A (R8 (.ref t) (.ref sl)) Q E s:=by
 have htake:sizeOk (.seq ((items.toList.drop (sIx items.size 0 lo)).take (sIx items.size items.size hi-sIx items.size 0 lo)).toArray):=by
  show ((items.toList.drop (sIx items.size 0 lo)).take (sIx items.size items.size hi-sIx items.size 0 lo)).toArray.size<=sizeLine;rw[Mj,Mn,NI,Na];omega
 have hj:sIx items.size items.size hi<=items.size:=FR _ _ (MX _) hi;obtain⟨os,hos,hcs,hds⟩:=id hs;have hTs:s.TypeIs (.ref sl) "slice":=⟨os,hos,hcs⟩;unfold R8
 try with_reducible refine Nt ?_
 first | refine MA (ME ?_) | skip
 refine MA (wpAny_sequenceKey ht.typeIs (by decide) ?_)
 refine MA (ON (name:=M8 "__getitem__") ht.typeIs P0
  (OM P0 ht.typeIs entry_tuple_getitem ?_ (args_tuple_getitem _ _)))
 show MK _ _ (Qw (.ref t) >>= _) _ _ s;refine MA (tupleItemsOf_ ht ?_);refine MA (Rb hTs ?_);rw[if_pos (by decide)];refine MA (kQ hs pl pu ?_)
 have hno:¬ ((((sIx items.size 0 lo:Nat):Int) == 0 && (1:Int) == 1 && (sIx items.size items.size hi-sIx items.size 0 lo) == items.size)=true):=by
  intro q;rw[Mk,Mk] at q;have q1:((sIx items.size 0 lo:Nat):Int)=0:=S7 q.1.1;have q2:sIx items.size items.size hi-sIx items.size 0 lo=items.size:=S7 q.2;exact hw ⟨by omega,by omega⟩
 show MK _ _ (if (((sIx items.size 0 lo:Nat):Int) == 0 && (1:Int) == 1 && (sIx items.size items.size hi-sIx items.size 0 lo) == items.size)=true then _ else _) _ _ s;rw[if_neg hno,zG]
 first
  | exact MA (m:=OT _) (O3 (ME ⟨_,rfl,ME h⟩) htake)
  | exact MA (m:=OT _) (O3 (MA (ME (ME ⟨_,rfl,ME h⟩))) htake)
  | exact MA (MA (m:=OT _) (O3 (ME (ME ⟨_,rfl,ME h⟩)) htake))
  | exact MA (MA (m:=OT _) (O3 (ME ⟨_,rfl,ME h⟩) htake))
end
end HT
namespace L2
open PySem PySem.Spec PyProof.Rows
abbrev TO:=St->Hp->(Option Int->Hp->Prop)->Prop
def PO(X:Cx)(e:Option Expr)(t:TO):Prop:=
 ∀(pins:List (Addr×Obj))(s:MB)(σ:St)(H:Hp)(Q:Option Int->Hp->Prop),Inv X pins σ H s->t σ H Q->
  MK (MV X.prog X.w) X.A (evalPart e X.env) (fun u s'=>∃o H',Inv X pins σ H' s'/\Rz u o/\Q o H') X.xe s
def Cr:TO:=fun _ H Q=>Q none H
noncomputable def IE(t:TE):TO:=fun σ H Q=>t σ H fun x H1=>∃i,x=.int i/\Q (some i) H1
section
variable{X : Cx}{e : Expr}{te : TE}{lo hi : Option Expr}{tl th : TO}{pos p2 : O4}
theorem CW:PO X none Cr:=by
 intro pins s σ H Q I h;rw[evalPart_none];exact ME ⟨none,H,I,.none,h⟩
theorem CV(h:PE X e te):PO X (some e) (IE te):=by
 intro pins s σ H Q I hw;rw[evalPart_some];refine thn (h pins s σ H _ I hw) fun u s1 ⟨x,H1,I1,r1,q1⟩=>?_;obtain⟨i,rfl,q⟩:=q1;obtain⟨t,rfl⟩:=r1;exact⟨some i,H1,I1,.int i t,q⟩
def SlR(X:Cx)(r:V->Option Int->Option Int->Hp->VK->Prop):Prop:=
 ∀(pins:List (Addr×Obj))(s:MB)(σ:St)(H:Hp)(x:V)(v vl vu:Value)(lo hi:Option Int)(sl:Addr)(Q:VK),Inv X pins σ H s->RelV x v->s.heap.IsSliceOf sl vl vu .none->Rz vl lo->Rz vu hi->r x lo hi H Q->
  ∃T id,Si (.type T) "__getitem__"=pure (some (.builtin id))/\s.TypeIs v T/\MK (MV X.prog X.w) X.A (R8 v (.ref sl)) (EP X pins σ Q) X.xe s
noncomputable def tSl(r:V->Option Int->Option Int->Hp->VK->Prop)(te:TE)(tl th:TO):TE:=fun σ H Q=>te σ H fun x H1=>tl σ H1 fun l H2=>th σ H2 fun u H3=>r x l u H3 Q
theorem zJ{r:V->Option Int->Option Int->Hp->VK->Prop}(hr:SlR X r)(he:PE X e te)(hl:PO X lo tl)(hu:PO X hi th):PE X (.Subscript e (.Slice lo hi none p2) pos) (tSl r te tl th):=by
 intro pins s σ H Q I h;refine Subscript_ (thn (he pins s σ H _ I h) fun v s1 ⟨x,H1,I1,r1,q1⟩=>?_);refine wpAny_Slice (thn (hl pins s1 σ H1 _ I1 q1) fun vl s2 ⟨l,H2,I2,pl,q2⟩=>thn (hu pins s2 σ H2 _ I2 q2) fun vu s3 ⟨u,H3,I3,pu,q3⟩=>?_);rw[evalPart_none];refine ME ?_;have I4:Inv X pins σ H3 { s3 with heap:=s3.heap.push { cls:=.type "slice",data:=.fields #[vl,vu,.none] } }:=I3.kept (t':=s3.toks) fun b ob q=>MD _ q;obtain⟨T,id,hT,ht,hg⟩:=hr pins { s3 with heap:=s3.heap.push { cls:=.type "slice",data:=.fields #[vl,vu,.none] } } σ H3 x v vl vu l u s3.heap.objs.size Q I4 r1 (Heap.IsSliceOf.new ..) pl pu q3;show MK (MV X.prog X.w) X.A (TJ e (.Slice lo hi none p2) v (.ref s3.heap.objs.size)) (EP X pins σ Q) X.xe { s3 with heap:=s3.heap.push { cls:=.type "slice",data:=.fields #[vl,vu,.none] } };exact tail_any (ops:=[.ref s3.heap.objs.size,v]) ht hT hg (by with_unfolding_all rfl)
def AM(xs:List V)(lo hi:Option Int):List V:=(xs.drop (HT.sIx xs.length 0 lo)).take (HT.sIx xs.length xs.length hi-HT.sIx xs.length 0 lo)
theorem mx(xs:List V)(lo hi:Option Int):(AM xs lo hi).length<=xs.length:=by
 unfold AM;rw[Mn,NI];omega
def Lf(K:M9):V->Option Int->Option Int->Hp->VK->Prop:=fun x lo hi H Q=>∃a xs,x=.ref a/\SqT K H a xs/\
 ¬ (HT.sIx xs.length 0 lo=0/\HT.sIx xs.length xs.length hi=xs.length)/\∀p,H p=none->Q (.ref p) (upd H p (.tup (AM xs lo hi)))
theorem FM:SlR X (Lf X.K):=by
 intro pins s σ H x v vl vu lo hi sl Q I rx hs pl pu h;obtain⟨a,xs,rfl,hx,hw,q⟩:=h;cases rx;obtain⟨its,r,ht,hz⟩:=I.tuple hx;have hlen:its.toArray.size=xs.length:=by rw[Mj];exact r.length.symm
 refine⟨"tuple",_,P0.lookup,ht.typeIs,?_⟩;refine HT.getItem_tuple_cut ht hs pl pu (by rw[hlen];exact hw) ?_ (by rw[hlen];exact hz);rw[hlen];refine⟨.ref s.heap.objs.size,_,I.laid (t':=s.toks) (o:=.tup (AM xs lo hi)) (fun b ob q=>MD _ q) (MX _) ?_,rfl,q _ (I.hok.fresh (MX _))⟩;exact⟨Mm (mx xs lo hi) hz,_,(r.drop (HT.sIx xs.length 0 lo)).take (HT.sIx xs.length xs.length hi-HT.sIx xs.length 0 lo),B5.new _ _⟩
end
end L2
namespace L2
open PySem PySem.Spec PyProof.Rows
noncomputable def ixN(n:Nat)(i:Int):Option Nat:=if 0<=i then (if i<n then some i.toNat else none) else if -(n:Int)<=i then some (i+n).toNat else none
def atI{α:Type}(xs:List α)(i:Int):Option α:=(ixN xs.length i).bind fun j=>xs[j]?
theorem Du{n:Nat}{i:Int}{j:Nat}(h:ixN n i=some j):seqIndex? i n=some j/\j<n/\-(n:Int)<=i/\i<n:=by
 unfold ixN at h
 by_cases h0:0<=i
 ·rw[if_pos h0] at h
  by_cases h1:i<n
  ·rw[if_pos h1] at h
   have e:i.toNat=j:=N6 h;exact⟨by rw[seqIndex_of h0 h1,e],by omega,by omega,h1⟩
  ·rw[if_neg h1] at h;cases h
 ·rw[if_neg h0] at h
  by_cases h1:-(n:Int)<=i
  ·rw[if_pos h1] at h
   have e:(i+n).toNat=j:=N6 h;exact⟨by rw[seqIndex_neg (by omega) h1,e],by omega,h1,by omega⟩
  ·rw[if_neg h1] at h;cases h
theorem sj{α:Type}{xs:List α}{i:Int}{v:α}(h:atI xs i=some v):∃j,seqIndex? i xs.length=some j/\xs[j]?=some v/\j<xs.length/\-(xs.length:Int)<=i/\i<xs.length:=by
 unfold atI at h;cases e:ixN xs.length i with
 | none=>rw[e] at h;cases h
 | some j=>
  rw[e] at h;obtain⟨h1,h2,h3,h4⟩:=Du e;exact⟨j,h1,h,h2,h3,h4⟩
theorem pB{α:Type}(xs:List α)(v:α):atI (xs++[v]) (-1)=some v:=by
 have hl:(xs++[v]).length=xs.length+1:=by simp
 have e:ixN (xs++[v]).length (-1)=some xs.length:=by
  unfold ixN;rw[hl,if_neg (by decide),if_pos (by omega)]
  congr 1
  omega
 unfold atI;rw[e];show (xs++[v])[xs.length]?=some v;simp
def yB(b:Expr):Prop:=∀o i,S9 b false o i=operate [o,i] (R8 o i)
def IxR(X:Cx)(r:R2):Prop:=
 ∀(value slice:Expr)(pins:List (Addr×Obj))(s:MB)(σ:St)(H:Hp)(x y:V)(v u:Value)(Q:VK),Inv X pins σ H s->RelV x v->RelV y u->r x y H Q->
  S9 slice false v u=operate [v,u] (R8 v u)->MK (MV X.prog X.w) X.A (TJ value slice v u) (EP X pins σ Q) X.xe s
def MtR(X:Cx)(id:String)(r:V->List V->Hp->VK->Prop):Prop:=
 ∀(pins:List (Addr×Obj))(s:MB)(σ:St)(H:Hp)(x:V)(xs:List V)(v:Value)(us:List Value)(Q:VK),Inv X pins σ H s->RelV x v->Vals xs us->r x xs H Q->
  MK (MV X.prog X.w) X.A (call (.builtin id) (v::us)) (EP X pins σ Q) X.xe s
section
variable{X : Cx}{a b : Expr}{ta tb : TE}{pos : O4}
theorem J0{r:R2}(hr:IxR X r)(ha:PE X a ta)(hb:PE X b tb)(hs:yB b):PE X (.Subscript a b pos) (tOp r ta tb):=by
 intro pins s σ H Q I h;exact Subscript_ (JU ha hb I h fun v u s2 x y H2 I2 rx ry q=>hr a b pins s2 σ H2 x y v u Q I2 rx ry q (hs _ _))
noncomputable def Lk(K:M9):R2:=fun x y H Q=>∃p xs i v,x=.ref p/\y=.int i/\SqL K H p xs/\atI xs i=some v/\Q v H
noncomputable def Li(K:M9):R2:=fun x y H Q=>∃p xs i v,x=.ref p/\y=.int i/\SqT K H p xs/\atI xs i=some v/\Q v H
noncomputable def Lj:R2:=fun x y H Q=>∃z i c,x=.str z/\y=.int i/\z.length<=sizeLine/\atI z.cps.toList i=some c/\Q (.str ⟨#[c]⟩) H
theorem Dt:IxR X (Lk X.K):=by
 intro value slice pins s σ H x y v u Q I rx ry h hs;obtain⟨p,xs,i,z,rfl,rfl,hq,he,q⟩:=h;cases rx;obtain⟨t,rfl⟩:=ry;obtain⟨its,r,pl,hz⟩:=I.list hq;obtain⟨j,h1,h2,h3,h4,h5⟩:=sj he;obtain⟨w,ew,rw'⟩:=r.get h2;have hl:=r.length;have hn:=qt;have fin:EP X pins σ Q w s:=⟨z,H,I,rw',q⟩
 by_cases h0:0<=i
 ·have hj:i.toNat=j:=by
   rw[seqIndex_of h0 h5] at h1;exact N6 h1
  exact item_listR pl.isList h0 (by omega) (by rw[hj];simpa using ew) fin hs
 ·have hj:(i+(its.toArray.size:Int)).toNat=j:=by
   rw[seqIndex_neg (by omega) h4] at h1;rw[Mj,← hl];exact N6 h1
  exact To (x:=w) pl.isList.typeIs slot_list_getitem.lookup
   (wpAny_getItem_list_neg (Q:=fun r s'=>r=w/\EP X pins σ Q r s') pl.isList (by omega) (by rw[Mj] <;> omega) (by omega) (by rw[hj];simpa using ew) ⟨rfl,fin⟩) hs
theorem GO:IxR X (Li X.K):=by
 intro value slice pins s σ H x y v u Q I rx ry h hs;obtain⟨p,xs,i,z,rfl,rfl,hq,he,q⟩:=h;cases rx;obtain⟨t,rfl⟩:=ry;obtain⟨its,r,pl,hz⟩:=I.tuple hq;obtain⟨j,h1,h2,h3,h4,h5⟩:=sj he;obtain⟨w,ew,rw'⟩:=r.get h2;have hl:=r.length;have hn:=qt;have fin:EP X pins σ Q w s:=⟨z,H,I,rw',q⟩
 exact To (x:=w) pl.typeIs slot_tuple_getitem.lookup
  (getItem_tuple (j:=j) (Q:=fun r s'=>r=w/\EP X pins σ Q r s') pl (by omega) (by omega) (by rw[Mj,← hl];exact h1) (by simpa using ew) ⟨rfl,fin⟩) hs
theorem GP:IxR X Lj:=by
 intro value slice pins s σ H x y v u Q I rx ry h hs;obtain⟨z,i,c,rfl,rfl,hz,he,q⟩:=h;obtain⟨t,rfl⟩:=rx;obtain⟨t',rfl⟩:=ry;obtain⟨j,h1,h2,h3,h4,h5⟩:=sj he;have hl:z.cps.toList.length=z.length:=by simp[Of]
 rw[hl] at h1 h4 h5;have hn:=qt
 exact tail_any (PD s z t) slot_str_getitem.lookup (getItem_str (c:=c) (by
  have e1:decide (i < -(2 ^ 63:Int))=false:=decide_eq_false (by omega);have e2:decide (i ≥ 2 ^ 63)=false:=decide_eq_false (by omega);rw[e1,e2,Pb]) (by rw[h1];simpa using h2) ⟨.str ⟨#[c]⟩,H,I.tok _,⟨_,rfl⟩,q⟩) hs
theorem pQ(lo hi:Option Int)(n:Nat):(Pn lo hi none n).1=((HT.sIx n 0 lo:Nat):Int)/\(Pn lo hi none n).2.1=((HT.sIx n n hi:Nat):Int)/\(Pn lo hi none n).2.2=1:=by
 refine⟨?_,?_,rfl⟩
 ·cases lo with
  | none=>simp[Pn,HT.sIx]
  | some i=>
   simp only[Pn,HT.sIx,Ta,show (1:Int) > 0 by decide,if_true]
   by_cases h:i<0
   ·simp only[h,if_true] <;> omega
   ·simp only[h,if_false] <;> omega
 ·cases hi with
  | none=>simp[Pn,HT.sIx]
  | some i=>
   simp only[Pn,HT.sIx,Ta,show (1:Int) > 0 by decide,if_true]
   by_cases h:i<0
   ·simp only[h,if_true] <;> omega
   ·simp only[h,if_false] <;> omega
theorem oh(its:List Value)(lo hi:Option Int):slicePick its.toArray lo hi none=((its.drop (HT.sIx its.length 0 lo)).take (HT.sIx its.length its.length hi-HT.sIx its.length 0 lo)).toArray:=by
 obtain⟨h1,h2,h3⟩:=pQ lo hi its.toArray.size;unfold slicePick;rw[h1,h2,h3];simp only[sliceRange_one,pick_run,Mj] <;> rfl
def Lh(K:M9):V->Option Int->Option Int->Hp->VK->Prop:=fun x lo hi H Q=>∃a xs,x=.ref a/\SqL K H a xs/\∀p,H p=none->Q (.ref p) (upd H p (.lst (AM xs lo hi)))
theorem Cv:SlR X (Lh X.K):=by
 intro pins s σ H x v vl vu lo hi sl Q I rx hs pl pu h;obtain⟨a,xs,rfl,hx,q⟩:=h;cases rx;obtain⟨its,r,ht,hz⟩:=I.list hx;have hlen:=r.length;refine⟨"list",_,slot_list_getitem.lookup,ht.isList.typeIs,?_⟩;refine wpAny_getItem_list_slice ht.isList hs pl pu .none (by simp) ?_ (by rw[Mj] <;> omega)
 rw[oh,← hlen];refine⟨.ref s.heap.objs.size,_,I.laid (t':=s.toks) (o:=.lst (AM xs lo hi)) (fun b ob q=>MD _ q) (MX _) ?_,rfl,q _ (I.hok.fresh (MX _))⟩;exact⟨Mm (mx xs lo hi) hz,_,0,(r.drop (HT.sIx xs.length 0 lo)).take (HT.sIx xs.length xs.length hi-HT.sIx xs.length 0 lo),MZ _ rfl⟩
noncomputable def mV:V->Bool
 | .non=>true
 | .bl _=>true
 | .int _=>true
 | .str _=>true
 | _=>false
noncomputable def eqV:V->V->Bool
 | .non,.non=>true
 | .bl a,.bl b=>a == b
 | .bl a,.int b=>(if a then 1 else 0) == b
 | .int a,.bl b=>a == (if b then 1 else 0)
 | .int a,.int b=>a == b
 | .str a,.str b=>a == b
 | _,_=>false
theorem Ha{A:Mi}{s:MB}{y x:V}{u v:Value}(ry:RelV y u)(rx:RelV x v)(fy:mV y=true)(fx:mV x=true):P6 A s u v (eqV y x):=by
 cases y with
 | non=>
  cases ry;cases x with
  | non=>cases rx;exact Qz _
  | bl b=>cases rx;exact SeqAt.EqAt.none_bool b
  | int b=>obtain⟨t,rfl⟩:=rx;exact SeqAt.EqAt.none_int b t
  | str b=>obtain⟨t,rfl⟩:=rx;exact SeqAt.EqAt.none_str b t
  | _=>exact absurd (show false=true from fx) ML
 | bl a=>
  cases ry;cases x with
  | non=>cases rx;exact SeqAt.EqAt.bool_none a
  | bl b=>cases rx;exact SeqAt.EqAt.bool_bool a b
  | int b=>obtain⟨t,rfl⟩:=rx;exact SeqAt.EqAt.bool_int a b t
  | str b=>obtain⟨t,rfl⟩:=rx;exact SeqAt.EqAt.bool_str a b t
  | _=>exact absurd (show false=true from fx) ML
 | int a=>
  obtain⟨t',rfl⟩:=ry;cases x with
  | non=>cases rx;exact SeqAt.EqAt.int_none a t'
  | bl b=>cases rx;exact SeqAt.EqAt.int_bool a t' b
  | int b=>obtain⟨t,rfl⟩:=rx;exact SeqAt.EqAt.int_int a t' b t
  | str b=>obtain⟨t,rfl⟩:=rx;exact SE a t' b t
  | _=>exact absurd (show false=true from fx) ML
 | str a=>
  obtain⟨t',rfl⟩:=ry;cases x with
  | non=>cases rx;exact SeqAt.EqAt.str_none a t'
  | bl b=>cases rx;exact SeqAt.EqAt.str_bool a t' b
  | int b=>obtain⟨t,rfl⟩:=rx;exact SA a t' b t
  | str b=>obtain⟨t,rfl⟩:=rx;exact SeqAt.EqAt.str_str a t' b t
  | _=>exact absurd (show false=true from fx) ML
 | _=>exact absurd (show false=true from fy) ML
def eqU(x:V)(u:Value):Bool:=match u with
 | .none=>eqV .non x
 | .bool b=>eqV (.bl b) x
 | .int i _=>eqV (.int i) x
 | .str z _=>eqV (.str z) x
 | _=>false
theorem BO{x y:V}{u:Value}(r:RelV y u)(f:mV y=true):eqU x u=eqV y x:=by
 cases y with
 | non=>cases r;rfl
 | bl b=>cases r;rfl
 | int i=>obtain⟨t,rfl⟩:=r;rfl
 | str z=>obtain⟨t,rfl⟩:=r;rfl
 | _=>exact absurd (show false=true from f) ML
theorem mG{x:V}:∀{xs:List V}{us:List Value},Vals xs us->xs.all mV=true->us.any (eqU x)=xs.any fun y=>eqV y x
 | _,_,.nil,_=>rfl
 | y::xs,u::us,.cons r t,f=>by
  rw[P3,Mk] at f;rw[OG,OG,BO r f.1,mG t f.2]
theorem jE{A:Mi}{s:MB}{x:V}{v:Value}(rx:RelV x v)(fx:mV x=true):∀{xs:List V}{us:List Value},Vals xs us->xs.all mV=true->∀u∈us,P6 A s u v (eqU x u)
 | _,_,.nil,_=>fun u hu=>by cases hu
 | y::xs,u::us,.cons r t,f=>fun u' hu=>by
  rw[P3,Mk] at f;rcases MH.mp hu with rfl | hu
  ·rw[BO r f.1];exact Ha r rx f.1 fx
  ·exact jE rx fx t f.2 u' hu
def inV(x:V)(xs:List V):Bool:=xs.any fun y=>eqV y x
def rIn(K:M9)(neg:Bool):R2:=fun x y H Q=>∃p xs,y=.ref p/\(SqL K H p xs\/SqT K H p xs)/\mV x=true/\xs.all mV=true/\Q (.bl (if neg then !inV x xs else inV x xs)) H
theorem qi:OpR X (Mx .In) (rIn X.K false):=by
 intro pins s σ H x y v u Q I rx ry h;obtain⟨p,xs,rfl,hq,fx,fs,q⟩:=h;cases ry;rcases hq with hq | hq
 ·obtain⟨its,r,pl,hz⟩:=I.list hq
  refine SeqAt.in_listAt (eqU x) pl.isList (fun w hw=>jE rx fx r fs w (by simpa using hw)) ⟨.bl _,H,I,rfl,?_⟩;rw[show its.toArray.any (eqU x)=its.any (eqU x) by simp,mG r fs];exact q
 ·obtain⟨its,r,pl,hz⟩:=I.tuple hq
  refine SeqAt.in_tupleAt (eqU x) pl (fun w hw=>jE rx fx r fs w (by simpa using hw)) ⟨.bl _,H,I,rfl,?_⟩;rw[show its.toArray.any (eqU x)=its.any (eqU x) by simp,mG r fs];exact q
theorem kA:OpR X (Mx .NotIn) (rIn X.K true):=by
 intro pins s σ H x y v u Q I rx ry h;obtain⟨p,xs,rfl,hq,fx,fs,q⟩:=h;cases ry;rcases hq with hq | hq
 ·obtain⟨its,r,pl,hz⟩:=I.list hq
  refine SeqAt.notIn_listAt (eqU x) pl.isList (fun w hw=>jE rx fx r fs w (by simpa using hw)) ⟨.bl _,H,I,rfl,?_⟩;rw[show its.toArray.any (eqU x)=its.any (eqU x) by simp,mG r fs];exact q
 ·obtain⟨its,r,pl,hz⟩:=I.tuple hq
  refine SeqAt.notIn_tupleAt (eqU x) pl (fun w hw=>jE rx fx r fs w (by simpa using hw)) ⟨.bl _,H,I,rfl,?_⟩;rw[show its.toArray.any (eqU x)=its.any (eqU x) by simp,mG r fs];exact q
theorem qh:OpR X (Mx .NotIn) (fun x y H Q=>∃i j,x=.str i/\y=.str j/\Q (.bl (!(!(Md j i 0 j.length 1).isEmpty))) H):=by
 intro pins s σ H x y v u Q I rx ry h;obtain⟨i,j,rfl,rfl,q⟩:=h;obtain⟨t,rfl⟩:=rx;obtain⟨t',rfl⟩:=ry;exact notIn_str ⟨.bl _,H,I,rfl,q⟩
theorem kJ:fF X (.type "list") (fun xs H Q=>∃p ys,xs=[.ref p]/\(SqL X.K H p ys\/SqT X.K H p ys)/\∀l,H l=none->Q (.ref l) (upd H l (.lst ys))):=by
 intro pins s σ H xs us Q I r h;obtain⟨p,ys,rfl,hq,q⟩:=h;obtain⟨u,rfl,rx⟩:=vals1 r;cases rx
 have fin:∀(its:List Value),Vals ys its->ys.length<=sizeLine->∀(h':Heap)(c':Nat),(∀b o',s.heap.get? b=some o'->h'.get? b=some o')->
   h'.get? s.heap.objs.size=some { cls:=.type "list",dict:=none,data:=.seq its.toArray c',slots:=#[] }->EP X pins σ Q (.ref s.heap.objs.size) { s with heap:=h' }:=fun its r' hz h' c' kp e=>
  ⟨.ref s.heap.objs.size,_,I.laid (t':=s.toks) kp (MX _) (show eK X.prog X.w _ h' _ (.lst ys) from ⟨hz,its,c',r',e⟩),rfl,q _ (I.hok.fresh (MX _))⟩
 rcases hq with hq | hq
 ·obtain⟨its,r',pl,hz⟩:=I.list hq
  have hlen:=r'.length;obtain⟨o,ho,hc,n,hd⟩:=pl.isList;exact call_list_seq p (.inl rfl) ho hc hd (fun h' c' kp e=>fin its r' hz h' c' kp e) (by simp only[Mj] <;> omega)
 ·obtain⟨its,r',pl,hz⟩:=I.tuple hq
  have hlen:=r'.length;obtain⟨o,ho,hc,n,hd⟩:=pl;exact call_list_seq p (.inr rfl) ho hc hd (fun h' c' kp e=>fin its r' hz h' c' kp e) (by simp only[Mj] <;> omega)
theorem jU:fF X (.type "tuple") (fun xs H Q=>∃p ys,xs=[.ref p]/\((SqL X.K H p ys/\∀l,H l=none->Q (.ref l) (upd H l (.tup ys)))\/(SqT X.K H p ys/\Q (.ref p) H))):=by
 intro pins s σ H xs us Q I r h;obtain⟨p,ys,rfl,h⟩:=h;obtain⟨u,rfl,rx⟩:=vals1 r;cases rx;rcases h with⟨hq,q⟩|⟨hq,q⟩
 ·obtain⟨its,r',pl,hz⟩:=I.list hq
  have hlen:=r'.length;refine call_tuple_list pl.isList (fun h' kp=>?_) (by simp only[Mj] <;> omega)
  have I1:Inv X pins σ H { s with heap:=h' }:=I.kept (t':=s.toks) kp
  have I2:Inv X pins σ (upd H h'.objs.size (.tup ys)) { s with heap:=h'.push { cls:=.type "tuple",data:=.seq its.toArray } }:=
   I1.laid (t':=s.toks) (fun b o e=>MD _ e) (MX _) (show eK X.prog X.w _ _ _ (.tup ys) from ⟨hz,its,r',B5.new _ _⟩)
  exact⟨.ref h'.objs.size,_,I2,rfl,q _ (I1.hok.fresh (MX _))⟩
 ·obtain⟨its,r',pl,hz⟩:=I.tuple hq
  exact call_tuple_same pl ⟨.ref p,H,I,rfl,q⟩
def tyV(K:M9)(T:String)(x:V)(H:Hp):Prop:=match x with
 | .str _=>T="str"
 | .int _=>T="int"
 | .ref p=>(T="list"/\∃xs,SqL K H p xs)\/(T="tuple"/\∃o,K.lookup p=some o/\o.cls=.type "tuple"/\o.dict=none) ∨
   (T="dict"/\((∃kvs,H p=some (.dK kvs))\/∃kvs,H p=some (.dT kvs)))\/(T="set"/\∃S n,H p=some (.set S n))
 | _=>False
theorem FD{pins:List (Addr×Obj)}{σ:St}{H:Hp}{s:MB}{T:String}{x:V}{v:Value}(I:Inv X pins σ H s)(r:RelV x v)(ty:tyV X.K T x H) :
  s.TypeIs v T/\∀a,v=.ref a->∃ob,s.heap.get? a=some ob/\ob.dict=none:=by
 cases x with
 | str z=>
  obtain⟨t,rfl⟩:=r;cases (show T="str" from ty);exact⟨PD s z t,fun _ e=>nomatch e⟩
 | int i=>
  obtain⟨t,rfl⟩:=r;cases (show T="int" from ty);exact⟨typeIs_int s i t,fun _ e=>nomatch e⟩
 | ref p=>
  cases r;rcases ty with⟨rfl,xs,hq⟩|⟨rfl,o,hk,hc,hd⟩|⟨rfl,hk⟩|⟨rfl,S,n,hk⟩
  ·obtain⟨its,_,pl,_⟩:=I.list hq
   refine⟨pl.isList.typeIs,fun a e=>?_⟩;cases e;obtain⟨o,n,e,c,hd,_⟩:=pl;exact⟨o,e,hd⟩
  ·refine⟨⟨o,I.kIn p o hk,hc⟩,fun a e=>?_⟩
   cases e;exact⟨o,I.kIn _ o hk,hd⟩
  ·have z:∃o,s.heap.get? p=some o/\o.ExactDict:=by
    rcases hk with⟨kvs,hk⟩|⟨kvs,hk⟩
    ·obtain⟨_,_,_,_,o,_,_,e,ex,_⟩:=I.hok p _ hk
     exact⟨o,e,ex⟩
    ·obtain⟨_,_,_,_,o,_,_,e,ex,_⟩:=I.hok p _ hk
     exact⟨o,e,ex⟩
   obtain⟨o,e,ex⟩:=z;refine⟨⟨o,e,ex.1⟩,fun a e2=>?_⟩;cases e2;exact⟨o,e,ex.2.1⟩
  ·obtain⟨o,_,_,_,e,ex,_⟩:=I.hok p _ hk
   refine⟨⟨o,e,ex.1⟩,fun a e2=>?_⟩;cases e2;exact⟨o,e,ex.2.1⟩
 | _=>exact MG ty
noncomputable def tBM(K:M9)(T:String)(r:V->List V->Hp->VK->Prop)(to:TE)(t:TA):TE:=fun σ H Q=>to σ H fun x H1=>tyV K T x H1/\t σ H1 fun xs H2=>r x xs H2 Q
variable{o e : Expr}{es : List Expr}{to : TE}{t : TA}{name : Str}{apos cpos : O4}{T id : String}{r : V → List V → Hp → VK → Prop}
theorem zP (pa:PlainAttrs T) (slot:Slot T name id) (hty:typeOf (.builtin id)=pure (.type "method_descriptor")) (hm:MtR X id r) (ho:PE X o to) (ha:PA X (e::es) t)
  (hbase:OZ o name X.env (NC o X.env)=NC o X.env:=by rfl)
  (hfew:((Nq cpos (MO (e::es) X.env)).all (fun x=>!x.1) && (Ox cpos (Ny [] X.env)).all (fun x=>x.1.isSome)
   && decide ((e::es).length+([]:List Ti).length+(if ([]:List Ti).isEmpty then 0 else 1)<30))=true:=by rfl)
  (hline:(apos.endLine == cpos.line)=true:=by rfl) (hs:MO (e::es) X.env=(false,NC e X.env)::MO es X.env:=by rfl) (hplain:(Nq cpos (MO es X.env)).any (·.1)=false:=by rfl) :
  PE X (.Call (.Attribute o name apos) (e::es) [] cpos) (tBM X.K T r to t):=by
 intro pins s σ H Q I h;refine Td hbase hfew hline rfl (thn (ho pins s σ H _ I h) fun v s1 ⟨x,H1,I1,r1,ty,q1⟩=>?_);obtain⟨h1,h2⟩:=FD I1 r1 ty;refine⟨T,id,pa,slot,hty,h1,h2,?_⟩;have hA:=ha cpos pins s1 σ H1 _ I1 q1;rw[hs] at hA ⊢;refine SY (by show (false || (Nq cpos (MO es X.env)).any (·.1))=false;rw[hplain] <;> rfl) (Ss ?_)
 exact thn hA fun us s2 ⟨vs,H2,I2,r2,q2⟩=>hm pins s2 σ H2 x vs v us Q I2 r1 r2 q2
end
end L2
namespace L2
open PySem PySem.Spec PyProof.Rows
def MtM(X:Cx)(id:String)(r:V->List V->Hp->VK->Prop):Prop:=
 ∀(pins:List (Addr×Obj))(s:MB)(σ:St)(H:Hp)(x:V)(xs:List V)(v:Value)(us:List Value)(Q:VK),Inv X pins σ H s->RelV x v->Vals xs us->r x xs H Q->
  MK (MV X.prog X.w) X.A (call (.builtin id) (v::us)) (EP X pins σ Q) X.xe s
theorem Vals.one:∀{x:V}{us:List Value},Vals [x] us->∃u,us=[u]/\RelV x u
 | _,_,.cons r .nil=>⟨_,rfl,r⟩
section
variable{X : Cx}{pins : List (Addr×Obj)}{σ : St}{H : Hp}{s : MB}{l b : Addr}{xs ys zs : List V}
theorem Inv.lset{its its':List Value}{n:Nat}{f:Array Value->Array Value}{t':Nat}(I:Inv X pins σ H s)(hH:H l=some (.lst xs))
  (e:s.heap.get? l=some { cls:=.type "list",data:=.seq its.toArray n }) (hf:f its.toArray=its'.toArray) (hv:Vals ys its') (hz:ys.length<=sizeLine) :
  Inv X pins σ (upd H l (.lst ys)) { s with heap:=s.heap.update l (Nz f),toks:=t' }:=by
 have q:=PySem.IsL.update e f;rw[hf] at q;refine I.write (x:=l) (e:=l) (by rw[hH];exact trivial) (.inl rfl) (fun b' u hb hu=>(N5 s.heap (Nz f) (Nd hb)).trans hu) ⟨_,q⟩ ?_;exact⟨hz,its',_,hv,q⟩
theorem Inv.lnew{its:List Value}{t':Nat}(I:Inv X pins σ H s)(hv:Vals ys its)(hz:ys.length<=sizeLine) :
  Inv X pins σ (upd H s.heap.objs.size (.lst ys)) { s with heap:=s.heap.push { cls:=.type "list",data:=.seq its.toArray },toks:=t' }:=
 I.laid (fun _ _ q=>MD _ q) (MX _) ⟨hz,its,0,hv,MZ _ rfl⟩
theorem Inv.fresh(I:Inv X pins σ H s):H s.heap.objs.size=none:=I.hok.fresh (MX _)
theorem Inv.lstM (I:Inv X pins σ H s) (hH:H l=some (.lst xs)):xs.length<=sizeLine/\∃(its:List Value) (n:Nat),Vals xs its/\xs.length=its.length/\s.heap.get? l=some { cls:=.type "list",data:=.seq its.toArray n }:=by
 obtain⟨z,its,n,r,e⟩:=I.hok l _ hH;exact⟨z,its,n,r,r.length,e⟩
end
section
variable{X : Cx}
def CM:V->List V->Hp->VK->Prop:=fun x vs H Q=>∃l xs y,x=.ref l/\vs=[y]/\H l=some (.lst xs)/\xs.length<sizeLine/\Q .non (upd H l (.lst (xs++[y])))
theorem lW:MtM X "list.append" CM:=by
 intro pins s σ H x vs v us Q I rx rv h;obtain⟨l,xs,y,rfl,rfl,hH,hz,q⟩:=h;cases rx;obtain⟨u,rfl,ru⟩:=rv.one;obtain⟨z,its,n,r,hl,e⟩:=I.lstM hH;refine Pg QH ⟨_,e,rfl⟩ F.entry_list_append (F.args_list_append_2 _ _) (PySem.list_append l its.toArray n u (by rw[Mj];omega)) ⟨e,?_⟩;refine⟨.non,_,I.lset (its':=its++[u]) hH e (by simp) (r.append (.cons ru .nil)) ?_,rfl,q⟩;rw[MW,QZ];omega
end
end L2
namespace L2
open PySem PySem.Spec PyProof.Rows
section
variable{κ : Type}[DecidableEq κ]
noncomputable def o4(kvs:List (κ×V))(k:κ):Option V:=(kvs.find? fun kv=>decide (kv.1=k)).map (·.2)
noncomputable def putK(kvs:List (κ×V))(k:κ)(v:V):List (κ×V):=
 if (kvs.any fun kv=>decide (kv.1=k))=true then kvs.map (fun kv=>if kv.1=k then (kv.1,v) else kv) else kvs++[(k,v)]
theorem gu{p:κ×V}{r:List (κ×V)}{k:κ}(e:p.1=k):o4 (p::r) k=some p.2:=by simp[o4,OE,e]
theorem dm{p:κ×V}{r:List (κ×V)}{k:κ}(e:¬ p.1=k):o4 (p::r) k=o4 r k:=by simp[o4,OE,e]
theorem jk(k:κ):∀kvs:List (κ×V),(kvs.any fun kv=>decide (kv.1=k))=(o4 kvs k).isSome
 | []=>rfl
 | p::r=>by
  rw[OG]
  by_cases e:p.1=k
  ·simp only[gu e,decide_eq_true e,Bool.true_or,Option.isSome_some]
  ·rw[dm e,decide_eq_false e,SR];exact jk k r
theorem jb(kvs:List (κ×V))(k:κ)(v:V):(putK kvs k v).length<=kvs.length+1:=by
 unfold putK
 split
 ·rw[MC];omega
 ·rw[MW,MI,OD];omega
theorem sv.isSome_eq{o:Option V}{u:Option Value}(r:sv o u):o.isSome=u.isSome:=by
 cases o with
 | none=>cases u with
  | none=>rfl
  | some _=>exact(show False from r).elim
 | some _=>cases u with
  | none=>exact(show False from r).elim
  | some _=>rfl
theorem KV.val{kvs:List (κ×V)}{vs:List (κ×Value)}(r:KV kvs vs)(k:κ):sv (o4 kvs k) (Nu vs k):=by
 unfold KV at r
 induction r with
 | nil=>exact OY
 | @cons p q ps qs h t ih=>
  obtain⟨h1,h2⟩:=h
  by_cases e:p.1=k
  ·have e':q.1=k:=h1.symm.trans e
   have b:Nu (q::qs) k=some q.2:=by simp[Nu,OE,e']
   rw[gu e,b];exact h2
  ·have e':¬ q.1=k:=fun z=>e (h1.trans z)
   have b:Nu (q::qs) k=Nu qs k:=by simp[Nu,OE,e']
   rw[dm e,b];exact ih
theorem KV.any{kvs:List (κ×V)}{vs:List (κ×Value)}(r:KV kvs vs)(k:κ):(kvs.any fun kv=>decide (kv.1=k))=vs.any fun kv=>decide (kv.1=k):=by
 unfold KV at r
 induction r with
 | nil=>rfl
 | cons h t ih=>rw[OG,OG,ih,h.1]
theorem KV.repl{kvs:List (κ×V)}{vs:List (κ×Value)}(r:KV kvs vs)(k:κ){y:V}{u:Value}(ry:RelV y u) :
  KV (kvs.map fun kv=>if kv.1=k then (kv.1,y) else kv) (vs.map fun kv=>if kv.1=k then (kv.1,u) else kv):=by
 unfold KV at r ⊢
 induction r with
 | nil=>exact .nil
 | @cons p q ps qs h t ih=>
  rw[MN,MN];refine .cons ?_ ih;obtain⟨h1,h2⟩:=h
  by_cases e:p.1=k
  ·rw[if_pos e,if_pos (h1.symm.trans e)];exact⟨h1,ry⟩
  ·rw[if_neg e,if_neg (fun z=>e (h1.trans z))];exact⟨h1,h2⟩
theorem KV.put{kvs:List (κ×V)}{vs:List (κ×Value)}(r:KV kvs vs)(k:κ){y:V}{u:Value}(ry:RelV y u):KV (putK kvs k y) (stored vs k u):=by
 unfold putK stored;rw[r.any k]
 by_cases e:(vs.any fun kv=>decide (kv.1=k))=true
 ·rw[if_pos e,if_pos e];exact r.repl k ry
 ·rw[if_neg e,if_neg e];exact Paired.snoc r ⟨rfl,ry⟩
theorem KV.length{kvs:List (κ×V)}{vs:List (κ×Value)}(r:KV kvs vs):kvs.length=vs.length:=NP r
end
theorem oK{P:MP}{w:Me}{k:Key}{u:Value}(r:RelV (kV k) u):(aE P w).is k u=true:=by
 cases k with
 | inl i=>obtain⟨t,e⟩:=(show ∃t,u=RC i t from r);subst e;exact rQ P w i t
 | inr x=>obtain⟨t,e⟩:=(show ∃t,u=Pl x t from r);subst e;exact ja P w x t
theorem qz{P:MP}{w:Me}:∀{ks:List Key}{us:List Value},Vals (ks.map kV) us->ItemsAre (aE P w) ks us
 | [],_,r=>by rw[RA] at r;cases r;exact .nil
 | k::ks,_,r=>by
  rw[MN] at r;cases r with
  | cons h t=>exact .cons (oK h) (qz t)
abbrev KT(H:Hp):List (jX×V)->List (jX×Addr×Value)->Prop:=Sq fun p q=>p.1=q.1/\jW H q.2.1 p.1/\RelV p.2 q.2.2
theorem KT.val{H:Hp}{kvs:List (jX×V)}{xs:List (jX×Addr×Value)}(r:KT H kvs xs)(k:jX):sv (o4 kvs k) ((Sk xs k).map (·.2)):=by
 induction r with
 | nil=>exact OY
 | @cons p q ps qs h t ih=>
  obtain⟨h1,_,h2⟩:=h
  by_cases e:p.1=k
  ·have e':q.1=k:=h1.symm.trans e
   have b:Sk (q::qs) k=some q.2:=by simp[Sk,OE,e']
   rw[gu e,b];exact h2
  ·have e':¬ q.1=k:=fun z=>e (h1.trans z)
   have b:Sk (q::qs) k=Sk qs k:=by simp[Sk,OE,e']
   rw[dm e,b];exact ih
theorem KT.repl{H:Hp}{kvs:List (jX×V)}{xs:List (jX×Addr×Value)}(r:KT H kvs xs)(k:jX){y:V}{u:Value}(ry:RelV y u) :
  KT H (kvs.map fun kv=>if kv.1=k then (kv.1,y) else kv) (xs.map (putAt k u)):=by
 induction r with
 | nil=>exact .nil
 | @cons p q ps qs h t ih=>
  rw[MN,MN];refine .cons ?_ ih;obtain⟨h1,h2,h3⟩:=h;unfold putAt
  by_cases e:p.1=k
  ·rw[if_pos e,if_pos (h1.symm.trans e)];exact⟨h1,h2,ry⟩
  ·rw[if_neg e,if_neg (fun z=>e (h1.trans z))];exact⟨h1,h2,h3⟩
theorem KT.put{H:Hp}{kvs:List (jX×V)}{xs:List (jX×Addr×Value)}(r:KT H kvs xs)(k:jX){b:Addr}{y:V}{u:Value}(hb:jW H b k)(ry:RelV y u) :
  KT H (putK kvs k y) (storedH xs k b u):=by
 have e:(kvs.any fun kv=>decide (kv.1=k))=(Sk xs k).isSome:=by
  rw[jk,(r.val k).isSome_eq,Option.isSome_map]
 unfold putK storedH;rw[e]
 by_cases q:(Sk xs k).isSome=true
 ·rw[if_pos q,if_pos q];exact r.repl k ry
 ·rw[if_neg q,if_neg q];exact Paired.snoc r ⟨rfl,hb,ry⟩
theorem KT.keeps{H H':Hp}{kvs:List (jX×V)}{xs:List (jX×Addr×Value)}(r:KT H kvs xs)(ht:∀b ys,H b=some (.tup ys)->H' b=some (.tup ys)):KT H' kvs xs:=
 Paired.mapP r fun _ _ z=>⟨z.1,z.2.1.keeps ht,z.2.2⟩
section
variable{P : MP}{w : Me}{H : Hp}{h : Heap}{a : Addr}
theorem FW{u:HO}(ok:HOk P w H h)(e:Rd H a u):eK P w H h a u:=e.ok ok
theorem AJ{kvs:List (Key×V)}(ok:HOk P w H h)(e:Rd H a (.dK kvs)):kvs.length<=sizeLine/\(a == NL)=false/\∃vs,KV kvs vs/\h.DictOf (aE P w) a vs:=
 show eK P w H h a (.dK kvs) from FW ok e
theorem Hh{kvs:List (Key×V)}(ok:HOk P w H h)(e:H a=some (.dK kvs)):kvs.length<=sizeLine/\(a == NL)=false/\∃vs,KV kvs vs/\h.DictOf (aE P w) a vs:=AJ ok (.inl e)
theorem DO{ks:List Key}(ok:HOk P w H h)(e:H a=some (.tup (ks.map kV))):RO (aE P w) h ks a:=by
 obtain⟨_,its,r,o,h1,h2,⟨n,h3⟩,_⟩:=(show eK P w H h a (.tup (ks.map kV)) from ok a _ e);exact⟨o,its.toArray,n,h1,h2,h3,by simpa using qz r⟩
theorem lQ(ok:HOk P w H h):∀{ks:jX}{vs:List V}{us:List Value},NV H ks vs->Vals vs us->NItems (aE P w) h ks us
 | [],_,_,e,r=>by cases e;cases r;exact .nil
 | .inl k::ks,_,_,⟨t,e,m⟩,r=>by
  subst e;cases r with
  | cons h1 h2=>exact .sc (oK h1) (lQ ok m h2)
 | .inr l::ks,_,_,⟨c,t,e,hc,m⟩,r=>by
  subst e;cases r with
  | cons h1 h2=>cases h1;exact .tp (DO ok hc) (lQ ok m h2)
theorem xm{ks:jX}(ok:HOk P w H h)(e:jW H a ks):(jD P w).is h ks a:=by
 obtain⟨vs,e,m⟩:=e;obtain⟨_,its,r,o,h1,h2,⟨n,h3⟩,_⟩:=(show eK P w H h a (.tup vs) from ok a _ e);exact⟨o,its.toArray,n,h1,h2,h3,by simpa using lQ ok m r⟩
theorem qq{A:Mi}(hu:A.units+16<cLine):A.in1.units+8<cLine:=show A.units+1+8<cLine by omega
theorem AI{kvs:List (jX×V)}(ok:HOk P w H h)(e:Rd H a (.dT kvs)):kvs.length<=sizeLine/\(a == NL)=false/\
  ∃xs,KT H kvs xs/\h.DictOfH (jD P w) a xs:=by
 obtain⟨z,y,xs,r,o,es,ep,h1,h2,h3,h4,h5⟩:=(show eK P w H h a (.dT kvs) from FW ok e);refine⟨z,y,xs,r,o,es,ep,h1,h2,h3,h4,fun x hx=>?_,h5⟩
 have all:∀{l:List (jX×V)}{m:List (jX×Addr×Value)},KT H l m->∀x∈m,(jD P w).is h x.1 x.2.1:=by
  intro l m q
  induction q with
  | nil=>intro x hx;exact nomatch hx
  | @cons p q ps qs hq t ih=>
   intro x hx;rcases MH.mp hx with e | hx
   ·subst e
    exact xm ok (by rw[← hq.1];exact hq.2.1)
   ·exact ih x hx
 exact all r x hx
theorem JQ{kvs:List (jX×V)}(ok:HOk P w H h)(e:H a=some (.dT kvs)):kvs.length<=sizeLine/\(a == NL)=false/\
  ∃xs,KT H kvs xs/\h.DictOfH (jD P w) a xs:=AI ok (.inl e)
end
def C4(H:Hp)(a:Addr)(y:V)(r:Option V):Prop:=
 (∃kvs k,Rd H a (.dK kvs)/\y=kV k/\r=o4 kvs k)\/∃kvs k b,Rd H a (.dT kvs)/\y=.ref b/\jW H b k/\r=o4 kvs k
def F5(H:Hp)(a:Addr)(y v:V)(H':Hp):Prop:=
 (∃kvs k,H a=some (.dK kvs)/\y=kV k/\kvs.length<sizeLine/\H'=upd H a (.dK (putK kvs k v))) ∨
 ∃kvs k b,H a=some (.dT kvs)/\y=.ref b/\jW H b k/\kvs.length<sizeLine/\H'=upd H a (.dT (putK kvs k v))
theorem C4.k{H:Hp}{a:Addr}{kvs:List (Key×V)}{k:Key}(e:H a=some (.dK kvs)):C4 H a (kV k) (o4 kvs k):=.inl ⟨kvs,k,.inl e,rfl,rfl⟩
theorem F5.k{H:Hp}{a:Addr}{kvs:List (Key×V)}{k:Key}{v:V}(e:H a=some (.dK kvs))(hl:kvs.length<sizeLine):F5 H a (kV k) v (upd H a (.dK (putK kvs k v))):=.inl ⟨kvs,k,e,rfl,hl,rfl⟩
section
variable{X : Cx}{pins : List (Addr×Obj)}{σ : St}{H : Hp}{s : MB}{a : Addr}{y v : V}{u r : Value}{o : Option V}{A : Mi}{E : Value → MB → Prop}
theorem Inv.big(I:Inv X pins σ H s):NL<s.heap.objs.size:=by
 have h:MM<s.heap.objs.size:=(I.mod.glob.keeps I.bk).lt;exact Su (by decide) h
theorem yk{Q:Value->MB->Prop}(hu:A.units+16<cLine)(I:Inv X pins σ H s)(g:C4 H a y (some v))(ry:RelV y u)(h:∀w' s',Inv X pins σ H s'->RelV v w'->Q w' s') :
  MK (MV X.prog X.w) A (R8 (.ref a) u) Q E s:=by
 rcases g with⟨kvs,k,e,ey,l⟩|⟨kvs,k,b,e,ey,eb,l⟩
 ·subst ey
  obtain⟨z,hd,vs,rel,dd⟩:=AJ I.hok e;obtain⟨w',hw,rw'⟩:=sv.some_of (v:=v) (o:=Nu vs k) (by rw[l];exact rel.val k);exact wpAny_getItem_of (oK ry) dd.mapOf hw (h w' _ (I.tok _) rw')
 ·subst ey
  cases (show u=Mq b from ry);obtain⟨z,hd,xs,rel,dd⟩:=AI I.hok e;obtain⟨w',hw,rw'⟩:=sv.some_of (v:=v) (o:=(Sk xs k).map (·.2)) (by rw[l];exact rel.val k);obtain⟨p,hp,hp2⟩:=MR.mp hw;refine wpAny_getItem_heap (qq hu) (xm I.hok eb) dd hp ?_;rw[hp2];exact h w' _ (I.tok _) rw'
theorem si{h':Heap}{t':Nat}{ob:HO}(I:Inv X pins σ H s)(mu:Mut (H a))(hs:Oj a s.heap h')(he:∃q,h'.get? a=some q)(new:eK X.prog X.w (upd H a ob) h' a ob) :
  Inv X pins σ (upd H a ob) { s with heap:=h',toks:=t' }:=
 I.write (x:=a) (e:=a) mu (.inl rfl) (fun b q hb z=>(hs.2 b hb).trans z) he new
theorem BQ{P:MP}{w:Me}{H':Hp}{h':Heap}{kvs:List (Key×V)}{vs:List (Key×Value)}(z:kvs.length<=sizeLine)(hd:(a == NL)=false)(rel:KV kvs vs)(dd:h'.DictOf (aE P w) a vs) :
  eK P w H' h' a (.dK kvs):=⟨z,hd,vs,rel,dd⟩
theorem yj{H':Hp}{Q:Unit->MB->Prop}(hu:A.units+16<cLine)(I:Inv X pins σ H s)(g:F5 H a y v H')(ry:RelV y u)(rv:RelV v r)(h:∀s',Inv X pins σ H' s'->Q () s') :
  MK (MV X.prog X.w) A (setItem (.ref a) u r) Q E s:=by
 rcases g with⟨kvs,k,e,ey,l,eH⟩|⟨kvs,k,b,e,ey,eb,l,eH⟩
 ·subst ey eH
  obtain⟨z,hd,vs,rel,dd⟩:=Hh I.hok e;have hz:vs.length<=sizeLine:=by rw[← rel.length];exact z
  have hl:(putK kvs k v).length<=sizeLine:=by have:=jb kvs k v;omega
  refine wpAny_setItem_pairs (hsz:=hz) (oK ry) dd fun h' dd' hs=>h _ ?_;have he:∃q,h'.get? a=some q:=let ⟨q,_,_,hq,_⟩:=dd';⟨q,hq⟩
  exact si I (by rw[e];exact OY) hs he (BQ hl hd (rel.put k rv) dd')
 ·subst ey eH
  cases (show u=Mq b from ry);obtain⟨z,hd,xs,rel,dd⟩:=JQ I.hok e;have hz:xs.length<=sizeLine:=by rw[← NP rel];exact z
  have hl:(putK kvs k v).length<=sizeLine:=by have:=jb kvs k v;omega
  refine wpAny_setItem_heap (hsz:=hz) (qq hu) (xm I.hok eb) dd fun h' dd' hs=>h _ ?_;obtain⟨q,es,ep,hq,h2,h3,h4,_,h5⟩:=dd';refine si I (by rw[e];exact OY) hs ⟨q,hq⟩ ⟨hl,hd,_,(rel.put k eb rv).keeps fun c ys ec=>?_,q,es,ep,hq,h2,h3,h4,h5⟩;rw[az (Jl ec e (fun z=>nomatch z))];exact ec
end
def KJ(i:Expr):Prop:=∀ov iv,S9 i false ov iv=operate [ov,iv] (R8 ov iv)
theorem Cs{prog:MP}{w:Me}{A:Mi}{E:Value->MB->Prop}{s:MB}{env:QX}{value slice:Expr}{pos:O4}{T id:String}{Q:Value->MB->Prop}
  (hl:Si (.type T) "__getitem__"=pure (some (.builtin id))) (hs:KJ slice)
  (h:MK (MV prog w) A (NC value env) (fun o s₁=>MK (MV prog w) A (NC slice env) (fun i s₂=>s₂.TypeIs o T/\MK (MV prog w) A (R8 o i) Q E s₂) E s₁) E s) :
  MK (MV prog w) A (NC (.Subscript value slice pos) env) Q E s:=by
 refine Subscript_ (N7 h (fun o s₁ h₁=>N7 h₁ (fun i s₂ h₂=>?_) fun _ _ x=>x) fun _ _ x=>x);obtain⟨hT,h₂⟩:=h₂;unfold TJ;refine MA ?_;rw[getitemInPython_of_ne hT.not_modules];refine MA (Pu hT hl ?_)
 have fin:MK (MV prog w) A (S9 slice false o i) (fun r s₃=>MK (MV prog w) A (letTemporaryGo value o r >>= fun _=>pure r) Q E s₃) E s₂:=by
  rw[hs o i];exact wpAny_operating (N7 h₂ (fun r s₃ h₃=>MA (wpAny_letTemporaryGo (ME h₃))) fun _ _ x=>x)
 first
  | exact ME (MA fin)
  | exact MA (ME (MA fin))
  | exact MA fin
theorem sh {X:Cx} {pins:List (Addr×Obj)} {σ:St} {H:Hp} {s:MB} {a:Addr} {y:V} {o:Option V} (I:Inv X pins σ H s) (g:C4 H a y o):s.TypeIs (.ref a) "dict":=by
 rcases g with⟨kvs,k,e,_,_⟩|⟨kvs,k,b,e,_,_,_⟩
 ·obtain⟨_,_,vs,_,dd⟩:=AJ I.hok e
  exact dd.typeIs
 ·obtain⟨_,_,xs,_,dd⟩:=AI I.hok e
  exact dd.typeIs
noncomputable def II(td ty:TE):TE:=fun σ H Q=>td σ H fun x H1=>ty σ H1 fun y H2=>∃a v,x=.ref a/\C4 H2 a y (some v)/\Q v H2
noncomputable def IM(td ty tv:TE):TS:=fun D σ H=>tv σ H fun v H1=>td σ H1 fun x H2=>ty σ H2 fun y H3=>∃a H4,x=.ref a/\F5 H3 a y v H4/\D.nx σ H4
section
variable{X : Cx}{o i e value : Expr}{pos pos' tpos : O4}{td ty tv : TE}
theorem rK(hu:X.A.units+16<cLine)(ho:PE X o td)(hi:PE X i ty)(hs:KJ i):PE X (.Subscript o i pos) (II td ty):=by
 intro pins s σ H Q I h;refine Cs RW.lookup hs (thn (ho pins s σ H _ I h) fun u s1 ⟨x,H1,I1,rx,q1⟩=>thn (hi pins s1 σ H1 _ I1 q1) fun iv s2 ⟨y,H2,I2,ry,a,v,ex,g,q2⟩=>?_);subst ex;obtain rfl:u=Mq a:=rx;exact⟨sh I2 g,yk hu I2 g ry fun w' s3 I3 rw'=>⟨v,H2,I3,rw',q2⟩⟩
theorem wq(hu:X.A.units+16<cLine)(ho:PE X o td)(hi:PE X i ty)(hv:PE X value tv)(hs:Nk value (some (.Subscript o i pos')) pos.line X.env=pure false) :
  PS X (.Assign [.Subscript o i pos'] value pos) (IM td ty tv):=by
 intro pins s σ H D I h;refine wpAny_Assign_Subscript (thn (hv pins s σ H _ I h) fun r s1 ⟨v,H1,I1,rv,q1⟩=>thn (ho pins s1 σ H1 _ I1 q1) fun u s2 ⟨x,H2,I2,rx,q2⟩=>thn (hi pins s2 σ H2 _ I2 q2) fun iv s3 ⟨y,H3,I3,ry,a,H4,ex,g,q3⟩=>?_) hs;subst ex;obtain rfl:u=Mq a:=rx;exact yj hu I3 g ry rv fun s4 I4=>⟨σ,H4,I4,q3⟩
end
theorem tP {P:MP} {w:Me} {H:Hp} (h:Heap) (hb:NL<h.objs.size):eK P w H (h.push { cls:=.type "dict",data:=.dict #[] }) h.objs.size (.dK []):=
 ⟨O5 _,beq_eq_false_iff_ne.mpr (Nd (MU hb)),[],.nil,Heap.DictOf.new h⟩
def FH:TE:=fun _ H Q=>∀p,H p=none->Q (.ref p) (upd H p (.dK []))
section
variable{X : Cx}{pos : O4}
theorem zL:PE X (.Dict [] [] pos) FH:=fun pins s σ H Q I h=>
 wpAny_Dict_empty ⟨.ref s.heap.objs.size,_,I.laid (a:=s.heap.objs.size) (o:=.dK []) (t':=s.toks) (fun _ _ q=>MD _ q) (MX _) (tP s.heap I.big),rfl,h _ (I.hok.fresh (MX _))⟩
end
def mZ:List (TE×TE)->St->Hp->(List (V×V)->Hp->Prop)->Prop
 | [],_,H,Q=>Q [] H
 | (tk,tv)::r,σ,H,Q=>tk σ H fun x H1=>tv σ H1 fun y H2=>mZ r σ H2 fun ps H3=>Q ((x,y)::ps) H3
abbrev VV:List (V×V)->List (Value×Value)->Prop:=Sq fun p q=>RelV p.1 q.1/\RelV p.2 q.2
def PPs(X:Cx)(pos:O4)(keys:List (Option Expr))(values:List Expr)(trs:List (TE×TE)):Prop:=
 ∀(pins:List (Addr×Obj))(s:MB)(σ:St)(H:Hp)(Q:List (V×V)->Hp->Prop),Inv X pins σ H s->mZ trs σ H Q->
  MK (MV X.prog X.w) X.A (evalPairs (pairTrees keys values X.env pos)) (fun vs s'=>∃ps H',Inv X pins σ H' s'/\VV ps vs/\Q ps H') X.xe s
theorem CU{X:Cx}{pos:O4}:PPs X pos [] [] []:=fun pins s σ H Q I h=>pairTrees_nil_walk ⟨[],H,I,.nil,h⟩
theorem sR{X:Cx}{pos:O4}{k v:Expr}{ks:List (Option Expr)}{vs:List Expr}{tk tv:TE}{trs:List (TE×TE)}(hk:PE X k tk)(hv:PE X v tv)(hr:PPs X pos ks vs trs) :
  PPs X pos (some k::ks) (v::vs) ((tk,tv)::trs):=fun pins s σ H Q I h=>
 pairTrees_cons_walk (thn (hk pins s σ H _ I h) fun u s1 ⟨x,H1,I1,rx,q1⟩=>thn (hv pins s1 σ H1 _ I1 q1) fun w2 s2 ⟨y,H2,I2,ry,q2⟩=>
  thn (hr pins s2 σ H2 _ I2 q2) fun ws s3 ⟨ps,H3,I3,rel,q3⟩=>⟨(x,y)::ps,H3,I3,.cons ⟨rx,ry⟩ rel,q3⟩)
def iL(kvs more:List (Key×V)):List (Key×V):=more.foldl (fun acc kv=>putK acc kv.1 kv.2) kvs
theorem KV.merge:∀{more:List (Key×V)}{rs:List (Key×Value)}{kvs:List (Key×V)}{vs:List (Key×Value)},KV more rs->KV kvs vs->KV (iL kvs more) (merged vs rs):=by
 intro more rs kvs vs r;unfold KV at r
 induction r generalizing kvs vs with
 | nil=>intro q;exact q
 | @cons p q ps qs h t ih=>
  intro r0
  have e:KV (putK kvs p.1 p.2) (stored vs q.1 q.2):=by
   have:=r0.put p.1 h.2;rw[← h.1];exact this
  exact ih e
theorem jG:∀(more kvs:List (Key×V)),(iL kvs more).length<=kvs.length+more.length
 | [],kvs=>by show kvs.length<=kvs.length+0;omega
 | p::r,kvs=>by
  have h1:=jG r (putK kvs p.1 p.2);have h2:=jb kvs p.1 p.2;show (iL (putK kvs p.1 p.2) r).length<=_;rw[MI];omega
theorem nZ{P:MP}{w:Me}:∀{kvs:List (Key×V)}{ws:List (Value×Value)},VV (kvs.map fun kv=>(kV kv.1,kv.2)) ws->∃rs,Carries (aE P w) ws rs/\KV kvs rs
 | [],_,r=>by rw[RA] at r;cases r;exact⟨[],OY,.nil⟩
 | p::kvs,_,r=>by
  rw[MN] at r;cases r with
  | @cons a b as bs h t=>
   obtain⟨rs,c,q⟩:=nZ (P:=P) (w:=w) t;obtain⟨b1,b2⟩:=b;exact⟨(p.1,b2)::rs,⟨oK h.1,rfl,c⟩,.cons ⟨rfl,h.2⟩ q⟩
def IH(trs:List (TE×TE)):TE:=fun σ H Q=>∀p,H p=none->mZ trs σ (upd H p (.dK [])) fun ps H2=>H2 p=some (.dK [])/\∃kvs:List (Key×V),ps=kvs.map (fun kv=>(kV kv.1,kv.2))/\kvs.length<=15/\Q (.ref p) (upd H2 p (.dK (iL [] kvs)))
theorem D3{X:Cx}{pos:O4}{keys:List (Option Expr)}{values:List Expr}{trs:List (TE×TE)}(h:PPs X pos keys values trs)(hall:keys.all (·.isSome)=true)(hl:keys.length=values.length)(h0:keys≠[])
  (h15:keys.length<=15):PE X (.Dict keys values pos) (IH trs):=by
 intro pins s σ H Q I q;have hn:=I.hok.fresh (MX s.heap.objs.size);have I1:=I.laid (a:=s.heap.objs.size) (o:=.dK []) (h':=s.heap.push { cls:=.type "dict",data:=.dict #[] }) (t':=s.toks) (fun _ _ q=>MD _ q) (MX _) (tP s.heap I.big);refine wpAny_Dict_walk (knd:=aE X.prog X.w) hall hl h0 h15 (thn (h pins _ σ _ _ I1 (q _ hn)) fun ws s2 ⟨ps,H2,I2,rel,e,kvs,ep,lk,q2⟩=>?_);subst ep;obtain⟨rs,c,rk⟩:=nZ (P:=X.prog) (w:=X.w) rel;obtain⟨z,hd,vs0,r0,dd⟩:=Hh I2.hok e;cases r0;refine⟨rs,c,dd,fun h' dd' hs=>⟨.ref s.heap.objs.size,_,?_,rfl,q2⟩⟩
 have hz:(iL [] kvs).length<=sizeLine:=by
  have h1:=jG kvs [];rw[OD] at h1;rw[My];omega
 have he:∃q,h'.get? s.heap.objs.size=some q:=let ⟨q,_,_,hq,_⟩:=dd';⟨q,hq⟩
 exact si I2 (by rw[e];exact OY) hs he (BQ hz hd (rk.merge .nil) dd')
end L2
namespace Att
open PySem PySem.W PySem.Calls PyProof.Rows
theorem mf{P:Params}{h:Heap}:∀(ns:List Int)(vs:List Value),WellAll P h vs (ns.map WData.int)->Tq vs ns:=by
 intro ns
 induction ns with
 | nil=>
  intro vs w;rw[RA] at w;cases w;exact .nil
 | cons n ns ih=>
  intro vs w;rw[MN] at w;cases w with
  | cons a b=>
   cases a;exact .cons _ _ (ih _ b)
theorem vO{l:OpenLaw}{n:Nat}(hn:l.most=some n){P:Params}{h:Heap}{args:List WData}{vals:List Value}
  (hpre:l.row.toRowW.claim.pre args=true) (hwl:WellAll P h vals args) :
  ∃a vs ns,vals=[Mq a]/\args=[WData.list (ns.map WData.int)]/\h.get? a=some { cls:=.type "list",data:=.seq vs.toArray }/\Tq vs ns/\ns.length<=n:=by
 have hsh:WShape.hasAll [] args [.list .int]=true:=(pre_splitW hpre).1;have hc:l.pre.holds [] { args:=args }=true:=(pre_splitW hpre).2;obtain⟨d,r,rfl,h1,h2⟩:=hasAllW_cons hsh;obtain rfl:=hasAllW_nil h2;obtain⟨xs,rfl,h3⟩:=hasW_list h1;obtain⟨ns,rfl⟩:=items_int h3
 have hlen:ns.length<=n:=by
  unfold OpenLaw.pre at hc
  have h4:(WTm.not (.lt (.lit (.int (n:Int))) (.len (.arg 0)))).holds [] { args:=[.list (ns.map .int)] }=true:=by
   have h4:=(holds_andW hc).1;rw[hn] at h4;exact h4
  have h5:=condW_of h4 (w_not (w_lt w_lit (w_len_list (w_arg rfl))));rw[MC] at h5;refine Nat.le_of_not_lt fun q=>?_;have q':(n:Int)<((ns.length:Nat):Int):=by omega
  first
   | (rw[decide_eq_true q'] at h5;exact absurd h5 (by decide))
   | (simp at h5;omega)
 cases hwl with
 | cons w1 w2=>
  cases w2;cases w1 with
  | list ho hall=>exact⟨_,_,ns,rfl,rfl,ho,mf ns _ hall,hlen⟩
theorem wt(l:OpenLaw)(args:List WData):l.row.toRowW.claim.post args (.bool true) args=true:=
 postW_of (r:=l.row.toRowW) (X:=(true == true))
  (show WShape.has [] (.bool true) .bool=true by first | rfl | decide | simp[WShape.has,WShape.arms,WShape.armsAll])
  (show (WTm.eq .res (.lit (.bool true))).value [] { args:=args,res:=some (.bool true),after:=args }=some (.bool (true == true)) from w_eq_bool (w_res rfl) w_lit) rfl
theorem attach_call{l:OpenLaw}{n:Nat}{q:MP}{loose:List Str}{XP:(Str->Option Value)->Heap->Prop}{YP:Me->Heap->Prop}{d:DefRec}
  (hn:l.most=some n) (hdf:d.params.defaults=[])
  (call:∀(w:Me)(s₀ s₁:MB)(mg mb:Str->Option Value)(fa:Addr)(o:Obj)(pm cd doc:Value)(a:Addr)(vs:List Value)(ns:List Int),
   Ground q loose [] XP w s₀ mg mb s₁.heap->YP w s₁.heap->
   s₁.heap.get? fa=some o->o.data=.func (docDef d.name d.params d.body d.scope pm cd doc)->s₁.heap.CodeRec cd d.name->mg d.name=some (.ref fa)->
   s₁.heap.get? a=some { cls:=.type "list",data:=.seq vs.toArray }->Tq vs ns->ns.length<=n->s₁.gens=#[]->
   Pj (MV l.prog w) Re (.call (.ref fa) ⟨[.ref a],[]⟩) (fun r s'=>r=.ok (.ret (.bool true))/\OldK s₁.heap s'.heap/\s'.os=s₁.os/\Q1 s'.gens) s₁) :
  WalkO q loose XP YP l.row.toRowW d [] (fun f vs=>T9 f vs):=by
 intro w s₀ s₁ mg mb G Y fa o pm cd doc dV kV ho hd hcd hD hmg hg args vals as hpre hlay hrd hwl hlo;obtain rfl:dV=.none:=Dflts.none hD hdf;obtain rfl:kV=.none:=Dflts.noKw hD;obtain⟨a,vs,ns,rfl,rfl,hobj,hints,hlen⟩:=vO hn hpre hwl;refine enter_call (PR (call w s₀ s₁ mg mb fa o pm cd doc a vs ns G Y ho (fd_plain hd) hcd hmg hobj hints hlen hg) fun r s' hq=>?_);obtain⟨rfl,h2,h3,h4⟩:=hq;exact⟨.inl ⟨.bool true,.bool true,[],rfl,fun _=>rfl,.bool true,wt l _,fun _=>⟨List.Pairwise.nil,fun _ hm=>(nomatch hm)⟩⟩,h2,h3,h4⟩
end Att
namespace L2
open PySem PySem.Spec PyProof.Rows
theorem pH:∀{vs:List Value}{ns:List Int},Tq vs ns->Vals (ns.map V.int) vs
 | _,_,.nil=>.nil
 | _,_,.cons n t h=>.cons ⟨t,rfl⟩ (pH h)
def JV(H:Hp):Prop:=∀b,H b=none\/∃o xs,H b=some (.frz o (.lst xs))
end L2
namespace L2
open PySem PySem.Spec PyProof.Rows
noncomputable def Dz(s:Stmt)(j:Nat):Stmt:=match s with
 | .ClassDef _ _ _ body _ _ _ _ _ _ _=>body.getD j (.Pass ⟨0,0,0,0⟩)
 | _=>.Pass ⟨0,0,0,0⟩
noncomputable def cR(s:Stmt):Arguments:=match s with
 | .FunctionDef _ a _ _ _ _ _ _ _ _=>a
 | _=>{ posonlyargs:=[],args:=[],vararg:=none,kwonlyargs:=[],kw_defaults:=[],kwarg:=none,defaults:=[] }
noncomputable def ba(s:Stmt):List Stmt:=match s with
 | .FunctionDef _ _ b _ _ _ _ _ _ _=>b
 | _=>[]
noncomputable def af(s:Stmt):Scope:=match s with
 | .FunctionDef _ _ _ _ _ _ sc _ _ _=>sc
 | _=>{ kind:=.function,names:=[],isGenerator:=false,isCoroutine:=false }
abbrev CX0:CXT:=fun _ _ _ _ _ _=>False
abbrev E0:XK:=fun _ _ _=>False
theorem D5{X:Cx}:Passes CX0 X E0:=fun _ _ _ _ _ _ _ h=>h.elim
structure Fun(K:M9)(x qual:Str)(st:Stmt)(f:Addr)(fd:FuncData):Prop where
 ex:∃(oc:Value)(od:Option Addr)(kV doc pm:Value)(an:Option Addr)(cdv ct:Value)(osl:Array (Option Value)),
  fd=NJ x qual (cR st) (ba st) (af st) .none kV doc pm an cdv ct/\K.lookup f=some ⟨oc,od,.func fd,osl⟩/\OH K cdv qual=true
 kp:NO K (.ref f)=true
section
variable{P : MP}{w : Me}{K : M9}{mg : Str → Option Value}{base : Heap}
theorem Fun.ok{x qual:Str}{st:Stmt}{f:Addr}{fd:FuncData}{N ps:List Str}{k:Nat}{sp:Sp}(F:Fun K x qual st f fd)(S:FnScope N ps (af st))(len:∀vs H Q E,sp vs H Q E->vs.length=ps.length)
  (hbody:∀(cdv:Value)(A:Mi)(outer:List QX)(s:MB)(H:Hp)(vs:List V)(Q:VK)(E:XK),Room k (A.deeper (Og qual (af st) s.heap.objs.size f cdv))->sp vs H Q E->
   ∃t,PSs (ym CX0 P w K mg base N qual (af st) f cdv A outer s H E).nox (ba st) t/\t { nx:=fun _ H'=>Q .non H',rt:=Q } (start N vs) H):FnOk P w K mg base CX0 (k+1) f fd ps sp:=by
 obtain⟨oc,od,kV,doc,pm,an,cdv,ct,osl,rfl,lk,hcd⟩:=F.ex;refine GZ lk hcd S len fun A outer s H vs Q E hr hsp=>?_;obtain⟨t,h,q⟩:=hbody cdv A outer s H vs Q E hr hsp;exact⟨t,h.nox,q⟩
theorem Fun.binds{x qual:Str}{st:Stmt}{f:Addr}{fd:FuncData}{ps:List Str}(F:Fun K x qual st f fd)
  (h:∀(kV doc pm:Value)(an:Option Addr)(cdv ct:Value)(us:List Value),us.length=ps.length->Rg (NJ x qual (cR st) (ba st) (af st) .none kV doc pm an cdv ct) ⟨us,[]⟩=pure (ps.zip us)):Binds K fd ps []:=by
 obtain⟨oc,od,kV,doc,pm,an,cdv,ct,osl,rfl,lk,hcd⟩:=F.ex;exact .all (h kV doc pm an cdv ct)
theorem BL{x qual:Str}{st:Stmt}{f:Addr}{oc:Value}{od an:Option Addr}{osl:Array (Option Value)}{kV doc pm cdv ct:Value}(l:K.lookup f=some ⟨oc,od,.func (NJ x qual (cR st) (ba st) (af st) .none kV doc pm an cdv ct),osl⟩)
  (c:OH K cdv qual=true) (k:NO K (.ref f)=true):Fun K x qual st f (NJ x qual (cR st) (ba st) (af st) .none kV doc pm an cdv ct):=⟨⟨oc,od,kV,doc,pm,an,cdv,ct,osl,rfl,l,c⟩,k⟩
end
theorem Ah{A B:Prop}(h:B):if false=true then A else B:=by
 rw[if_neg ML];exact h
theorem Ag{A B:Prop}(h:A):if true=true then A else B:=by
 rw[if_pos rfl];exact h
end L2
end
namespace PU
theorem Ae(s:PySem.Str)(l:List PySem.Str):PySem.Txt.join s l=P5 s l:=PySem.StrLaws.glued_eq_join s l
end PU
section
namespace PU
open PySem L2
structure Lam where
 qual:Str
 args:Arguments
 body:FuncBody
 scope:Scope
 kept:List Str
 name:Str
inductive PV where
 | non | bl (b:Bool) | int (i:Int) | str (x:Str)
 | tup (ps:List PV) | lst (ps:List PV)
 | dct (ks:List Key) (ps:List PV) | dtt (ks:List jX) (ps:List PV)
 | fn (L:Lam) (cs:List PV)
noncomputable def LC:List (List Str):=[["name"],["letters key","letters"],["name","many","name","many","name","text"],["key","target"],["word","name"],["name","name"],["from","till","name"],["name","text"],["menu","names","hours","hand","end"],
 ["new"],["house"],["house","hour"],["call","signs"],["call"],["house","hour","out"],["house","house","hour"],["house","names"],["hand","end"],["names"]]
noncomputable def vJ:List PV->List Str->Bool
 | [],[]=>true
 | .str x::ps,y::ys=>x == y && vJ ps ys
 | _,_=>false
def xA(ps:List PV):Bool:=LC.any (vJ ps)
structure PX where
 cls:Str
 args:List PV
inductive R (α:Type) where
 | ok (a:α) | er (x:PX) | no
namespace R
protected noncomputable def bind{α β:Type}:R α->(α->R β)->R β
 | ok a,f=>f a
 | er x,_=>er x
 | no,_=>no
instance:Monad R where
 pure:=R.ok
 bind:=R.bind
@[simp] theorem ok_bind{α β:Type}(a:α)(f:α->R β):(R.ok a >>= f)=f a:=rfl
@[simp] theorem JP{α β:Type}(x:PX)(f:α->R β):((R.er x:R α) >>= f)=R.er x:=rfl
@[simp] theorem Jj{α β:Type}(f:α->R β):((R.no:R α) >>= f)=R.no:=rfl
@[simp] theorem IS{α:Type}(a:α):(pure a:R α)=R.ok a:=rfl
def ofO{α:Type}:Option α->R α
 | some a=>ok a
 | none=>no
@[simp] theorem ofO_some{α:Type}(a:α):ofO (some a)=R.ok a:=rfl
@[simp] theorem ofO_none{α:Type}:ofO (none:Option α)=R.no:=rfl
theorem bind_assoc{α β γ:Type}(r:R α)(f:α->R β)(g:β->R γ):((r >>= f) >>= g)=(r >>= fun a=>f a >>= g):=by cases r <;> rfl
end R
inductive Fld where
 | val (p:PV) | own (p:PV)
inductive Tr where
 | leaf (p:PV) | node (ks:List Key) (fs:List Fld)
inductive Sl where
 | no | val (p:PV) | own (p:PV) | tree (t:Tr) | exc (x:PX)
abbrev PSt:=List Sl
noncomputable def ah(i:Nat)(ρ:PSt):R PV:=match ρ[i]? with
 | some (.val p)=>.ok p
 | _=>.no
noncomputable def yN(i:Nat)(ρ:PSt):R PV:=match ρ[i]? with
 | some (.val p)=>.ok p
 | some (.own p)=>.ok p
 | some (.tree (.leaf p))=>.ok p
 | _=>.no
def kI(i:Int):PSt->R PV:=fun _=>.ok (.int i)
def kB(b:Bool):PSt->R PV:=fun _=>.ok (.bl b)
def kN:PSt->R PV:=fun _=>.ok .non
def kS(x:Str):PSt->R PV:=fun _=>.ok (.str x)
def kP(p:PV):PSt->R PV:=fun _=>.ok p
def aU:PSt->R (List PV):=fun _=>.ok []
noncomputable def ae(f:PSt->R PV)(fs:PSt->R (List PV)):PSt->R (List PV):=fun ρ=>f ρ >>= fun p=>fs ρ >>= fun ps=>.ok (p::ps)
noncomputable def iN(ps:List PV):R (List PV):=if ps.length<=16777216 then .ok ps else .no
def kL(fs:PSt->R (List PV)):PSt->R PV:=fun ρ=>fs ρ >>= fun ps=>iN ps >>= fun ps=>.ok (.tup ps)
def gp(fs:PSt->R (List PV)):PSt->R PV:=fun ρ=>fs ρ >>= fun ps=>iN ps >>= fun ps=>.ok (.lst ps)
noncomputable def au(fa fb:PSt->R PV)(g:PV->PV->Option PV):PSt->R PV:=fun ρ=>fa ρ >>= fun p=>fb ρ >>= fun q=>R.ofO (g p q)
noncomputable def kH(fa fb fc:PSt->R PV)(g g':PV->PV->Option PV):PSt->R PV:=fun ρ=>fa ρ >>= fun p=>fb ρ >>= fun q=>R.ofO (g p q) >>= fun z=>match z with
 | .bl true=>fc ρ >>= fun r=>R.ofO (g' q r)
 | .bl false=>.ok (.bl false)
 | _=>.no
noncomputable def kM:PV->Option Bool
 | .non=>some false
 | .bl b=>some b
 | .int i=>some (i != 0)
 | .str y=>if y.length<=16777216 then some ((y.length:Int) != 0) else none
 | .tup ps=>some (!ps.isEmpty)
 | .lst ps=>some (!ps.isEmpty)
 | .dct ks _=>some (!ks.isEmpty)
 | .dtt _ _=>none
 | .fn _ _=>none
def bX(f:PSt->R PV):PSt->R Bool:=fun ρ=>f ρ >>= fun p=>R.ofO (kM p)
noncomputable def bC:PV->PV->Option PV
 | .int i,.int j=>some (.int (i+j))
 | .str x,.str y=>if x.length+y.length<=16777216 then some (.str (x++y)) else none
 | .lst ps,.lst qs=>if ps.length+qs.length<=16777216 then some (.lst (ps++qs)) else none
 | .tup ps,.tup qs=>if ps.length+qs.length<=16777216 then some (.tup (ps++qs)) else none
 | _,_=>none
noncomputable def KG:PV->PV->Option PV
 | .int i,.int j=>some (.int (i-j))
 | _,_=>none
noncomputable def F1:PV->PV->Option PV
 | .int i,.int j=>if i.natAbs<18446744073709551616\/j.natAbs<18446744073709551616 then some (.int (i * j)) else none
 | _,_=>none
noncomputable def yO:PV->PV->Option PV
 | .int i,.int j=>if 0<j/\j<1073741824 then some (.int (i / j)) else none
 | _,_=>none
noncomputable def oU:PV->PV->Option PV
 | .int i,.int j=>if 0<j then some (.int (i % j)) else none
 | _,_=>none
inductive Fl where
 | next (ρ:PSt) | brk (ρ:PSt) | cont (ρ:PSt) | ret (p:PV)
noncomputable def bY(g g':PSt->R Fl):PSt->R Fl:=fun ρ=>g ρ >>= fun fl=>match fl with
 | .next ρ'=>g' ρ'
 | .brk ρ'=>.ok (.brk ρ')
 | .cont ρ'=>.ok (.cont ρ')
 | .ret p=>.ok (.ret p)
def bK:PSt->R Fl:=fun ρ=>.ok (.next ρ)
noncomputable def cA(f:PSt->R PV):PSt->R Fl:=fun ρ=>f ρ >>= fun p=>.ok (.ret p)
noncomputable def ifF(t:PSt->R Bool)(g g':PSt->R Fl):PSt->R Fl:=fun ρ=>t ρ >>= fun k=>if k=true then g ρ else g' ρ
noncomputable def dF(i:Nat)(f:PSt->R PV):PSt->R Fl:=fun ρ=>f ρ >>= fun p=>.ok (.next (ρ.set i (.val p)))
noncomputable def EH(i:Nat)(f:PSt->R PV):PSt->R Fl:=fun ρ=>f ρ >>= fun p=>.ok (.next (ρ.set i (.own p)))
noncomputable def uL(i:Nat)(ρ:PSt):PSt:=match ρ[i]? with
 | some (.own p)=>ρ.set i (.val p)
 | _=>ρ
def GY(i:Nat)(g:PSt->R Fl):PSt->R Fl:=fun ρ=>g (uL i ρ)
abbrev Tgt:=PV->PSt->Option PSt
abbrev yz:=List PV->PSt->Option PSt
def aL(i:Nat):Tgt:=fun p ρ=>some (ρ.set i (.val p))
noncomputable def jj:yz:=fun ps ρ=>match ps with
 | []=>some ρ
 | _::_=>none
def bg(h:Tgt)(h':yz):yz:=fun ps ρ=>match ps with
 | p::r=>(h p ρ).bind fun ρ1=>h' r ρ1
 | []=>none
noncomputable def ji(n:Nat)(h:yz):Tgt:=fun p ρ=>match p with
 | .tup ps=>if ps.length=n then h ps ρ else none
 | _=>none
noncomputable def mU(h:PV->PSt->Option PSt)(g:PSt->R Fl):List PV->PSt->R Fl
 | [],ρ=>.ok (.next ρ)
 | p::ps,ρ=>R.ofO (h p ρ) >>= fun ρ1=>g ρ1 >>= fun fl=>match fl with
  | .next ρ2=>mU h g ps ρ2
  | .cont ρ2=>mU h g ps ρ2
  | .brk ρ2=>.ok (.next ρ2)
  | .ret q=>.ok (.ret q)
def yP(fi:PSt->R (List PV))(h:Tgt)(g:PSt->R Fl):PSt->R Fl:=fun ρ=>fi ρ >>= fun ps=>mU h g ps ρ
noncomputable def bq(fs:PSt->R (List PV))(F:List PV->Option PV):PSt->R PV:=fun ρ=>fs ρ >>= fun ps=>R.ofO (F ps)
noncomputable def start(n:Nat)(ps:List PV):PSt:=ps.map Sl.val++NS (n-ps.length) .no
def iI(m n:Nat)(g:PSt->R Fl)(ps:List PV):Option PV:=if ps.length=m then (match g (start n ps) with
 | .ok (.ret p)=>some p
 | .ok (.next _)=>some .non
 | _=>none) else none
def roS:Option Sl->Sl
 | some (.val p)=>.val p
 | _=>.no
noncomputable def dH(nt:Nat)(idx:List Nat)(ρ:PSt):PSt:=NS nt .no++idx.map fun i=>roS ρ[i]?
noncomputable def dj(h:Tgt)(t:PSt->R Bool)(fe:PSt->R PV)(ρ:PSt):List PV->R (List PV)
 | []=>.ok []
 | p::ps=>R.ofO (h p ρ) >>= fun ρ1=>t ρ1 >>= fun b=>if b=true then fe ρ1 >>= fun q=>dj h t fe ρ ps >>= fun qs=>.ok (q::qs) else dj h t fe ρ ps
def zW{α:Type}:R α->R α
 | .ok a=>.ok a
 | _=>.no
def gL(fi:PSt->R (List PV))(h:Tgt)(t:PSt->R Bool)(fe:PSt->R PV)(nt:Nat)(idx:List Nat):PSt->R PV:=
 fun ρ=>fi ρ >>= fun ps=>zW (dj h t fe (dH nt idx ρ) ps) >>= fun qs=>iN qs >>= fun qs=>.ok (.lst qs)
def lu:PSt->R Bool:=fun _=>.ok true
mutual
noncomputable def cn:PV->PV->Option Bool
 | .non,q=>match q with
  | .non=>some true | .bl _=>some false | .int _=>some false | .str _=>some false | .tup _=>some false | .lst _=>some false | _=>none
 | .bl a,q=>match q with
  | .bl b=>some (a == b) | .int b=>some ((if a then 1 else 0) == b) | .non=>some false | .str _=>some false | .tup _=>some false | .lst _=>some false | _=>none
 | .int a,q=>match q with
  | .int b=>some (a == b) | .bl b=>some (a == (if b then 1 else 0)) | .non=>some false | .str _=>some false | .tup _=>some false | .lst _=>some false | _=>none
 | .str a,q=>match q with
  | .str b=>some (a == b) | .non=>some false | .bl _=>some false | .int _=>some false | .tup _=>some false | .lst _=>some false | _=>none
 | .tup ps,q=>match q with
  | .tup qs=>eN ps qs | .non=>some false | .bl _=>some false | .int _=>some false | .str _=>some false | .lst _=>some false | _=>none
 | .lst ps,q=>match q with
  | .lst qs=>eN ps qs | .non=>some false | .bl _=>some false | .int _=>some false | .str _=>some false | .tup _=>some false | _=>none
 | _,_=>none
noncomputable def eN:List PV->List PV->Option Bool
 | [],[]=>some true
 | [],_::_=>some false
 | _::_,[]=>some false
 | p::ps,q::qs=>(cn p q).bind fun a=>(eN ps qs).bind fun b=>some (a && b)
end
mutual
noncomputable def Br:PV->Nat
 | .tup ps=>gD ps+1
 | .lst ps=>gD ps+1
 | .dct _ ps=>gD ps+1
 | .dtt _ ps=>gD ps+1
 | .fn _ ps=>gD ps+1
 | _=>0
noncomputable def gD:List PV->Nat
 | []=>0
 | p::ps=>max (Br p) (gD ps)
end
def j9(ps qs:List PV)(j:Nat):Bool:=match ps[j]?,qs[j]? with
 | some p,some q=>(cn p q).getD false
 | _,_=>false
noncomputable def mR:PV->Bool
 | .non=>true | .bl _=>true | .int _=>true | .str _=>true
 | _=>false
noncomputable def scV:PV->V
 | .bl b=>.bl b | .int i=>.int i | .str x=>.str x
 | _=>.non
noncomputable def fV:List Key->List PV->Key->Option PV
 | k::ks,p::ps,j=>if k=j then some p else fV ks ps j
 | _,_,_=>none
def mh(e:PV->PV->Option Bool):List Key->List PV->List Key->List PV->Option Bool
 | k::ks,p::ps,ls,qs=>match fV ls qs k with
  | none=>some false
  | some q=>(e p q).bind fun a=>(mh e ks ps ls qs).bind fun b=>some (a && b)
 | [],[],_,_=>some true
 | _,_,_,_=>none
def yJ:Nat->PV->PV->Option Bool
 | n+1,.dct ks ps,.dct ls qs=>if ks.length=ls.length then mh (yJ n) ks ps ls qs else some false
 | _,p,q=>cn p q
def gEq:PV->PV->Option PV
 | .dct ks ps,.dct ls qs=>if gD ps<=60 then (yJ 3 (.dct ks ps) (.dct ls qs)).map .bl else none
 | .tup ps,.tup qs=>if gD ps<=60 then (eN ps qs).map .bl else none
 | .lst ps,.lst qs=>if gD ps<=60 then (eN ps qs).map .bl else none
 | p,q=>if mR p=true/\mR q=true/\Bg (scV p) (scV q)=true then some (.bl (decide (scV p=scV q))) else none
def gNe:PV->PV->Option PV
 | .tup ps,.tup qs=>if gD ps<=60 then (eN ps qs).map fun b=>.bl (!b) else none
 | .lst ps,.lst qs=>if gD ps<=60 then (eN ps qs).map fun b=>.bl (!b) else none
 | p,q=>if mR p=true/\mR q=true/\Bg (scV p) (scV q)=true then some (.bl (!decide (scV p=scV q))) else none
noncomputable def gLt:PV->PV->Option PV
 | .int i,.int j=>some (.bl (decide (i<j)))
 | .str x,.str y=>some (.bl (decide (x.cps.toList<y.cps.toList)))
 | _,_=>none
noncomputable def gLe:PV->PV->Option PV
 | .int i,.int j=>some (.bl (decide (i<=j)))
 | .str x,.str y=>some (.bl (!decide (y.cps.toList<x.cps.toList)))
 | _,_=>none
noncomputable def gGt:PV->PV->Option PV
 | .int i,.int j=>some (.bl (decide (j<i)))
 | _,_=>none
noncomputable def gGe:PV->PV->Option PV
 | .int i,.int j=>some (.bl (decide (j<=i)))
 | _,_=>none
def kj:PV->Bool
 | .non=>true
 | _=>false
noncomputable def DH:PV->PV->Option PV
 | p,.non=>some (.bl (kj p))
 | _,_=>none
noncomputable def lA:PV->Option Key
 | .int i=>some (.inl i)
 | .str x=>some (.inr x)
 | _=>none
def gIx:PV->PV->Option PV
 | .lst ps,.int i=>atI ps i
 | .tup ps,.int i=>atI ps i
 | .str z,.int i=>if z.length<=16777216 then (atI z.cps.toList i).map fun c=>.str ⟨#[c]⟩ else none
 | .dct ks ps,k=>(lA k).bind fun k=>fV ks ps k
 | _,_=>none
def inS(x y:Str):Bool:=!(Md y x 0 y.length 1).isEmpty
def gIn:PV->PV->Option PV
 | .str x,.str y=>some (.bl (inS x y))
 | p,.lst qs=>if mR p=true/\qs.all mR=true then some (.bl (inV (scV p) (qs.map scV))) else none
 | p,.tup qs=>if mR p=true/\qs.all mR=true then some (.bl (inV (scV p) (qs.map scV))) else none
 | p,.dct ks _=>(lA p).map fun k=>.bl (ks.any fun j=>decide (j=k))
 | _,_=>none
def kE(p q:PV):Option PV:=(gIn p q).bind fun z=>match z with
 | .bl b=>some (.bl (!b))
 | _=>none
noncomputable def BX(t u:PSt->R Bool):PSt->R Bool:=fun ρ=>t ρ >>= fun c=>if c=true then u ρ else .ok false
noncomputable def orB(t u:PSt->R Bool):PSt->R Bool:=fun ρ=>t ρ >>= fun c=>if c=true then .ok true else u ρ
noncomputable def lO(t:PSt->R Bool):PSt->R Bool:=fun ρ=>t ρ >>= fun c=>.ok (!c)
noncomputable def uU(fa fb:PSt->R PV):PSt->R PV:=fun ρ=>fa ρ >>= fun p=>match p with
 | .bl true=>fb ρ
 | .bl false=>.ok (.bl false)
 | _=>.no
noncomputable def orV(fa fb:PSt->R PV):PSt->R PV:=fun ρ=>fa ρ >>= fun p=>match p with
 | .bl true=>.ok (.bl true)
 | .bl false=>fb ρ
 | _=>.no
noncomputable def ifV(t:PSt->R Bool)(fa fb:PSt->R PV):PSt->R PV:=fun ρ=>t ρ >>= fun c=>if c=true then fa ρ else fb ρ
noncomputable def un1(f:PSt->R PV)(g:PV->Option PV):PSt->R PV:=fun ρ=>f ρ >>= fun p=>R.ofO (g p)
noncomputable def eP:PV->Option PV
 | .lst ps=>some (.int ps.length)
 | .tup ps=>some (.int ps.length)
 | .str x=>if x.length<=16777216 then some (.int x.length) else none
 | .dct ks _=>some (.int ks.length)
 | _=>none
noncomputable def I8:PV->Option PV
 | .int i=>some (.int i)
 | .bl b=>some (.int (if b then 1 else 0))
 | _=>none
noncomputable def nQ:PV->Option PV
 | .lst ps=>some (.tup ps)
 | .tup ps=>some (.tup ps)
 | _=>none
noncomputable def HZ:PV->Option PV
 | .str x=>if x.length=1 then some (.int (x.cps.getD 0 0:Nat)) else none
 | _=>none
def Ad:Key->PV
 | .inl i=>.int i
 | .inr x=>.str x
def gQ(x:Str):List PV:=x.cps.toList.map fun c=>.str ⟨#[c]⟩
noncomputable def kU:PV->Option (List PV)
 | .lst ps=>some ps
 | .tup ps=>some ps
 | .dct ks _=>some (ks.map Ad)
 | .str x=>some (gQ x)
 | _=>none
def itF(f:PSt->R PV):PSt->R (List PV):=fun ρ=>f ρ >>= fun p=>R.ofO (kU p)
noncomputable def fI(lo:Int)(n:Nat):List PV:=(Mz n).map fun i=>.int (lo+(i:Nat))
def FU(f:PSt->R PV):PSt->R (List PV):=fun ρ=>f ρ >>= fun p=>match p with
 | .int j=>if j.natAbs<1000000000 then .ok (fI 0 j.toNat) else .no
 | _=>.no
noncomputable def BW(i:Nat)(f:PSt->R PV):PSt->R Fl:=fun ρ=>match ρ[i]? with
 | some (.own (.lst ps))=>f ρ >>= fun p=>if ps.length<16777216 then .ok (.next (ρ.set i (.own (.lst (ps++[p]))))) else .no
 | _=>.no
noncomputable def r9(ps:List PV):List (List PV):=(Mz ps.length).zipWith (fun (i:Nat) p=>[.int (i:Int),p]) ps
def ya:PV->Option (List PV)
 | .lst ps=>some ((r9 ps).map .tup)
 | .str x=>some ((r9 (gQ x)).map .tup)
 | _=>none
def yb(f:PSt->R PV):PSt->R (List PV):=fun ρ=>f ρ >>= fun p=>R.ofO (ya p)
noncomputable def tyN:PV->String
 | .non=>"NoneType" | .bl _=>"bool" | .int _=>"int" | .str _=>"str" | .tup _=>"tuple" | .lst _=>"list" | .dct _ _=>"dict" | .dtt _ _=>"dict" | .fn _ _=>"function"
noncomputable def GR (t c:String):Bool:=t == c || (t == "bool" && c == "int")
def vf(c:String):PV->Option PV
 | .fn _ _=>none
 | p=>some (.bl (GR (tyN p) c))
noncomputable def BK:PV->Option PV
 | .int i=>if i.natAbs.log2<1920 then some (.str (Qd i)) else none
 | .str x=>some (.str x)
 | _=>none
def GU:PV->Option PV
 | .int i=>some (.int (-i))
 | _=>none
def rY:PV->Bool
 | .str _=>true
 | _=>false
noncomputable def ie(fo fe:PSt->R PV)(g:PV->PV->Option PV):PSt->R PV:=fun ρ=>fo ρ >>= fun p=>if rY p=true then fe ρ >>= fun q=>R.ofO (g p q) else .no
noncomputable def kK:List PV->Option (List Str)
 | []=>some []
 | .str x::r=>(kK r).map (x::·)
 | _::_=>none
def mj:PV->PV->Option PV
 | .str x,.lst ps=>(kK ps).bind fun ys=>if (ys.map (·.length)).sum+ys.length * x.length<=16777216 then some (.str (Txt.join x ys)) else none
 | .str x,.tup ps=>(kK ps).bind fun ys=>if (ys.map (·.length)).sum+ys.length * x.length<=16777216 then some (.str (Txt.join x ys)) else none
 | _,_=>none
def jf{α:Type}(xs:List α)(lo hi:Option Int):List α:=(xs.drop (HT.sIx xs.length 0 lo)).take (HT.sIx xs.length xs.length hi-HT.sIx xs.length 0 lo)
def gSl:PV->Option Int->Option Int->Option PV
 | .lst ps,lo,hi=>some (.lst (jf ps lo hi))
 | .tup ps,lo,hi=>if HT.sIx ps.length 0 lo=0/\HT.sIx ps.length ps.length hi=ps.length then none else some (.tup (jf ps lo hi))
 | _,_,_=>none
def gi:PSt->R (Option Int):=fun _=>.ok none
noncomputable def jg(f:PSt->R PV):PSt->R (Option Int):=fun ρ=>f ρ >>= fun p=>match p with
 | .int i=>.ok (some i)
 | _=>.no
def fH(f:PSt->R PV)(l h:PSt->R (Option Int)):PSt->R PV:=fun ρ=>f ρ >>= fun p=>l ρ >>= fun lo=>h ρ >>= fun hi=>R.ofO (gSl p lo hi)
noncomputable def vW(ks:List Key)(ps:List PV)(k:Key)(p:PV):List PV:=ks.zipWith (fun j q=>if j=k then p else q) ps
def CS(ks:List Key)(ps:List PV)(k:Key)(p:PV):PV:=if (ks.any fun j=>decide (j=k))=true then .dct ks (vW ks ps k p) else .dct (ks++[k]) (ps++[p])
def newD:PSt->R PV:=fun _=>.ok (.dct [] [])
end PU
end
namespace PU
open PySem PySem.Spec PyProof.Rows L2
def kh:Expr->Bool
 | .Starred ..=>false
 | _=>true
theorem eX{e:Expr}{es:List Expr}{env:QX}(h:kh e=true):MO (e::es) env=(false,NC e env)::MO es env:=by
 cases e <;> first | rfl | cases h
theorem cz{e:Expr}{env:QX}(h:kh e=true):MO [e] env=[(false,NC e env)]:=eX h
theorem o8{e e2:Expr}{env:QX}(h:kh e=true)(h2:kh e2=true):MO [e,e2] env=[(false,NC e env),(false,NC e2 env)]:=(eX h).trans (congrArg _ (cz h2))
theorem o9{pos:O4}{es:List Expr}{env:QX}(h:es.all kh=true):(Nq pos (MO es env)).any (·.1)=false:=by
 have:∀es:List Expr,es.all kh=true->(MO es env).any (·.1)=false:=by
  intro es
  induction es with
  | nil=>intro _;rfl
  | cons e es ih=>
   intro h;simp only[P3,Mk] at h;rw[eX h.1,OG,ih h.2];rfl
 have h2:=this es h
 have h3:(Nq pos (MO es env)).map (·.1)=(MO es env).map (·.1):=by
  unfold Nq;simp[Mt,OA]
 have:(Nq pos (MO es env)).any (·.1)=((Nq pos (MO es env)).map (·.1)).any id:=by rw[Pm];rfl
 rw[this,h3,Pm];exact h2
class TW where
 w:Me
 tabs:List Addr:=[]
 qual:Nat->Nat->Str:=fun _ _=>⟨#[]⟩
variable[TW]
def yE(c:Addr)(q:Str):HO:=.ext fun h=>h.CodeRec (.ref c) q
def TOk(H:Hp)(ps:Array Value):Prop:=TriplesOk ps.toList/\∀pos v,codeAmong pos ps.toList=some v->∃c,v=.ref c/\H c=some (yE c (TW.qual pos.line pos.col))
def rX:HO->Bool
 | .tbl _=>true
 | _=>false
structure Same(H H':Hp):Prop where
 at_:∀b o,H b=some o->∀(n:rX o=false:=by rfl),H' b=some o
 tb:∀b ps,H b=some (.tbl ps)->∃ps',H' b=some (.tbl ps')/\(TOk H ps->TOk H' ps')
instance {H H':Hp}:CoeFun (Same H H') (fun _=>∀b o,H b=some o->∀(n:rX o=false:=by rfl),H' b=some o):=⟨@Same.at_ _ H H'⟩
theorem TOk.same{H H':Hp}{ps:Array Value}(h:∀b o,H b=some o->rX o=false->H' b=some o)(t:TOk H ps):TOk H' ps:=
 ⟨t.1,fun pos v e=>let ⟨c,e1,e2⟩:=t.2 pos v e;⟨c,e1,h _ _ e2 rfl⟩⟩
theorem Same.of{H H':Hp}(h:∀b o,H b=some o->H' b=some o):Same H H':=
 ⟨fun b o e _=>h b o e,fun b ps e=>⟨ps,h b _ e,TOk.same fun b o e _=>h b o e⟩⟩
theorem Same.refl(H:Hp):Same H H:=.of fun _ _ h=>h
theorem Same.trans{H H1 H2:Hp}(a:Same H H1)(b:Same H1 H2):Same H H2:=
 ⟨fun c o h n=>b.at_ c o (a.at_ c o h n) n,fun c ps e=>by
  obtain⟨p1,e1,k1⟩:=a.tb c ps e;obtain⟨p2,e2,k2⟩:=b.tb c p1 e1;exact⟨p2,e2,fun t=>k2 (k1 t)⟩⟩
theorem Same.free{H H':Hp}(e:Same H H'){l:Addr}(h:H' l=Option.none):H l=Option.none:=by
 cases q:H l with
 | none=>rfl
 | some o=>
  cases ho:rX o with
  | false=>rw[e.at_ l o q ho] at h;cases h
  | true=>
   cases o <;> cases ho
   obtain⟨p1,e1,_⟩:=e.tb l _ q;rw[e1] at h;cases h
def tY(H:Hp):Prop:=∀P∈TW.tabs,∃ps,H P=some (.tbl ps)/\TOk H ps
theorem Same.tabs{H H':Hp}(s:Same H H')(t:tY H):tY H':=fun P hP=>by
 obtain⟨ps,e,k⟩:=t P hP;obtain⟨p1,e1,k1⟩:=s.tb P ps e;exact⟨p1,e1,k1 k⟩
def Hz(K:M9)(a:Addr)(xs:List V):Prop:=
 ∃(its:List Value) (n:Nat),K.lookup a=some { cls:=.type "list",data:=.seq its.toArray n }/\xs.length<=sizeLine/\Vals xs its
def yC(K:M9)(a:Addr)(kvs:List (Key×V)):Prop:=
 kvs.length<=sizeLine/\(a == NL)=false/\∃(o:Obj)(es:Array DictEntry)(ep:Nat),K.lookup a=some o/\o.ExactDict/\o.data=.dict es ep/\
  ∀P:MP,∃vs,KV kvs vs/\PySem.KeysOf (aE P TW.w) es/\Pairs (aE P TW.w) es.toList vs/\(vs.map (·.1)).Nodup
theorem yC.at{K:M9}{a:Addr}{kvs:List (Key×V)}(h:yC K a kvs)(P:MP)(w:Me)(hw:w=TW.w)(hp:Heap)(hk:K.In hp):∃vs,KV kvs vs/\hp.DictOf (aE P w) a vs:=by
 subst hw;obtain⟨_,_,o,es,ep,e,x,d,r⟩:=h;obtain⟨vs,r1,r2⟩:=r P;exact⟨vs,r1,o,es,ep,hk _ _ e,x,d,r2⟩
def SqO(K:M9)(H:Hp)(a:Addr)(xs:List V):Prop:=Rd H a (.lst xs)\/Hz K a xs
theorem SqO.l{K:M9}{H:Hp}{a:Addr}{xs:List V}(h:SqO K H a xs):SqL K H a xs:=by
 rcases h with h | ⟨its,n,e,z,r⟩
 ·exact .inl h
 ·exact .inr ⟨_,its.toArray,n,e,rfl,rfl,rfl,by rw[Mj,← r.length];exact z,by simpa using r⟩
theorem SqO.is{X:Cx}{pins:List (Addr×Obj)}{σ:L2.St}{H:Hp}{s:MB}{a:Addr}{xs:List V}(I:Inv X pins σ H s)(h:SqO X.K H a xs) :
  xs.length<=sizeLine/\∃(its:List Value) (n:Nat),Vals xs its/\s.heap.get? a=some { cls:=.type "list",data:=.seq its.toArray n }:=by
 rcases h with h | ⟨its,n,e,z,r⟩
 ·obtain⟨z,its,n,r,e⟩:=h.ok I.hok
  exact⟨z,its,n,r,e⟩
 ·exact⟨z,its,n,r,I.kIn _ _ e⟩
def SqF(K:M9)(H:Hp)(a:Addr)(xs:List V):Prop:=(∃o,H a=some (.frz o (.lst xs)))\/Hz K a xs
def DkF(K:M9)(H:Hp)(a:Addr)(kvs:List (Key×V)):Prop:=(∃o,H a=some (.frz o (.dK kvs)))\/yC K a kvs
def DkR(K:M9)(H:Hp)(a:Addr)(kvs:List (Key×V)):Prop:=Rd H a (.dK kvs)\/yC K a kvs
theorem SqF.l{K:M9}{H:Hp}{a:Addr}{xs:List V}(h:SqF K H a xs):SqO K H a xs:=by
 rcases h with h | h
 ·exact .inl (.inr h)
 ·exact .inr h
theorem DkF.r{K:M9}{H:Hp}{a:Addr}{kvs:List (Key×V)}(h:DkF K H a kvs):DkR K H a kvs:=by
 rcases h with h | h
 ·exact .inl (.inr h)
 ·exact .inr h
def FnAt(f:Addr)(o:Obj):HO:=.ext fun h=>h.get? f=some o
noncomputable def XAt(a:Addr)(cls:Value)(dx:Option Addr):HO:=.ext fun h=>∃o vs,h.get? a=some o/\o.cls=cls/\o.dict=dx/\o.data=.fields vs
noncomputable def KH(d:Addr)(fld:Str)(z:Value):HO:=.ext fun h=>h.Ns1 d fun n=>if n=fld then some z else none
abbrev Js(L:Lam)(cl:List (Str×Addr))(pm:Value×Value)(cdv ct:Value):FuncData:=
 { name:=L.name,qualname:=L.qual,params:=L.args,body:=L.body,scope:=L.scope,globals:=MM,closure:=cl,defaults:=.none,kwdefaults:=.none,doc:=pm.1,pyModule:=pm.2,annotations:=none,code:=cdv,closureTuple:=ct,builtins:=Qq }
abbrev BE (L:Lam) (cl:List (Str×Addr)) (pm:Value×Value) (c:Addr) (ct:Value):Obj:={ cls:=.type "function",data:=.func (Js L cl pm (.ref c) ct) }
def jh(H:Hp):List (Str×Addr)->List V->Prop
 | [],xs=>xs=[]
 | p::cl,xs=>∃x r o u,xs=x::r/\H p.2=some (.frz o (.own 0))/\o.data=.cell (some u)/\RelV x u/\jh H cl r
def sr(K:M9)(H:Hp)(a:Addr)(xs:List V)(ps:List PV):Prop:=H a=some (.tup xs)\/(xA ps=true/\SqT K H a xs)
mutual
def Rep(K:M9)(H:Hp):PV->V->Prop
 | .non,v=>v=.non
 | .bl b,v=>v=.bl b
 | .int i,v=>v=.int i
 | .str x,v=>v=.str x
 | .tup ps,v=>∃a xs,v=.ref a/\sr K H a xs ps/\aM K H ps xs
 | .lst ps,v=>∃a xs,v=.ref a/\SqF K H a xs/\aM K H ps xs
 | .dct ks ps,v=>∃a kvs,v=.ref a/\DkF K H a kvs/\kvs.map (·.1)=ks/\aM K H ps (kvs.map (·.2))
 | .dtt ks ps,v=>∃a o kvs,v=.ref a/\H a=some (.frz o (.dT kvs))/\kvs.map (·.1)=ks/\aM K H ps (kvs.map (·.2))
 | .fn L cs,v=>∃f c cl pm ct xs,v=.ref f/\H f=some (FnAt f (BE L cl pm c ct))/\H c=some (yE c L.qual)/\cl.map (·.1)=L.kept/\(cl.map (·.2)).Nodup/\jh H cl xs/\aM K H cs xs
def aM(K:M9)(H:Hp):List PV->List V->Prop
 | [],xs=>xs=[]
 | p::ps,xs=>∃x r,xs=x::r/\Rep K H p x/\aM K H ps r
end
def bw(K:M9)(H:Hp):PV->V->Prop
 | .lst ps,v=>∃a xs,v=.ref a/\SqO K H a xs/\aM K H ps xs
 | .dct ks ps,v=>∃a kvs,v=.ref a/\DkR K H a kvs/\kvs.map (·.1)=ks/\aM K H ps (kvs.map (·.2))
 | .dtt ks ps,v=>∃a kvs,v=.ref a/\Rd H a (.dT kvs)/\kvs.map (·.1)=ks/\aM K H ps (kvs.map (·.2))
 | p,v=>Rep K H p v
def dE(K:M9)(H:Hp)(a:Addr):PV->Prop
 | .lst ps=>∃xs,H a=some (.lst xs)/\aM K H ps xs
 | .dct ks ps=>∃kvs,H a=some (.dK kvs)/\kvs.map (·.1)=ks/\aM K H ps (kvs.map (·.2))
 | .dtt ks ps=>∃kvs,H a=some (.dT kvs)/\kvs.map (·.1)=ks/\aM K H ps (kvs.map (·.2))
 | _=>False
noncomputable def pD:HO->Bool
 | .frz _ _=>true
 | .tup _=>true
 | .ext _=>true
 | _=>false
def Kp(H H':Hp):Prop:=∀b u,H b=some u->pD u=true->H' b=some u
theorem Same.kp{H H':Hp}(h:Same H H'):Kp H H':=fun b u e f=>h.at_ b u e (by cases u <;> first | rfl | cases f)
theorem Kp.refl(H:Hp):Kp H H:=fun _ _ e _=>e
theorem Kp.trans{H H1 H2:Hp}(h:Kp H H1)(k:Kp H1 H2):Kp H H2:=fun b u e f=>k b u (h b u e f) f
theorem Kp.upd{H:Hp}{a:Addr}{u o:HO}(h:H a=some u)(f:pD u=false):Kp H (upd H a o):=fun b w e g=>by
 have:b≠a:=fun z=>by
  subst z;rw[h] at e;cases e;rw[f] at g;cases g
 rw[az this];exact e
theorem Kp.sqT{K:M9}{H H':Hp}(k:Kp H H'){a:Addr}{xs:List V}(h:SqT K H a xs):SqT K H' a xs:=by
 rcases h with (h | ⟨o,h⟩) | h
 ·exact .inl (.inl (k _ _ h rfl))
 ·exact .inl (.inr ⟨o,k _ _ h rfl⟩)
 ·exact .inr h
theorem Kp.sqF{K:M9}{H H':Hp}(k:Kp H H'){a:Addr}{xs:List V}(h:SqF K H a xs):SqF K H' a xs:=by
 rcases h with⟨o,h⟩ | h
 ·exact .inl ⟨o,k _ _ h rfl⟩
 ·exact .inr h
theorem Kp.dkF{K:M9}{H H':Hp}(k:Kp H H'){a:Addr}{kvs:List (Key×V)}(h:DkF K H a kvs):DkF K H' a kvs:=by
 rcases h with⟨o,h⟩ | h
 ·exact .inl ⟨o,k _ _ h rfl⟩
 ·exact .inr h
theorem TOk.kp{H H':Hp}{ps:Array Value}(k:Kp H H')(t:TOk H ps):TOk H' ps:=
 ⟨t.1,fun pos v e=>let ⟨c,e1,e2⟩:=t.2 pos v e;⟨c,e1,k _ _ e2 rfl⟩⟩
theorem Kp.but{H H':Hp}{a:Addr}(na:∀u,H a=some u->pD u=false)(oth:∀b,b≠a->H' b=H b):Kp H H':=fun b u e f=>by
 have:b≠a:=fun z=>by
  subst z;rw[na u e] at f;cases f
 rw[oth b this];exact e
theorem Same.but{B H H':Hp}{a:Addr}(s:Same B H)(fa:B a=none)(na:∀u,H a=some u->pD u=false)(oth:∀b,b≠a->H' b=H b):Same B H':=
 ⟨fun b o e n=>by rw[oth b (bT e fa)];exact s.at_ b o e n,fun b ps e=>by
  obtain⟨p1,e1,k1⟩:=s.tb b ps e;exact⟨p1,by rw[oth b (bT e fa)];exact e1,fun t=>(k1 t).kp (Kp.but na oth)⟩⟩
theorem tY.but{H H':Hp}{a:Addr}(t:tY H)(na:∀u,H a=some u->pD u=false/\rX u=false)(oth:∀b,b≠a->H' b=H b):tY H':=fun P hP=>by
 obtain⟨ps,e,k⟩:=t P hP
 have:P≠a:=fun z=>by
  subst z;have:=(na _ e).2;cases this
 exact⟨ps,by rw[oth P this];exact e,k.kp (Kp.but (fun u h=>(na u h).1) oth)⟩
theorem sr.kp{K:M9}{H H':Hp}(k:Kp H H'){a:Addr}{xs:List V}{ps:List PV}(h:sr K H a xs ps):sr K H' a xs ps:=h.elim (fun h=>.inl (k _ _ h rfl)) fun h=>.inr ⟨h.1,k.sqT h.2⟩
theorem sr.sq{K:M9}{H:Hp}{a:Addr}{xs:List V}{ps:List PV}(h:sr K H a xs ps):SqT K H a xs:=h.elim (fun h=>.inl (.inl h)) fun h=>h.2
theorem jh.kp{H H':Hp}(k:Kp H H'):∀{cl:List (Str×Addr)}{xs:List V},jh H cl xs->jh H' cl xs
 | [],_,h=>h
 | p::cl,_,⟨x,r,o,u,e,h,d,v,t⟩=>⟨x,r,o,u,e,k _ _ h rfl,d,v,jh.kp k t⟩
mutual
theorem Rep.kp{K:M9}{H H':Hp}(k:Kp H H'):∀(p:PV){v:V},Rep K H p v->Rep K H' p v
 | .non,_,h=>h
 | .bl _,_,h=>h
 | .int _,_,h=>h
 | .str _,_,h=>h
 | .tup ps,_,⟨a,xs,e,h,r⟩=>⟨a,xs,e,h.kp k,aM.kp k ps r⟩
 | .lst ps,_,⟨a,xs,e,h,r⟩=>⟨a,xs,e,k.sqF h,aM.kp k ps r⟩
 | .dct ks ps,_,⟨a,kvs,e,h,ek,r⟩=>⟨a,kvs,e,k.dkF h,ek,aM.kp k ps r⟩
 | .dtt ks ps,_,⟨a,o,kvs,e,h,ek,r⟩=>⟨a,o,kvs,e,k _ _ h rfl,ek,aM.kp k ps r⟩
 | .fn L cs,_,⟨f,c,cl,pm,ct,xs,e,h1,h2,h3,h5,h4,r⟩=>⟨f,c,cl,pm,ct,xs,e,k _ _ h1 rfl,k _ _ h2 rfl,h3,h5,jh.kp k h4,aM.kp k cs r⟩
theorem aM.kp{K:M9}{H H':Hp}(k:Kp H H'):∀(ps:List PV){xs:List V},aM K H ps xs->aM K H' ps xs
 | [],_,h=>h
 | p::ps,_,⟨x,r,e,h,t⟩=>⟨x,r,e,Rep.kp k p h,aM.kp k ps t⟩
end
section
variable{K : M9}{H H' : Hp}{p : PV}{ps qs : List PV}{v : V}{xs ys : List V}{a : Addr}
theorem Rep.same(h:Rep K H p v)(s:Same H H'):Rep K H' p v:=Rep.kp (Same.kp s) p h
theorem aM.same(h:aM K H ps xs)(s:Same H H'):aM K H' ps xs:=aM.kp (Same.kp s) ps h
theorem bw.same(h:bw K H p v)(s:Same H H'):bw K H' p v:=by
 cases p with
 | lst ps=>
  obtain⟨a,xs,e,q,r⟩:=h;refine⟨a,xs,e,?_,r.same s⟩;rcases q with (q | ⟨o,q⟩) | q
  ·exact .inl (.inl (s _ _ q))
  ·exact .inl (.inr ⟨o,s _ _ q⟩)
  ·exact .inr q
 | dct ks ps=>
  obtain⟨a,kvs,e,q,ek,r⟩:=h;refine⟨a,kvs,e,?_,ek,r.same s⟩;rcases q with (q | ⟨o,q⟩) | q
  ·exact .inl (.inl (s _ _ q))
  ·exact .inl (.inr ⟨o,s _ _ q⟩)
  ·exact .inr q
 | dtt ks ps=>
  obtain⟨a,kvs,e,q,ek,r⟩:=h;refine⟨a,kvs,e,?_,ek,r.same s⟩;rcases q with q | ⟨o,q⟩
  ·exact .inl (s _ _ q)
  ·exact .inr ⟨o,s _ _ q⟩
 | _=>exact Rep.same h s
theorem dE.same(h:dE K H a p)(s:Same H H'):dE K H' a p:=by
 cases p with
 | lst ps=>
  obtain⟨xs,q,r⟩:=h;exact⟨xs,s _ _ q,r.same s⟩
 | dct ks ps=>
  obtain⟨kvs,q,ek,r⟩:=h;exact⟨kvs,s _ _ q,ek,r.same s⟩
 | dtt ks ps=>
  obtain⟨kvs,q,ek,r⟩:=h;exact⟨kvs,s _ _ q,ek,r.same s⟩
 | _=>exact h
theorem Rep.o(h:Rep K H p v):bw K H p v:=by
 cases p with
 | lst ps=>
  obtain⟨a,xs,e,q,r⟩:=h;exact⟨a,xs,e,q.l,r⟩
 | dct ks ps=>
  obtain⟨a,kvs,e,q,ek,r⟩:=h;exact⟨a,kvs,e,q.r,ek,r⟩
 | dtt ks ps=>
  obtain⟨a,o,kvs,e,q,ek,r⟩:=h;exact⟨a,kvs,e,.inr ⟨o,q⟩,ek,r⟩
 | _=>exact h
theorem dE.o(h:dE K H a p):bw K H p (.ref a):=by
 cases p with
 | lst ps=>
  obtain⟨xs,q,r⟩:=h;exact⟨a,xs,rfl,.inl (.inl q),r⟩
 | dct ks ps=>
  obtain⟨kvs,q,ek,r⟩:=h;exact⟨a,kvs,rfl,.inl (.inl q),ek,r⟩
 | dtt ks ps=>
  obtain⟨kvs,q,ek,r⟩:=h;exact⟨a,kvs,rfl,.inl q,ek,r⟩
 | _=>exact MG h
theorem aM.length:∀{ps:List PV}{xs:List V},aM K H ps xs->ps.length=xs.length
 | [],_,h=>by cases h;rfl
 | p::ps,_,⟨x,r,e,_,t⟩=>by subst e;simp[aM.length t]
theorem aM.nil:aM K H [] []:=rfl
theorem aM.cons(h:Rep K H p v)(t:aM K H ps xs):aM K H (p::ps) (v::xs):=⟨v,xs,rfl,h,t⟩
theorem aM.append:∀{ps qs:List PV}{xs ys:List V},aM K H ps xs->aM K H qs ys->aM K H (ps++qs) (xs++ys)
 | [],_,_,_,h,k=>by cases h;exact k
 | p::ps,_,_,_,⟨x,r,e,h,t⟩,k=>by subst e;exact⟨x,_,rfl,h,aM.append t k⟩
theorem aM.get:∀{ps:List PV}{xs:List V}{i:Nat}{p:PV},aM K H ps xs->ps[i]?=some p->∃x,xs[i]?=some x/\Rep K H p x
 | [],_,_,_,_,e=>by simp at e
 | p::ps,_,0,_,⟨x,r,e,h,t⟩,q=>by
  subst e;simp at q;subst q;exact⟨x,rfl,h⟩
 | p::ps,_,i+1,q,⟨x,r,e,h,t⟩,z=>by
  subst e;obtain⟨y,h1,h2⟩:=aM.get (i:=i) (p:=q) t (by simpa using z);exact⟨y,by simpa using h1,h2⟩
theorem aM.take:∀{ps:List PV}{xs:List V}(n:Nat),aM K H ps xs->aM K H (ps.take n) (xs.take n)
 | _,_,0,_=>by simp;rfl
 | [],_,n+1,h=>by cases h;rfl
 | p::ps,_,n+1,⟨x,r,e,h,t⟩=>by subst e;exact⟨x,_,rfl,h,aM.take n t⟩
theorem aM.drop:∀{ps:List PV}{xs:List V}(n:Nat),aM K H ps xs->aM K H (ps.drop n) (xs.drop n)
 | _,_,0,h=>by simpa using h
 | [],_,n+1,h=>by cases h;rfl
 | p::ps,_,n+1,⟨x,r,e,h,t⟩=>by subst e;simpa using aM.drop n t
end
theorem _root_.L2.Inv.reH{X:Cx}{pins:List (Addr×Obj)}{σ:L2.St}{H H':Hp}{s:MB}(I:Inv X pins σ H s){a:Addr}{u u':HO}(hu:H a=some u)(h':H'=upd H a u')
  (nf:pD u=false) (nt:∀ps,u≠.tbl ps) (no:∀x,u≠.own x) (hok:eK X.prog X.w H' s.heap a u'):Inv X pins σ H' s:=by
 subst h';have keepT:∀b xs,H b=some (.tup xs)->(upd H a u') b=some (.tup xs):=fun b xs e=>Kp.upd hu nf b _ e rfl
 have keepO:∀b x,H b=some (.own x)->(upd H a u') b=some (.own x):=fun b x e=>by
  have:b≠a:=fun z=>by
   subst z;rw[hu] at e;cases e;exact no x rfl
  rw[az this];exact e
 have hn:∀b,H b=none->(upd H a u') b=none:=fun b e=>by
  have:b≠a:=fun z=>by
   subst z;rw[hu] at e;cases e
  rw[az this];exact e
 refine⟨I.ok,I.os,I.bare,⟨I.base.keep,I.base.slot,fun b o e n x=>hn b (I.base.free b o e n x),I.base.there,fun b xs e=>keepT b xs (I.base.tups b xs e),
  fun b o w e=>Kp.upd hu nf b _ (I.base.frzs b o w e) rfl,fun b ps e=>?_⟩,I.loc,I.cell,hn _ I.free,fun x c e=>hn c (I.freeC x c e),fun p hp=>?_,fun b o e=>?_,I.len⟩
 ·obtain⟨more,q⟩:=I.base.tbls b ps e
  have:b≠a:=fun z=>by
   subst z;rw[hu] at q;cases q;exact nt _ rfl
  exact⟨more,by rw[az this];exact q⟩
 ·obtain⟨h1,h2,h3⟩:=I.pin p hp
  exact⟨h1,hn _ h2,h3⟩
 ·by_cases hb:b=a
  ·subst hb
   rw[aA] at e;cases e;exact hok
  ·rw[az hb] at e
   exact(I.hok b o e).stay (fun c v _ r=>r) (fun c r=>keepO c b r) keepT
theorem _root_.L2.Inv.frz{X:Cx}{pins:List (Addr×Obj)}{σ:L2.St}{H:Hp}{s:MB}{a:Addr}{p:PV}(I:Inv X pins σ H s)(n:dE X.K H a p) :
  ∃H',Inv X pins σ H' s/\Rep X.K H' p (.ref a)/\∀b,b≠a->H' b=H b:=by
 cases p with
 | lst ps=>
  obtain⟨xs,q,r⟩:=n;obtain⟨z,its,m,rv,e⟩:=I.hok a _ q;refine⟨upd H a (.frz _ (.lst xs)),I.reH q rfl rfl (by intro _ h;cases h) (by intro _ h;cases h) ⟨e,z,its,m,rv,e⟩,⟨a,xs,rfl,.inl ⟨_,aA⟩,r.kp (Kp.upd q rfl)⟩,fun b hb=>az hb⟩
 | dct ks ps=>
  obtain⟨kvs,q,ek,r⟩:=n;obtain⟨z,hs,vs,rv,o,es,ep,e,rest⟩:=I.hok a _ q;refine⟨upd H a (.frz o (.dK kvs)),I.reH q rfl rfl (by intro _ h;cases h) (by intro _ h;cases h) ⟨e,z,hs,vs,rv,o,es,ep,e,rest⟩,⟨a,kvs,rfl,.inl ⟨_,aA⟩,ek,r.kp (Kp.upd q rfl)⟩,fun b hb=>az hb⟩
 | dtt ks ps=>
  obtain⟨kvs,q,ek,r⟩:=n;obtain⟨z,hs,ys,rv,o,es,ep,e,rest⟩:=I.hok a _ q;refine⟨upd H a (.frz o (.dT kvs)),I.reH q rfl rfl (by intro _ h;cases h) (by intro _ h;cases h) ⟨e,z,hs,ys,?_,o,es,ep,e,rest⟩,⟨a,o,kvs,rfl,aA,ek,r.kp (Kp.upd q rfl)⟩,fun b hb=>az hb⟩;exact Paired.mapP rv fun p1 q1 ⟨h1,h2,h3⟩=>⟨h1,h2.keeps fun b ys hb=>Kp.upd q rfl _ _ hb rfl,h3⟩
 | _=>exact MG n
theorem dE.nt{K:M9}{H:Hp}{a:Addr}{p:PV}(h:dE K H a p):∀u,H a=some u->pD u=false/\rX u=false:=fun u e=>by
 cases p with
 | lst ps=>obtain⟨_,w,_⟩:=h;rw[w] at e;cases e;exact⟨rfl,rfl⟩
 | dct ks ps=>obtain⟨_,w,_⟩:=h;rw[w] at e;cases e;exact⟨rfl,rfl⟩
 | dtt ks ps=>obtain⟨_,w,_⟩:=h;rw[w] at e;cases e;exact⟨rfl,rfl⟩
 | _=>exact MG h
end PU
namespace PU
open PySem PySem.Spec PyProof.Rows L2
variable[TW]
structure Cn where
 X:Cx
 Ac:PX->Hp->Prop
def bt(K:M9)(H:Hp):List Addr->List Fld->List V->Prop
 | r,[],xs=>r=[]/\xs=[]
 | r,.val p::fs,xs=>∃x ys,xs=x::ys/\Rep K H p x/\bt K H r fs ys
 | r,.own p::fs,xs=>∃b r' ys,r=b::r'/\xs=.ref b::ys/\dE K H b p/\bt K H r' fs ys
def bu(K:M9)(H:Hp)(a:Addr)(r:List Addr):Tr->Prop
 | .leaf p=>r=[]/\dE K H a p
 | .node ks fs=>(a::r).Nodup/\∃kvs,H a=some (.dK kvs)/\kvs.map (·.1)=ks/\bt K H r fs (kvs.map (·.2))
theorem bt.same{K:M9}{H H':Hp}(s:Same H H'):∀{fs:List Fld}{r:List Addr}{xs:List V},bt K H r fs xs->bt K H' r fs xs
 | [],_,_,h=>h
 | .val p::fs,_,_,⟨x,ys,e,h,t⟩=>⟨x,ys,e,h.same s,bt.same s t⟩
 | .own p::fs,_,_,⟨b,r',ys,e1,e2,h,t⟩=>⟨b,r',ys,e1,e2,h.same s,bt.same s t⟩
theorem bu.same{K:M9}{H H':Hp}{a:Addr}{r:List Addr}{t:Tr}(s:Same H H')(h:bu K H a r t):bu K H' a r t:=by
 cases t with
 | leaf p=>exact⟨h.1,h.2.same s⟩
 | node ks fs=>obtain⟨n,kvs,e,ek,f⟩:=h;exact⟨n,kvs,s _ _ e,ek,f.same s⟩
def ml (c:Str):Str:=if c="NoHouse" then "row" else "faults"
def ExP(K:M9)(H:Hp)(C:Addr)(dx:Option Addr)(x:PX):Prop:=Ma K MM x.cls=some (some (.ref C))/\match dx,x.args with
 | none,[]=>True
 | some d,[p]=>∃v z,H d=some (KH d (ml x.cls) z)/\RelV v z/\Rep K H p v
 | _,_=>False
theorem ExP.kp{K:M9}{H H':Hp}{C:Addr}{dx:Option Addr}{x:PX}(k:Kp H H')(h:ExP K H C dx x):ExP K H' C dx x:=by
 obtain⟨c,as⟩:=x;refine⟨h.1,?_⟩;have h2:=h.2;cases dx with
 | none=>
  cases as with
  | nil=>exact trivial
  | cons p r=>exact MG h2
 | some d=>
  cases as with
  | nil=>exact MG h2
  | cons p r=>
   cases r with
   | nil=>obtain⟨v,z,h3,h4,h5⟩:=h2;exact⟨v,z,k _ _ h3 rfl,h4,h5.kp k⟩
   | cons _ _=>exact MG h2
def yA(K:M9)(H:Hp)(x:Option (Option V)):Sl->Prop
 | .no=>True
 | .val p=>∃v,x=some (some v)/\Rep K H p v
 | .own p=>∃a,x=some (some (.ref a))/\dE K H a p
 | .tree t=>∃a r,x=some (some (.ref a))/\bu K H a r t
 | .exc y=>∃a C dx,x=some (some (.ref a))/\H a=some (XAt a (.ref C) dx)/\ExP K H C dx y
theorem yA.exk{K:M9}{H H':Hp}{x:Option (Option V)}{y:PX}(h:yA K H x (.exc y))(k:Kp H H'):yA K H' x (.exc y):=by
 obtain⟨a,C,dx,e,h1,h2⟩:=h;exact⟨a,C,dx,e,k _ _ h1 rfl,h2.kp k⟩
structure View(K:M9)(H:Hp)(σ:L2.St)(ρ:PSt):Prop where
 at_:∀(i:Nat)(l:Sl),ρ[i]?=some l->yA K H σ[i]? l
 tb:tY H
instance {K:M9} {H:Hp} {σ:L2.St} {ρ:PSt}:CoeFun (View K H σ ρ) (fun _=>∀(i:Nat)(l:Sl),ρ[i]?=some l->yA K H σ[i]? l):=⟨@View.at_ _ K H σ ρ⟩
theorem yA.same{K:M9}{H H':Hp}{x:Option (Option V)}{l:Sl}(h:yA K H x l)(s:Same H H'):yA K H' x l:=by
 cases l with
 | no=>exact trivial
 | val p=>obtain⟨v,e,r⟩:=h;exact⟨v,e,r.same s⟩
 | own p=>obtain⟨a,e,r⟩:=h;exact⟨a,e,r.same s⟩
 | tree t=>obtain⟨a,r,e,h⟩:=h;exact⟨a,r,e,h.same s⟩
 | exc y=>exact h.exk (Same.kp s)
theorem View.same{K:M9}{H H':Hp}{σ:L2.St}{ρ:PSt}(h:View K H σ ρ)(s:Same H H'):View K H' σ ρ:=⟨fun i l e=>(h i l e).same s,s.tabs h.tb⟩
def RQ(C:Cn)(H:Hp){α:Type}(r:R α)(k:α->Prop):Prop:=
 match r with
 | .ok a=>k a
 | .er x=>∀H',Same H H'->C.Ac x H'
 | .no=>False
section
variable{C : Cn}{H H' : Hp}{α β : Type}{r : R α}{k k' : α → Prop}
theorem RQ.imp(h:RQ C H r k)(f:∀a,r=.ok a->k a->k' a):RQ C H r k':=by
 cases r with
 | ok a=>exact f a rfl h
 | er x=>exact h
 | no=>exact h
theorem RQ.same(h:RQ C H r k)(s:Same H H'):RQ C H' r k:=by
 cases r with
 | ok a=>exact h
 | er x=>exact fun H2 s2=>h H2 (s.trans s2)
 | no=>exact h
theorem RQ.bind{f:α->R β}{m:β->Prop}(h:RQ C H (r >>= f) m):RQ C H r fun a=>RQ C H (f a) m:=by
 cases r <;> exact h
theorem RQ.ofO{o:Option α}(h:RQ C H (R.ofO o) k):∃a,o=some a/\k a:=by
 cases o with
 | none=>exact MG h
 | some a=>exact⟨a,rfl,h⟩
end
noncomputable def tV(C:Cn)(f:PSt->R PV):TE:=fun σ H Q=>∃ρ,View C.X.K H σ ρ/\RQ C H (f ρ) fun p=>∀v H',Same H H'->Rep C.X.K H' p v->Q v H'
noncomputable def tO(C:Cn)(f:PSt->R PV):TE:=fun σ H Q=>∃ρ,View C.X.K H σ ρ/\RQ C H (f ρ) fun p=>∀v H',Same H H'->bw C.X.K H' p v->Q v H'
noncomputable def tN(C:Cn)(f:PSt->R PV):TE:=fun σ H Q=>∃ρ,View C.X.K H σ ρ/\RQ C H (f ρ) fun p=>∀a H',Same H H'->H a=none->dE C.X.K H' a p->Q (.ref a) H'
noncomputable def tAs(C:Cn)(f:PSt->R (List PV)):TA:=fun σ H Q=>∃ρ,View C.X.K H σ ρ/\RQ C H (f ρ) fun ps=>∀vs H',Same H H'->aM C.X.K H' ps vs->Q vs H'
noncomputable def tBl(C:Cn)(f:PSt->R Bool):TT:=fun σ H Q=>∃ρ,View C.X.K H σ ρ/\RQ C H (f ρ) fun b=>∀H',Same H H'->Q b H'
def EV(C:Cn)(e:Expr)(f:PSt->R PV):Prop:=PE C.X e (tV C f)
def EO(C:Cn)(e:Expr)(f:PSt->R PV):Prop:=PE C.X e (tO C f)
def EN(C:Cn)(e:Expr)(f:PSt->R PV):Prop:=PE C.X e (tN C f)
def EA(C:Cn)(es:List Expr)(f:PSt->R (List PV)):Prop:=PA C.X es (tAs C f)
def ET(C:Cn)(e:Expr)(f:PSt->R Bool):Prop:=PT C.X e (tBl C f)
def EW(C:Cn)(e:Expr)(f:PSt->R Bool):Prop:=PW C.X e (tBl C f)
section
variable{C : Cn}{e a b c : Expr}{es : List Expr}{f fa fb fc : PSt → R PV}{fs : PSt → R (List PV)}{pos : O4}
theorem EV.o(h:EV C e f):EO C e f:=fun pins s σ H Q I ⟨ρ,vw,q⟩=>h pins s σ H Q I ⟨ρ,vw,q.imp fun _ _ k v H' sm r=>k v H' sm r.o⟩
theorem EN.o(h:EN C e f):EO C e f:=fun pins s σ H Q I ⟨ρ,vw,q⟩=>h pins s σ H Q I ⟨ρ,vw,q.imp fun _ _ k a H' sm _ r=>k (.ref a) H' sm r.o⟩
theorem EN.v(h:EN C e f):EV C e f:=by
 intro pins s σ H Q I ⟨ρ,vw,q⟩;cases hf:f ρ with
 | ok p=>
  rw[hf] at q;refine thn (h pins s σ H (fun v H'=>∃a,v=.ref a/\Same H H'/\H a=none/\dE C.X.K H' a p) I ⟨ρ,vw,by rw[hf];exact fun a H' sm n w=>⟨a,rfl,sm,n,w⟩⟩) fun u s' ⟨v,H',I',rv,a,ev,sm,na,w⟩=>?_;obtain⟨H2,I2,rp,oth⟩:=I'.frz w;subst ev;exact⟨.ref a,H2,I2,rv,q _ H2 (sm.but na (fun u h=>(w.nt u h).1) oth) rp⟩
 | er x=>
  rw[hf] at q;exact h pins s σ H Q I ⟨ρ,vw,by rw[hf];exact q⟩
 | no=>
  rw[hf] at q;exact MG q
theorem H0 (i:Nat) {x:Str} (hN:C.X.N[i]?=some x) (hv:Vis C.X.env.scope x) (hd:(x == ("__debug__":Str))=false:=by decide) (hcd:(x == ("__classdict__":Str))=false:=by decide):EV C (.Name x pos) (ah i):=by
 intro pins s σ H Q I ⟨ρ,vw,q⟩;unfold ah at q;split at q
 ·rename_i p e
  obtain⟨v,ev,r⟩:=vw i _ e;exact eC hN hv hd hcd pins s σ H Q I ⟨v,ev,q v H (Same.refl H) r⟩
 ·exact MG q
theorem Hb (i:Nat) {x:Str} (hN:C.X.N[i]?=some x) (hv:Vis C.X.env.scope x) (hd:(x == ("__debug__":Str))=false:=by decide) (hcd:(x == ("__classdict__":Str))=false:=by decide):EO C (.Name x pos) (yN i):=by
 intro pins s σ H Q I ⟨ρ,vw,q⟩;unfold yN at q;split at q
 ·rename_i p e
  obtain⟨v,ev,r⟩:=vw i _ e;exact eC hN hv hd hcd pins s σ H Q I ⟨v,ev,q v H (Same.refl H) r.o⟩
 ·rename_i p e
  obtain⟨v,ev,r⟩:=vw i _ e;exact eC hN hv hd hcd pins s σ H Q I ⟨_,ev,q _ H (Same.refl H) r.o⟩
 ·rename_i p e
  obtain⟨a,r,ev,h⟩:=vw i _ e;exact eC hN hv hd hcd pins s σ H Q I ⟨_,ev,q _ H (Same.refl H) h.2.o⟩
 ·exact MG q
theorem bE{i j}:EV C (.Constant (.int i) j pos) (kI i):=fun pins s σ H Q I ⟨_,_,q⟩=>Bq pins s σ H Q I (q _ H (Same.refl H) rfl)
theorem dG{i j}:EV C (.Constant (.bool i) j pos) (kB i):=fun pins s σ H Q I ⟨_,_,q⟩=>J6 pins s σ H Q I (q _ H (Same.refl H) rfl)
theorem iO{j}:EV C (.Constant .none j pos) kN:=fun pins s σ H Q I ⟨_,_,q⟩=>G7 pins s σ H Q I (q _ H (Same.refl H) rfl)
theorem aj{x j}:EV C (.Constant (.str x) j pos) (kS x):=fun pins s σ H Q I ⟨_,_,q⟩=>lM pins s σ H Q I (q _ H (Same.refl H) rfl)
theorem DT {x:Str} {v:V} {u:Value} {p:PV} (hg:Gl C.X x) (hm:C.X.mg x=some u) (r:RelV v u) (rp:∀H,Rep C.X.K H p v) (hd:(x == ("__debug__":Str))=false:=by decide):EV C (.Name x pos) (kP p):=
 fun pins s σ H Q I ⟨_,_,q⟩=>wA hg hm r hd pins s σ H Q I (q _ H (Same.refl H) (rp H))
theorem ai:EA C [] aU:=fun pos pins s σ H Q I ⟨_,_,q⟩=>gg pos pins s σ H Q I (q [] H (Same.refl H) aM.nil)
theorem aa(ha:EV C e f)(hr:EA C es fs)(hs:MO (e::es) C.X.env=(false,NC e C.X.env)::MO es C.X.env:=by exact eX rfl):EA C (e::es) (ae f fs):=by
 intro pos pins s σ H Q I ⟨ρ,vw,q⟩;refine cg ha hr hs pos pins s σ H Q I ⟨ρ,vw,q.bind.imp fun p _ k v H1 s1 r1=>⟨ρ,vw.same s1,(k.bind.same s1).imp fun ps _ k2 vs H2 s2 r2=>?_⟩⟩;exact k2 (v::vs) H2 (s1.trans s2) (aM.cons (r1.same s2) r2)
noncomputable def tA1(C:Cn)(f:PSt->R PV):TA:=fun σ H Q=>∃ρ,View C.X.K H σ ρ/\RQ C H (f ρ) fun p=>∀v H',Same H H'->bw C.X.K H' p v->Q [v] H'
theorem qM(ha:EO C e f)(hs:MO [e] C.X.env=[(false,NC e C.X.env)]:=by exact cz rfl):PA C.X [e] (tA1 C f):=by
 intro pos pins s σ H Q I ⟨ρ,vw,q⟩;exact cg ha gg hs pos pins s σ H Q I ⟨ρ,vw,q⟩
theorem Same.new{H:Hp}{a:Addr}{o:HO}(h:H a=none):Same H (upd H a o):=.of fun b u e=>by
 rw[az (bT e h)];exact e
theorem jH{C:Cn}{H:Hp}{ps:List PV}{β:Type}{g:List PV->R β}{k:β->Prop}(h:RQ C H (iN ps >>= g) k):ps.length<=sizeLine/\RQ C H (g ps) k:=by
 unfold iN at h
 by_cases hz:ps.length<=16777216
 ·rw[if_pos hz] at h
  exact⟨by rw[My];exact hz,h⟩
 ·rw[if_neg hz] at h
  exact MG h
theorem dB{k}(h:EA C es fs):EV C (.Tuple es k pos) (kL fs):=by
 intro pins s σ H Q I ⟨ρ,vw,q⟩;refine G5 h pins s σ H Q I ⟨ρ,vw,q.bind.imp fun ps _ k vs H1 s1 r1=>?_⟩;obtain⟨z,k⟩:=jH k;refine⟨by rw[← r1.length];exact z,fun p hp=>?_⟩;exact k _ _ (s1.trans (Same.new hp)) ⟨p,vs,rfl,.inl aA,r1.same (Same.new hp)⟩
theorem bJ(h:EA C es fs):EN C (.List es pos) (gp fs):=by
 intro pins s σ H Q I ⟨ρ,vw,q⟩;refine G8 h pins s σ H Q I ⟨ρ,vw,q.bind.imp fun ps _ k vs H1 s1 r1=>?_⟩;obtain⟨z,k⟩:=jH k;refine⟨by rw[← r1.length];exact z,fun p hp=>?_⟩;exact k p _ (s1.trans (Same.new hp)) (s1.free hp) ⟨vs,aA,r1.same (Same.new hp)⟩
noncomputable def rP(K:M9)(g:PV->PV->Option PV):R2:=fun v u H Q=>∃p q z,bw K H p v/\bw K H q u/\g p q=some z/\∀w H',Same H H'->Rep K H' z w->Q w H'
theorem t2{σ:L2.St}{H:Hp}{Q:VK}{ρ:PSt}{g:PV->PV->Option PV}{r:R2}(vw:View C.X.K H σ ρ)(q:RQ C H (au fa fb g ρ) fun p=>∀v H',Same H H'->Rep C.X.K H' p v->Q v H')
  (hr:∀v u H' Q',rP C.X.K g v u H' Q'->r v u H' Q'):tOp r (tO C fa) (tO C fb) σ H Q:=by
 refine⟨ρ,vw,q.bind.imp fun p _ k v H1 s1 r1=>⟨ρ,vw.same s1,(k.bind.same s1).imp fun p2 _ k2 u H2 s2 r2=>?_⟩⟩;obtain⟨z,ez,k3⟩:=k2.ofO;exact hr _ _ _ _ ⟨p,p2,z,r1.same s2,r2,ez,fun w H3 s3 r3=>k3 w H3 ((s1.trans s2).trans s3) r3⟩
theorem ao{op:Operator}{g:PV->PV->Option PV}(ho:OpR C.X (Ow op) (rP C.X.K g))(ha:EO C a fa)(hb:EO C b fb):EV C (.BinOp a op b pos) (au fa fb g):=by
 intro pins s σ H Q I ⟨ρ,vw,q⟩;exact IZ ho ha hb pins s σ H Q I (t2 vw q fun _ _ _ _ h=>h)
theorem df{op:Sr}{g:PV->PV->Option PV}(ho:OpR C.X (Mx op) (rP C.X.K g))(ha:EO C a fa)(hb:EO C b fb)(hm:Pk op b=false:=by first | exact By _ | with_unfolding_all rfl):EV C (.Compare a [op] [b] pos) (au fa fb g):=by
 intro pins s σ H Q I ⟨ρ,vw,q⟩;exact D4 ho ha hb hm pins s σ H Q I (t2 vw q fun _ _ _ _ h=>h)
theorem bf{g:PV->PV->Option PV}(ho:IxR C.X (rP C.X.K g))(ha:EO C a fa)(hb:EO C b fb)(hs:yB b:=by exact fun _ _=>rfl):EV C (.Subscript a b pos) (au fa fb g):=by
 intro pins s σ H Q I ⟨ρ,vw,q⟩;exact J0 ho ha hb hs pins s σ H Q I (t2 vw q fun _ _ _ _ h=>h)
end
end PU
namespace PU
open PySem PySem.Spec PyProof.Rows L2
variable[TW]
section
variable{X : Cx}{pins : List (Addr×Obj)}{σ : L2.St}{H : Hp}{s : MB}
theorem DkR.at{a:Addr}{kvs:List (Key×V)}(hw:X.w=TW.w)(I:Inv X pins σ H s)(h:DkR X.K H a kvs) :
  kvs.length<=sizeLine/\(a == NL)=false/\∃vs,KV kvs vs/\s.heap.DictOf (aE X.prog X.w) a vs:=by
 rcases h with h | h
 ·exact AJ I.hok h
 ·exact⟨h.1,h.2.1,h.at _ _ hw _ I.kIn⟩
theorem lV{ys:List V}{its:List Value}{ps:List PV}(I:Inv X pins σ H s)(hv:Vals ys its)(hz:ys.length<=sizeLine)(hr:aM X.K H ps ys)(t':Nat) :
  ∃H',Inv X pins σ H' { s with heap:=s.heap.push { cls:=.type "list",data:=.seq its.toArray },toks:=t' }/\Same H H'/\Rep X.K H' (.lst ps) (.ref s.heap.objs.size):=by
 have I1:=I.lnew (t':=t') hv hz;have nf:H s.heap.objs.size=none:=I.fresh;obtain⟨H',I2,rp,oth⟩:=L2.Inv.frz (a:=s.heap.objs.size) (p:=.lst ps) I1 ⟨ys,aA,hr.same (Same.new nf)⟩;refine⟨H',I2,.of fun b o e=>?_,rp⟩;have hb:=bT e nf;rw[oth b hb,az hb];exact e
theorem bw.lst_inv{K:M9}{H:Hp}{ps:List PV}{v:V}(h:bw K H (.lst ps) v):∃a xs,v=.ref a/\SqO K H a xs/\aM K H ps xs:=h
theorem bw.tup_inv{K:M9}{H:Hp}{ps:List PV}{v:V}(h:bw K H (.tup ps) v):∃a xs,v=.ref a/\SqT K H a xs/\aM K H ps xs:=by
 obtain⟨a,xs,e,q,r⟩:=(show ∃a xs,v=.ref a/\sr K H a xs ps/\aM K H ps xs from h);exact⟨a,xs,e,q.sq,r⟩
end
theorem AO{prog:MP}{w:Me}{A:Mi}{E:Value->MB->Prop}{s:MB}{t b:Addr}{vs ws:List Value}{Q:Value->MB->Prop}(ht:IsTup s.heap t vs.toArray)(hb:IsTup s.heap b ws.toArray)
  (h0:vs=[]->Q (.ref b) s) (h1:ws=[]->Q (.ref t) s) (h2:Q (.ref s.heap.objs.size) { s with heap:=s.heap.push { cls:=.type "tuple",data:=.seq (vs++ws).toArray } })
  (hsz:vs.length+ws.length<=sizeLine):MK (MV prog w) A (Ow .Add (.ref t) (.ref b)) Q E s:=by
 obtain⟨⟨cls,dd,data,sl⟩,ho,hc,n,hd⟩:=id ht;obtain⟨⟨cls2,dd2,data2,sl2⟩,ho2,hc2,n2,hd2⟩:=id hb;simp only at hc hd hc2 hd2;subst hc hd hc2 hd2;have e:vs.toArray++ws.toArray=(vs++ws).toArray:=by simp
 by_cases hv:vs=[]
 ·exact Tf ⟨_,ho,rfl⟩ ⟨_,ho2,rfl⟩ Ru T8 QA Q0 (Pw _ _)
   (tuple_addW0 t b vs.toArray ws.toArray n n2 dd dd2 sl sl2 (by simp[hv])) ⟨ho,ho2,h0 hv⟩
 ·by_cases hw:ws=[]
  ·exact Tf ⟨_,ho,rfl⟩ ⟨_,ho2,rfl⟩ Ru T8 QA Q0 (Pw _ _)
    (tuple_addW1 t b vs.toArray ws.toArray n n2 dd dd2 sl sl2 (by simpa using hv) (by simp[hw])) ⟨ho,ho2,h1 hw⟩
  ·refine Tf ⟨_,ho,rfl⟩ ⟨_,ho2,rfl⟩ Ru T8 QA Q0 (Pw _ _)
    (tuple_addW2 t b vs.toArray ws.toArray n n2 dd dd2 sl sl2 (by simpa using hv) (by simpa using hw) (by rw[Mj,Mj];exact hsz)) ⟨ho,ho2,?_⟩
   rw[e];exact h2
section
variable{X : Cx}
theorem sP{f:Value->Value->Sem Value}{g:PV->PV->Option PV}{r:R2}(h:OpR X f r)
  (hg:∀(p q z:PV),g p q=some z->∃i j,p=.int i/\q=.int j/\∃w:V,(∀K H,Rep K H z w)/\∀H Q,Q w H->r (.int i) (.int j) H Q):OpR X f (rP X.K g):=by
 intro pins s σ H x y v u Q I rx ry ⟨p,q,z,hp,hq,e,k⟩;obtain⟨i,j,rfl,rfl,w,hw,hr⟩:=hg p q z e;cases (show x=.int i from hp);cases (show y=.int j from hq);exact h pins s σ H _ _ v u Q I rx ry (hr H Q (k w H (Same.refl H) (hw _ _)))
theorem Gh:OpR X (Ow .Mult) (rP X.K F1):=sP Gb fun p q z e=>by
 unfold F1 at e;split at e
 ·rename_i i j
  split at e
  ·rename_i hc
   cases e;exact⟨i,j,rfl,rfl,_,fun _ _=>rfl,fun H Q q=>⟨i,j,rfl,rfl,hc.imp (fun h=>⟨by omega,by omega⟩) (fun h=>⟨by omega,by omega⟩),q⟩⟩
  ·cases e
 ·cases e
theorem rL:OpR X (Ow .FloorDiv) (rP X.K yO):=sP D8 fun p q z e=>by
 unfold yO at e;split at e
 ·rename_i i j
  split at e
  ·rename_i hc
   cases e;exact⟨i,j,rfl,rfl,_,fun _ _=>rfl,fun H Q q=>⟨i,j,rfl,rfl,hc,q⟩⟩
  ·cases e
 ·cases e
theorem jB:OpR X (Ow .Mod) (rP X.K oU):=sP Gc fun p q z e=>by
 unfold oU at e;split at e
 ·rename_i i j
  split at e
  ·rename_i hc
   cases e;exact⟨i,j,rfl,rfl,_,fun _ _=>rfl,fun H Q q=>⟨i,j,rfl,rfl,hc,q⟩⟩
  ·cases e
 ·cases e
theorem aS:OpR X (Ow .Add) (rP X.K bC):=by
 intro pins s σ H x y v u Q I rx ry ⟨p,q,z,hp,hq,e,k⟩;have hs:=My;unfold bC at e;split at e
 ·rename_i i j
  cases e;cases (show x=.int i from hp);cases (show y=.int j from hq);exact Gf pins s σ H _ _ v u Q I rx ry ⟨i,j,rfl,rfl,k _ H (Same.refl H) rfl⟩
 ·rename_i i j
  split at e
  ·rename_i hc
   cases e;cases (show x=.str i from hp);cases (show y=.str j from hq);exact uB pins s σ H _ _ v u Q I rx ry ⟨i,j,rfl,rfl,by omega,k _ H (Same.refl H) rfl⟩
  ·cases e
 ·rename_i ps qs
  split at e
  ·rename_i hc
   cases e;obtain⟨a,xs,rfl,hx,r1⟩:=hp;obtain⟨b,ys,rfl,hy,r2⟩:=hq;cases rx;cases ry;obtain⟨hz,its,n,rv,e1⟩:=hx.is I;obtain⟨hz2,its2,n2,rv2,e2⟩:=hy.is I;have l1:=r1.length;have l2:=r2.length;have l3:=rv.length;have l4:=rv2.length;have ea:its.toArray++its2.toArray=(its++its2).toArray:=by simp
   refine PySem.P.add_list e1 e2 ?_ (by simp only[Mj];omega);rw[ea];obtain⟨H',I',sm,rp⟩:=lV I (rv.append rv2) (by rw[MW];omega) (r1.append r2) s.toks;exact⟨.ref _,H',I',rfl,k _ H' sm rp⟩
  ·cases e
 ·rename_i ps qs
  split at e
  ·rename_i hc
   cases e;obtain⟨a,xs,rfl,hx,r1⟩:=bw.tup_inv hp;obtain⟨b,ys,rfl,hy,r2⟩:=bw.tup_inv hq;cases rx;cases ry;obtain⟨its,rv,pl,hz⟩:=I.tuple hx;obtain⟨its2,rv2,pl2,hz2⟩:=I.tuple hy;have l1:=r1.length;have l2:=r2.length;have l3:=rv.length;have l4:=rv2.length;refine AO pl pl2 (fun z=>?_) (fun z=>?_) ?_ (by omega)
   ·subst z
    have:ps=[]:=Nb (by rw[l1,l3];rfl);subst this;exact⟨.ref b,H,I,rfl,k _ H (Same.refl H) hq⟩
   ·subst z
    have:qs=[]:=Nb (by rw[l2,l4];rfl);subst this;rw[N1] at k;exact⟨.ref a,H,I,rfl,k _ H (Same.refl H) hp⟩
   ·have nf:H s.heap.objs.size=none:=I.fresh
    refine⟨.ref s.heap.objs.size,_,I.laid (t':=s.toks) (o:=.tup (xs++ys)) (fun b ob q=>MD _ q) (MX _) ?_,rfl,k _ _ (Same.new nf) ⟨_,xs++ys,rfl,.inl aA,(r1.append r2).same (Same.new nf)⟩⟩;exact⟨by rw[MW];omega,_,rv.append rv2,B5.new _ _⟩
  ·cases e
 ·cases e
end
end PU
namespace PU
open PySem PySem.Spec PyProof.Rows L2
variable[TW]
structure Bs where
 fst:Hp
 snd:Hp
 thd:Nat->Option (Addr×List Addr)
structure StOk(K:M9)(B:Bs)(H:Hp)(σ:L2.St)(ρ:PSt):Prop where
 len:ρ.length=σ.length
 same:Same B.1 H
 kp:Kp B.2 H
 vw:View K H σ ρ
 fresh:∀(i:Nat)(p:PV)(a:Addr),ρ[i]?=some (.own p)->σ[i]?=some (some (.ref a))->B.1 a=none
 apart:∀(i j:Nat)(p q:PV)(a:Addr),ρ[i]?=some (.own p)->ρ[j]?=some (.own q)->σ[i]?=some (some (.ref a))->σ[j]?=some (some (.ref a))->i=j
 treed:∀(i:Nat)(t:Tr),ρ[i]?=some (.tree t)->∃a r,B.3 i=some (a,r)/\σ[i]?=some (some (.ref a))/\bu K B.1 a r t
section
variable{K : M9}{B : Bs}{H H' : Hp}{σ : L2.St}{ρ : PSt}{i : Nat}{p q : PV}{v : V}{a : Addr}
theorem StOk.grow(S:StOk K B H σ ρ)(s:Same H H'):StOk K B H' σ ρ:=⟨S.len,S.same.trans s,S.kp.trans (Same.kp s),S.vw.same s,S.fresh,S.apart,S.treed⟩
theorem aY{α:Type}{l:List α}{i j:Nat}{x y:α}(h:(l.set i x)[j]?=some y):(j=i/\y=x/\i<l.length)\/(j≠i/\l[j]?=some y):=by
 rw[Q3] at h
 by_cases e:i=j
 ·subst e
  rw[if_pos rfl] at h;split at h
  ·rename_i hl
   cases h;exact .inl ⟨rfl,rfl,hl⟩
  ·cases h
 ·rw[if_neg e] at h
  exact .inr ⟨fun z=>e z.symm,h⟩
theorem aI{α:Type}{l:List α}{i j:Nat}{x:α}(h:j≠i):(l.set i x)[j]?=l[j]?:=by
 rw[Q3,if_neg fun z=>h z.symm]
theorem cM{α:Type}{l:List α}{i:Nat}{x:α}(h:i<l.length):(l.set i x)[i]?=some x:=by
 rw[Q3,if_pos rfl,if_pos h]
theorem StOk.setV(S:StOk K B H σ ρ)(r:Rep K H p v):StOk K B H (σ.set i (some v)) (ρ.set i (.val p)):=by
 refine⟨by simp[S.len],S.same,S.kp,⟨fun j l e=>?_,S.vw.tb⟩,fun j q b e f=>?_,fun j k q q' b e1 e2 f1 f2=>?_,fun j t e=>?_⟩
 ·rcases aY e with⟨rfl,rfl,hl⟩|⟨hj,e⟩
  ·exact⟨v,cM (by rw[← S.len];exact hl),r⟩
  ·rw[aI hj]
   exact S.vw j l e
 ·rcases aY e with⟨_,z,_⟩|⟨hj,e⟩
  ·cases z
  ·rw[aI hj] at f
   exact S.fresh j q b e f
 ·rcases aY e1 with⟨_,z,_⟩|⟨hj,e1⟩
  ·cases z
  ·rcases aY e2 with⟨_,z,_⟩|⟨hk,e2⟩
   ·cases z
   ·rw[aI hj] at f1
    rw[aI hk] at f2;exact S.apart j k q q' b e1 e2 f1 f2
 ·rcases aY e with⟨_,z,_⟩|⟨hj,e⟩
  ·cases z
  ·obtain⟨a',r',h1,h2,h3⟩:=S.treed j t e
   exact⟨a',r',h1,by rw[aI hj];exact h2,h3⟩
theorem StOk.setN(S:StOk K B H σ ρ)(s:Same H H')(n:H a=none)(r:dE K H' a p):StOk K B H' (σ.set i (some (.ref a))) (ρ.set i (.own p)):=by
 have other:∀(j:Nat)(q:PV),ρ[j]?=some (.own q)->σ[j]?≠some (some (.ref a)):=fun j q e f=>by
  obtain⟨b,e2,w⟩:=S.vw j _ e;rw[f] at e2;cases e2;cases q with
  | lst ps=>obtain⟨_,w,_⟩:=w;rw[n] at w;cases w
  | dct ks ps=>obtain⟨_,w,_⟩:=w;rw[n] at w;cases w
  | dtt ks ps=>obtain⟨_,w,_⟩:=w;rw[n] at w;cases w
  | _=>exact w
 refine⟨by simp[S.len],S.same.trans s,S.kp.trans (Same.kp s),⟨fun j l e=>?_,s.tabs S.vw.tb⟩,fun j q b e f=>?_,fun j k q q' b e1 e2 f1 f2=>?_,fun j t e=>?_⟩
 ·rcases aY e with⟨rfl,rfl,hl⟩|⟨hj,e⟩
  ·exact⟨a,cM (by rw[← S.len];exact hl),r⟩
  ·rw[aI hj]
   exact(S.vw j l e).same s
 ·rcases aY e with⟨rfl,_,hl⟩|⟨hj,e⟩
  ·rw[cM (by rw[← S.len];exact hl)] at f
   cases f;exact S.same.free n
  ·rw[aI hj] at f
   exact S.fresh j q b e f
 ·rcases aY e1 with⟨h1,_,hl⟩|⟨hj,d1⟩
  ·rcases aY e2 with⟨h2,_,_⟩|⟨hk,d2⟩
   ·rw[h1,h2]
   ·subst h1
    rw[cM (by rw[← S.len];exact hl)] at f1;cases f1;rw[aI hk] at f2;exact absurd f2 (other k q' d2)
  ·rcases aY e2 with⟨h2,_,hl⟩|⟨hk,d2⟩
   ·subst h2
    rw[cM (by rw[← S.len];exact hl)] at f2;cases f2;rw[aI hj] at f1;exact absurd f1 (other j q d1)
   ·rw[aI hj] at f1
    rw[aI hk] at f2;exact S.apart j k q q' b d1 d2 f1 f2
 ·rcases aY e with⟨_,z,_⟩|⟨hj,e⟩
  ·cases z
  ·obtain⟨a',r',h1,h2,h3⟩:=S.treed j t e
   exact⟨a',r',h1,by rw[aI hj];exact h2,h3⟩
theorem dE.obj(h:dE K H a p):∃u,H a=some u/\pD u=false:=by
 cases p with
 | lst ps=>obtain⟨_,w,_⟩:=h;exact⟨_,w,rfl⟩
 | dct ks ps=>obtain⟨_,w,_⟩:=h;exact⟨_,w,rfl⟩
 | dtt ks ps=>obtain⟨_,w,_⟩:=h;exact⟨_,w,rfl⟩
 | _=>exact MG h
theorem dE.kp(k:Kp H H')(e:H' a=H a)(h:dE K H a p):dE K H' a p:=by
 cases p with
 | lst ps=>obtain⟨xs,w,r⟩:=h;exact⟨xs,by rw[e];exact w,r.kp k⟩
 | dct ks ps=>obtain⟨xs,w,z,r⟩:=h;exact⟨xs,by rw[e];exact w,z,r.kp k⟩
 | dtt ks ps=>obtain⟨xs,w,z,r⟩:=h;exact⟨xs,by rw[e];exact w,z,r.kp k⟩
 | _=>exact h
theorem StOk.turn{l':Sl}(S:StOk K B H σ ρ)(e:ρ[i]?=some (.own p))(f:σ[i]?=some (some (.ref a)))(oth:∀b,b≠a->H' b=H b)(hl:yA K H' (some (some (.ref a))) l')(hn:∀t,l'≠.tree t:=by intro _ h;cases h):StOk K B H' σ (ρ.set i l'):=by
 obtain⟨b,f2,w⟩:=S.vw i _ e;rw[f] at f2;cases f2;obtain⟨u,hu,nf⟩:=w.obj;have fa:=S.fresh i p a e f
 have k:Kp H H':=fun b u' eb fb=>by
  have:b≠a:=fun z=>by
   subst z;rw[hu] at eb;cases eb;rw[nf] at fb;cases fb
  rw[oth b this];exact eb
 have ne:∀(j:Nat)(q:PV)(b:Addr),j≠i->ρ[j]?=some (.own q)->σ[j]?=some (some (.ref b))->b≠a:=fun j q b hj e2 f2 z=>by
  subst z;exact hj (S.apart j i q p b e2 e f2 f)
 refine⟨by simp[S.len],S.same.but fa (fun u h=>(w.nt u h).1) oth,S.kp.trans k,⟨fun j l ej=>?_,S.vw.tb.but w.nt oth⟩,fun j q b ej fj=>?_,fun j m q q' b e1 e2 f1 f2=>?_,fun j t e=>?_⟩
 ·rcases aY ej with⟨rfl,rfl,hl2⟩|⟨hj,ej⟩
  ·rw[f]
   exact hl
  ·have:=S.vw j l ej
   cases l with
   | no=>exact trivial
   | val q=>obtain⟨v,e1,r⟩:=this;exact⟨v,e1,r.kp k⟩
   | own q=>
    obtain⟨b,e1,r⟩:=this;exact⟨b,e1,r.kp k (oth b (ne j q b hj ej e1))⟩
   | tree t=>
    obtain⟨a',r',_,h2,h3⟩:=S.treed j t ej;exact⟨a',r',h2,h3.same (S.same.but fa (fun u h=>(w.nt u h).1) oth)⟩
   | exc y=>exact this.exk k
 ·rcases aY ej with⟨rfl,_,_⟩|⟨hj,ej⟩
  ·rw[f] at fj
   cases fj;exact fa
  ·exact S.fresh j q b ej fj
 ·have fix:∀(j:Nat)(q:PV),(ρ.set i l')[j]?=some (.own q)->∃q',ρ[j]?=some (.own q'):=fun j q ej=>by
   rcases aY ej with⟨rfl,_,_⟩|⟨hj,ej⟩
   ·exact⟨p,e⟩
   ·exact⟨q,ej⟩
  obtain⟨q1,g1⟩:=fix j q e1;obtain⟨q2,g2⟩:=fix m q' e2;exact S.apart j m q1 q2 b g1 g2 f1 f2
 ·rcases aY e with⟨_,z,_⟩|⟨hj,e⟩
  ·exact absurd z.symm (hn t)
  ·exact S.treed j t e
theorem StOk.rebase{B':Hp}(S:StOk K B H σ ρ)(k:Kp B' H):StOk K ⟨B.1,B',B.3⟩ H σ ρ:=⟨S.len,S.same,k,S.vw,S.fresh,S.apart,S.treed⟩
end
def RS(C:Cn)(B:Bs)(D:Ends):R Fl->Prop
 | .ok (.next ρ)=>∀σ H,StOk C.X.K B H σ ρ->D.nx σ H
 | .ok (.brk ρ)=>∀σ H,StOk C.X.K B H σ ρ->D.bk σ H
 | .ok (.cont ρ)=>∀σ H,StOk C.X.K B H σ ρ->D.ct σ H
 | .ok (.ret p)=>∀v H,Same B.1 H->Rep C.X.K H p v->D.rt v H
 | .er x=>∀H,Same B.1 H->C.Ac x H
 | .no=>False
noncomputable def tS(C:Cn)(g:PSt->R Fl):TS:=fun D σ H=>∃ρ B,StOk C.X.K B H σ ρ/\RS C B D (g ρ)
def SV(C:Cn)(st:Stmt)(g:PSt->R Fl):Prop:=PS C.X st (tS C g)
def SVs(C:Cn)(st:List Stmt)(g:PSt->R Fl):Prop:=PSs C.X st (tS C g)
section
variable{C : Cn}{B : Bs}{D : Ends}{H : Hp}{α : Type}
theorem RS.bind{r:R α}{g:α->R Fl}(h:RS C B D (r >>= g))(s:Same B.1 H):RQ C H r fun a=>RS C B D (g a):=by
 cases r with
 | ok a=>exact h
 | er x=>exact fun H' s'=>h H' (s.trans s')
 | no=>exact h
theorem RS.ofO{o:Option α}{g:α->R Fl}(h:RS C B D (R.ofO o >>= g)):∃a,o=some a/\RS C B D (g a):=by
 cases o with
 | none=>exact MG h
 | some a=>exact⟨a,rfl,h⟩
end
section
variable{C : Cn}{st : Stmt}{sts a b body : List Stmt}{e tg iter c : Expr}{f fk : PSt → R PV}{g g' : PSt → R Fl}{pos : O4}{t : PSt → R Bool}
theorem aJ:SVs C [] bK:=fun pins s σ H D I ⟨ρ,B,S,h⟩=>wj pins s σ H D I (h σ H S)
theorem ag(h1:SV C st g)(h2:SVs C sts g'):SVs C (st::sts) (bY g g'):=by
 intro pins s σ H D I ⟨ρ,B,S,h⟩;refine sQ h1 h2 pins s σ H D I ⟨ρ,B,S,?_⟩;unfold bY at h;cases hg:g ρ with
 | ok fl=>
  rw[hg] at h;cases fl with
  | next ρ'=>exact fun σ' H' S'=>⟨ρ',B,S',h⟩
  | brk ρ'=>exact h
  | cont ρ'=>exact h
  | ret p=>exact h
 | er x=>rw[hg] at h;exact h
 | no=>rw[hg] at h;exact h
theorem ak(h1:SV C st g):SVs C [st] g:=by
 intro pins s σ H D I ⟨ρ,B,S,h⟩;exact wg h1 pins s σ H D I ⟨ρ,B,S,h⟩
theorem ax(he:EV C e f):SV C (.Return (some e) pos) (cA f):=by
 intro pins s σ H D I ⟨ρ,B,S,h⟩;exact wm he pins s σ H D I ⟨ρ,S.vw,(h.bind S.same).imp fun p _ k v H' s' r=>k v H' (S.same.trans s') r⟩
theorem bS(hc:ET C c t)(ha:SVs C a g)(hb:SVs C b g'):SV C (.If c a b pos) (ifF t g g'):=by
 intro pins s σ H D I ⟨ρ,B,S,h⟩;refine G1 hc ha hb pins s σ H D I ⟨ρ,S.vw,(h.bind S.same).imp fun k _ q H' s'=>?_⟩;cases k with
 | true=>exact Ag ⟨ρ,B,S.grow s',q⟩
 | false=>exact Ah ⟨ρ,B,S.grow s',q⟩
theorem aN(i:Nat){x:Str}{pos':O4}(hN:C.X.N.Nodup)(he:EV C e f)(hs:Nk e (some (.Name x pos')) pos.line C.X.env=pure false:=by rfl)
  (hf:C.X.fn x=true\/C.X.env.scope.names.lookup x=some .local:=by first | exact .inl rfl | exact .inr rfl | assumption) (hi:C.X.N[i]?=some x:=by rfl) (hx:Loc C.X.env.scope x:=by first | exact .inl rfl | exact .inr rfl) :
  SV C (.Assign [.Name x pos'] e pos) (dF i f):=by
 intro pins s σ H D I ⟨ρ,B,S,h⟩;exact wk hN hi hx he hs hf pins s σ H D I ⟨ρ,S.vw,(h.bind S.same).imp fun p _ k v H' s' r=>k _ H' ((S.grow s').setV r)⟩
theorem Be(i:Nat){x:Str}{pos':O4}(hN:C.X.N.Nodup)(he:EN C e f)(hs:Nk e (some (.Name x pos')) pos.line C.X.env=pure false:=by rfl)
  (hf:C.X.fn x=true\/C.X.env.scope.names.lookup x=some .local:=by first | exact .inl rfl | exact .inr rfl | assumption) (hi:C.X.N[i]?=some x:=by rfl) (hx:Loc C.X.env.scope x:=by first | exact .inl rfl | exact .inr rfl) :
  SV C (.Assign [.Name x pos'] e pos) (EH i f):=by
 intro pins s σ H D I ⟨ρ,B,S,h⟩;exact wk hN hi hx he hs hf pins s σ H D I ⟨ρ,S.vw,(h.bind S.same).imp fun p _ k a H' s' n r=>k _ H' (S.setN s' n r)⟩
theorem GX{pins:List (Addr×Obj)}{s:MB}{σ:L2.St}{H:Hp}{B:Bs}{ρ:PSt}(i:Nat)(I:Inv C.X pins σ H s)(S:StOk C.X.K B H σ ρ):∃H',Inv C.X pins σ H' s/\StOk C.X.K B H' σ (uL i ρ):=by
 unfold uL
 split
 ·rename_i p e
  obtain⟨a,f,w⟩:=S.vw i _ e;obtain⟨H',I',rp,oth⟩:=L2.Inv.frz I w;exact⟨H',I',S.turn e f oth ⟨_,rfl,rp⟩⟩
 ·exact⟨H,I,S⟩
theorem SV.frz(i:Nat)(h:SV C st g):SV C st (GY i g):=by
 intro pins s σ H D I ⟨ρ,B,S,q⟩;obtain⟨H',I',S'⟩:=GX i I S;exact h pins s σ H' D I' ⟨_,B,S',q⟩
noncomputable def tTg(C:Cn)(h:PV->PSt->Option PSt):TG:=fun v σ H Q=>∃ρ B p ρ',StOk C.X.K B H σ ρ/\Rep C.X.K H p v/\h p ρ=some ρ'/\∀σ',StOk C.X.K B H σ' ρ'->Q σ' H
def TGt(C:Cn)(tg:Expr)(h:PV->PSt->Option PSt):Prop:=PG C.X tg (tTg C h)
noncomputable def KW(C:Cn)(h:List PV->PSt->Option PSt):TGs:=fun vs σ H Q=>∃ρ B ps ρ',StOk C.X.K B H σ ρ/\aM C.X.K H ps vs/\h ps ρ=some ρ'/\∀σ',StOk C.X.K B H σ' ρ'->Q σ' H
def Eo(C:Cn)(ts:List Expr)(h:List PV->PSt->Option PSt):Prop:=PGs C.X ts (KW C h)
theorem eW(i:Nat){x:Str}(hN:C.X.N.Nodup)(hf:C.X.fn x=true\/C.X.env.scope.names.lookup x=some .local:=by first | exact .inl rfl | exact .inr rfl | assumption)(hi:C.X.N[i]?=some x:=by rfl)(hx:Loc C.X.env.scope x:=by first | exact .inl rfl | exact .inr rfl) :
  TGt C (.Name x pos) (aL i):=by
 intro pins s σ H v u Q I r ⟨ρ,B,p,ρ',S,rp,e,k⟩;cases e;exact rG hN hi hx hf pins s σ H v u Q I r (k _ (S.setV rp))
theorem o6:Eo C [] jj:=by
 intro pins s σ H vs us Q I r ⟨ρ,B,ps,ρ',S,rp,e,k⟩;cases ps with
 | nil=>cases e;cases rp;exact wy pins s σ H _ us Q I r ⟨rfl,k _ S⟩
 | cons _ _=>cases e
theorem fG{es:List Expr}{h:PV->PSt->Option PSt}{h':List PV->PSt->Option PSt}(h1:TGt C e h)(h2:Eo C es h')(hs:(OC (e::es) C.X.env).map (·.2)=Ry e C.X.env::(OC es C.X.env).map (·.2):=by rfl):Eo C (e::es) (bg h h'):=by
 intro pins s σ H vs us Q I r ⟨ρ,B,ps,ρ',S,rp,ee,k⟩;cases ps with
 | nil=>cases ee
 | cons p qs=>
  obtain⟨x,xs,rfl,rp1,rp2⟩:=rp;have ee:(h p ρ).bind (fun ρ1=>h' qs ρ1)=some ρ':=ee;obtain⟨ρ1,e1,e2⟩:=MQ.mp ee;exact sS h1 h2 hs pins s σ H _ us Q I r ⟨x,xs,rfl,ρ,B,p,ρ1,S,rp1,e1,fun σ1 S1=>⟨ρ1,B,qs,ρ',S1,rp2,e2,k⟩⟩
end
end PU
namespace PU
open PySem PySem.Spec PyProof.Rows L2
variable[TW]
section
variable{C : Cn}{st : Stmt}{sts a b body : List Stmt}{e tg iter c : Expr}{f fk : PSt → R PV}{g g' : PSt → R Fl}{pos : O4}{t : PSt → R Bool}
theorem sD{es:List Expr}{k n:Nat}{h:List PV->PSt->Option PSt}(hc:C.X.calm=true)(hh:Eo C es h)
  (hn:(OC es C.X.env).length=n:=by rfl) (hst:(OC es C.X.env).findIdx? (·.1)=none:=by rfl):TGt C (.Tuple es k pos) (ji n h):=by
 intro pins s σ H v u Q I r ⟨ρ,B,p,ρ',S,rp,e,k⟩;cases p with
 | tup ps=>
  have e:(if ps.length=n then h ps ρ else none)=some ρ':=e
  by_cases hl:ps.length=n
  ·rw[if_pos hl] at e
   obtain⟨a,xs,rfl,hq,r1⟩:=rp;exact Bp hc hh hn hst pins s σ H _ u Q I r ⟨a,xs,rfl,hq.sq,by rw[← r1.length];exact hl,ρ,B,ps,ρ',S,r1,e,k⟩
  ·rw[if_neg hl] at e
   cases e
 | _=>cases e
def ItP(K:M9)(J:It)(H₁:Hp)(ps:List PV):Prop:=
 ∀(i:Nat)(H:Hp),Kp H₁ H->(i=ps.length->J.stop i H)/\∀p,ps[i]?=some p->J.go i H/\∀x H',J.yld i H x H'->Same H H'/\Rep K H' p x
noncomputable def tI(C:Cn)(f:PSt->R (List PV)):TI:=fun σ H Q=>∃ρ,View C.X.K H σ ρ/\RQ C H (f ρ) fun ps=>∀J H',Same H H'->ItP C.X.K J H' ps->Q J H'
def EI(C:Cn)(tg iter:Expr)(f:PSt->R (List PV)):Prop:=PI C.X tg iter (tI C f)
theorem pq{α:Type}{l:List α}{i:Nat}{x:α}(h:l[i]?=some x):l.drop i=x::l.drop (i+1):=by
 obtain⟨hl,e⟩:=Mc.mp h;rw[On hl,e]
theorem ng{fi:PSt->R (List PV)}{h:PV->PSt->Option PSt}(hi:EI C tg iter fi)(hg:TGt C tg h)(hb:SVs C body g)
  (hs:∀x,Oi iter C.X.env x=pure x:=by intro _;rfl) (hp:R9 (MV C.X.prog C.X.w) C.X.A C.X.env C.X.xe:=by exact R3) (hc:C.X.calm=true:=by rfl):SV C (.For tg iter body [] pos) (yP fi h g):=by
 intro pins s σ H D I ⟨ρ,B,S,q⟩;refine Bo hp hc hi hg hb hs pins s σ H D I ⟨ρ,S.vw,(q.bind S.same).imp fun ps _ k J H1 s1 it=>?_⟩;refine⟨fun i m σ' H'=>∃ρ',m=ps.length-i/\i<=ps.length/\StOk C.X.K ⟨B.1,H1,B.3⟩ H' σ' ρ'/\RS C B D (mU h g (ps.drop i) ρ'),⟨ps.length,ρ,rfl,O5 _,(S.grow s1).rebase (Kp.refl H1),by simpa using k⟩,?_⟩;rintro i m σ' H' ⟨ρ',rfl,hi',S',q'⟩;have back:∀{σ2:L2.St}{H2:Hp}{ρ2:PSt},StOk C.X.K ⟨B.1,H1,B.3⟩ H2 σ2 ρ2->StOk C.X.K B H2 σ2 ρ2:=fun {σ2 H2 ρ2} S2=>⟨S2.len,S2.same,(S.kp.trans (Same.kp s1)).trans S2.kp,S2.vw,S2.fresh,S2.apart,S2.treed⟩;obtain⟨stp,stepp⟩:=it i H' S'.kp
 by_cases hlt:i<ps.length
 ·have ei:ps[i]?=some ps[i]:=by simp[hlt]
  obtain⟨go,yl⟩:=stepp _ ei;rw[pq ei] at q';obtain⟨ρ1,e1,q1⟩:=RS.ofO q';refine .inr ⟨go,fun σ2 H2=>∃ρ2,StOk C.X.K ⟨B.1,H1,B.3⟩ H2 σ2 ρ2/\RS C B D (mU h g (ps.drop (i+1)) ρ2),fun σ2 H2 ⟨ρ2,S2,r2⟩=>⟨ps.length-(i+1),by omega,ρ2,rfl,hlt,S2,r2⟩,fun x H2 y=>?_⟩;obtain⟨s2,rp⟩:=yl x H2 y;refine⟨ρ',⟨B.1,H1,B.3⟩,ps[i],ρ1,S'.grow s2,rp,e1,fun σ3 S3=>⟨ρ1,⟨B.1,H1,B.3⟩,S3,?_⟩⟩;cases hgr:g ρ1 with
  | ok fl=>
   rw[hgr] at q1;cases fl with
   | next ρ2=>exact fun σ4 H4 S4=>⟨ρ2,S4,q1⟩
   | cont ρ2=>exact fun σ4 H4 S4=>⟨ρ2,S4,q1⟩
   | brk ρ2=>exact fun σ4 H4 S4=>q1 σ4 H4 (back S4)
   | ret p=>exact q1
  | er x=>rw[hgr] at q1;exact q1
  | no=>rw[hgr] at q1;exact q1
 ·have e:i=ps.length:=by omega
  subst e;rw[QE] at q';exact .inl ⟨stp rfl,q' σ' H' (back S')⟩
end
end PU
namespace PU
open PySem PySem.Spec PyProof.Rows L2
variable[TW]
noncomputable def spP(K:M9)(n:Nat)(F:List PV->Option PV):Sp:=fun vs H Q _=>vs.length=n/\tY H/\∃ps p,aM K H ps vs/\F ps=some p/\∀v H',Same H H'->Rep K H' p v->Q v H'
structure PF(P:MP)(w:Me)(K:M9)(mg:Str->Option Value)(base:Heap)(k:Nat)(x:Str)(F:List PV->Option PV):Prop where
 ex:∃(f:Addr)(fd:FuncData)(ps:List Str),FnOk P w K mg base CX0 k f fd ps (spP K ps.length F)/\mg x=some (.ref f)/\NO K (.ref f)=true/\Binds K fd ps []/\∀qs p,F qs=some p->qs.length=ps.length
section
variable{C : Cn}{e : Expr}{es : List Expr}{fs : PSt → R (List PV)}{x : Str}{k : Nat}{F : List PV → Option PV}{p pos : O4}
theorem aG(G:PF C.X.prog C.X.w C.X.K C.X.mg C.X.base k x F){kr:Nat}(hr:Room kr C.X.A)(ha:EA C (e::es) fs)
  (hdb:(x == ("__debug__":Str))=false:=by decide) (he:MO (e::es) C.X.env=(false,NC e C.X.env)::MO es C.X.env:=by exact eX rfl) (hpl:(Nq pos (MO es C.X.env)).any (·.1)=false:=by exact o9 rfl) (hk:k<=kr:=by decide) (hg:Gl C.X x:=by exact rfl) :
  EV C (.Call (.Name x p) (e::es) [] pos) (bq fs F):=by
 replace hr:=hr.mono hk;obtain⟨f,fd,ps,a,b,c,d,l⟩:=G.ex;intro pins s σ H Q I ⟨ρ,vw,q⟩;refine wB (dvs:=[]) (ds:=[]) (E:=E0) a hr hg b c d .nil D5 ha hdb he hpl pins s σ H Q I ⟨ρ,vw,q.bind.imp fun qs _ k vs H1 s1 r1=>?_⟩;obtain⟨z,ez,k⟩:=k.ofO;rw[N1];exact⟨by rw[← r1.length];exact l qs z ez,s1.tabs vw.tb,qs,z,r1,ez,fun v H' s' r'=>k v H' (s1.trans s') r'⟩
end
section
variable{P : MP}{w : Me}{K : M9}{mg : Str → Option Value}{base : Heap}
abbrev Eb(P:MP)(w:Me)(K:M9)(mg:Str->Option Value)(base:Heap)(N:List Str)(qual:Str)(sc:Scope)(f:Addr)(cdv:Value)(A:Mi)(outer:List QX)(s:MB)(H:Hp)(E:XK):Cn:=
 ⟨(ym CX0 P w K mg base N qual sc f cdv A outer s H E).nox,fun _ _=>False⟩
theorem Bz{ps:List PV}{n i:Nat}{p:PV}(e:(start n ps)[i]?=some (.own p)):False:=by
 unfold start at e
 by_cases hi:i<ps.length
 ·rw[Mw (by simpa using hi),MS] at e
  cases h:ps[i]? with
  | none=>rw[h] at e;cases e
  | some p=>rw[h] at e;cases e
 ·rw[N9 (by simpa using hi),N8] at e
  split at e <;> cases e
theorem wO{n i:Nat}{ps:List PV}{t:Tr}(e:(start n ps)[i]?=some (.tree t)):False:=by
 unfold start at e
 by_cases hi:i<ps.length
 ·rw[Mw (by simpa using hi),MS] at e
  cases h:ps[i]? with
  | none=>rw[h] at e;cases e
  | some p=>rw[h] at e;cases e
 ·rw[N9 (by simpa using hi),N8] at e
  split at e <;> cases e
theorem l0{K:M9}{H:Hp}{N:List Str}{ps:List PV}{vs:List V}(tb:tY H)(r:aM K H ps vs):StOk K ⟨H,H,fun _=>none⟩ H (L2.start N vs) (start N.length ps):=by
 have hl:=r.length;refine⟨by simp[start,L2.start,hl],Same.refl H,Kp.refl H,⟨fun i l e=>?_,tb⟩,fun i p a e f=>?_,fun i j p q a e1 e2 f1 f2=>?_,fun i t e=>?_⟩
 ·unfold start at e
  by_cases hi:i<ps.length
  ·rw[Mw (by simpa using hi),MS] at e
   cases h:ps[i]? with
   | none=>rw[h] at e;cases e
   | some p=>
    rw[h] at e;cases e;obtain⟨v,ev,rp⟩:=r.get h;refine⟨v,?_,rp⟩;unfold L2.start;rw[Mw (by rw[MC,← hl];exact hi),MS,ev];rfl
  ·rw[N9 (by simpa using hi),N8] at e
   split at e
   ·cases e
    exact trivial
   ·cases e
 all_goals exfalso
 ·exact Bz e
 ·exact Bz e1
 ·exact wO e
theorem IW{x qual:Str}{st:Stmt}{f:Addr}{fd:FuncData}{N ps:List Str}{k:Nat}{g:PSt->R Fl}(F:Fun K x qual st f fd)(S:FnScope N ps (af st))(hm:mg x=some (.ref f))(hb:Binds K fd ps [])
  (hbody:∀(cdv:Value)(A:Mi)(outer:List QX)(s:MB)(H:Hp)(E:XK),Room k (A.deeper (Og qual (af st) s.heap.objs.size f cdv))->SVs (Eb P w K mg base N qual (af st) f cdv A outer s H E) (ba st) g) :
  PF P w K mg base (k+1) x (iI ps.length N.length g):=by
 refine⟨f,fd,ps,F.ok S (fun vs H Q E h=>h.1) (fun cdv A outer s H vs Q E hr h=>?_),hm,F.kp,hb,fun qs p h=>?_⟩
 ·obtain⟨hl,tb,qs,p,r,e,k⟩:=h
  refine⟨_,hbody cdv A outer s H E hr,start N.length qs,⟨H,H,fun _=>none⟩,l0 tb r,?_⟩;unfold iI at e;rw[if_pos (by rw[r.length];exact hl)] at e;cases hg:g (start N.length qs) with
  | ok fl=>
   rw[hg] at e;cases fl with
   | next ρ=>cases e;exact fun σ H' S'=>k .non H' S'.same rfl
   | ret q=>cases e;exact fun v H' s' r'=>k v H' s' r'
   | brk ρ=>cases e
   | cont ρ=>cases e
  | er x=>rw[hg] at e;cases e
  | no=>rw[hg] at e;cases e
 ·unfold iI at h
  split at h
  ·rename_i hl;exact hl
  ·cases h
end
end PU
namespace PU
open PySem PySem.Spec PyProof.Rows L2
variable[TW]
noncomputable def fN(X:Cx)(N':List Str)(scope:Scope)(cl:List (Str×Addr))(L:Addr)(s₂:MB)(H₂:Hp)(fp:List Addr):Cx where
 prog:=X.prog
 w:=X.w
 K:=X.K
 mg:=X.mg
 base:=X.base
 A:=X.A
 N:=N'
 s₀:=s₂
 H₀:=H₂
 env:=compEnvC scope cl L X.env
 outer:=X.stack
 stack:=X.stack
 ex:=fp
 fn:=fun _=>false
 calm:=true
 pn:=[]
 xe:=fun _ _=>False
abbrev cO(C:Cn)(N':List Str)(scope:Scope)(cl:List (Str×Addr))(L:Addr)(s₂:MB)(H₂:Hp)(fp:List Addr):Cn:=⟨fN C.X N' scope cl L s₂ H₂ fp,fun _ _=>False⟩
noncomputable def tTc(C:Cn)(h:Tgt):TG:=fun v σ H Q=>∃ρ p ρ',ρ.length=σ.length/\View C.X.K H σ ρ/\Rep C.X.K H p v/\h p ρ=some ρ'/\∀σ',ρ'.length=σ'.length->View C.X.K H σ' ρ'->Q σ' H
def TCt(C:Cn)(tg:Expr)(h:Tgt):Prop:=PG C.X tg (tTc C h)
noncomputable def KY(C:Cn)(h:yz):TGs:=fun vs σ H Q=>∃ρ ps ρ',ρ.length=σ.length/\View C.X.K H σ ρ/\aM C.X.K H ps vs/\h ps ρ=some ρ'/\∀σ',ρ'.length=σ'.length->View C.X.K H σ' ρ'->Q σ' H
def Ep(C:Cn)(ts:List Expr)(h:yz):Prop:=PGs C.X ts (KY C h)
theorem View.setV{K:M9}{H:Hp}{σ:L2.St}{ρ:PSt}{i:Nat}{p:PV}{v:V}(vw:View K H σ ρ)(hl:ρ.length=σ.length)(r:Rep K H p v):View K H (σ.set i (some v)) (ρ.set i (.val p)):=by
 refine⟨fun j l e=>?_,vw.tb⟩;rcases aY e with⟨rfl,rfl,hl2⟩|⟨hj,e⟩
 ·exact⟨v,cM (by rw[← hl];exact hl2),r⟩
 ·rw[aI hj]
  exact vw j l e
section
variable{C : Cn}{e : Expr}{pos : O4}
theorem Cp(i:Nat){x:Str}(hN:C.X.N.Nodup)(hi:C.X.N[i]?=some x)(hx:Loc C.X.env.scope x)(hf:C.X.fn x=true\/C.X.env.scope.names.lookup x=some .local:=by first | exact .inl rfl | exact .inr rfl | assumption) :
  TCt C (.Name x pos) (aL i):=by
 intro pins s σ H v u Q I r ⟨ρ,p,ρ',hl,vw,rp,e,k⟩;cases e;exact rG hN hi hx hf pins s σ H v u Q I r (k _ (by simp[hl]) (vw.setV hl rp))
theorem rB:Ep C [] jj:=by
 intro pins s σ H vs us Q I r ⟨ρ,ps,ρ',hl,vw,rp,e,k⟩;cases ps with
 | nil=>cases e;cases rp;exact wy pins s σ H _ us Q I r ⟨rfl,k _ hl vw⟩
 | cons _ _=>cases e
theorem iw{es:List Expr}{h:Tgt}{h':yz}(h1:TCt C e h)(h2:Ep C es h')(hs:(OC (e::es) C.X.env).map (·.2)=Ry e C.X.env::(OC es C.X.env).map (·.2):=by rfl):Ep C (e::es) (bg h h'):=by
 intro pins s σ H vs us Q I r ⟨ρ,ps,ρ',hl,vw,rp,ee,k⟩;cases ps with
 | nil=>cases ee
 | cons p qs=>
  obtain⟨x,xs,rfl,rp1,rp2⟩:=rp;have ee:(h p ρ).bind (fun ρ1=>h' qs ρ1)=some ρ':=ee;obtain⟨ρ1,e1,e2⟩:=MQ.mp ee;exact sS h1 h2 hs pins s σ H _ us Q I r ⟨x,xs,rfl,ρ,p,ρ1,hl,vw,rp1,e1,fun σ1 hl1 vw1=>⟨ρ1,qs,ρ',hl1,vw1,rp2,e2,k⟩⟩
theorem vF{es:List Expr}{k n:Nat}{h:yz}(hc:C.X.calm=true)(hh:Ep C es h)
  (hn:(OC es C.X.env).length=n:=by rfl) (hst:(OC es C.X.env).findIdx? (·.1)=none:=by rfl):TCt C (.Tuple es k pos) (ji n h):=by
 intro pins s σ H v u Q I r ⟨ρ,p,ρ',hl,vw,rp,e,k⟩;cases p with
 | tup ps=>
  have e:(if ps.length=n then h ps ρ else none)=some ρ':=e
  by_cases hl2:ps.length=n
  ·rw[if_pos hl2] at e
   obtain⟨a,xs,rfl,hq,r1⟩:=rp;exact Bp hc hh hn hst pins s σ H _ u Q I r ⟨a,xs,rfl,hq.sq,by rw[← r1.length];exact hl2,ρ,ps,ρ',hl,vw,r1,e,k⟩
  ·rw[if_neg hl2] at e
   cases e
 | _=>cases e
end
def B4(n:Nat)(h:Tgt):Prop:=∀p ρ ρ1,h p ρ=some ρ1->ρ1.length=ρ.length/\∀i,n<=i->ρ1[i]?=ρ[i]?
def B3(n:Nat)(h:yz):Prop:=∀p ρ ρ1,h p ρ=some ρ1->ρ1.length=ρ.length/\∀i,n<=i->ρ1[i]?=ρ[i]?
theorem oF{n i:Nat}(h:i<n):B4 n (aL i):=fun p ρ ρ1 e=>by
 cases e;exact⟨by simp,fun j hj=>aI (by omega)⟩
theorem rS{n:Nat}:B3 n jj:=fun ps ρ ρ1 e=>by
 cases ps with
 | nil=>cases e;exact⟨rfl,fun _ _=>rfl⟩
 | cons _ _=>cases e
theorem oG{n:Nat}{h:Tgt}{h':yz}(a:B4 n h)(b:B3 n h'):B3 n (bg h h'):=fun ps ρ ρ2 e=>by
 cases ps with
 | nil=>cases e
 | cons p qs=>
  have e:(h p ρ).bind (fun ρ1=>h' qs ρ1)=some ρ2:=e;obtain⟨ρ1,e1,e2⟩:=MQ.mp e;obtain⟨l1,g1⟩:=a p ρ ρ1 e1;obtain⟨l2,g2⟩:=b qs ρ1 ρ2 e2;exact⟨l2.trans l1,fun i hi=>(g2 i hi).trans (g1 i hi)⟩
theorem rR{n m:Nat}{h:yz}(a:B3 n h):B4 n (ji m h):=fun p ρ ρ1 e=>by
 cases p with
 | tup ps=>
  have e:(if ps.length=m then h ps ρ else none)=some ρ1:=e;split at e
  ·exact a ps ρ ρ1 e
  ·cases e
 | _=>cases e
def ETs(C:Cn)(ifs:List Expr)(t:PSt->R Bool):Prop:=(ifs=[]/\t=lu)\/∃c,ifs=[c]/\ET C c t
theorem sd{C:Cn}:ETs C [] lu:=.inl ⟨rfl,rfl⟩
noncomputable def gc(cells:List (Str×Addr)):List (Str×PB)->List (Str×Addr)->List (Str×Addr)
 | [],acc=>acc
 | (n,k)::r,acc=>if (k == .free)=true then (match cells.lookup n with
  | some c=>gc cells r ((n,c)::acc)
  | none=>gc cells r acc) else gc cells r acc
theorem fE{scope:Scope}{env:QX}(h:∀y∈scope.names,y.2=.free->∃c,env.cells.lookup y.1=some c):closureFor scope env=pure (gc env.cells scope.names []):=by
 have gen:∀(l:List (Str×PB))(acc:List (Str×Addr)),(∀y∈l,y.2=.free->∃c,env.cells.lookup y.1=some c)->
   (forIn l acc fun x r=>(match x with | (name,kind)=>if (kind == NF)=true then do let a<- cellOf env name;pure (O8 ((name,a)::r)) else pure (O8 r):Sem (ForInStep (List (Str×Addr)))))=pure (gc env.cells l acc):=by
  intro l
  induction l with
  | nil=>intro acc _;rfl
  | cons y r ih=>
   intro acc hy;obtain⟨n,k⟩:=y;rw[QW];have hr:=fun z hz=>hy z (MY _ hz)
   by_cases hk:(k == NF)=true
   ·obtain⟨c,hc⟩:=hy (n,k) Mb (by simpa using hk)
    have hc:env.cells.lookup n=some c:=hc;have e1:cellOf env n=pure c:=by unfold cellOf;rw[hc]
    simp only[hk,if_true,e1,gc,hc];exact ih _ hr
   ·simp only[hk,if_false,gc]
    exact ih _ hr
 have:=gen scope.names [] h;have e:closureFor scope env=((forIn scope.names ([]:List (Str×Addr)) fun x r=>(match x with | (name,kind)=>if (kind == NF)=true then do let a<- cellOf env name;pure (O8 ((name,a)::r)) else pure (O8 r):Sem (ForInStep (List (Str×Addr))))) >>= fun cs=>pure cs):=rfl;rw[e,this];rfl
theorem dP{cells:List (Str×Addr)}{x:Str}{c:Addr}:∀{l:List (Str×PB)}{acc:List (Str×Addr)},(gc cells l acc).lookup x=some c->cells.lookup x=some c\/acc.lookup x=some c
 | [],acc,h=>.inr h
 | (n,k)::r,acc,h=>by
  unfold gc at h;split at h
  ·split at h
   ·rename_i d hd
    rcases dP h with z | z
    ·exact .inl z
    ·rw[NH] at z
     by_cases e:(x == n)=true
     ·rw[e] at z
      cases z;rw[S7 e];exact .inl hd
     ·simp only[QG] at e
      rw[e] at z;exact .inr z
   ·exact dP h
  ·exact dP h
theorem jT{cells:List (Str×Addr)}{x:Str}:∀{l:List (Str×PB)}{acc:List (Str×Addr)},(acc.lookup x).isSome=true->((gc cells l acc).lookup x).isSome=true
 | [],acc,h=>h
 | (n,k)::r,acc,h=>by
  unfold gc
  split
  ·split
   ·refine jT ?_
    rw[NH]
    split
    ·rfl
    ·exact h
   ·exact jT h
  ·exact jT h
theorem tR{cells:List (Str×Addr)}{x:Str}{c:Addr}(hc:cells.lookup x=some c):∀{l:List (Str×PB)}{acc:List (Str×Addr)},(x,NF)∈l->(gc cells l acc).lookup x=some c:=by
 have fin:∀{l:List (Str×PB)}{acc:List (Str×Addr)},(∀d,acc.lookup x=some d->d=c)->((gc cells l acc).lookup x).isSome=true->(gc cells l acc).lookup x=some c:=fun {l acc} ha h=>by
  obtain⟨d,hd⟩:=Rp.mp h;rcases dP hd with z | z
  ·rw[hc] at z;cases z;exact hd
  ·rw[hd,ha d z]
 intro l
 induction l with
 | nil=>intro acc h;cases h
 | cons y r ih=>
  intro acc h;obtain⟨n,k⟩:=y;have rest:∀acc,(x,NF)∈r->(gc cells r acc).lookup x=some c:=fun acc hr=>ih hr;rcases MH.mp h with z | z
  ·cases z
   unfold gc;rw[if_pos (show (NF == NF)=true from rfl),hc];show (gc cells r ((x,c)::acc)).lookup x=some c;have hs:(((x,c)::acc).lookup x)=some c:=by rw[NH,beq_self_eq_true]
   exact fin (fun d hd=>by rw[hs] at hd;cases hd;rfl) (jT (by rw[hs];rfl))
  ·unfold gc
   split
   ·split
    ·exact rest _ z
    ·exact rest _ z
   ·exact rest _ z
theorem iM{env:QX}{x:Str}:∀{names:List (Str×PB)},names.lookup x=some .free->
  (names.map fun (n,k)=>if (k == NF && env.scope.kind == .function && env.kindOf n == some .cell) then (n,Qh) else (n,k)).lookup x=some .cell ∨
  (names.map fun (n,k)=>if (k == NF && env.scope.kind == .function && env.kindOf n == some .cell) then (n,Qh) else (n,k)).lookup x=some .free
 | [],h=>by simp at h
 | (n,k)::r,h=>by
  have ih:=@iM env x r;cases hx:x == n with
  | true=>
   simp only[NH,hx] at h;cases h
   by_cases hc:(NF == NF && env.scope.kind == .function && env.kindOf n == some .cell)=true
   ·left
    simp only[MN,hc,if_true,NH,hx]
   ·right
    simp only[QG] at hc;simp only[MN,hc,O9,if_false,NH,hx]
  | false=>
   simp only[NH,hx] at h
   by_cases hc:(k == NF && env.scope.kind == .function && env.kindOf n == some .cell)=true
   ·simp only[MN,hc,if_true,NH,hx]
    exact ih h
   ·simp only[QG] at hc
    simp only[MN,hc,NH,O9,if_false,hx];exact ih h
theorem qO{prog:MP}{w:Me}{A:Mi}{R:Th->MB->Prop}{s:MB}{elt target iter:Expr}{ifs:List Expr}{scope:Scope}{pos:O4}{it acc:Value}{env:QX}(I:Nat->MB->Prop)
  (turn:∀n s,I n s->MK (MV prog w) A (pyNext it) (fun r s₁=>match r with
   | none=>R (.ok .next) s₁
   | some v=>MK (MV prog w) A (Qs target it v) (fun _ s₁=>MK (MV prog w) A (Ry target env v) (fun _ s₂=>
     MK (MV prog w) A (forIn ifs true fun c r=>if r=true then do let ok<- isTrue c env (NC c env);pure (O8 ok) else pure (O8 r)) (fun ok s₃=>
      if ok=true then MK (MV prog w) A (NC elt env) (fun x s₄=>
       MK (MV prog w) A (call (.builtin "list.append") [acc,x]) (fun _ s₅=>∃m,m<n/\I m s₅) (fun _ _=>False) s₄) (fun _ _=>False) s₃
      else ∃m,m<n/\I m s₃) (fun _ _=>False) s₂) (fun _ _=>False) s₁) (fun _ _=>False) s₁) (fun _ _=>False) s)
  (n:Nat) (h:I n s) :
  Pj (MV prog w) A (.compLoop (.ListComp elt [⟨target,iter,ifs,0⟩] scope pos) 0 it acc env) R s:=by
 refine codeAny_loop rfl I (fun n s hI=>?_) n h;show MK _ A ((compTurn (.ListComp elt [⟨target,iter,ifs,0⟩] scope pos) 0 it acc env).onRaise (fun x=>do Qf x env;theTreesLotGoes x)) _ _ s;refine wpAny_noted ?_;rw[compTurn_list];refine MA (Pi (MA (N7 (turn n s hI) (fun r s₁ h₁=>?_) fun _ _ h'=>h'.elim)));cases r with
 | none=>exact ME h₁
 | some v=>
  refine MA (N7 h₁ (fun _ s₁ h₁=>?_) fun _ _ h'=>h'.elim);refine MA (N7 h₁ (fun _ s₂ h₂=>MA (N7 h₂ (fun ok s₃ h₃=>?_) fun _ _ h'=>h'.elim)) fun _ _ h'=>h'.elim);cases ok with
  | false=>exact ME ⟨rfl,h₃⟩
  | true=>
   exact MA (MA (N7 h₃ (fun x s₄ h₄=>MA (N7 h₄ (fun _ s₅ h₅=>ME (ME ⟨rfl,h₅⟩)) fun _ _ h'=>h'.elim)) fun _ _ h'=>h'.elim))
end PU
namespace PU
open PySem PySem.Spec PyProof.Rows L2
variable[TW]
structure CompOk(NX:List Str)(scX:Scope)(scope:Scope)(N':List Str)(nt:Nat)(idx:List Nat):Prop where
 kind:scope.kind=.function
 cell:∀y∈scope.names,y.2≠.cell
 names:∀y∈scope.names,y.2=.local->scope.names.lookup y.1=some .local
 free:∀y∈scope.names,y.2=.free->scX.names.lookup y.1=some .cell\/scX.names.lookup y.1=some .free
 len:N'.length=nt+idx.length
 ix:(idx.zip (N'.drop nt)).all (fun p=>decide (NX[p.1]?=some p.2) && decide (scope.names.lookup p.2=some .free))=true
theorem CompOk.at{NX:List Str}{scX:Scope}{scope:Scope}{N':List Str}{nt:Nat}{idx:List Nat}(O:CompOk NX scX scope N' nt idx){k:Nat}{x:Str}(h:N'[nt+k]?=some x) :
  ∃i,idx[k]?=some i/\NX[i]?=some x/\scope.names.lookup x=some .free:=by
 have hk:k<idx.length:=by
  have:=(Mc.mp h).1;have:=O.len;omega
 have e1:idx[k]?=some idx[k]:=by simp[hk]
 have e2:(N'.drop nt)[k]?=some x:=by rw[List.getElem?_drop];exact h
 have e3:(idx.zip (N'.drop nt))[k]?=some (idx[k],x):=by
  rw[List.getElem?_zip_eq_some];exact⟨e1,e2⟩
 have:=NY.mp O.ix _ (Nf e3);simp only[Mk,decide_eq_true_eq] at this;exact⟨_,e1,this.1,this.2⟩
section
variable{C : Cn}{elt tg iter : Expr}{ifs : List Expr}{scope : Scope}{pos : O4}{N' : List Str}{nt : Nat}{idx : List Nat}{h : Tgt}{t : PSt → R Bool}{fe : PSt → R PV}
theorem uP{pins:List (Addr×Obj)}{σ:L2.St}{H₂:Hp}{s₂:MB}{J:It}{fp:List Addr}{it:Addr}{tn:Nat->Heap->Prop}{ρ:PSt}(O:CompOk C.X.N C.X.env.scope scope N' nt idx)(hc:C.X.calm=true)
  (I:Inv C.X pins σ H₂ s₂) (T:Turn C.X.prog C.X.w C.X.K tg J fp it tn) (st:tn 0 s₂.heap) (hf:∀b∈fp,rb C.X pins H₂ b) (vw:View C.X.K H₂ σ ρ)
  {L D:Addr} {h₁:Heap} {tk:Nat} (hD:D=s₂.heap.objs.size) (hL:s₂.heap.objs.size<=L) (hDL:D≠L) (ns:h₁.Ns L (fun _=>none)) (keep:∀b o,s₂.heap.get? b=some o->h₁.get? b=some o)
  (acc:h₁.get? D=some { cls:=.type "list",data:=.seq ([]:List Value).toArray }) :
  ∃σ',Inv (fN C.X N' scope (gc C.X.env.cells scope.names []) L s₂ H₂ fp) [] σ' (upd H₂ D (.lst [])) { s₂ with heap:=h₁,toks:=tk }/\View C.X.K (upd H₂ D (.lst [])) σ' (dH nt idx ρ)/\(dH nt idx ρ).length=σ'.length/\
   ∀b∈fp,b<s₂.heap.objs.size:=by
 have fl:∀b∈fp,b<s₂.heap.objs.size:=fun b hb=>by
  obtain⟨o,e,_⟩:=T.obj 0 _ st b hb;exact MJ e
 have nD:H₂ D=none:=by rw[hD];exact I.fresh
 have frC:∀y∈scope.names,y.2=.free->∃c,C.X.env.cells.lookup y.1=some c:=fun y hy hk=>I.ok.has y.1 (O.free y hy hk)
 have clS:∀x c,(gc C.X.env.cells scope.names []).lookup x=some c->C.X.env.cells.lookup x=some c:=fun x c e=>by
  rcases dP e with z | z
  ·exact z
  ·cases z
 have cne:∀x c,(gc C.X.env.cells scope.names []).lookup x=some c->c<s₂.heap.objs.size:=fun x c e=>by
  obtain⟨v,q⟩:=I.cell x c (clS x c e);exact q.lt
 refine⟨NS nt none++idx.map (fun i=>(σ[i]?).getD none),⟨⟨I.ok.mod,O.kind,I.ok.glob,I.ok.blt,hL,fun x y c e1 e2=>I.ok.inj x y c (clS x c e1) (clS y c e2),fun x hx=>?_,(fun x c z=>absurd (show false=true from z) ML),fun _=>I.ok.hd hc,I.ok.frames,.inl rfl,
  fun b hb=>⟨MU (MF (fl b hb) hL),fun x c e=>(hf b hb).2.2.2.2.1 x c (clS x c e)⟩,I.bs,Mm I.ok.bsz I.sz,fun b o e hb=>?_,fun b hb z=>?_,I.stack,I.stkFree⟩,
  rfl,I.bare,Un.laid keep (QU hD.symm) nD,⟨_,ns,fun i x v hN hσ hv=>?_⟩,fun x c e=>?_,?_,fun x c e=>?_,fun p hp=>absurd (show p∈([]:List (Addr×Obj)) from hp) (by simp),?_,?_⟩,?_,?_,fl⟩
 ·-- has
  have hx:(Te scope C.X.env).names.lookup x=some .cell\/(Te scope C.X.env).names.lookup x=some .free:=hx
  have:scope.names.lookup x=some .free:=by
   have gen:∀(l:List (Str×PB)),(∀y∈l,y.2≠.cell)->((l.map fun (n,k)=>if (k == NF && C.X.env.scope.kind == .function && C.X.env.kindOf n == some .cell) then (n,Qh) else (n,k)).lookup x=some .cell ∨
     (l.map fun (n,k)=>if (k == NF && C.X.env.scope.kind == .function && C.X.env.kindOf n == some .cell) then (n,Qh) else (n,k)).lookup x=some .free)->l.lookup x=some .free:=by
    intro l
    induction l with
    | nil=>intro _ z;simp at z
    | cons y r ih=>
     intro hy z;obtain⟨n,k⟩:=y;have hk:k≠.cell:=hy (n,k) Mb;have ih:=ih fun y' hy'=>hy y' (MY _ hy');rw[NH]
     by_cases hc':(k == NF && C.X.env.scope.kind == .function && C.X.env.kindOf n == some .cell)=true
     ·simp only[MN,hc',if_true,NH] at z
      cases hx':x == n with
      | true=>
       have:k=.free:=by
        simp only[Mk] at hc';exact S7 hc'.1.1
       rw[this]
      | false=>
       rw[hx'] at z;exact ih z
     ·simp only[QG] at hc'
      simp only[MN,hc',O9,if_false,NH] at z;cases hx':x == n with
      | true=>
       rw[hx'] at z;rcases z with z | z
       ·cases z;exact absurd rfl hk
       ·cases z;rfl
      | false=>
       rw[hx'] at z;exact ih z
   exact gen scope.names O.cell hx
  obtain⟨c,e⟩:=frC (x,.free) (NG this) rfl;exact⟨c,tR e (NG this)⟩
 ·-- noex
  obtain⟨e1,e2⟩:=I.bs b o e;obtain⟨g1,g2,g3,g4,_⟩:=hf b hb;rcases g4 with z | z
  ·exact I.ok.noex b o e z
  ·exact absurd (MJ (I.ok.bs b o e).1) (Pz.mpr z)
 ·-- exfs
  obtain⟨g1,g2,g3,_⟩:=hf b hb;exact(MH.mp (I.stkSub b z)).elim g2 g3
 ·-- loc
  by_cases hi:i<nt
  ·rw[Mw (by simpa using hi),N8,if_pos hi] at hσ
   cases hσ
  ·obtain⟨k,rfl⟩:∃k,i=nt+k:=⟨i-nt,by omega⟩
   have hN:N'[nt+k]?=some x:=hN;obtain⟨j,ej,ex,el⟩:=O.at hN;rw[N9 (by simp),Qa,QI,MS,ej] at hσ;have hσ:some ((σ[j]?).getD none)=some (some v):=hσ
   have hσ:σ[j]?=some (some v):=by
    cases q:σ[j]? with
    | none=>rw[q] at hσ;cases hσ
    | some z=>rw[q] at hσ;cases hσ;rfl
   obtain⟨m,hn,hl⟩:=I.loc;have hfr:=O.free (x,.free) (NG el) rfl;obtain⟨u,ru,lk⟩:=hl j x v ex hσ (by rcases hfr with z | z;exact .inr (.inl z);exact .inr (.inr z));refine⟨u,ru,.inr ?_⟩;rcases lk with⟨z,_⟩|⟨_,c,ec,hcell⟩
   ·exfalso
    have z:C.X.env.scope.names.lookup x=some .local:=z;rcases hfr with q | q <;> (rw[show C.X.env.scope.names.lookup x=_ from q] at z;cases z)
   ·refine⟨iM (env:=C.X.env) el,c,tR ec (NG el),?_⟩
    obtain⟨o,ho,hd⟩:=hcell;exact⟨o,keep c o ho,hd⟩
 ·obtain⟨v,o,ho,hd⟩:=I.cell x c (clS x c e)
  exact⟨v,o,keep c o ho,hd⟩
 ·-- free
  show upd H₂ D _ L=none;rw[az (Nd hDL)];exact I.hok.fresh hL
 ·show upd H₂ D _ c=none
  rw[az (by rw[hD];exact MU (cne x c e))];exact I.freeC x c (clS x c e)
 ·exact I.hok.laid keep (QU hD.symm) ⟨by simp,[],0,.nil,acc⟩
 ·show _=N'.length
  rw[O.len];simp
 ·refine⟨fun i l e=>?_,(Same.new (o:=.lst []) nD).tabs vw.tb⟩
  unfold dH at e
  by_cases hi:i<nt
  ·rw[Mw (by simpa using hi),N8,if_pos hi] at e
   cases e;exact trivial
  ·obtain⟨k,rfl⟩:∃k,i=nt+k:=⟨i-nt,by omega⟩
   rw[N9 (by simp),Qa,QI,MS] at e ⊢;cases ej:idx[k]? with
   | none=>rw[ej] at e;cases e
   | some j=>
    rw[ej] at e;have e:some (roS ρ[j]?)=some l:=e;cases e;cases q:ρ[j]? with
    | none=>exact trivial
    | some l'=>
     have:=(vw j l' q).same (Same.new (o:=.lst []) nD);cases l' with
     | no=>exact trivial
     | val p=>
      obtain⟨v,ev,r⟩:=this;exact⟨v,by show some ((σ[j]?).getD none)=_;rw[ev];rfl,r⟩
     | own p=>exact trivial
     | tree t=>exact trivial
     | exc y=>exact trivial
 ·simp[dH]
theorem uR{ρ:PSt}{p:PV}{ps rest:List PV}(e:dj h t fe ρ (p::ps)=.ok rest):∃ρ1 b,h p ρ=some ρ1/\t ρ1=.ok b/\
  ((b=true/\∃q r,fe ρ1=.ok q/\dj h t fe ρ ps=.ok r/\rest=q::r)\/(b=false/\dj h t fe ρ ps=.ok rest)):=by
 unfold dj at e;cases h1:h p ρ with
 | none=>rw[h1] at e;cases e
 | some ρ1=>
  rw[h1] at e;simp only[R.ofO_some,R.ok_bind] at e;cases h2:t ρ1 with
  | ok b=>
   rw[h2] at e;simp only[R.ok_bind] at e;refine⟨ρ1,b,rfl,h2,?_⟩;cases b with
   | true=>
    rw[if_pos rfl] at e;cases h3:fe ρ1 with
    | ok q=>
     rw[h3] at e;simp only[R.ok_bind] at e;cases h4:dj h t fe ρ ps with
     | ok r=>
      rw[h4] at e;cases e;exact .inl ⟨rfl,q,r,rfl,rfl,rfl⟩
     | er x=>rw[h4] at e;cases e
     | no=>rw[h4] at e;cases e
    | er x=>rw[h3] at e;cases e
    | no=>rw[h3] at e;cases e
   | false=>
    rw[if_neg ML] at e;exact .inr ⟨rfl,e⟩
  | er x=>rw[h2] at e;cases e
  | no=>rw[h2] at e;cases e
theorem View.weak{K:M9}{H:Hp}{σ:L2.St}{ρ ρ1:PSt}{n:Nat}(vw:View K H σ ρ1)(low:∀i,n<=i->ρ1[i]?=ρ[i]?)(no:∀i l,i<n->ρ[i]?=some l->l=.no):View K H σ ρ:=by
 refine⟨fun i l e=>?_,vw.tb⟩
 by_cases hi:i<n
 ·rw[no i l hi e];exact trivial
 ·exact vw i l (by rw[low i (by omega)];exact e)
theorem yo{idx:List Nat}{nt:Nat}{ρ:PSt}{i:Nat}{l:Sl}(hi:i<nt)(e:(dH nt idx ρ)[i]?=some l):l=.no:=by
 unfold dH at e;rw[Mw (by simpa using hi),N8,if_pos hi] at e;cases e;rfl
theorem yn{idx:List Nat}{nt:Nat}{ρ:PSt}{i:Nat}{p:PV}(e:(dH nt idx ρ)[i]?=some (.own p)):False:=by
 unfold dH at e
 by_cases hi:i<nt
 ·rw[Mw (by simpa using hi),N8,if_pos hi] at e
  cases e
 ·rw[N9 (by simpa using hi),MS] at e
  cases q:idx[i-(NS nt Sl.no).length]? with
  | none=>rw[q] at e;cases e
  | some j=>
   rw[q] at e;have e:some (roS ρ[j]?)=some (Sl.own p):=e;unfold roS at e;split at e <;> cases e
theorem uS{idx:List Nat}{nt:Nat}{ρ:PSt}{i:Nat}{t:Tr}(e:(dH nt idx ρ)[i]?=some (.tree t)):False:=by
 unfold dH at e
 by_cases hi:i<nt
 ·rw[Mw (by simpa using hi),N8,if_pos hi] at e
  cases e
 ·rw[N9 (by simpa using hi),MS] at e
  cases q:idx[i-(NS nt Sl.no).length]? with
  | none=>rw[q] at e;cases e
  | some j=>
   rw[q] at e;have e:some (roS ρ[j]?)=some (Sl.tree t):=e;unfold roS at e;split at e <;> cases e
theorem View.noOwn{K:M9}{H H':Hp}{σ:L2.St}{ρ:PSt}(vw:View K H σ ρ)(no:∀(i:Nat)(p:PV),ρ[i]?≠some (Sl.own p))(k:Kp H H')(tb:tY H')(np:∀(i:Nat)(t:Tr),ρ[i]?≠some (Sl.tree t):=by exact fun _ _ e=>uS e):View K H' σ ρ:=by
 refine⟨fun i l e=>?_,tb⟩;have:=vw i l e;cases l with
 | no=>exact trivial
 | val p=>obtain⟨v,ev,r⟩:=this;exact⟨v,ev,r.kp k⟩
 | own p=>exact absurd e (no i p)
 | tree t=>exact absurd e (np i t)
 | exc y=>exact this.exk k
def ItS(K:M9)(J:It)(H₁:Hp)(ps:List PV):Prop:=
 ∀(i:Nat)(H:Hp),Same H₁ H->(i=ps.length->J.stop i H)/\∀p,ps[i]?=some p->J.go i H/\∀x H',J.yld i H x H'->Same H H'/\Rep K H' p x
def Lc(K:M9)(Ac:Addr->Hp->List PV->List V->Prop)(H₂:Hp)(fe:PSt->R PV):TE:=fun σ H Q=>∃ρ D xs dn q,View K H σ ρ/\fe ρ=.ok q/\Ac D H dn xs/\H₂ D=none/\Same H₂ H/\H D=some (.lst xs)/\
 ∀v H',Same H H'->Ac D (upd H' D (.lst (xs++[v]))) (dn++[q]) (xs++[v])->Q v H'
theorem uQ{pins:List (Addr×Obj)}{σ:L2.St}{H₂:Hp}{s₂:MB}{J:It}{fp:List Addr}{it:Addr}{tn:Nat->Heap->Prop}{ρ:PSt}{ps qs:List PV}{RR:Value->Addr->Th->MB->Prop}{E:Value->MB->Prop}{Ac:Addr->Hp->List PV->List V->Prop}
  (ac0:∀D H,Ac D H [] []) (acs:∀D H H' dn xs,Ac D H dn xs->Same H H'->Ac D H' dn xs) (acl:∀D H dn xs,Ac D H dn xs->dn.length=xs.length)
  (O:CompOk C.X.N C.X.env.scope scope N' nt idx) (hc:C.X.calm=true)
  (hg:∀cl L s H fp,TCt (cO C N' scope cl L s H fp) tg h) (hlow:B4 nt h) (ht:∀cl L s H fp,ETs (cO C N' scope cl L s H fp) ifs t) (he:∀cl L s H fp,PE (cO C N' scope cl L s H fp).X elt (Lc C.X.K Ac H₂ fe))
  (I:Inv C.X pins σ H₂ s₂) (T:Turn C.X.prog C.X.w C.X.K tg J fp it tn) (st:tn 0 s₂.heap) (hf:∀b∈fp,rb C.X pins H₂ b) (vw:View C.X.K H₂ σ ρ) (ip:ItS C.X.K J H₂ ps)
  (hq:dj h t fe (dH nt idx ρ) ps=.ok qs) (hz:qs.length<=sizeLine)
  (hRR:∀D L σ' H' s' xs,Inv (fN C.X N' scope (gc C.X.env.cells scope.names []) L s₂ H₂ fp) [] σ' H' s'->Same H₂ H'->H₂ D=none->H' D=some (.lst xs)->Ac D H' qs xs->s₂.heap.objs.size<=L->RR (.ref D) L (.ok .next) s') :
  MK (MV C.X.prog C.X.w) C.X.A (newList []) (fun acc s₃=>MK (MV C.X.prog C.X.w) C.X.A (Sj scope C.X.env.globals (gc C.X.env.cells scope.names []) [] C.X.env.qual none .none (some C.X.env)) (fun cenv s₄=>
   Pj (MV C.X.prog C.X.w) C.X.A (.compStart (.ListComp elt [⟨tg,iter,ifs,0⟩] scope pos) 0 (.ref it) acc { cenv with scope:=Te scope C.X.env }) (RR acc cenv.locals) s₄) E s₃) E s₂:=by
 refine O3 (wpAny_newFunctionEnv O.cell (by intro y hy;simp at hy) (fun h₁ hns₁ hsb₁=>?_) O.kind);dsimp only at hns₁ hsb₁ ⊢;generalize hG:s₂.heap.push { cls:=.type "list",dict:=none,data:=.seq ([]:List Value).toArray }=G at hns₁ hsb₁ ⊢;have hC:G.objs.size=s₂.heap.objs.size+1:=by rw[← hG,O7]
 have hDL:s₂.heap.objs.size≠G.objs.size:=by rw[hC];exact MU (Nat.lt_succ_self _)
 have keep:∀b o,s₂.heap.get? b=some o->h₁.get? b=some o:=fun b o e=>
  hsb₁.extBut b o (by rw[hC];exact MU (Q6 (MJ e))) (MD _ (hG▸MD _ e))
 have acc:h₁.get? s₂.heap.objs.size=some { cls:=.type "list",data:=.seq ([]:List Value).toArray }:=hsb₁.extBut _ _ hDL (MD _ (hG▸MZ _ rfl));have nD:H₂ s₂.heap.objs.size=none:=I.fresh;have hGe:s₂.heap.objs.size<=G.objs.size:=by rw[hC];exact Q7 _
 obtain⟨σ0,I0,vw0,hl0,fl⟩:=uP O hc I T st hf vw (L:=G.objs.size) (tk:=s₂.toks+([]:List (Str×Value)).length) rfl hGe hDL (by simpa using hns₁) keep acc
 have fpk:∀{H':Hp}{pins':List (Addr×Obj)},(∀b∈fp,H' b=none)->(∀p∈pins',p.1 ∉ fp)->∀b∈fp,rb (fN C.X N' scope (gc C.X.env.cells scope.names []) G.objs.size s₂ H₂ fp) pins' H' b:=fun {H' pins'} hn hp b hb=>by
  obtain⟨g1,g2,g3,g4,g5,g6⟩:=hf b hb;refine⟨hn b hb,MU (MF (fl b hb) hGe),fun z=>?_,.inl hb,fun x c e=>?_,fun p hp' z=>?_⟩
  ·exact(MH.mp (I.stkSub b z)).elim g2 g3
  ·rcases dP e with z | z
   ·exact g5 x c z
   ·cases z
  ·subst z
   exact hp p ((show p∈([]:List (Addr×Obj))++pins' from hp')) hb
 have loop:Pj (MV C.X.prog C.X.w) C.X.A (.compLoop (.ListComp elt [⟨tg,iter,ifs,0⟩] scope pos) 0 (.ref it) (.ref s₂.heap.objs.size) (compEnvC scope (gc C.X.env.cells scope.names []) G.objs.size C.X.env))
   (RR (.ref s₂.heap.objs.size) G.objs.size) { s₂ with heap:=h₁,toks:=s₂.toks+([]:List (Str×Value)).length }:=by
  refine qO (fun n s=>∃i σ' H' xs dn rest,n=ps.length-i/\i<=ps.length/\Inv (fN C.X N' scope (gc C.X.env.cells scope.names []) G.objs.size s₂ H₂ fp) [] σ' H' s/\tn i s.heap/\(∀b∈fp,H' b=none)/\Same H₂ H'/\
   H' s₂.heap.objs.size=some (.lst xs)/\Ac s₂.heap.objs.size H' dn xs/\View C.X.K H' σ' (dH nt idx ρ)/\(dH nt idx ρ).length=σ'.length/\dj h t fe (dH nt idx ρ) (ps.drop i)=.ok rest/\dn++rest=qs) ?_ ps.length
   ⟨0,σ0,_,[],[],qs,rfl,O5 _,I0,T.keep _ _ _ st fun b _ o e=>keep b o e,fun b hb=>?_,Same.new nD,aA,ac0 _ _,vw0,hl0,by simpa using hq,rfl⟩
  ·rintro n s ⟨i,σ',H',xs,dn,rest,rfl,hi,I',st',fr',sm',hD',rp',vw',hl',e',ea⟩
   obtain⟨stp,stepp⟩:=ip i H' sm'
   by_cases hlt:i<ps.length
   ·have ei:ps[i]?=some ps[i]:=by simp[hlt]
    obtain⟨go,yl⟩:=stepp _ ei;rw[pq ei] at e';obtain⟨ρ1,b,e1,e2,e3⟩:=uR e';obtain⟨l1,low1⟩:=hlow _ _ _ e1;refine thn (T.item (fN C.X N' scope (gc C.X.env.cells scope.names []) G.objs.size s₂ H₂ fp) rfl rfl rfl rfl i [] s σ' H' _ I' (fpk fr' (by simp)) st' go) fun r s1 ⟨u,hr,h4⟩=>?_;subst hr;refine thn h4 fun _ s2 ⟨x,H3,I3,r3,y3,st3,fr3⟩=>?_;obtain⟨sm3,rp3⟩:=yl x H3 y3;have I3':=I3.pinned (fpk fr3 (by simp)) (T.obj _ _ st3);refine thn (hg _ _ _ _ _ _ s2 σ' H3 x u (fun σ4 H4=>H4=H3/\ρ1.length=σ4.length/\View C.X.K H4 σ4 ρ1) I3' r3 ⟨_,_,ρ1,hl',vw'.same sm3,rp3,e1,fun σ4 hl4 vw4=>⟨rfl,hl4,vw4⟩⟩) fun _ s4 ⟨σ4,H4,I4,q4⟩=>?_;obtain⟨rfl,hl4,vw4⟩:=q4
    have tests:MK (MV C.X.prog C.X.w) C.X.A (forIn ifs true fun c r=>if r=true then do let ok<- isTrue c (compEnvC scope (gc C.X.env.cells scope.names []) G.objs.size C.X.env) (NC c (compEnvC scope (gc C.X.env.cells scope.names []) G.objs.size C.X.env));pure (O8 ok) else pure (O8 r))
      (TP (fN C.X N' scope (gc C.X.env.cells scope.names []) G.objs.size s₂ H₂ fp) ([]++nu fp s2.heap) σ4 (fun b' H5=>b'=b/\Same H4 H5)) (fun _ _=>False) s4:=by
     rcases ht (gc C.X.env.cells scope.names []) G.objs.size s₂ H₂ fp with⟨ez,et⟩|⟨c,ez,et⟩
     ·subst ez
      subst et;cases e2;exact wpAny_tests_nil ⟨H4,I4,rfl,Same.refl _⟩
     ·subst ez
      exact wpAny_tests_one (et _ s4 σ4 H4 _ I4 ⟨ρ1,vw4,by rw[e2];exact fun H' s'=>⟨rfl,s'⟩⟩)
    refine thn tests fun b' s5 ⟨H5,I5,eb,sm5⟩=>?_;subst eb
    have fin:∀{H7:Hp}{s7:MB},Inv (fN C.X N' scope (gc C.X.env.cells scope.names []) G.objs.size s₂ H₂ fp) ([]++nu fp s2.heap) σ4 H7 s7->Inv (fN C.X N' scope (gc C.X.env.cells scope.names []) G.objs.size s₂ H₂ fp) [] σ4 H7 s7/\tn (i+1) s7.heap/\∀b∈fp,H7 b=none:=fun {H7 s7} I7=>by
     refine⟨I7.unpinned,T.keep _ _ _ st3 fun b hb o e=>(I7.pin (b,o) (N2 _ (N2 _ (iC hb e)))).1,fun b hb=>?_⟩;obtain⟨o,e,_⟩:=T.obj _ _ st3 b hb;exact(I7.pin (b,o) (N2 _ (N2 _ (iC hb e)))).2.1
    have sm25:Same H₂ H5:=(sm'.trans sm3).trans sm5;have smd:Same H' H5:=sm3.trans sm5;have vw5:View C.X.K H5 σ4 (dH nt idx ρ):=View.weak (vw4.same sm5) low1 fun i l hi e=>yo hi e;have hl5:(dH nt idx ρ).length=σ4.length:=by rw[← l1];exact hl4
    rcases e3 with⟨rfl,q,r,e4,e5,rfl⟩|⟨rfl,e4⟩
    ·rw[if_pos rfl]
     refine thn (he _ _ _ _ _ _ s5 σ4 H5 (fun v H6=>Same H5 H6/\Ac s₂.heap.objs.size (upd H6 s₂.heap.objs.size (.lst (xs++[v]))) (dn++[q]) (xs++[v])) I5 ⟨ρ1,_,xs,dn,q,vw4.same sm5,e4,acs _ _ _ _ _ rp' smd,nD,sm25,smd _ _ hD',fun v H' s' r=>⟨s',r⟩⟩) fun u6 s6 ⟨v,H6,I6,r6,sm6,rp6⟩=>?_;have hD6:H6 s₂.heap.objs.size=some (.lst xs):=sm6 _ _ (smd _ _ hD')
     have hx:xs.length<sizeLine:=by
      have a1:=acl _ _ _ _ rp';have a2:qs.length=dn.length+(r.length+1):=by rw[← ea];simp
      omega
     refine thn (lW (X:=fN C.X N' scope (gc C.X.env.cells scope.names []) G.objs.size s₂ H₂ fp) _ s6 σ4 H6 (.ref s₂.heap.objs.size) [v] (.ref s₂.heap.objs.size) [u6] (fun _ H7=>H7=upd H6 s₂.heap.objs.size (.lst (xs++[v]))) I6 rfl (.cons r6 .nil) ⟨_,xs,v,rfl,rfl,hD6,hx,rfl⟩) fun _ s7 ⟨_,H7,I7,_,e7⟩=>?_;subst e7;obtain⟨J7,st7,fr7⟩:=fin I7;have kp7:Kp H6 (upd H6 s₂.heap.objs.size (.lst (xs++[v]))):=Kp.upd hD6 rfl;refine⟨ps.length-(i+1),by omega,i+1,σ4,_,xs++[v],dn++[q],r,rfl,hlt,J7,st7,fr7,(sm25.trans sm6).but nD (fun u h=>by rw[hD6] at h;cases h;rfl) (fun b hb=>az hb),aA,?_,?_,hl5,e5,by rw[← ea];simp⟩
     ·exact rp6
     ·exact(vw5.same sm6).noOwn (fun i p e=>yn e) kp7 ((vw5.same sm6).tb.but (fun u h=>by rw[hD6] at h;cases h;exact⟨rfl,rfl⟩) (fun b hb=>az hb))
    ·rw[if_neg ML]
     obtain⟨J7,st7,fr7⟩:=fin I5;exact⟨ps.length-(i+1),by omega,i+1,σ4,H5,xs,dn,rest,rfl,hlt,J7,st7,fr7,sm25,smd _ _ hD',acs _ _ _ _ _ rp' smd,vw5,hl5,e4,ea⟩
   ·have e:i=ps.length:=by omega
    subst e;rw[QE] at e';cases e';rw[N1] at ea;subst ea;refine thn (T.done (fN C.X N' scope (gc C.X.env.cells scope.names []) G.objs.size s₂ H₂ fp) rfl rfl rfl rfl ps.length [] s σ' H' _ I' (fpk fr' (by simp)) st' (stp rfl)) fun r s1 ⟨hr,I1⟩=>?_;subst hr;exact hRR _ _ σ' H' s1 xs I1 sm' nD hD' rp' hGe
  ·show upd H₂ _ _ b=none
   rw[az (MU (fl b hb))];exact(hf b hb).1
 exact codeAny_compStart_list loop (T.self _ 0 _ _ _ (T.keep _ _ _ st fun b _ o e=>keep b o e) loop)
theorem nY{pins:List (Addr×Obj)}{σ:L2.St}{H₂:Hp}{s₂:MB}{J:It}{fp:List Addr}{it:Addr}{tn:Nat->Heap->Prop}{ρ:PSt}{ps qs:List PV}{RR:Value->Addr->Th->MB->Prop}{E:Value->MB->Prop}
  (O:CompOk C.X.N C.X.env.scope scope N' nt idx) (hc:C.X.calm=true)
  (hg:∀cl L s H fp,TCt (cO C N' scope cl L s H fp) tg h) (hlow:B4 nt h) (ht:∀cl L s H fp,ETs (cO C N' scope cl L s H fp) ifs t) (he:∀cl L s H fp,EV (cO C N' scope cl L s H fp) elt fe)
  (I:Inv C.X pins σ H₂ s₂) (T:Turn C.X.prog C.X.w C.X.K tg J fp it tn) (st:tn 0 s₂.heap) (hf:∀b∈fp,rb C.X pins H₂ b) (vw:View C.X.K H₂ σ ρ) (ip:ItS C.X.K J H₂ ps)
  (hq:dj h t fe (dH nt idx ρ) ps=.ok qs) (hz:qs.length<=sizeLine)
  (hRR:∀D L σ' H' s' xs,Inv (fN C.X N' scope (gc C.X.env.cells scope.names []) L s₂ H₂ fp) [] σ' H' s'->Same H₂ H'->H₂ D=none->H' D=some (.lst xs)->aM C.X.K H' qs xs->s₂.heap.objs.size<=L->RR (.ref D) L (.ok .next) s') :
  MK (MV C.X.prog C.X.w) C.X.A (newList []) (fun acc s₃=>MK (MV C.X.prog C.X.w) C.X.A (Sj scope C.X.env.globals (gc C.X.env.cells scope.names []) [] C.X.env.qual none .none (some C.X.env)) (fun cenv s₄=>
   Pj (MV C.X.prog C.X.w) C.X.A (.compStart (.ListComp elt [⟨tg,iter,ifs,0⟩] scope pos) 0 (.ref it) acc { cenv with scope:=Te scope C.X.env }) (RR acc cenv.locals) s₄) E s₃) E s₂:=
 uQ (Ac:=fun _ H dn xs=>aM C.X.K H dn xs) (fun _ _=>aM.nil) (fun _ _ _ _ _ r s=>r.same s) (fun _ _ _ _ r=>r.length) O hc hg hlow ht (fun cl L s H fp pins s σ H Q I ⟨ρ,D,xs,dn,q,vw,e,ac,_,_,hD,k⟩=>he cl L _ _ _ pins s σ H Q I ⟨ρ,vw,by
  rw[e];exact fun v H' s' r=>k v H' s' (aM.append (aM.kp (Kp.upd (s' _ _ hD) rfl) _ (ac.same s')) (aM.cons (Rep.kp (Kp.upd (s' _ _ hD) rfl) _ r) aM.nil))⟩) I T st hf vw ip hq hz hRR
theorem qN{pins:List (Addr×Obj)}{σ:L2.St}{H₂:Hp}{s₂:MB}{J:It}{fp:List Addr}{it:Addr}{tn:Nat->Heap->Prop}{ρ:PSt}{ps qs:List PV}{RR:Value->Addr->Th->MB->Prop}{E:Value->MB->Prop}
  (O:CompOk C.X.N C.X.env.scope scope N' nt idx) (hc:C.X.calm=true)
  (hg:∀cl L s H fp,TCt (cO C N' scope cl L s H fp) tg h) (hlow:B4 nt h) (ht:∀cl L s H fp,ETs (cO C N' scope cl L s H fp) ifs t) (he:∀cl L s H fp,EV (cO C N' scope cl L s H fp) elt fe)
  (I:Inv C.X pins σ H₂ s₂) (T:Turn C.X.prog C.X.w C.X.K tg J fp it tn) (st:tn 0 s₂.heap) (hf:∀b∈fp,rb C.X pins H₂ b) (vw:View C.X.K H₂ σ ρ) (ip:ItP C.X.K J H₂ ps)
  (hq:dj h t fe (dH nt idx ρ) ps=.ok qs) (hz:qs.length<=sizeLine)
  (hRR:∀D L σ' H' s' xs,Inv (fN C.X N' scope (gc C.X.env.cells scope.names []) L s₂ H₂ fp) [] σ' H' s'->Same H₂ H'->H₂ D=none->H' D=some (.lst xs)->aM C.X.K H' qs xs->s₂.heap.objs.size<=L->RR (.ref D) L (.ok .next) s') :
  MK (MV C.X.prog C.X.w) C.X.A (newList []) (fun acc s₃=>MK (MV C.X.prog C.X.w) C.X.A (Sj scope C.X.env.globals (gc C.X.env.cells scope.names []) [] C.X.env.qual none .none (some C.X.env)) (fun cenv s₄=>
   Pj (MV C.X.prog C.X.w) C.X.A (.compStart (.ListComp elt [⟨tg,iter,ifs,0⟩] scope pos) 0 (.ref it) acc { cenv with scope:=Te scope C.X.env }) (RR acc cenv.locals) s₄) E s₃) E s₂:=
 nY O hc hg hlow ht he I T st hf vw (fun i H k=>ip i H (Same.kp k)) hq hz hRR
end
end PU
namespace PU
open PySem PySem.Spec PyProof.Rows L2
variable[TW]
section
variable{C : Cn}{elt tg iter : Expr}{ifs : List Expr}{scope : Scope}{pos : O4}{N' : List Str}{nt : Nat}{idx : List Nat}{fi : PSt → R (List PV)}{h : Tgt}{t : PSt → R Bool}{fe : PSt → R PV}
theorem mC{pins:List (Addr×Obj)}{σ σ':L2.St}{H₂ H':Hp}{s₂ s':MB}{fp:List Addr}{cl:List (Str×Addr)}{L:Addr}(I:Inv C.X pins σ H₂ s₂)(hf:∀b∈fp,rb C.X pins H₂ b)
  (I':Inv (fN C.X N' scope cl L s₂ H₂ fp) [] σ' H' s'):Inv C.X pins σ H' s':=
 I.call' (ch:=fp) I'.os I'.base I'.hok I'.bare fun b hb=>by
  obtain⟨g1,g2,g3,g4,g5,g6⟩:=hf b hb;exact⟨g4,g2,g5,g6⟩
theorem wQ{α:Type}{H:Hp}{r:R α}{k:α->Prop}(q:RQ C H (zW r) k):∃a,r=.ok a/\k a:=by
 cases r with
 | ok a=>exact⟨a,rfl,q⟩
 | er x=>exact MG q
 | no=>exact MG q
theorem mB{pins:List (Addr×Obj)}{σ:L2.St}{H:Hp}{s:MB}{L:Addr}{h':Heap}(I:Inv C.X pins σ H s)(hn:H L=none)(hL:L≠C.X.env.locals)(h1:C.X.s₀.heap.objs.size<=L)(h2:∀x c,C.X.env.cells.lookup x=some c->c≠L)
  (h3:∀p∈C.X.pn++pins,p.1≠L) (sb:Oj L s.heap h'):Inv C.X pins σ H { s with heap:=h' }:=
 I.turned (t':=s.toks) (fun b o hb e=>(sb.2 b hb).trans e) hn hL (.inr h1) h2 h3
theorem pj(O:CompOk C.X.N C.X.env.scope scope N' nt idx)(hi:EI C tg iter fi)
  (hg:∀cl L s H fp,TCt (cO C N' scope cl L s H fp) tg h) (he:∀cl L s H fp,EV (cO C N' scope cl L s H fp) elt fe)
  (hs:∀x,Oi iter C.X.env x=pure x:=by intro _;rfl) (hc:C.X.calm=true:=by rfl) (hlow:B4 nt h:=by repeat' (first | exact rS | exact oF (by decide) | apply rR | apply oG)) (ht:∀cl L s H fp,ETs (cO C N' scope cl L s H fp) ifs t:=by exact fun _ _ _ _ _=>sd):EN C (.ListComp elt [⟨tg,iter,ifs,0⟩] scope pos) (gL fi h t fe nt idx):=by
 intro pins s σ H Q I ⟨ρ,vw,q⟩;rw[eval_ListComp];refine QP (use:=none) rfl hs (fE fun y hy hk=>I.ok.has y.1 (O.free y hy hk)) O.kind O.names ?_
 refine thn (hi pins s σ H (fun J H'=>∃ps qs,Same H H'/\ItP C.X.K J H' ps/\dj h t fe (dH nt idx ρ) ps=.ok qs/\qs.length<=sizeLine/\∀a H'',Same H H''->H a=none->dE C.X.K H'' a (.lst qs)->Q (.ref a) H'') I
  ⟨ρ,vw,q.bind.imp fun ps _ k J H' s' ip=>?_⟩) fun v s1 h1=>thn h1 fun itv s2 h2=>?_
 ·obtain⟨qs,e1,k⟩:=wQ k.bind
  obtain⟨z,k⟩:=jH k;exact⟨ps,qs,s',ip,e1,z,k⟩
 ·obtain⟨it,fp,tn,J,H2,e,I2,T,st2,f2,ps,qs,sm,ip,e1,hz,k⟩:=h2
  subst e;refine qN O hc hg hlow ht he I2 T st2 f2 (vw.same sm) ip e1 hz fun D L σ' H' s' xs I' sm' nD hD rp hL=>?_;obtain⟨m,hn,_⟩:=id I'.loc;have IB:=mC I2 f2 I';refine⟨m,hn,fun h' sb=>⟨.ref D,H',mB IB I'.free ?_ (Mm I2.sz hL) ?_ ?_ sb,rfl,k D H' (sm.trans sm') (sm.free nD) ⟨xs,hD,rp⟩⟩⟩
  ·exact NZ (MF I2.lt hL)
  ·intro x c ec z
   obtain⟨v,qc⟩:=I2.cell x c ec;have z:c=L:=z;exact Ms _ (MF (z▸qc.lt) hL)
  ·intro p hp z
   have z:p.1=L:=z;exact Ms _ (MF (z▸MJ (I2.pin p hp).1) hL)
theorem RS.bind'{C:Cn}{B:Bs}{D:Ends}{H:Hp}{fi:PSt->R (List PV)}{h:Tgt}{t:PSt->R Bool}{fe:PSt->R PV}{nt:Nat}{idx:List Nat}{ρ:PSt}{g:PV->Sl}{i:Nat}
  (q:RS C B D (gL fi h t fe nt idx ρ >>= fun p=>.ok (.next (ρ.set i (g p))))) (s:Same B.1 H) :
  RQ C H (fi ρ) fun ps=>∃qs,dj h t fe (dH nt idx ρ) ps=.ok qs/\qs.length<=sizeLine/\∀σ' H'',StOk C.X.K B H'' σ' (ρ.set i (g (.lst qs)))->D.nx σ' H'':=by
 unfold gL at q;rw[R.bind_assoc] at q;refine(q.bind s).imp fun ps _ k=>?_;rw[R.bind_assoc] at k;cases hc:dj h t fe (dH nt idx ρ) ps with
 | ok qs=>
  rw[hc] at k;have k:RS C B D ((iN qs >>= fun qs=>R.ok (.lst qs)) >>= fun p=>.ok (.next (ρ.set i (g p)))):=k;unfold iN at k
  by_cases hz:qs.length<=16777216
  ·rw[if_pos hz] at k
   exact⟨qs,rfl,by rw[My];exact hz,k⟩
  ·rw[if_neg hz] at k
   exact MG k
 | er x=>rw[hc] at k;exact MG k
 | no=>rw[hc] at k;exact MG k
theorem vH(own:Bool)(i:Nat){x:Str}{px:O4}{spos:O4}(hN:C.X.N.Nodup)(O:CompOk C.X.N C.X.env.scope scope N' nt idx)(hi:EI C tg iter fi)
  (hg:∀cl L s H fp,TCt (cO C N' scope cl L s H fp) tg h) (he:∀cl L s H fp,EV (cO C N' scope cl L s H fp) elt fe)
  (hsw:Nk (.ListComp elt [⟨tg,iter,ifs,0⟩] scope pos) (some (.Name x px)) spos.line C.X.env=pure true:=by rfl)
  (hs:∀x,Oi iter C.X.env x=pure x:=by intro _;rfl)
  (hf:C.X.fn x=true\/C.X.env.scope.names.lookup x=some .local:=by first | exact .inl rfl | exact .inr rfl | assumption) (hc:C.X.calm=true:=by rfl) (hlow:B4 nt h:=by repeat' (first | exact rS | exact oF (by decide) | apply rR | apply oG)) (ht:∀cl L s H fp,ETs (cO C N' scope cl L s H fp) ifs t:=by exact fun _ _ _ _ _=>sd) (hi':C.X.N[i]?=some x:=by rfl) (hx:Loc C.X.env.scope x:=by first | exact .inl rfl | exact .inr rfl) :
  SV C (.Assign [.Name x px] (.ListComp elt [⟨tg,iter,ifs,0⟩] scope pos) spos) ((if own=true then EH else dF) i (gL fi h t fe nt idx)):=by
 intro pins s σ H D I ⟨ρ,B,S,q⟩;rw[exec_Assign_Name_used _ _ _ _ hsw];refine MA (Pi (MA ?_));show MK _ C.X.A (do let _<- comprehension (.ListComp elt [⟨tg,iter,ifs,0⟩] scope pos) scope C.X.env _ (newList []) false (NC iter C.X.env) (some (Ry (.Name x px) C.X.env))) _ _ s
 refine MA (N7 (QP (use:=some (Ry (.Name x px) C.X.env)) (Q:=fun _ s'=>SP C.X pins D .next s') rfl hs (fE fun y hy hk=>I.ok.has y.1 (O.free y hy hk)) O.kind O.names ?_)
  (fun _ s' hq=>ME (ME hq)) fun _ _ e=>e)
 have q':RS C B D (gL fi h t fe nt idx ρ >>= fun p=>.ok (.next (ρ.set i (if own=true then .own p else .val p)))):=by
  cases own with
  | true=>exact q
  | false=>exact q
 refine thn (hi pins s σ H (fun J H'=>∃ps qs,Same H H'/\ItP C.X.K J H' ps/\dj h t fe (dH nt idx ρ) ps=.ok qs/\qs.length<=sizeLine/\∀σ' H'',StOk C.X.K B H'' σ' (ρ.set i (if own=true then .own (.lst qs) else .val (.lst qs)))->D.nx σ' H'') I
  ⟨ρ,S.vw,(RS.bind' q' S.same).imp fun ps _ k J H' s' ip=>?_⟩) fun v s1 h1=>thn h1 fun itv s2 h2=>?_
 ·obtain⟨qs,e1,z,k⟩:=k
  exact⟨ps,qs,s',ip,e1,z,k⟩
 ·obtain⟨it,fp,tn,J,H2,e,I2,T,st2,f2,ps,qs,sm,ip,e1,hz,k⟩:=h2
  subst e;refine qN O hc hg hlow ht he I2 T st2 f2 (S.vw.same sm) ip e1 hz fun Da L σ' H' s' xs I' sm' nD hD rp hL=>?_;obtain⟨m,⟨o,es,ep,ho,hrest⟩,_⟩:=id I'.loc;have IB:=mC I2 f2 I';have nL:L≠C.X.env.locals:=NZ (MF I2.lt hL)
  have nC:∀x c,C.X.env.cells.lookup x=some c->c≠L:=fun x c ec z=>by
   obtain⟨v,qc⟩:=I2.cell x c ec;have z:c=L:=z;exact Ms _ (MF (z▸qc.lt) hL)
  have nP:∀p∈C.X.pn++pins,p.1≠L:=fun p hp z=>by
   have z:p.1=L:=z;exact Ms _ (MF (z▸MJ (I2.pin p hp).1) hL)
  have IP:Inv C.X (pins++[(L,o)]) σ H' s':=IB.pins_of fun p hp=>by
   rcases N4.mp hp with z | z
   ·exact IB.pin p (N2 _ z)
   ·have:p=(L,o):=by simpa using z
    subst this;exact⟨ho,I'.free,nL,I2.nofs hL,fun v z=>by rw[hrest.1] at z;cases z⟩
  have S2:=S.grow (sm.trans sm')
  have fin:∀{H3:Hp}{v:V},Inv C.X (pins++[(L,o)]) σ H3 s'->v=.ref Da->(∀σ3,σ3=σ.set i (some v)->D.nx σ3 H3)->
    MK (MV C.X.prog C.X.w) C.X.A (Ry (.Name x px) C.X.env (.ref Da)) (fun _ s''=>∃m,s''.heap.Ns L m/\∀h',Oj L s''.heap h'->SP C.X pins D .next { s'' with heap:=h' }) C.X.xe s':=fun {H3 v} I3 ev k3=>by
   refine thn (rG hN hi' hx hf (pins++[(L,o)]) s' σ H3 v (.ref Da) (fun σ4 H4=>σ4=σ.set i (some v)/\H4=H3) I3 (by subst ev;rfl) ⟨rfl,rfl⟩) fun _ s4 ⟨σ4,H4,I4,e4,e5⟩=>?_;have hp:=I4.pin (L,o) (by simp);have IU:Inv C.X pins σ4 H4 s4:=I4.unpinned;refine⟨m,⟨o,es,ep,hp.1,hrest⟩,fun h' sb=>⟨σ4,H4,mB IU hp.2.1 nL (Mm I2.sz hL) nC nP sb,?_⟩⟩;subst e5;exact k3 σ4 e4
  cases own with
  | true=>
   exact fin IP rfl fun σ3 e3=>by
    subst e3;exact k _ _ (S.setN (sm.trans sm') (sm.free nD) ⟨xs,hD,rp⟩)
  | false=>
   obtain⟨H3,I3,rp3,oth⟩:=L2.Inv.frz (a:=Da) (p:=.lst qs) IP ⟨xs,hD,rp⟩;refine fin I3 rfl fun σ3 e3=>?_;subst e3;exact k _ _ ((S.grow ((sm.trans sm').but (sm.free nD) (fun u h=>by rw[hD] at h;cases h;rfl) oth)).setV rp3)
end
end PU
namespace PU
open PySem PySem.Spec PyProof.Rows L2 PySem.SeqAt
variable[TW]
section
variable{X : Cx}{pins : List (Addr×Obj)}{σ : L2.St}{H : Hp}{s : MB}
theorem kx{a:Addr}{xs ys:List V}(I:Inv X pins σ H s)(h1:SqT X.K H a xs)(h2:SqO X.K H a ys):False:=by
 obtain⟨its,_,⟨o,e,c,_⟩,_⟩:=I.tuple h1;obtain⟨_,its2,n,_,e2⟩:=h2.is I;rw[e] at e2;cases e2;have c:OW "list"=OW "tuple":=c;exact absurd c (by decide)
theorem Cu{a:Addr}{xs ys:List V}(I:Inv X pins σ H s)(h1:SqO X.K H a xs)(h2:SqO X.K H a ys):xs=ys:=I.list_inj h1.l h2.l
mutual
theorem jz(I:Inv X pins σ H s):∀(p q:PV)(v:V)(b:Bool),bw X.K H p v->bw X.K H q v->cn p q=some b->b=true
 | .non,q,v,b,h1,h2,e=>by
  cases (show v=.non from h1);cases q with
  | non=>simpa [cn] using e.symm
  | bl j=>cases (show V.non=.bl j from h2)
  | int j=>cases (show V.non=.int j from h2)
  | str j=>cases (show V.non=.str j from h2)
  | tup qs=>obtain⟨a,xs,z,_⟩:=bw.tup_inv h2;cases z
  | lst qs=>obtain⟨a,xs,z,_⟩:=bw.lst_inv h2;cases z
  | _=>simp[cn] at e
 | .bl i,q,v,b,h1,h2,e=>by
  cases (show v=.bl i from h1);cases q with
  | bl j=>cases (show V.bl i=.bl j from h2);simpa [cn] using e.symm
  | non=>cases (show V.bl i=.non from h2)
  | int j=>cases (show V.bl i=.int j from h2)
  | str j=>cases (show V.bl i=.str j from h2)
  | tup qs=>obtain⟨a,xs,z,_⟩:=bw.tup_inv h2;cases z
  | lst qs=>obtain⟨a,xs,z,_⟩:=bw.lst_inv h2;cases z
  | _=>simp[cn] at e
 | .int i,q,v,b,h1,h2,e=>by
  cases (show v=.int i from h1);cases q with
  | int j=>cases (show V.int i=.int j from h2);simpa [cn] using e.symm
  | bl j=>cases (show V.int i=.bl j from h2)
  | non=>cases (show V.int i=.non from h2)
  | str j=>cases (show V.int i=.str j from h2)
  | tup qs=>obtain⟨a,xs,z,_⟩:=bw.tup_inv h2;cases z
  | lst qs=>obtain⟨a,xs,z,_⟩:=bw.lst_inv h2;cases z
  | _=>simp[cn] at e
 | .str i,q,v,b,h1,h2,e=>by
  cases (show v=.str i from h1);cases q with
  | str j=>cases (show V.str i=.str j from h2);simpa [cn] using e.symm
  | bl j=>cases (show V.str i=.bl j from h2)
  | non=>cases (show V.str i=.non from h2)
  | int j=>cases (show V.str i=.int j from h2)
  | tup qs=>obtain⟨a,xs,z,_⟩:=bw.tup_inv h2;cases z
  | lst qs=>obtain⟨a,xs,z,_⟩:=bw.lst_inv h2;cases z
  | _=>simp[cn] at e
 | .tup ps,q,v,b,h1,h2,e=>by
  obtain⟨a,xs,rfl,g1,r1⟩:=bw.tup_inv h1;cases q with
  | tup qs=>
   obtain⟨a2,ys,z,g2,r2⟩:=bw.tup_inv h2;cases z;cases I.tuple_inj g1 g2;exact lK I ps qs xs b r1 r2 (by simpa [cn] using e)
  | lst qs=>
   obtain⟨a2,ys,z,g2,r2⟩:=bw.lst_inv h2;cases z;exact(kx I g1 g2).elim
  | non=>cases (show V.ref a=.non from h2)
  | bl j=>cases (show V.ref a=.bl j from h2)
  | int j=>cases (show V.ref a=.int j from h2)
  | str j=>cases (show V.ref a=.str j from h2)
  | _=>simp[cn] at e
 | .lst ps,q,v,b,h1,h2,e=>by
  obtain⟨a,xs,rfl,g1,r1⟩:=bw.lst_inv h1;cases q with
  | lst qs=>
   obtain⟨a2,ys,z,g2,r2⟩:=bw.lst_inv h2;cases z;cases Cu I g1 g2;exact lK I ps qs xs b r1 r2 (by simpa [cn] using e)
  | tup qs=>
   obtain⟨a2,ys,z,g2,r2⟩:=bw.tup_inv h2;cases z;exact(kx I g2 g1).elim
  | non=>cases (show V.ref a=.non from h2)
  | bl j=>cases (show V.ref a=.bl j from h2)
  | int j=>cases (show V.ref a=.int j from h2)
  | str j=>cases (show V.ref a=.str j from h2)
  | _=>simp[cn] at e
 | .dct _ _,_,_,_,_,_,e=>by simp[cn] at e
 | .dtt _ _,_,_,_,_,_,e=>by simp[cn] at e
 | .fn _ _,_,_,_,_,_,e=>by simp[cn] at e
theorem lK(I:Inv X pins σ H s):∀(ps qs:List PV)(xs:List V)(b:Bool),aM X.K H ps xs->aM X.K H qs xs->eN ps qs=some b->b=true
 | [],qs,xs,b,r1,r2,e=>by
  cases r1;cases qs with
  | nil=>simpa [eN] using e.symm
  | cons q qs=>obtain⟨x,r,z,_⟩:=r2;cases z
 | p::ps,qs,xs,b,r1,r2,e=>by
  obtain⟨x,r,rfl,h1,t1⟩:=r1;cases qs with
  | nil=>cases (show x::r=[] from r2)
  | cons q qs=>
   obtain⟨x2,r2',z,h2,t2⟩:=r2;cases z;simp only[eN] at e;obtain⟨b1,e1,e⟩:=MQ.mp e;obtain⟨b2,e2,e⟩:=MQ.mp e;cases e;rw[jz I p q x b1 h1.o h2.o e1,lK I ps qs r b2 t1 t2 e2];rfl
end
theorem nz{p q:PV}{ps qs:List PV}{j:Nat}:j9 (p::ps) (q::qs) (j+1)=j9 ps qs j:=by simp[j9]
theorem lg:∀(ps qs:List PV)(b:Bool),eN ps qs=some b->((Mz (TK ps.length qs.length)).all (j9 ps qs) && ps.length == qs.length)=b
 | [],[],b,e=>by simp[eN] at e;simp[e]
 | [],_::_,b,e=>by simp[eN] at e;simp[e]
 | _::_,[],b,e=>by simp[eN] at e;simp[e]
 | p::ps,q::qs,b,e=>by
  simp only[eN] at e;obtain⟨b1,e1,e⟩:=MQ.mp e;obtain⟨b2,e2,e⟩:=MQ.mp e;cases e;have ih:=lg ps qs b2 e2;have hm:TK (p::ps).length (q::qs).length=TK ps.length qs.length+1:=by simp only[MI];omega
  rw[hm,Sd,P3,Sf];have h0:j9 (p::ps) (q::qs) 0=b1:=by simp[j9,e1]
  have hs:(j9 (p::ps) (q::qs) ∘ Nat.succ)=j9 ps qs:=by funext j;exact nz
  rw[h0,hs,← ih,MI,MI];simp[Bool.and_assoc]
theorem oz:∀{ps:List PV}{j:Nat}{p:PV},ps[j]?=some p->Br p<=gD ps
 | [],_,_,h=>by simp at h
 | p::ps,0,_,h=>by simp at h;subst h;simp only[gD];omega
 | p::ps,j+1,q,h=>by
  have:=oz (ps:=ps) (j:=j) (p:=q) (by simpa using h);simp only[gD];omega
mutual
theorem xY(I:Inv X pins σ H s):∀(p q:PV)(A:Mi)(v u:V)(v' u':Value)(b:Bool),bw X.K H p v->bw X.K H q u->RelV v v'->RelV u u'->cn p q=some b->A.units+Br p<cLine->EqAt A s v' u' b
 | .non,q,A,v,u,v',u',b,h1,h2,e1,e2,e,hu=>by
  cases (show v=.non from h1);cases e1;have hu:=P8 (NK _ _) hu;cases q with
  | non=>cases (show u=.non from h2);cases e2;simp[cn] at e;subst e;exact EqAt.same _
  | bl j=>cases (show u=.bl j from h2);cases e2;simp[cn] at e;subst e;exact EqAt.none_bool j
  | int j=>cases (show u=.int j from h2);obtain⟨t,rfl⟩:=e2;simp[cn] at e;subst e;exact EqAt.none_int j t
  | str j=>cases (show u=.str j from h2);obtain⟨t,rfl⟩:=e2;simp[cn] at e;subst e;exact EqAt.none_str j t
  | tup qs=>obtain⟨a,xs,rfl,g,_⟩:=bw.tup_inv h2;cases e2;obtain⟨its,_,pl,_⟩:=I.tuple g;simp[cn] at e;subst e;exact EqAt.none_tuple pl hu
  | lst qs=>obtain⟨a,xs,rfl,g,_⟩:=bw.lst_inv h2;cases e2;obtain⟨its,_,pl,_⟩:=I.list g.l;simp[cn] at e;subst e;exact EqAt.none_list pl.isList hu
  | _=>simp[cn] at e
 | .bl i,q,A,v,u,v',u',b,h1,h2,e1,e2,e,hu=>by
  cases (show v=.bl i from h1);cases e1;have hu:=P8 (NK _ _) hu;cases q with
  | non=>cases (show u=.non from h2);cases e2;simp[cn] at e;subst e;exact EqAt.bool_none i
  | bl j=>cases (show u=.bl j from h2);cases e2;simp only[cn,Oz] at e;subst e;exact EqAt.bool_bool i j
  | int j=>cases (show u=.int j from h2);obtain⟨t,rfl⟩:=e2;simp only[cn,Oz] at e;subst e;exact EqAt.bool_int i j t
  | str j=>cases (show u=.str j from h2);obtain⟨t,rfl⟩:=e2;simp[cn] at e;subst e;exact EqAt.bool_str i j t
  | tup qs=>obtain⟨a,xs,rfl,g,_⟩:=bw.tup_inv h2;cases e2;obtain⟨its,_,pl,_⟩:=I.tuple g;simp[cn] at e;subst e;exact EqAt.bool_tuple i pl hu
  | lst qs=>obtain⟨a,xs,rfl,g,_⟩:=bw.lst_inv h2;cases e2;obtain⟨its,_,pl,_⟩:=I.list g.l;simp[cn] at e;subst e;exact EqAt.bool_list i pl.isList hu
  | _=>simp[cn] at e
 | .int i,q,A,v,u,v',u',b,h1,h2,e1,e2,e,hu=>by
  cases (show v=.int i from h1);obtain⟨t',rfl⟩:=e1;have hu:=P8 (NK _ _) hu;cases q with
  | non=>cases (show u=.non from h2);cases e2;simp[cn] at e;subst e;exact EqAt.int_none i t'
  | bl j=>cases (show u=.bl j from h2);cases e2;simp only[cn,Oz] at e;subst e;exact EqAt.int_bool i t' j
  | int j=>cases (show u=.int j from h2);obtain⟨t,rfl⟩:=e2;simp only[cn,Oz] at e;subst e;exact EqAt.int_int i t' j t
  | str j=>cases (show u=.str j from h2);obtain⟨t,rfl⟩:=e2;simp[cn] at e;subst e;exact EqAt.int_str i t' j t
  | tup qs=>obtain⟨a,xs,rfl,g,_⟩:=bw.tup_inv h2;cases e2;obtain⟨its,_,pl,_⟩:=I.tuple g;simp[cn] at e;subst e;exact EqAt.int_tuple i t' pl hu
  | lst qs=>obtain⟨a,xs,rfl,g,_⟩:=bw.lst_inv h2;cases e2;obtain⟨its,_,pl,_⟩:=I.list g.l;simp[cn] at e;subst e;exact EqAt.int_list i t' pl.isList hu
  | _=>simp[cn] at e
 | .str i,q,A,v,u,v',u',b,h1,h2,e1,e2,e,hu=>by
  cases (show v=.str i from h1);obtain⟨t',rfl⟩:=e1;have hu:=P8 (NK _ _) hu;cases q with
  | non=>cases (show u=.non from h2);cases e2;simp[cn] at e;subst e;exact EqAt.str_none i t'
  | bl j=>cases (show u=.bl j from h2);cases e2;simp[cn] at e;subst e;exact EqAt.str_bool i t' j
  | int j=>cases (show u=.int j from h2);obtain⟨t,rfl⟩:=e2;simp[cn] at e;subst e;exact EqAt.str_int i t' j t
  | str j=>cases (show u=.str j from h2);obtain⟨t,rfl⟩:=e2;simp only[cn,Oz] at e;subst e;exact EqAt.str_str i t' j t
  | tup qs=>obtain⟨a,xs,rfl,g,_⟩:=bw.tup_inv h2;cases e2;obtain⟨its,_,pl,_⟩:=I.tuple g;simp[cn] at e;subst e;exact EqAt.str_tuple i t' pl hu
  | lst qs=>obtain⟨a,xs,rfl,g,_⟩:=bw.lst_inv h2;cases e2;obtain⟨its,_,pl,_⟩:=I.list g.l;simp[cn] at e;subst e;exact EqAt.str_list i t' pl.isList hu
  | _=>simp[cn] at e
 | .tup ps,q,A,v,u,v',u',b,h1,h2,e1,e2,e,hu=>by
  obtain⟨a,xs,rfl,g1,r1⟩:=bw.tup_inv h1;cases e1;obtain⟨its,rv,pl,_⟩:=I.tuple g1;simp only[Br] at hu;have hu0:A.units<cLine:=by omega
  cases q with
  | non=>cases (show u=.non from h2);cases e2;simp[cn] at e;subst e;exact EqAt.tuple_none pl hu0
  | bl j=>cases (show u=.bl j from h2);cases e2;simp[cn] at e;subst e;exact EqAt.tuple_bool j pl hu0
  | int j=>cases (show u=.int j from h2);obtain⟨t,rfl⟩:=e2;simp[cn] at e;subst e;exact EqAt.tuple_int j t pl hu0
  | str j=>cases (show u=.str j from h2);obtain⟨t,rfl⟩:=e2;simp[cn] at e;subst e;exact EqAt.tuple_str j t pl hu0
  | lst qs=>obtain⟨a2,ys,rfl,g,_⟩:=bw.lst_inv h2;cases e2;obtain⟨its2,_,pl2,_⟩:=I.list g.l;simp[cn] at e;subst e;exact EqAt.tuple_list pl pl2.isList hu0
  | tup qs=>
   by_cases hv:V.ref a=u
   ·subst hv
    rw[jz I _ _ _ b h1 h2 e];cases e2;exact EqAt.same _
   ·obtain⟨a2,ys,rfl,g2,r2⟩:=bw.tup_inv h2
    cases e2;obtain⟨its2,rv2,pl2,_⟩:=I.tuple g2;have l1:=r1.length;have l2:=r2.length;have l3:=rv.length;have l4:=rv2.length;have e':eN ps qs=some b:=by simpa [cn] using e
    rw[← lg ps qs b e',show ps.length=its.toArray.size by simp;omega,show qs.length=its2.toArray.size by simp;omega];refine EqAt.of_refs (fun z=>hv (by rw[z])) (RcAt.tuples pl pl2 hu0 fun j j1 j2=>?_);have:=mq I ps qs A.in1 xs ys its its2 b r1 r2 rv rv2 e' (by show A.units+1+_<_;omega) j (by simpa using j1) (by simpa using j2);simpa using this
  | _=>simp[cn] at e
 | .lst ps,q,A,v,u,v',u',b,h1,h2,e1,e2,e,hu=>by
  obtain⟨a,xs,rfl,g1,r1⟩:=bw.lst_inv h1;cases e1;obtain⟨its,rv,pl,_⟩:=I.list g1.l;simp only[Br] at hu;have hu0:A.units<cLine:=by omega
  cases q with
  | non=>cases (show u=.non from h2);cases e2;simp[cn] at e;subst e;exact EqAt.list_none pl.isList hu0
  | bl j=>cases (show u=.bl j from h2);cases e2;simp[cn] at e;subst e;exact EqAt.list_bool j pl.isList hu0
  | int j=>cases (show u=.int j from h2);obtain⟨t,rfl⟩:=e2;simp[cn] at e;subst e;exact EqAt.list_int j t pl.isList hu0
  | str j=>cases (show u=.str j from h2);obtain⟨t,rfl⟩:=e2;simp[cn] at e;subst e;exact EqAt.list_str j t pl.isList hu0
  | tup qs=>obtain⟨a2,ys,rfl,g,_⟩:=bw.tup_inv h2;cases e2;obtain⟨its2,_,pl2,_⟩:=I.tuple g;simp[cn] at e;subst e;exact EqAt.list_tuple pl.isList pl2 hu0
  | lst qs=>
   by_cases hv:V.ref a=u
   ·subst hv
    rw[jz I _ _ _ b h1 h2 e];cases e2;exact EqAt.same _
   ·obtain⟨a2,ys,rfl,g2,r2⟩:=bw.lst_inv h2
    cases e2;obtain⟨its2,rv2,pl2,_⟩:=I.list g2.l;have l1:=r1.length;have l2:=r2.length;have l3:=rv.length;have l4:=rv2.length;have e':eN ps qs=some b:=by simpa [cn] using e
    have hp:=lg ps qs b e';refine EqAt.of_refs (fun z=>hv (by rw[z])) ?_
    by_cases hl:ps.length=qs.length
    ·have hb:(Mz its.toArray.size).all (j9 ps qs)=b:=by
      rw[← hp,hl,Nat.min_self,beq_self_eq_true,SS,show its.toArray.size=qs.length by simp;omega]
     rw[← hb];refine RcAt.lists pl.isList pl2.isList (by simp;omega) hu0 fun j j1 j2=>?_;have:=mq I ps qs A.in1 xs ys its its2 b r1 r2 rv rv2 e' (by show A.units+1+_<_;omega) j (by simpa using j1) (by simpa using j2);simpa using this
    ·have hb:b=false:=by
      rw[← hp,beq_eq_false_iff_ne.mpr hl,OJ]
     rw[hb];exact RcAt.lists_lengths pl.isList pl2.isList (by simp;omega) hu0
  | _=>simp[cn] at e
 | .dct _ _,_,_,_,_,_,_,_,_,_,_,_,e,_=>by simp[cn] at e
 | .dtt _ _,_,_,_,_,_,_,_,_,_,_,_,e,_=>by simp[cn] at e
 | .fn _ _,_,_,_,_,_,_,_,_,_,_,_,e,_=>by simp[cn] at e
theorem mq(I:Inv X pins σ H s):∀(ps qs:List PV)(A:Mi)(xs ys:List V)(vs ws:List Value)(b:Bool),aM X.K H ps xs->aM X.K H qs ys->Vals xs vs->Vals ys ws->eN ps qs=some b->A.units+gD ps<cLine->
  ∀j (h1:j<vs.length) (h2:j<ws.length),EqAt A s vs[j] ws[j] (j9 ps qs j)
 | [],qs,A,xs,ys,vs,ws,b,r1,r2,rv,rw',e,hu,j,h1,h2=>by
  cases r1;cases rv;exact absurd h1 (OQ _)
 | p::ps,[],A,xs,ys,vs,ws,b,r1,r2,rv,rw',e,hu,j,h1,h2=>by
  cases r2;cases rw';exact absurd h2 (OQ _)
 | p::ps,q::qs,A,xs,ys,vs,ws,b,r1,r2,rv,rw',e,hu,j,h1,h2=>by
  obtain⟨x,r,rfl,p1,t1⟩:=r1;obtain⟨y,r',rfl,p2,t2⟩:=r2;cases rv with
  | cons a1 c1=>
   cases rw' with
   | cons a2 c2=>
    simp only[eN] at e;obtain⟨b1,e1,e⟩:=MQ.mp e;obtain⟨b2,e2,e⟩:=MQ.mp e;simp only[gD] at hu;cases j with
    | zero=>
     have:j9 (p::ps) (q::qs) 0=b1:=by simp[j9,e1]
     rw[this];exact xY I p q A x y _ _ b1 p1.o p2.o a1 a2 e1 (by omega)
    | succ j=>
     rw[nz];exact mq I ps qs A r r' _ _ b2 t1 t2 c1 c2 e2 (by omega) j (Sv h1) (Sv h2)
end
end
end PU
namespace PU
open PySem PySem.Spec PyProof.Rows L2 PySem.SeqAt PySem.Calls PyProof.V
variable[TW]
def EqW(P:MP)(w:Me)(A:Mi)(s:MB)(y x:Value)(b:Bool):Prop:=∀(E:Value->MB->Prop)(Q:Bool->MB->Prop),Q b s->MK (MV P w) A (eqBool y x) Q E s
theorem EqW.of{P:MP}{w:Me}{A:Mi}{s:MB}{y x:Value}{b:Bool}(h:EqAt A s y x b):EqW P w A s y x b:=fun E Q q=>h P w E Q q
section
variable{P : MP}{w : Me}{κ : Type}[DecidableEq κ]{kd : KeyKind P w κ}{A : Mi}{E : Value → MB → Prop}{s : MB}
inductive HitW (P:MP) (w:Me) (A:Mi) (s:MB) (other:List (κ×Value)):List (κ×Value)->Bool->Prop
 | done:HitW P w A s other [] true
 | lacks {k:κ} {v:Value} {t:List (κ×Value)}:Nu other k=none->HitW P w A s other ((k,v)::t) false
 | meets {k:κ} {v y:Value} {t:List (κ×Value)} {e b:Bool}:Nu other k=some y->EqW P w A s v y e->HitW P w A s other t b->HitW P w A s other ((k,v)::t) (e && b)
theorem HitW.split{other:List (κ×Value)}{k:κ}{v:Value}{t:List (κ×Value)}{b:Bool}(h:HitW P w A s other ((k,v)::t) b) :
  (Nu other k=none/\b=false)\/∃y e c,Nu other k=some y/\EqW P w A s v y e/\HitW P w A s other t c/\b=(e && c):=by
 cases h with
 | lacks n=>exact .inl ⟨n,rfl⟩
 | meets y1 y2 y3=>exact .inr ⟨_,_,_,y1,y2,y3,rfl⟩
theorem um{nm:String}{d1 d2:Addr}{l1 l2:List (κ×Value)}{r:Bool}{Q:Bool->MB->Prop}(n1:(d1 == NL)=false)(n2:(d2 == NL)=false)(D1:s.heap.DictOf kd d1 l1)(D2:s.heap.DictOf kd d2 l2)
  (hh:l1.length=l2.length->HitW P w A s l2 l1 r) (q:Q (l1.length == l2.length && r) s):MK (MV P w) A (RG nm d1 d2) Q E s:=by
 obtain⟨o1,es1,c1,get1,_,dat1,ks1,prs1,_⟩:=D1;obtain⟨o2,es2,c2,get2,_,dat2,ks2,prs2,_⟩:=D2;have len1:l1.length=es1.size:=by rw[← prs1.length];exact Na
 have len2:l2.length=es2.size:=by rw[← prs2.length];exact Na
 have seek:∀k,findBy kd.is es2 k=Nu l2 k:=fun k=>by
  rw[← prs2.find k];clear len2 prs2 ks2 dat2 get2;cases es2;simp[findBy]
 rw[len1,len2] at q;unfold RG Builtin.Dict.showsAll;rw[if_neg (by rw[n1];exact ML),if_neg (by rw[n2];exact ML)];refine MA (ME (MA (ME (MA (QJ get1 dat1 ?_)))));dsimp only;refine MA (QJ get2 dat2 ?_)
 by_cases sz:es1.size=es2.size
 case neg=>
  rw[if_pos (by simpa using sz)];have no:(es1.size == es2.size)=false:=by simpa using sz
  rw[no,Oe] at q;exact MA (Qo (ME q))
 case pos=>
  have q':Q r s:=by simpa [sz] using q
  have hh':=hh (by rw[len1,len2];exact sz);rw[if_neg (by rw[sz];simp)];refine MA (wpAny_dictEpoch get1 dat1 (MA ?_));rw[Std.Legacy.Range.forIn_eq_forIn_range'];simp only[Std.Legacy.Range.size,Nat.sub_zero,Nat.add_sub_cancel,Nat.div_one];refine Rr _ (fun todo z s'=>s'=s/\z=(none,())/\∃j,todo=T6 j (es1.size-j)/\j<=es1.size/\HitW P w A s l2 (l1.drop j) r) _ ?_ ?_ _ _ ⟨rfl,rfl,0,by simp,O5 _,hh'⟩
  ·rintro x todo z s' ⟨rfl,rfl,j,et,hj,rest⟩
   have lt:j<es1.size:=by
    rcases Nat.lt_or_ge j es1.size with g | g
    ·exact g
    ·rw[Nat.sub_eq_zero_of_le g] at et;simp at et
   have e1:es1.size-j=(es1.size-(j+1))+1:=by omega
   rw[e1,PP] at et;injection et with ex et;subst ex;refine MA (QJ get1 dat1 ?_);rw[Ol lt];have lt':x<l1.length:=by rw[len1];exact lt
   obtain⟨k,v,ekv⟩:∃k v,l1[x]=(k,v):=⟨_,_,rfl⟩;have cut:l1.drop x=(k,v)::l1.drop (x+1):=by rw[← ekv];exact On lt'
   obtain⟨isk,isv⟩:=prs1.get? (i:=x) (e:=es1[x]) (k:=k) (v:=v) (by rw[Sg];exact Ol lt) (by rw[Ml lt',ekv]);obtain⟨k',isk',hs⟩:=ks1 es1[x] (Array.getElem_mem lt);have ek:k'=k:=kd.inj _ _ _ isk' isk;rw[ek] at hs;rw[cut] at rest;show MK _ _ (Qp [es1[x].key,es1[x].val] _ >>= _) _ _ _;rw[hs];refine MA (Nt (MA (wpAny_dictFind_of isk get2 dat2 ks2 ?_)));cases at2:es2.findIdx? fun e=>kd.is k e.key with
   | none=>
    have nn:Nu l2 k=none:=by rw[← seek k,findBy_of_findIdx?,at2]
    rcases rest.split with⟨_,er⟩|⟨y,_,_,hy,_⟩
    ·rw[er] at q'
     refine ME ?_;show MK _ _ (if (!false)=true then _ else _) _ _ _;rw[if_pos (by decide)];exact ME (ME q')
    ·rw[nn] at hy;cases hy
   | some m=>
    obtain⟨mlt,_,_⟩:=Array.findIdx?_eq_some_iff_getElem.mp at2
    have vv:Nu l2 k=some es2[m].val:=by
     rw[← seek k,findBy_of_findIdx?,at2];simp[Ol mlt]
    refine MA (QJ get2 dat2 ?_);rw[Ol mlt];rcases rest.split with⟨nn,_⟩|⟨y,e,c,hy,he,ht,er⟩
    ·rw[vv] at nn;cases nn
    ·have ey:es2[m].val=y:=N6 (vv.symm.trans hy)
     rw[← ey,← isv] at he;refine Nt (he _ _ ?_);cases e with
     | false=>
      rw[er,Oe] at q';show MK _ _ (if (!false)=true then _ else _) _ _ _;rw[if_pos (by decide)];exact ME (ME q')
     | true=>
      rw[P4] at er;rw[← er] at ht;show MK _ _ (if (!true)=true then _ else _) _ _ _;rw[if_neg (by decide)];refine MA (wpAny_dictEpoch get1 dat1 ?_);rw[if_neg (by simp)];exact ME ⟨rfl,rfl,x+1,et,lt,ht⟩
  ·rintro z s' ⟨rfl,rfl,j,et,hj,rest⟩
   have ej:j=es1.size:=by
    rcases Nat.lt_or_ge j es1.size with g | g
    ·have e1:es1.size-j=(es1.size-(j+1))+1:=by omega
     rw[e1,PP] at et;cases et
    ·exact Nat.le_antisymm hj g
   refine ME ?_;rw[ej,← len1,QE] at rest;cases rest;exact q'
theorem lq{d1 d2:Addr}{l1 l2:List (κ×Value)}{r:Bool}{Q:Value->MB->Prop}(n1:(d1 == NL)=false)(n2:(d2 == NL)=false)(D1:s.heap.DictOf kd d1 l1)(D2:s.heap.DictOf kd d2 l2)(hu:A.units<cLine)
  (hh:l1.length=l2.length->HitW P w A.in1 s l2 l1 r) (q:Q (.bool (l1.length == l2.length && r)) s):MK (MV P w) A (richCompare .Eq (.ref d1) (.ref d2)) Q E s:=by
 refine wpAny_richCompare_same_room (op:=.Eq) D1.typeIs D2.typeIs SX (OM SX D1.typeIs PySem.F.entry_dict_eq ?_ (PySem.F.args_dict_eq_2 _ _)) hu;show MK _ _ (R5 "__eq__" ⟨[.ref d1,.ref d2],[]⟩ >>= _) _ _ s;unfold R5;refine MA (MA (wpAny_notOrdered_dict D1.typeIs ?_));show MK _ _ (pure (Mq d1,Mq d2)) _ _ s;refine ME (MA (Qe (T:="dict") D2.typeIs PySem.F.sub_dict_dict ?_));simp only[SQ,O9,if_false];refine MA (ME (MA (ME (MA (um n1 n2 D1 D2 hh (ME ⟨_,rfl,(fun z=>nomatch z),?_⟩))))));simpa using q
end
section
variable{X : Cx}{pins : List (Addr×Obj)}{σ : L2.St}{H : Hp}{s : MB}
theorem mX{kvs:List (Key×V)}{vs:List (Key×Value)}(r:KV kvs vs)(k:Key):(o4 kvs k=none/\Nu vs k=none)\/∃v u,o4 kvs k=some v/\Nu vs k=some u/\RelV v u:=by
 induction r with
 | nil=>exact .inl ⟨rfl,rfl⟩
 | @cons p q ps qs h t ih=>
  obtain⟨h1,h2⟩:=h
  by_cases e:p.1=k
  ·refine .inr ⟨p.2,q.2,gu e,?_,h2⟩
   simp[Nu,OE,← h1,e]
  ·rw[dm e]
   have e2:Nu (q::qs) k=Nu qs k:=by simp[Nu,OE,← h1,e]
   rw[e2];exact ih
theorem nF{k:Key}:∀{ks:List Key}{ps:List PV}{kvs:List (Key×V)},kvs.map (·.1)=ks->ps.length=kvs.length->fV ks ps k=none->o4 kvs k=none
 | [],_,kvs,e,_,_=>by
  have:kvs=[]:=by simpa using e
  subst this;rfl
 | j::ks,[],kvs,e,hl,_=>by
  have:kvs.length=0:=by simpa using hl.symm
  have:kvs=[]:=Nb this;subst this;cases e
 | j::ks,p::ps,kv::kvs,e,hl,h=>by
  have e1:kv.1=j:=by simpa using congrArg R0 e
  have e2:kvs.map (·.1)=ks:=by simpa using congrArg RI e
  have h:(if j=k then some p else fV ks ps k)=none:=h;split at h
  ·cases h
  ·rename_i hn
   rw[dm (by rw[e1];exact hn)];exact nF e2 (by simpa using hl) h
 | j::ks,p::ps,[],e,_,_=>by cases e
theorem jF{K:M9}{H:Hp}{k:Key}:∀{ks:List Key}{ps:List PV}{kvs:List (Key×V)}{p:PV},kvs.map (·.1)=ks->aM K H ps (kvs.map (·.2))->fV ks ps k=some p->∃v,o4 kvs k=some v/\Rep K H p v
 | _,_,[],_,h1,h2,e=>by
  subst h1;simp only[RA,fV] at e;cases e
 | _,[],kv::kvs,_,h1,h2,e=>by
  cases h2
 | _,q::ps,kv::kvs,p,h1,h2,e=>by
  subst h1;obtain⟨x,r,ex,hx,ht⟩:=h2;simp only[MN,R6] at ex;obtain⟨rfl,rfl⟩:=ex;simp only[MN,fV] at e
  by_cases hk:kv.1=k
  ·rw[if_pos hk] at e
   cases e;exact⟨kv.2,gu hk,hx⟩
  ·rw[if_neg hk] at e
   rw[dm hk];exact jF rfl ht e
theorem oQ(A:Mi)(eqf:PV->PV->Option Bool)(I:Inv X pins σ H s){ls:List Key}{qs:List PV}{kvs2:List (Key×V)}{vs2:List (Key×Value)}(e2:kvs2.map (·.1)=ls)(r2:aM X.K H qs (kvs2.map (·.2)))(kv2:KV kvs2 vs2) :
  ∀(ks:List Key)(ps:List PV)(kvs1:List (Key×V))(vs1:List (Key×Value))(b:Bool),kvs1.map (·.1)=ks->aM X.K H ps (kvs1.map (·.2))->KV kvs1 vs1->mh eqf ks ps ls qs=some b->
   (∀p∈ps,∀(q:PV)(v u:V)(v' u':Value)(c:Bool),bw X.K H p v->bw X.K H q u->RelV v v'->RelV u u'->eqf p q=some c->EqW X.prog X.w A s v' u' c)->HitW X.prog X.w A s vs2 vs1 b
 | [],[],kvs1,vs1,b,e1,r1,kv1,h,_=>by
  have:kvs1=[]:=by simpa using e1
  subst this;cases kv1;have h:some true=some b:=h;cases h;exact .done
 | k::ks,p::ps,kvs1,vs1,b,e1,r1,kv1,h,he=>by
  cases kvs1 with
  | nil=>cases e1
  | cons kv kvs=>
   have ek:kv.1=k:=by simpa using congrArg R0 e1
   have et:kvs.map (·.1)=ks:=by simpa using congrArg RI e1
   obtain⟨x,r,ex,rp,rt⟩:=r1;have exx:kv.2=x:=by simpa using congrArg R0 ex
   have err:kvs.map (·.2)=r:=by simpa using congrArg RI ex
   cases kv1 with
   | @cons _ q _ qs' hd tl=>
    obtain⟨k',u1⟩:=q;obtain⟨h1,h2⟩:=hd;have h1:kv.1=k':=h1;have h2:RelV kv.2 u1:=h2;subst err;rw[← h1,ek];unfold mh at h;cases hl:fV ls qs k with
    | none=>
     rw[hl] at h;have h:some false=some b:=h;cases h;have:=nF e2 (by rw[r2.length,MC]) hl;rcases mX kv2 k with⟨_,z⟩|⟨v,u,z,_⟩
     ·exact .lacks z
     ·rw[this] at z;cases z
    | some q2=>
     rw[hl] at h;have h:((eqf p q2).bind fun a=>(mh eqf ks ps ls qs).bind fun b=>some (a && b))=some b:=h;obtain⟨c1,g1,h⟩:=MQ.mp h;obtain⟨c2,g2,h⟩:=MQ.mp h;cases h;obtain⟨v2,ev2,rp2⟩:=jF e2 r2 hl;rcases mX kv2 k with⟨z,_⟩|⟨v,u,z,z2,z3⟩
     ·rw[ev2] at z;cases z
     ·rw[ev2] at z
      cases z;exact .meets z2 (he p Mb q2 kv.2 v2 u1 u c1 (exx▸rp.o) rp2.o h2 z3 g1) (oQ A eqf I e2 r2 kv2 ks ps kvs qs' c2 et rt tl g2 fun p' hp'=>he p' (MY _ hp'))
 | [],_::_,_,_,_,_,_,_,h,_=>by cases h
 | _::_,[],_,_,_,_,_,_,h,_=>by cases h
theorem wZ{k:Key}{r:PV}:∀(ks:List Key)(ps:List PV),ks.length=ps.length->k ∉ ks->∀(ls:List Key)(qs:List PV),fV (ks++k::ls) (ps++r::qs) k=some r
 | [],[],_,_,ls,qs=>by
  show (if k=k then some r else _)=_;rw[if_pos rfl]
 | j::ks,p::ps,hl,hn,ls,qs=>by
  show (if j=k then some p else fV (ks++k::ls) (ps++r::qs) k)=_;rw[if_neg (fun e=>hn (by rw[e];exact Mb))];exact wZ ks ps (by simpa using hl) (fun h=>hn (MY _ h)) ls qs
 | [],_::_,h,_,_,_=>by simp at h
 | _::_,[],h,_,_,_=>by simp at h
theorem qg{P:MP}{w:Me}{κ:Type}[DecidableEq κ]{kd:KeyKind P w κ}:∀{es:List DictEntry}{l1 l2:List (κ×Value)},Pairs kd es l1->Pairs kd es l2->l1=l2
 | _,_,_,.nil,.nil=>rfl
 | _,_,_,.cons a b c,.cons a' b' c'=>by
  rw[qg c c'];have h1:=kd.inj _ _ _ a a';have h2:=b.symm.trans b';rw[Prod.ext h1 h2]
theorem uO{P:MP}{w:Me}{κ:Type}[DecidableEq κ]{kd:KeyKind P w κ}{h:Heap}{a:Addr}{l1 l2:List (κ×Value)}(d1:h.DictOf kd a l1)(d2:h.DictOf kd a l2):l1=l2:=by
 obtain⟨o1,es1,c1,get1,_,dat1,_,prs1,_⟩:=d1;obtain⟨o2,es2,c2,get2,_,dat2,_,prs2,_⟩:=d2;rw[get1] at get2;cases get2;rw[dat1] at dat2;cases dat2;exact qg prs1 prs2
theorem BH:∀{l1 l2:List (Key×V)}{vs:List (Key×Value)},KV l1 vs->KV l2 vs->l1=l2
 | _,_,_,.nil,.nil=>rfl
 | _,_,_,.cons a c,.cons a' c'=>by
  rw[BH c c'];rw[Prod.ext (a.1.trans a'.1.symm) (RelV.inj a.2 a'.2)]
theorem xi:∀{l:List (Key×V)}{vs:List (Key×Value)},KV l vs->l.map (·.1)=vs.map (·.1)
 | _,_,.nil=>rfl
 | _,_,.cons a c=>by rw[MN,MN,xi c,a.1]
theorem qD(eqf:PV->PV->Option Bool)(he:∀(p q:PV)(v:V)(c:Bool),Rep X.K H p v->Rep X.K H q v->eqf p q=some c->c=true):∀(kvs kvs0:List (Key×V))(qs0 qs ps:List PV)(b:Bool),
  ((kvs0++kvs).map (·.1)).Nodup->aM X.K H qs0 (kvs0.map (·.2))->aM X.K H qs (kvs.map (·.2))->aM X.K H ps (kvs.map (·.2))->mh eqf (kvs.map (·.1)) ps ((kvs0++kvs).map (·.1)) (qs0++qs)=some b->b=true
 | [],kvs0,qs0,qs,ps,b,nd,r0,rq,rp,h=>by
  have:ps=[]:=Nb (by rw[rp.length];rfl);subst this;have h:some true=some b:=h;cases h;rfl
 | kv::kvs,kvs0,qs0,[],ps,b,nd,r0,rq,rp,h=>by
  have:=rq.length;simp at this
 | kv::kvs,kvs0,qs0,q::qs,[],b,nd,r0,rq,rp,h=>by
  have:=rp.length;simp at this
 | kv::kvs,kvs0,qs0,q::qs,p::ps,b,nd,r0,rq,rp,h=>by
  obtain⟨x,r,ex,rp1,rpt⟩:=rp;obtain⟨y,r',ey,rq1,rqt⟩:=rq;have exx:kv.2=x:=by simpa using congrArg R0 ex
  have err:kvs.map (·.2)=r:=by simpa using congrArg RI ex
  have eyy:kv.2=y:=by simpa using congrArg R0 ey
  have err':kvs.map (·.2)=r':=by simpa using congrArg RI ey
  subst exx eyy err;rw[← err'] at rqt
  have nk:kv.1 ∉ kvs0.map (·.1):=fun z=>by
   rw[Mp,OF] at nd;exact nd.2.2 _ z _ (by simp) rfl
  have lk:fV ((kvs0++kv::kvs).map (·.1)) (qs0++q::qs) kv.1=some q:=by
   rw[Mp,MN];exact wZ _ _ (by rw[MC,r0.length,MC]) nk _ _
  rw[MN] at h;unfold mh at h;rw[lk] at h;have h:((eqf p q).bind fun a=>(mh eqf (kvs.map (·.1)) ps ((kvs0++kv::kvs).map (·.1)) (qs0++q::qs)).bind fun b=>some (a && b))=some b:=h;obtain⟨c1,g1,h⟩:=MQ.mp h;obtain⟨c2,g2,h⟩:=MQ.mp h;cases h;rw[he p q kv.2 c1 rp1 rq1 g1];have:=qD eqf he kvs (kvs0++[kv]) (qs0++[q]) qs ps c2 (by simpa using nd) (by rw[Mp];exact r0.append (aM.cons rq1 aM.nil)) rqt rpt (by simpa using g2);rw[this];rfl
theorem wz(hw:X.w=TW.w)(I:Inv X pins σ H s):∀(n:Nat)(p q:PV)(v:V)(b:Bool),bw X.K H p v->bw X.K H q v->yJ n p q=some b->b=true:=by
 intro n
 induction n with
 | zero=>
  intro p q v b h1 h2 e;have e:cn p q=some b:=by cases p <;> exact e
  exact jz I p q v b h1 h2 e
 | succ n ih=>
  intro p q v b h1 h2 e
  by_cases hd:∃ks ps ls qs,p=.dct ks ps/\q=.dct ls qs
  ·obtain⟨ks,ps,ls,qs,rfl,rfl⟩:=hd
   have e:(if ks.length=ls.length then mh (yJ n) ks ps ls qs else some false)=some b:=e;obtain⟨a1,kvs1,rfl,d1,k1,r1⟩:=h1;obtain⟨a2,kvs2,ea,d2,k2,r2⟩:=h2;cases ea;obtain⟨_,n1,vs1,kv1,D1⟩:=DkR.at hw I d1;obtain⟨_,n2,vs2,kv2,D2⟩:=DkR.at hw I d2;have:=uO D1 D2;subst this;have:=BH kv1 kv2;subst this;subst k1;subst k2;rw[if_pos rfl] at e;obtain⟨_,_,_,_,_,_,_,_,nd⟩:=D1;exact qD (yJ n) (fun p q v c g1 g2 g=>ih p q v c g1.o g2.o g) kvs1 [] [] qs ps b (by rw[RY,xi kv1];exact nd) aM.nil r2 r1 (by simpa using e)
  ·have e:cn p q=some b:=by
    rw[← e];cases p with
    | dct ks ps=>
     cases q with
     | dct ls qs=>exact absurd ⟨ks,ps,ls,qs,rfl,rfl⟩ hd
     | _=>rfl
    | _=>rfl
   exact jz I p q v b h1 h2 e
theorem DV(hw:X.w=TW.w)(I:Inv X pins σ H s):∀(n:Nat)(p q:PV)(A:Mi)(v u:V)(v' u':Value)(b:Bool),bw X.K H p v->bw X.K H q u->RelV v v'->RelV u u'->yJ n p q=some b->A.units+Br p<cLine->EqW X.prog X.w A s v' u' b:=by
 intro n
 induction n with
 | zero=>
  intro p q A v u v' u' b h1 h2 e1 e2 e hu;have e:cn p q=some b:=by cases p <;> exact e
  exact .of (xY I p q A v u v' u' b h1 h2 e1 e2 e hu)
 | succ n ih=>
  intro p q A v u v' u' b h1 h2 e1 e2 e hu
  by_cases hd:∃ks ps ls qs,p=.dct ks ps/\q=.dct ls qs
  ·obtain⟨ks,ps,ls,qs,rfl,rfl⟩:=hd
   have e0:=e;have h10:=h1;have h20:=h2;have e:(if ks.length=ls.length then mh (yJ n) ks ps ls qs else some false)=some b:=e;obtain⟨a1,kvs1,rfl,d1,k1,r1⟩:=h1;obtain⟨a2,kvs2,rfl,d2,k2,r2⟩:=h2;cases e1;cases e2;obtain⟨_,n1,vs1,kv1,D1⟩:=DkR.at hw I d1;obtain⟨_,n2,vs2,kv2,D2⟩:=DkR.at hw I d2;have l1:vs1.length=ks.length:=by rw[← k1,MC];exact(NP kv1).symm
   have l2:vs2.length=ls.length:=by rw[← k2,MC];exact(NP kv2).symm
   simp only[Br] at hu;have hu0:A.units<cLine:=by omega
   have dep:∀p∈ps,Br p<=gD ps:=fun p hp=>by
    obtain⟨j,hj⟩:=QY.mp hp;exact oz hj
   by_cases same:a1=a2
   ·subst same
    rw[wz hw I (n+1) _ _ _ b h10 h20 e0];exact .of (EqAt.same _)
   ·intro E Q hq
    unfold eqBool;refine Nt (wpAny_ite_split (fun hab=>absurd (by have:=S7 hab;injection this) same) fun _=>MA ?_)
    by_cases hl:ks.length=ls.length
    ·rw[if_pos hl] at e
     refine lq (r:=b) n1 n2 D1 D2 hu0 (fun _=>oQ A.in1 (yJ n) I k2 r2 kv2 ks ps kvs1 vs1 b k1 r1 kv1 e fun p hp q v u v' u' c g1 g2 g3 g4 g5=>ih p q A.in1 v u v' u' c g1 g2 g3 g4 g5 ?_) (ND ?_)
     ·have:=dep p hp
      show A.units+1+_<_;omega
     ·have:(vs1.length == vs2.length)=true:=by rw[l1,l2,hl];simp
      rw[this,P4];exact hq
    ·rw[if_neg hl] at e
     cases e;refine lq (r:=false) n1 n2 D1 D2 hu0 (fun z=>absurd (by rw[← l1,← l2];exact z) hl) (ND ?_);rw[OJ];exact hq
  ·have e:cn p q=some b:=by
    rw[← e];cases p with
    | dct ks ps=>
     cases q with
     | dct ls qs=>exact absurd ⟨ks,ps,ls,qs,rfl,rfl⟩ hd
     | _=>rfl
    | _=>rfl
   exact .of (xY I p q A v u v' u' b h1 h2 e1 e2 e hu)
end
end PU
namespace PU
open PySem PySem.Spec PyProof.Rows L2 PySem.SeqAt
variable[TW]
theorem cL{K:M9}{H:Hp}{p:PV}{v:V}(h:mR p=true)(r:bw K H p v):v=scV p:=by
 cases p with
 | non=>exact r
 | bl b=>exact r
 | int i=>exact r
 | str x=>exact r
 | _=>cases h
section
variable{X : Cx}
theorem sG{pins:List (Addr×Obj)}{σ:L2.St}{H:Hp}{s:MB}{ps qs:List PV}{v u:V}{v' u':Value}{b:Bool}(hu:X.A.units+64<cLine)(I:Inv X pins σ H s)(e:eN ps qs=some b)(hd:gD ps<=60) :
  (bw X.K H (.tup ps) v->bw X.K H (.tup qs) u->RelV v v'->RelV u u'->RcAt X.A s v' u' b/\RcNeAt X.A s v' u' (!b))/\
  (bw X.K H (.lst ps) v->bw X.K H (.lst qs) u->RelV v v'->RelV u u'->RcAt X.A s v' u' b/\RcNeAt X.A s v' u' (!b)):=by
 have hu0:X.A.units<cLine:=by omega
 have hp:=lg ps qs b e;constructor
 ·intro h1 h2 e1 e2
  obtain⟨a,xs,rfl,g1,r1⟩:=bw.tup_inv h1;obtain⟨a2,ys,rfl,g2,r2⟩:=bw.tup_inv h2;cases e1;cases e2;obtain⟨its,rv,pl,_⟩:=I.tuple g1;obtain⟨its2,rv2,pl2,_⟩:=I.tuple g2;have l1:=r1.length;have l2:=r2.length;have l3:=rv.length;have l4:=rv2.length
  have each:∀j (j1:j<its.toArray.size) (j2:j<its2.toArray.size),EqAt X.A.in1 s its.toArray[j] its2.toArray[j] (j9 ps qs j):=fun j j1 j2=>by
   have:=mq I ps qs X.A.in1 xs ys its its2 b r1 r2 rv rv2 e (by show X.A.units+1+_<_;omega) j (by simpa using j1) (by simpa using j2);simpa using this
  rw[← hp,show ps.length=its.toArray.size by simp;omega,show qs.length=its2.toArray.size by simp;omega];exact⟨RcAt.tuples pl pl2 hu0 each,RcNeAt.tuples pl pl2 hu0 each⟩
 ·intro h1 h2 e1 e2
  obtain⟨a,xs,rfl,g1,r1⟩:=bw.lst_inv h1;obtain⟨a2,ys,rfl,g2,r2⟩:=bw.lst_inv h2;cases e1;cases e2;obtain⟨its,rv,pl,_⟩:=I.list g1.l;obtain⟨its2,rv2,pl2,_⟩:=I.list g2.l;have l1:=r1.length;have l2:=r2.length;have l3:=rv.length;have l4:=rv2.length
  have each:∀j (j1:j<its.toArray.size) (j2:j<its2.toArray.size),EqAt X.A.in1 s its.toArray[j] its2.toArray[j] (j9 ps qs j):=fun j j1 j2=>by
   have:=mq I ps qs X.A.in1 xs ys its its2 b r1 r2 rv rv2 e (by show X.A.units+1+_<_;omega) j (by simpa using j1) (by simpa using j2);simpa using this
  by_cases hl:ps.length=qs.length
  ·have hb:(Mz its.toArray.size).all (j9 ps qs)=b:=by
    rw[← hp,hl,Nat.min_self,beq_self_eq_true,SS,show its.toArray.size=qs.length by simp;omega]
   rw[← hb];exact⟨RcAt.lists pl.isList pl2.isList (by simp;omega) hu0 each,RcNeAt.lists pl.isList pl2.isList (by simp;omega) hu0 each⟩
  ·have hb:b=false:=by
    rw[← hp,beq_eq_false_iff_ne.mpr hl,OJ]
   rw[hb];exact⟨RcAt.lists_lengths pl.isList pl2.isList (by simp;omega) hu0,RcNeAt.lists_lengths pl.isList pl2.isList (by simp;omega) hu0⟩
theorem iJ(hu:X.A.units+64<cLine)(hw:X.w=TW.w:=by rfl):OpR X (Mx .Eq) (rP X.K gEq):=by
 intro pins s σ H x y v u Q I rx ry ⟨p,q,z,hp,hq,e,k⟩;unfold gEq at e;split at e
 ·rename_i ks ps ls qs
  split at e
  ·rename_i hd
   obtain⟨b,eb,ez⟩:=MR.mp e;subst ez;have eb:(if ks.length=ls.length then mh (yJ 2) ks ps ls qs else some false)=some b:=eb;obtain⟨a1,kvs1,rfl,d1,k1,r1⟩:=hp;obtain⟨a2,kvs2,rfl,d2,k2,r2⟩:=hq;cases rx;cases ry;obtain⟨_,n1,vs1,kv1,D1⟩:=DkR.at hw I d1;obtain⟨_,n2,vs2,kv2,D2⟩:=DkR.at hw I d2;have l1:vs1.length=ks.length:=by rw[← k1,MC];exact(NP kv1).symm
   have l2:vs2.length=ls.length:=by rw[← k2,MC];exact(NP kv2).symm
   have fin:EP X pins σ Q (.bool b) s:=⟨.bl b,H,I,rfl,k _ H (Same.refl H) rfl⟩;have hu0:X.A.units<cLine:=by omega
   by_cases hl:ks.length=ls.length
   ·rw[if_pos hl] at eb
    refine lq (r:=b) n1 n2 D1 D2 hu0 (fun _=>oQ X.A.in1 (yJ 2) I k2 r2 kv2 ks ps kvs1 vs1 b k1 r1 kv1 eb fun p hp q v u v' u' c g1 g2 g3 g4 g5=>DV hw I 2 p q X.A.in1 v u v' u' c g1 g2 g3 g4 g5 ?_) ?_
    ·obtain⟨j,hj⟩:=QY.mp hp
     have:=oz hj;show X.A.units+1+_<_;omega
    ·have:(vs1.length == vs2.length)=true:=by rw[l1,l2,hl];simp
     rw[this,P4];exact fin
   ·rw[if_neg hl] at eb
    cases eb;refine lq (r:=false) n1 n2 D1 D2 hu0 (fun z=>absurd (by rw[← l1,← l2];exact z) hl) ?_;rw[OJ];exact fin
  ·cases e
 ·split at e
  ·rename_i hd
   obtain⟨b,eb,ez⟩:=MR.mp e;subst ez;exact((sG hu I eb hd).1 hp hq rx ry).1 _ _ _ _ ⟨.bl b,H,I,rfl,k _ H (Same.refl H) rfl⟩
  ·cases e
 ·split at e
  ·rename_i hd
   obtain⟨b,eb,ez⟩:=MR.mp e;subst ez;exact((sG hu I eb hd).2 hp hq rx ry).1 _ _ _ _ ⟨.bl b,H,I,rfl,k _ H (Same.refl H) rfl⟩
  ·cases e
 ·split at e
  ·rename_i hc
   obtain⟨h1,h2,h3⟩:=hc;cases e;rw[cL h1 hp] at rx;rw[cL h2 hq] at ry;exact Je pins s σ H _ _ v u Q I rx ry ⟨h3,k _ H (Same.refl H) rfl⟩
  ·cases e
theorem Bt(hu:X.A.units+64<cLine):OpR X (Mx .NotEq) (rP X.K gNe):=by
 intro pins s σ H x y v u Q I rx ry ⟨p,q,z,hp,hq,e,k⟩;unfold gNe at e;split at e
 ·split at e
  ·rename_i hd
   obtain⟨b,eb,ez⟩:=MR.mp e;subst ez;exact((sG hu I eb hd).1 hp hq rx ry).2 _ _ _ _ ⟨.bl (!b),H,I,rfl,k _ H (Same.refl H) rfl⟩
  ·cases e
 ·split at e
  ·rename_i hd
   obtain⟨b,eb,ez⟩:=MR.mp e;subst ez;exact((sG hu I eb hd).2 hp hq rx ry).2 _ _ _ _ ⟨.bl (!b),H,I,rfl,k _ H (Same.refl H) rfl⟩
  ·cases e
 ·split at e
  ·rename_i hc
   obtain⟨h1,h2,h3⟩:=hc;cases e;rw[cL h1 hp] at rx;rw[cL h2 hq] at ry;exact Ja pins s σ H _ _ v u Q I rx ry ⟨h3,k _ H (Same.refl H) rfl⟩
  ·cases e
theorem D9:OpR X (Mx .Lt) (rP X.K gLt):=by
 intro pins s σ H x y v u Q I rx ry ⟨p,q,z,hp,hq,e,k⟩;unfold gLt at e;split at e
 ·rename_i i j
  cases e;cases (show x=.int i from hp);cases (show y=.int j from hq);exact Jb pins s σ H _ _ v u Q I rx ry ⟨i,j,rfl,rfl,k _ H (Same.refl H) rfl⟩
 ·rename_i i j
  cases e;cases (show x=.str i from hp);cases (show y=.str j from hq);exact wH pins s σ H _ _ v u Q I rx ry ⟨i,j,rfl,rfl,k _ H (Same.refl H) rfl⟩
 ·cases e
theorem Jg:OpR X (Mx .Gt) (rP X.K gGt):=sP Jd fun p q z e=>by
 unfold gGt at e;split at e
 ·rename_i i j
  cases e;exact⟨i,j,rfl,rfl,_,fun _ _=>rfl,fun H Q q=>⟨i,j,rfl,rfl,q⟩⟩
 ·cases e
theorem Bu:OpR X (Mx .LtE) (rP X.K gLe):=by
 intro pins s σ H x y v u Q I rx ry ⟨p,q,z,hp,hq,e,k⟩;unfold gLe at e;split at e
 ·rename_i i j
  cases e;cases (show x=.int i from hp);cases (show y=.int j from hq);exact Jc pins s σ H _ _ v u Q I rx ry ⟨i,j,rfl,rfl,k _ H (Same.refl H) rfl⟩
 ·rename_i i j
  cases e;cases (show x=.str i from hp);cases (show y=.str j from hq);obtain⟨t,rfl⟩:=rx;obtain⟨t',rfl⟩:=ry;exact PySem.P.le_str ⟨.bl _,H,I,rfl,k _ H (Same.refl H) rfl⟩
 ·cases e
theorem CK{K:M9}{H:Hp}{p:PV}{v:V}(r:bw K H p v):decide (v=.non)=kj p:=by
 cases p with
 | non=>cases (show v=.non from r);rfl
 | bl b=>cases (show v=.bl b from r);rfl
 | int b=>cases (show v=.int b from r);rfl
 | str b=>cases (show v=.str b from r);rfl
 | tup ps=>obtain⟨a,xs,rfl,_⟩:=bw.tup_inv r;rfl
 | lst ps=>obtain⟨a,xs,rfl,_⟩:=bw.lst_inv r;rfl
 | dct ks ps=>obtain⟨a,kvs,rfl,_⟩:=r;rfl
 | dtt ks ps=>obtain⟨a,kvs,rfl,_⟩:=r;rfl
 | fn L cs=>obtain⟨f,_,_,_,_,_,rfl,_⟩:=(show Rep K H (.fn L cs) v from r);rfl
theorem Jf:OpR X (Mx .Is) (rP X.K DH):=by
 intro pins s σ H x y v u Q I rx ry ⟨p,q,z,hp,hq,e,k⟩;unfold DH at e;split at e
 ·cases e
  cases (show y=.non from hq);refine Ge pins s σ H _ _ v u Q I rx ry ⟨rfl,?_⟩;rw[CK hp];exact k _ H (Same.refl H) rfl
 ·cases e
end
end PU
namespace PU
open PySem PySem.Spec PyProof.Rows L2 PySem.SeqAt
variable[TW]
theorem gP{K:M9}{H:Hp}{p:PV}{v:V}{k:Key}(e:lA p=some k)(r:bw K H p v):v=kV k:=by
 cases p with
 | int i=>cases e;exact r
 | str i=>cases e;exact r
 | _=>cases e
theorem sN{K:M9}{H:Hp}{ps:List PV}{xs:List V}{i:Int}{p:PV}(r:aM K H ps xs)(e:atI ps i=some p):∃v,atI xs i=some v/\Rep K H p v:=by
 unfold atI at e ⊢;rw[← r.length];obtain⟨j,ej,e2⟩:=MQ.mp e;obtain⟨v,ev,rp⟩:=r.get e2;exact⟨v,by rw[ej];exact ev,rp⟩
section
variable{X : Cx}
theorem ixP(hu:X.A.units+64<cLine)(hw:X.w=TW.w:=by rfl):IxR X (rP X.K gIx):=by
 intro value slice pins s σ H x y v u Q I rx ry ⟨p,q,z,hp,hq,e,k⟩ hs;have h16:=My;unfold gIx at e;split at e
 ·rename_i ps i
  obtain⟨a,xs,rfl,g,r⟩:=bw.lst_inv hp;cases (show y=.int i from hq);obtain⟨w,ew,rp⟩:=sN r e;exact Dt value slice pins s σ H _ _ v u Q I rx ry ⟨a,xs,i,w,rfl,rfl,g.l,ew,k w H (Same.refl H) rp⟩ hs
 ·rename_i ps i
  obtain⟨a,xs,rfl,g,r⟩:=bw.tup_inv hp;cases (show y=.int i from hq);obtain⟨w,ew,rp⟩:=sN r e;exact GO value slice pins s σ H _ _ v u Q I rx ry ⟨a,xs,i,w,rfl,rfl,g,ew,k w H (Same.refl H) rp⟩ hs
 ·rename_i t i
  split at e
  ·rename_i hl
   obtain⟨c,ec,ez⟩:=MR.mp e;subst ez;cases (show x=.str t from hp);cases (show y=.int i from hq);exact GP value slice pins s σ H _ _ v u Q I rx ry ⟨t,i,c,rfl,rfl,by omega,ec,k _ H (Same.refl H) rfl⟩ hs
  ·cases e
 ·rename_i ks ps
  obtain⟨kk,ek,e⟩:=MQ.mp e;obtain⟨a,kvs,rfl,g,e1,r⟩:=hp;cases rx;have hy:=gP ek hq;subst hy;obtain⟨w,ew,rp⟩:=jF e1 r e;obtain⟨zz,hd,vs,rel,dd⟩:=DkR.at hw I g;obtain⟨w',hw,rw'⟩:=sv.some_of (v:=w) (o:=Nu vs kk) (by rw[← ew];exact rel.val kk);exact tail_any dd.typeIs RW.lookup (wpAny_getItem_of (oK ry) dd.mapOf hw ⟨w,H,I.tok _,rw',k w H (Same.refl H) rp⟩) hs
 ·cases e
theorem qY{K:M9}{H:Hp}:∀{qs:List PV}{xs:List V},qs.all mR=true->aM K H qs xs->xs=qs.map scV/\xs.all mV=true
 | [],_,_,r=>by cases r;exact⟨rfl,rfl⟩
 | q::qs,_,h,⟨x,t,e,h1,h2⟩=>by
  subst e;simp only[P3,Mk] at h;obtain⟨e1,e2⟩:=qY h.2 h2;have hx:=cL h.1 h1.o;refine⟨by rw[MN,hx,e1],?_⟩;rw[P3,e2,SS,hx];cases q <;> first | rfl | cases h.1
theorem oj{p:PV}(h:mR p=true):mV (scV p)=true:=by
 cases p <;> first | rfl | cases h
theorem Bv(hu:X.A.units+64<cLine)(hw:X.w=TW.w:=by rfl):OpR X (Mx .In) (rP X.K gIn):=by
 intro pins s σ H x y v u Q I rx ry ⟨p,q,z,hp,hq,e,k⟩;unfold gIn at e;split at e
 ·rename_i i j
  cases e;cases (show x=.str i from hp);cases (show y=.str j from hq);exact wI pins s σ H _ _ v u Q I rx ry ⟨i,j,rfl,rfl,k _ H (Same.refl H) rfl⟩
 ·rename_i qs _
  split at e
  ·rename_i hc
   cases e;obtain⟨a,xs,rfl,g,r⟩:=bw.lst_inv hq;obtain⟨e1,e2⟩:=qY hc.2 r;refine qi pins s σ H _ _ v u Q I rx ry ⟨a,xs,rfl,.inl g.l,by rw[cL hc.1 hp];exact oj hc.1,e2,?_⟩;rw[cL hc.1 hp,e1];exact k _ H (Same.refl H) rfl
  ·cases e
 ·rename_i qs _
  split at e
  ·rename_i hc
   cases e;obtain⟨a,xs,rfl,g,r⟩:=bw.tup_inv hq;obtain⟨e1,e2⟩:=qY hc.2 r;refine qi pins s σ H _ _ v u Q I rx ry ⟨a,xs,rfl,.inr g,by rw[cL hc.1 hp];exact oj hc.1,e2,?_⟩;rw[cL hc.1 hp,e1];exact k _ H (Same.refl H) rfl
  ·cases e
 ·rename_i ks ps _
  obtain⟨kk,ek,ez⟩:=MR.mp e;subst ez;obtain⟨a,kvs,rfl,g,e1,r⟩:=hq;cases ry;have hx:=gP ek hp;subst hx;obtain⟨zz,hd,vs,rel,dd⟩:=DkR.at hw I g;refine wpAny_in_of (oK rx) hd dd.mapOf ?_;rw[← (rel.val kk).isSome_eq,← jk];refine⟨.bl _,H,I.tok _,rfl,k _ H (Same.refl H) ?_⟩;subst e1;rw[Pm];rfl
 ·cases e
theorem wJ(hu:X.A.units+64<cLine)(hw:X.w=TW.w:=by rfl):OpR X (Mx .NotIn) (rP X.K kE):=by
 intro pins s σ H x y v u Q I rx ry ⟨p,q,z,hp,hq,e,k⟩;have e:=e;obtain⟨z0,e1,ez⟩:=MQ.mp e;clear e;have e:=e1;clear e1;unfold gIn at e;split at e
 ·rename_i i j _
  cases e;cases ez;cases (show x=.str i from hp);cases (show y=.str j from hq);exact qh pins s σ H _ _ v u Q I rx ry ⟨i,j,rfl,rfl,k _ H (Same.refl H) rfl⟩
 ·rename_i qs _
  split at e
  ·rename_i hc
   cases e;cases ez;obtain⟨a,xs,rfl,g,r⟩:=bw.lst_inv hq;obtain⟨e1,e2⟩:=qY hc.2 r;refine kA pins s σ H _ _ v u Q I rx ry ⟨a,xs,rfl,.inl g.l,by rw[cL hc.1 hp];exact oj hc.1,e2,?_⟩;rw[cL hc.1 hp,e1];exact k _ H (Same.refl H) rfl
  ·cases e
 ·rename_i qs _
  split at e
  ·rename_i hc
   cases e;cases ez;obtain⟨a,xs,rfl,g,r⟩:=bw.tup_inv hq;obtain⟨e1,e2⟩:=qY hc.2 r;refine kA pins s σ H _ _ v u Q I rx ry ⟨a,xs,rfl,.inr g,by rw[cL hc.1 hp];exact oj hc.1,e2,?_⟩;rw[cL hc.1 hp,e1];exact k _ H (Same.refl H) rfl
  ·cases e
 ·rename_i ks ps _
  obtain⟨kk,ek,ez'⟩:=MR.mp e;subst ez';cases ez;obtain⟨a,kvs,rfl,g,e1,r⟩:=hq;cases ry;have hx:=gP ek hp;subst hx;obtain⟨zz,hd,vs,rel,dd⟩:=DkR.at hw I g;refine wpAny_notIn_of (oK rx) hd dd.mapOf ?_;rw[← (rel.val kk).isSome_eq,← jk];refine⟨.bl _,H,I.tok _,rfl,k _ H (Same.refl H) ?_⟩;subst e1;rw[Pm];rfl
 ·cases e
theorem Co(hw:X.w=TW.w):KI X (fun v H Q=>∃p b,bw X.K H p v/\kM p=some b/\Q b H):=by
 intro pins s σ H x v Q I rx ⟨p,b,rp,e,q⟩;have h16:=My;cases p with
 | non=>
  cases (show x=.non from rp);cases e;exact mY pins s σ H _ v Q I rx ⟨_,rfl,q⟩
 | bl i=>
  cases (show x=.bl i from rp);cases e;exact mY pins s σ H _ v Q I rx ⟨_,rfl,q⟩
 | int i=>
  cases (show x=.int i from rp);cases e;exact mY pins s σ H _ v Q I rx ⟨_,rfl,q⟩
 | str i=>
  cases (show x=.str i from rp);simp only[kM] at e;split at e
  ·cases e
   exact mY pins s σ H _ v Q I rx ⟨_,⟨by omega,rfl⟩,q⟩
  ·cases e
 | tup ps=>
  obtain⟨a,xs,rfl,g,r⟩:=bw.tup_inv rp;cases e;have:ps.isEmpty=xs.isEmpty:=by have:=r.length;cases ps <;> cases xs <;> simp_all
  exact mY pins s σ H _ v Q I rx ⟨_,.inr (.inl ⟨xs,g,by rw[this]⟩),q⟩
 | lst ps=>
  obtain⟨a,xs,rfl,g,r⟩:=bw.lst_inv rp;cases e;have:ps.isEmpty=xs.isEmpty:=by have:=r.length;cases ps <;> cases xs <;> simp_all
  exact mY pins s σ H _ v Q I rx ⟨_,.inl ⟨xs,g.l,by rw[this]⟩,q⟩
 | dct ks ps=>
  obtain⟨a,kvs,rfl,g,e1,r⟩:=rp;cases rx;cases e;obtain⟨hz,hS,vs,rel,m⟩:=DkR.at hw I g;have hlen:kvs.length=vs.length:=NP rel;refine wpAny_truthy_dict hS m (by omega) ⟨H,I.tok _,?_⟩;rw[nN rel];subst e1;have:(kvs.map (·.1)).isEmpty=kvs.isEmpty:=by cases kvs <;> rfl
  rw[this] at q;exact q
 | dtt ks ps=>cases e
 | fn L cs=>cases e
end
section
variable{C : Cn}{a b c e : Expr}{f fa fb fc : PSt → R PV}{t u : PSt → R Bool}{rest : List Expr}{pos : O4}
theorem aX(ha:EO C a f)(he:∀whole,isTrue a C.X.env whole=(do let v<- whole;QK a.pos;Qp [v] (truthy v)):=by intro _;rfl)(hw:C.X.w=TW.w:=by rfl):ET C a (bX f):=by
 intro pins s σ H Q I ⟨ρ,vw,q⟩;refine isTrue_plain (thn (ha pins s σ H (fun v H'=>∃p b,bw C.X.K H' p v/\kM p=some b/\Q b H') I ⟨ρ,vw,q.bind.imp fun p _ k v H' s' r=>?_⟩) fun v s1 ⟨x,H1,I1,r1,q1⟩=>Co hw pins s1 σ H1 x v Q I1 r1 q1) (he _);obtain⟨b,eb,k⟩:=k.ofO;exact⟨p,b,r,eb,k H' s'⟩
def ve(g:PV->PV->Option PV):Prop:=∀p q z,g p q=some z->∃b,z=.bl b
theorem aT{op:Sr}{g:PV->PV->Option PV}(ho:OpR C.X (Mx op) (rP C.X.K g))(hg:ve g)(ha:EO C a fa)(hb:EO C b fb)(hm:Pk op b=false:=by first | exact By _ | with_unfolding_all rfl):ET C (.Compare a [op] [b] pos) (bX (au fa fb g)):=by
 intro pins s σ H Q I ⟨ρ,vw,q⟩;refine CT ho ha hb hm pins s σ H Q I ?_;refine t2 vw (g:=g) (q.bind.imp fun p e k v H' s' r=>?_) fun _ _ _ _ h=>h
 have:∃b,p=.bl b:=by
  unfold au at e;cases h1:fa ρ with
  | ok x=>
   rw[h1] at e;cases h2:fb ρ with
   | ok y=>
    rw[h2] at e;cases h3:g x y with
    | some z=>
     simp only[R.ok_bind,h3,R.ofO_some] at e;cases e;exact hg x y _ h3
    | none=>simp only[R.ok_bind,h3,R.ofO_none] at e;cases e
   | er x=>rw[h2] at e;cases e
   | no=>rw[h2] at e;cases e
  | er x=>rw[h1] at e;cases e
  | no=>rw[h1] at e;cases e
 obtain⟨b,rfl⟩:=this;cases (show v=.bl b from r);exact⟨b,rfl,k H' s'⟩
theorem EW.et(h:EW C e t):ET C e t:=PW.pt h
theorem pe(ha:ET C a t):EW C (.BoolOp .And [a] pos) t:=CN ha
theorem jP(ha:ET C a t):EW C (.BoolOp .Or [a] pos) t:=FX ha
theorem tG(ha:ET C a t)(hb:EW C (.BoolOp .And (b::rest) pos) u):EW C (.BoolOp .And (a::b::rest) pos) (BX t u):=by
 intro wh pins s σ H Q I ⟨ρ,vw,q⟩;refine FY ha hb wh pins s σ H Q I ⟨ρ,vw,q.bind.imp fun c _ k H' s'=>?_⟩;cases c with
 | true=>exact Ag ⟨ρ,vw.same s',(k.same s').imp fun b _ k2 H2 s2=>k2 H2 (s'.trans s2)⟩
 | false=>exact Ah (k H' s')
theorem pd(ha:ET C a t)(hb:EW C (.BoolOp .Or (b::rest) pos) u):EW C (.BoolOp .Or (a::b::rest) pos) (orB t u):=by
 intro wh pins s σ H Q I ⟨ρ,vw,q⟩;refine IR ha hb wh pins s σ H Q I ⟨ρ,vw,q.bind.imp fun c _ k H' s'=>?_⟩;cases c with
 | true=>exact Ag (k H' s')
 | false=>exact Ah ⟨ρ,vw.same s',(k.same s').imp fun b _ k2 H2 s2=>k2 H2 (s'.trans s2)⟩
theorem eJ(ha:ET C a t):ET C (.UnaryOp .Not a pos) (lO t):=by
 intro pins s σ H Q I ⟨ρ,vw,q⟩;exact Bm ha pins s σ H Q I ⟨ρ,vw,q.bind.imp fun c _ k H' s'=>k H' s'⟩
theorem jQ{op}(h:EV C a f):EV C (.BoolOp op [a] pos) f:=G6 h
theorem kF(ha:EV C a fa)(hb:EV C (.BoolOp .And (b::rest) pos) fb):EV C (.BoolOp .And (a::b::rest) pos) (uU fa fb):=by
 intro pins s σ H Q I ⟨ρ,vw,q⟩;refine G9 ha hb pins s σ H Q I ⟨ρ,vw,q.bind.imp fun p _ k v H' s' r=>?_⟩;cases p with
 | bl c=>
  cases (show v=.bl c from r);refine⟨c,rfl,?_⟩;cases c with
  | true=>exact Ag ⟨ρ,vw.same s',(RQ.same k s').imp fun z _ k2 v2 H2 s2 r2=>k2 v2 H2 (s'.trans s2) r2⟩
  | false=>exact Ah (k _ H' s' rfl)
 | _=>exact MG k
theorem H8(ha:EV C a fa)(hb:EV C (.BoolOp .Or (b::rest) pos) fb):EV C (.BoolOp .Or (a::b::rest) pos) (orV fa fb):=by
 intro pins s σ H Q I ⟨ρ,vw,q⟩;refine IY ha hb pins s σ H Q I ⟨ρ,vw,q.bind.imp fun p _ k v H' s' r=>?_⟩;cases p with
 | bl c=>
  cases (show v=.bl c from r);refine⟨c,rfl,?_⟩;cases c with
  | true=>exact Ag (k _ H' s' rfl)
  | false=>exact Ah ⟨ρ,vw.same s',(RQ.same k s').imp fun z _ k2 v2 H2 s2 r2=>k2 v2 H2 (s'.trans s2) r2⟩
 | _=>exact MG k
theorem xX(hc:ET C c t)(ha:EV C a fa)(hb:EV C b fb):EV C (.IfExp c a b pos) (ifV t fa fb):=by
 intro pins s σ H Q I ⟨ρ,vw,q⟩;refine zK hc ha hb pins s σ H Q I ⟨ρ,vw,q.bind.imp fun c _ k H' s'=>?_⟩;cases c with
 | true=>exact Ag ⟨ρ,vw.same s',(RQ.same k s').imp fun z _ k2 v2 H2 s2 r2=>k2 v2 H2 (s'.trans s2) r2⟩
 | false=>exact Ah ⟨ρ,vw.same s',(RQ.same k s').imp fun z _ k2 v2 H2 s2 r2=>k2 v2 H2 (s'.trans s2) r2⟩
end
theorem bA:ve gEq:=fun p q z e=>by
 unfold gEq at e;split at e
 ·split at e
  ·obtain⟨b,_,ez⟩:=MR.mp e
   exact⟨b,ez.symm⟩
  ·cases e
 ·split at e
  ·obtain⟨b,_,ez⟩:=MR.mp e
   exact⟨b,ez.symm⟩
  ·cases e
 ·split at e
  ·obtain⟨b,_,ez⟩:=MR.mp e
   exact⟨b,ez.symm⟩
  ·cases e
 ·split at e
  ·cases e
   exact⟨_,rfl⟩
  ·cases e
theorem oN:ve gNe:=fun p q z e=>by
 unfold gNe at e;split at e
 ·split at e
  ·obtain⟨b,_,ez⟩:=MR.mp e;exact⟨_,ez.symm⟩
  ·cases e
 ·split at e
  ·obtain⟨b,_,ez⟩:=MR.mp e;exact⟨_,ez.symm⟩
  ·cases e
 ·split at e
  ·cases e;exact⟨_,rfl⟩
  ·cases e
theorem oO:ve gLt:=fun p q z e=>by unfold gLt at e;split at e <;> cases e <;> exact⟨_,rfl⟩
theorem md:ve gLe:=fun p q z e=>by unfold gLe at e;split at e <;> cases e <;> exact⟨_,rfl⟩
theorem xB:ve gGt:=fun p q z e=>by unfold gGt at e;split at e <;> cases e <;> exact⟨_,rfl⟩
theorem An:ve DH:=fun p q z e=>by unfold DH at e;split at e <;> cases e <;> exact⟨_,rfl⟩
theorem me:ve gIn:=fun p q z e=>by
 unfold gIn at e;split at e
 ·cases e;exact⟨_,rfl⟩
 ·split at e <;> cases e;exact⟨_,rfl⟩
 ·split at e <;> cases e;exact⟨_,rfl⟩
 ·obtain⟨b,_,ez⟩:=MR.mp e;exact⟨_,ez.symm⟩
 ·cases e
theorem uJ:ve kE:=fun p q z e=>by
 obtain⟨z0,e,ez⟩:=MQ.mp e;cases z0 <;> cases ez
 exact⟨_,rfl⟩
end PU
namespace PU
open PySem PySem.Spec PyProof.Rows L2 PySem.SeqAt
variable[TW]
def r1(K:M9)(g:PV->Option PV):List V->Hp->VK->Prop:=fun vs H Q=>∃v p z,vs=[v]/\bw K H p v/\g p=some z/\∀w H',Same H H'->Rep K H' z w->Q w H'
def rn1(K:M9)(g:PV->Option PV):List V->Hp->VK->Prop:=fun vs H Q=>∃v p z,vs=[v]/\bw K H p v/\g p=some z/\∀a H',Same H H'->H a=none->dE K H' a z->Q (.ref a) H'
section
variable{C : Cn}{e : Expr}{f : PSt → R PV}{g : PV → Option PV}{x : Str}{p pos : O4}{id T : String}
theorem t1{σ:L2.St}{H:Hp}{Q:VK}{ρ:PSt}(vw:View C.X.K H σ ρ)(q:RQ C H (un1 f g ρ) fun p=>∀v H',Same H H'->Rep C.X.K H' p v->Q v H'):tCB (r1 C.X.K g) (tA1 C f) σ H Q:=by
 refine⟨ρ,vw,q.bind.imp fun p _ k v H1 s1 r1=>?_⟩;obtain⟨z,ez,k⟩:=k.ofO;exact⟨v,p,z,rfl,r1,ez,fun w H' s' r'=>k w H' (s1.trans s') r'⟩
theorem tn1{σ:L2.St}{H:Hp}{Q:VK}{ρ:PSt}(vw:View C.X.K H σ ρ)(q:RQ C H (un1 f g ρ) fun p=>∀a H',Same H H'->H a=none->dE C.X.K H' a p->Q (.ref a) H'):tCB (rn1 C.X.K g) (tA1 C f) σ H Q:=by
 refine⟨ρ,vw,q.bind.imp fun p _ k v H1 s1 r1=>?_⟩;obtain⟨z,ez,k⟩:=k.ofO;exact⟨v,p,z,rfl,r1,ez,fun a H' s' n' r'=>k a H' (s1.trans s') (s1.free n') r'⟩
theorem di (hc:fF C.X (.builtin id) (r1 C.X.K g)) (hg:Gl C.X x) (hm:C.X.mg x=none) (hv:Nv x=some (.builtin id)) (ha:EO C e f) (hn:x≠"__name__":=by decide) (hdb:(x == ("__debug__":Str))=false:=by decide)
  (hs:MO [e] C.X.env=[(false,NC e C.X.env)]:=by exact cz rfl):EV C (.Call (.Name x p) [e] [] pos) (un1 f g):=by
 intro pins s σ H Q I ⟨ρ,vw,q⟩;exact oy hc hg hm hv (qM ha hs) hn hdb hs (by rfl) pins s σ H Q I (t1 vw q)
theorem xV (hc:fF C.X (.type T) (r1 C.X.K g)) (hg:Gl C.X x) (hm:C.X.mg x=none) (hv:Nv x=some (.type T)) (ha:EO C e f) (hn:x≠"__name__":=by decide) (hdb:(x == ("__debug__":Str))=false:=by decide)
  (hs:MO [e] C.X.env=[(false,NC e C.X.env)]:=by exact cz rfl):EV C (.Call (.Name x p) [e] [] pos) (un1 f g):=by
 intro pins s σ H Q I ⟨ρ,vw,q⟩;exact qf hc hg hm hv (qM ha hs) hn hdb hs (by rfl) pins s σ H Q I (t1 vw q)
theorem Hd (hc:fF C.X (.type T) (rn1 C.X.K g)) (hg:Gl C.X x) (hm:C.X.mg x=none) (hv:Nv x=some (.type T)) (ha:EO C e f) (hn:x≠"__name__":=by decide) (hdb:(x == ("__debug__":Str))=false:=by decide)
  (hs:MO [e] C.X.env=[(false,NC e C.X.env)]:=by exact cz rfl):EN C (.Call (.Name x p) [e] [] pos) (un1 f g):=by
 intro pins s σ H Q I ⟨ρ,vw,q⟩;exact qf hc hg hm hv (qM ha hs) hn hdb hs (by rfl) pins s σ H Q I (tn1 vw q)
end
section
variable{X : Cx}
theorem kY (hw:X.w=TW.w:=by rfl):fF X (.builtin "len") (r1 X.K eP):=by
 intro pins s σ H xs us Q I r ⟨v,p,z,e1,rp,ez,k⟩;have h16:=My;subst e1;cases p with
 | lst ps=>
  obtain⟨a,xs,rfl,g,rr⟩:=bw.lst_inv rp;cases ez;exact pz pins s σ H _ us Q I r ⟨_,_,rfl,.inl ⟨xs,g.l,rfl⟩,by rw[← rr.length];exact k _ H (Same.refl H) rfl⟩
 | tup ps=>
  obtain⟨a,xs,rfl,g,rr⟩:=bw.tup_inv rp;cases ez;exact pz pins s σ H _ us Q I r ⟨_,_,rfl,.inr ⟨xs,g,rfl⟩,by rw[← rr.length];exact k _ H (Same.refl H) rfl⟩
 | str x=>
  simp only[eP] at ez;split at ez
  ·cases ez
   cases (show v=.str x from rp);exact pz pins s σ H _ us Q I r ⟨_,_,rfl,⟨by omega,rfl⟩,k _ H (Same.refl H) rfl⟩
  ·cases ez
 | dct ks ps=>
  obtain⟨a,kvs,rfl,g,e1,rr⟩:=rp;cases ez;obtain⟨u,rfl,ru⟩:=vals1 r;cases ru;obtain⟨hz,hS,vs,rel,m⟩:=DkR.at hw I g;have hlen:kvs.length=vs.length:=NP rel;subst e1;rw[MC,hlen] at k;exact call_len_dict hS m (by omega) ⟨.int vs.length,H,I.tok _,⟨_,rfl⟩,k _ H (Same.refl H) rfl⟩
 | _=>cases ez
theorem cInt:fF X (.type "int") (r1 X.K I8):=by
 intro pins s σ H xs us Q I r ⟨v,p,z,e1,rp,ez,k⟩;subst e1;cases p with
 | int i=>cases ez;cases (show v=.int i from rp);exact qQ pins s σ H _ us Q I r (.inl ⟨i,rfl,k _ H (Same.refl H) rfl⟩)
 | bl i=>cases ez;cases (show v=.bl i from rp);exact qQ pins s σ H _ us Q I r (.inr ⟨i,rfl,k _ H (Same.refl H) rfl⟩)
 | _=>cases ez
theorem Hl:fF X (.type "tuple") (r1 X.K nQ):=by
 intro pins s σ H xs us Q I r ⟨v,p,z,e1,rp,ez,k⟩;subst e1;cases p with
 | lst ps=>
  obtain⟨a,xs,rfl,g,rr⟩:=bw.lst_inv rp;cases ez;exact jU pins s σ H _ us Q I r ⟨a,xs,rfl,.inl ⟨g.l,fun l hl=>k _ _ (Same.new hl) ⟨l,xs,rfl,.inl aA,rr.same (Same.new hl)⟩⟩⟩
 | tup ps=>
  obtain⟨a,xs,rfl,g,rr⟩:=bw.tup_inv rp;cases ez;exact jU pins s σ H _ us Q I r ⟨a,xs,rfl,.inr ⟨g,k _ H (Same.refl H) rp⟩⟩
 | _=>cases ez
theorem LF:fF X (.builtin "ord") (r1 X.K HZ):=by
 intro pins s σ H xs us Q I r ⟨v,p,z,e1,rp,ez,k⟩;subst e1;cases p with
 | str x=>
  simp only[HZ] at ez;split at ez
  ·rename_i hl
   cases ez;cases (show v=.str x from rp);exact AQ pins s σ H _ us Q I r ⟨x,rfl,hl,k _ H (Same.refl H) rfl⟩
  ·cases ez
 | _=>cases ez
end
section
variable{C : Cn}{e tg : Expr}{f : PSt → R PV}{pos : O4}
theorem Dv{K:M9}{H:Hp}{a:Addr}{xs:List V}{ps:List PV}(g:SqF K H a xs)(r:aM K H ps xs):ItP K (Itl K a) H ps:=fun i H' k=>by
 have g':=(k.sqF g).l.l;have r':=aM.kp k ps r;have hl:=r'.length;refine⟨fun h=>⟨xs,g',by omega⟩,fun p e=>?_⟩;obtain⟨x,ex,rp⟩:=r'.get e
 exact⟨⟨xs,x,g',ex⟩,fun y H2 ⟨eh,hy⟩=>by
  subst eh;have:=hy xs g';rw[ex] at this;cases this;exact⟨Same.refl _,rp⟩⟩
theorem GQ{K:M9}{H:Hp}{a:Addr}{xs:List V}{ps:List PV}(g:SqT K H a xs)(r:aM K H ps xs):ItP K (Itt K a) H ps:=fun i H' k=>by
 have g':=k.sqT g;have r':=aM.kp k ps r;have hl:=r'.length;refine⟨fun h=>⟨xs,g',by omega⟩,fun p e=>?_⟩;obtain⟨x,ex,rp⟩:=r'.get e
 exact⟨⟨xs,x,g',ex⟩,fun y H2 ⟨eh,hy⟩=>by
  subst eh;have:=hy xs g';rw[ex] at this;cases this;exact⟨Same.refl _,rp⟩⟩
theorem Aj{K:M9}{H:Hp}{lo:Int}{n:Nat}:ItP K (Itr lo n) H (fI lo n):=fun i H' k=>by
 refine⟨fun h=>?_,fun p e=>?_⟩
 ·have:n<=i:=by simp[fI] at h;omega
  exact this
 ·unfold fI at e
  rw[MS] at e
  have hi:i<n:=by
   by_cases hi:i<n
   ·exact hi
   ·rw[Nl (by simpa using hi)] at e
    cases e
  rw[Os hi] at e;cases e;exact⟨hi,fun y H2 ⟨eh,hy⟩=>by subst eh hy;exact⟨Same.refl _,rfl⟩⟩
theorem qL {p:O4} (hg:Gl C.X "range") (hm:C.X.mg "range"=none) (he:EV C e f) (hs:MO [e] C.X.env=[(false,NC e C.X.env)]:=by exact cz rfl):EI C tg (.Call (.Name "range" p) [e] [] pos) (FU f):=by
 intro pins s σ H Rk I ⟨ρ,vw,q⟩;refine wx hg hm (cg he gg hs) hs pins s σ H Rk I ⟨ρ,vw,q.bind.imp fun p _ k v H1 s1 r1=>?_⟩;cases p with
 | int j=>
  cases (show v=.int j from r1)
  by_cases hj:j.natAbs<1000000000
  ·have k:RQ C H (if j.natAbs<1000000000 then R.ok (fI 0 j.toNat) else R.no) fun ps=>∀J H',Same H H'->ItP C.X.K J H' ps->Rk J H':=k
   rw[if_pos hj] at k;exact⟨j,rfl,by omega,by omega,k _ H1 s1 Aj⟩
  ·have k:RQ C H (if j.natAbs<1000000000 then R.ok (fI 0 j.toNat) else R.no) fun ps=>∀J H',Same H H'->ItP C.X.K J H' ps->Rk J H':=k
   rw[if_neg hj] at k;exact MG k
 | _=>exact MG k
end
section
variable{C : Cn}{e : Expr}{f : PSt → R PV}{pos apos cpos : O4}
theorem pK(i:Nat){x:Str}{np:O4}(he:EV C e f)(hs:MO [e] C.X.env=[(false,NC e C.X.env)]:=by exact cz rfl)
  (hb:OZ (.Name x np) "append" C.X.env (NC (.Name x np) C.X.env)=NC (.Name x np) C.X.env:=by rfl) (hline:(apos.endLine == cpos.line)=true:=by rfl)
  (hd:(x == ("__debug__":Str))=false:=by decide) (hcd:(x == ("__classdict__":Str))=false:=by decide) (hN:C.X.N[i]?=some x:=by rfl) (hv:Vis C.X.env.scope x:=by first | exact .inl rfl | exact .inr (.inl rfl) | exact .inr (.inr rfl)):SV C (.Expr (.Call (.Attribute (.Name x np) "append" apos) [e] [] cpos) pos) (BW i f):=by
 intro pins s σ H D I ⟨ρ,B,S,q⟩;unfold BW at q;split at q
 ·rename_i ps e1
  obtain⟨a,e2,xs,hx,rr⟩:=S.vw i _ e1;refine wo (zP Ro QH Rj lW (eC hN hv hd hcd) (cg he gg hs) hb (by rw[hs];rfl) hline hs (by rfl)) (by rfl) pins s σ H D I ?_;refine⟨_,e2,.inl ⟨rfl,xs,SqL.of hx⟩,ρ,S.vw,(RS.bind q S.same).imp fun p _ q' v H1 s1 r1=>?_⟩
  by_cases hl:ps.length<16777216
  ·rw[if_pos hl] at q'
   refine⟨a,xs,v,rfl,rfl,s1 _ _ hx,by rw[My,← rr.length];exact hl,?_⟩;refine q' σ _ ((S.grow s1).turn e1 e2 (fun b hb=>az hb) ?_);have kp:Kp H1 (upd H1 a (.lst (xs++[v]))):=Kp.upd (s1 _ _ hx) rfl;exact⟨a,rfl,xs++[v],aA,aM.append (aM.kp kp _ (rr.same s1)) (aM.cons (Rep.kp kp _ r1) aM.nil)⟩
  ·rw[if_neg hl] at q'
   exact MG q'
 ·exact MG q
end
end PU
namespace PU
open PySem PySem.Spec PyProof.Rows L2 PySem.SeqAt
variable[TW]
section
variable{C : Cn}
theorem bW(i:Nat){x:Str}{pos:O4}(hN:C.X.N[i]?=some x:=by rfl)(hv:Vis C.X.env.scope x:=by first | exact T5 rfl | exact SM (T5 rfl) | exact SM (SM rfl))
  (hd:(x == ("__debug__":Str))=false:=by decide) (hcd:(x == ("__classdict__":Str))=false:=by decide):EV C (.Name x pos) (ah i):=H0 i hN hv hd hcd
theorem Hc(i:Nat){x:Str}{pos:O4}(hN:C.X.N[i]?=some x:=by rfl)(hv:Vis C.X.env.scope x:=by first | exact T5 rfl | exact SM (T5 rfl) | exact SM (SM rfl))
  (hd:(x == ("__debug__":Str))=false:=by decide) (hcd:(x == ("__classdict__":Str))=false:=by decide):EO C (.Name x pos) (yN i):=Hb i hN hv hd hcd
variable{a b c : Expr}{fa fb fc : PSt → R PV}{pos : O4}
theorem pf{op op':Sr}{g g':PV->PV->Option PV}(ho:OpR C.X (Mx op) (rP C.X.K g))(ho':OpR C.X (Mx op') (rP C.X.K g'))(hg:ve g)(ha:EO C a fa)(hb:EO C b fb)(hc:EO C c fc)
  (hm:TR [op,op'] [b,c]=false:=by with_unfolding_all rfl):EV C (.Compare a [op,op'] [b,c] pos) (kH fa fb fc g g'):=by
 intro pins s σ H Q I ⟨ρ,vw,q⟩;refine zM ho ho' ha hb hc hm pins s σ H Q I ?_;refine⟨ρ,vw,q.bind.imp fun p _ k v H1 s1 r1=>⟨ρ,vw.same s1,(k.bind.same s1).imp fun p2 _ k2 u H2 s2 r2=>?_⟩⟩;obtain⟨z,ez,k3⟩:=k2.bind.ofO;obtain⟨bb,rfl⟩:=hg _ _ _ ez;refine⟨p,p2,.bl bb,r1.same s2,r2,ez,fun w H3 s3 r3=>?_⟩;cases (show w=.bl bb from r3);refine⟨bb,rfl,?_⟩;have s13:=(s1.trans s2).trans s3;cases bb with
 | true=>
  refine Ag ⟨ρ,vw.same s13,?_⟩;refine(RQ.same (RQ.bind k3) s13).imp fun p3 _ k4 w4 H4 s4 r4=>?_;obtain⟨z2,ez2,k5⟩:=k4.ofO;exact⟨p2,p3,z2,(r2.same s3).same s4,r4,ez2,fun w5 H5 s5 r5=>k5 w5 H5 ((s13.trans s4).trans s5) r5⟩
 | false=>exact Ah (k3 _ H3 s13 rfl)
end
end PU
namespace PU
open PySem PySem.Spec PyProof.Rows L2 PySem.SeqAt
variable[TW]
section
variable{X : Cx}{pins : List (Addr×Obj)}{σ : L2.St}{H : Hp}{s : MB}
theorem _root_.L2.Inv.turnedL{wr:List Addr}{h':Heap}{t':Nat}(I:L2.Inv X pins σ H s)(k:∀b o,b ∉ wr->s.heap.get? b=some o->h'.get? b=some o)(hw:∀b∈wr,rb X pins H b):L2.Inv X pins σ H { s with heap:=h',toks:=t' }:=by
 have nw:∀b u,H b=some u->b ∉ wr:=fun b u e z=>by rw[(hw b z).1] at e;cases e
 refine I.step (g':=s.gens) (d':=s.drawn) (ch:=wr) (fun b hb=>?_) (fun b o _ _ hc e _=>k b o hc e) (fun b o _ _ hc e _=>⟨o.slots,k b o hc e⟩) (fun _ _ _ _ n=>n)
  (fun b o hc e=>⟨o,k b o hc e⟩) (fun _ _ e=>e) (fun _ _ _ e=>e) (fun b ps e=>⟨#[],by rw[e];simp⟩) (fun m hm=>?_) (fun b u e=>?_) I.bare
 ·obtain⟨g1,g2,g3,g4,g5,g6⟩:=hw b hb
  exact⟨g4,g2,g5,g6⟩
 ·obtain⟨o,es,ep,ho,r⟩:=hm
  exact⟨o,es,ep,k _ o (fun z=>(hw _ z).2.1 rfl) ho,r⟩
 ·refine(I.hok b u e).stay (fun c v hc q=>k c v ?_ q) (fun _ q=>q) fun _ _ q=>q
  rcases hc with z | z
  ·rw[z];exact nw b u e
  ·exact nw c _ z
theorem _root_.L2.Inv.tupled{wr:List Addr}{h':Heap}{t':Nat}{T:Addr}{vals:List Value}{xs:List V}(I:L2.Inv X pins σ H s)(k:∀b o,b ∉ wr->s.heap.get? b=some o->h'.get? b=some o)(hw:∀b∈wr,rb X pins H b)(hws:∀b∈wr,b<s.heap.objs.size)
  (hT:s.heap.objs.size<=T) (ht:h'.IsTuple T vals.toArray) (rv:Vals xs vals) (hz:xs.length<=sizeLine) (hnr:¬ ∀v∈vals,∃b,v=Mq b):L2.Inv X pins σ (upd H T (.tup xs)) { s with heap:=h',toks:=t' }:=by
 have nw:∀b u,H b=some u->b ∉ wr:=fun b u e z=>by rw[(hw b z).1] at e;cases e
 have nT:H T=none:=I.hok.fresh hT;have neT:∀b u,H b=some u->b≠T:=fun b u e=>bT e nT
 have lo:∀b o,s.heap.get? b=some o->b≠T:=fun b o e z=>by
  subst z;exact absurd (MJ e) (Pz.mpr hT)
 have hlt:X.env.locals≠T:=fun z=>absurd I.lt (by rw[z];exact Pz.mpr hT)
 refine I.step (g':=s.gens) (d':=s.drawn) (ch:=wr) (fun b hb=>?_) (fun b o _ _ hc e _=>k b o hc e) (fun b o _ _ hc e _=>⟨o.slots,k b o hc e⟩) (fun b o _ e n=>by rw[az (lo b o e)];exact n)
  (fun b o hc e=>⟨o,k b o hc e⟩) (fun b xs e=>by rw[az (neT _ _ e)];exact e) (fun b o u e=>by rw[az (neT _ _ e)];exact e) (fun b ps e=>⟨#[],by rw[az (neT _ _ e),e];simp⟩) (fun m hm=>?_) (fun b u e=>?_) I.bare
 ·obtain⟨g1,g2,g3,g4,g5,g6⟩:=hw b hb
  exact⟨g4,g2,g5,g6⟩
 ·obtain⟨o,es,ep,ho,r⟩:=hm
  exact⟨o,es,ep,k _ o (fun z=>(hw _ z).2.1 rfl) ho,r⟩
 ·by_cases hb:b=T
  ·subst hb
   rw[aA] at e;cases e;obtain⟨o,e1,e2,e3⟩:=ht;exact⟨hz,vals,rv,o,e1,e2,e3,fun h=>absurd h hnr⟩
  ·rw[az hb] at e
   refine(I.hok b u e).stay (fun c v hc q=>k c v ?_ q) (fun c q=>by rw[az (neT _ _ q)];exact q) fun c ys q=>by rw[az (neT _ _ q)];exact q
   rcases hc with z | z
   ·rw[z];exact nw b u e
   ·exact nw c _ z
end
theorem sC{P:MP}{w:Me}{K:M9}{elts:List Expr}{kk:Nat}{tp:O4}{it:Addr}{fp wr:List Addr}{n:Nat}{own:Nat->Heap->Prop}{J:It}
  (W:∀(X:Cx)(pins:List (Addr×Obj))(σ:L2.St)(H:Hp)(s:MB)(i:Nat),X.prog=P->X.w=w->X.K=K->X.calm=true->L2.Inv X pins σ H s->own i s.heap->J.go i H\/J.stop i H->
   ∃(more:List Addr)(Pt:Nat->Array Value->Prop)(St:Nat->Heap->Prop)(Mid:Nat->Addr->Heap->Prop),WalksT P w X.A it more wr n Pt St Mid/\St i s.heap/\(∀j h,St j h->own j h)/\
    ∀vals,Pt i vals->∃xs,Vals xs vals.toList/\xs.length<=sizeLine/\(¬ ∀v∈vals.toList,∃b,v=Mq b)/\∀T,H T=none->J.yld i H (.ref T) (upd H T (.tup xs)))
  (hI:it∈fp) (hwr:∀b∈wr,b∈fp)
  (obj:∀i h,own i h->∀b∈fp,∃o,h.get? b=some o/\∀v,o.data≠.cell v) (keep:∀i h h',own i h->(∀b∈fp,∀o,h.get? b=some o->h'.get? b=some o)->own i h')
  (hgo:∀i H,J.go i H->i<n) (hstop:∀i H,J.stop i H->i=n)
  (self:∀(A:Mi)(i:Nat)(s:MB)(Q:Value->MB->Prop)(E:Value->MB->Prop),own i s.heap->Q (.ref it) s->MK (MV P w) A (pyIter (.ref it)) Q E s) :
  Turn P w K (.Tuple elts kk tp) J fp it own where
 mem:=hI
 obj:=obj
 keep:=keep
 item:=by
  intro X hP hw hK hc i pins s σ H E I hf st hg;obtain⟨more,Pt,St,Mid,W',st',ofSt,hval⟩:=W X pins σ H s i hP hw hK hc I st (.inl hg);subst hP hw hK;refine W'.item i s _ _ (hgo i H hg) st' fun T vals h' tk hPt hT hTup hMid hk=>?_;obtain⟨xs,rv,hz,hnr,hy⟩:=hval vals hPt;have nT:H T=none:=I.hok.fresh hT;have hfw:∀b∈wr,rb X pins H b:=fun b hb=>hf b (hwr b hb)
  have hws:∀b∈wr,b<s.heap.objs.size:=fun b hb=>by
   obtain⟨o,e,_⟩:=obj i _ st b (hwr b hb);exact MJ e
  have I1:L2.Inv X pins σ (upd H T (.tup xs)) { s with heap:=h',toks:=tk }:=I.tupled (vals:=vals.toList) hk hfw hws hT (by simpa using hTup) rv hz hnr;refine⟨_,rfl,W'.go elts kk tp i T _ _ _ hMid fun h'' st'' hk''=>?_⟩
  have fne:∀b∈fp,upd H T (.tup xs) b=none:=fun b hb=>by
   obtain⟨o,e,_⟩:=obj i _ st b hb;rw[az (MU (MF (MJ e) hT))];exact(hf b hb).1
  have I2:L2.Inv X pins σ (upd H T (.tup xs)) { s with heap:=h'',toks:=tk }:=L2.Inv.turnedL (s:={ s with heap:=h',toks:=tk }) (wr:=wr) (t':=tk) I1 hk'' fun b hb=>⟨fne b (hwr b hb),(hfw b hb).2⟩;exact⟨.ref T,_,I2,rfl,hy T nT,ofSt _ _ st'',fne⟩
 done:=by
  intro X hP hw hK hc i pins s σ H E I hf st hg;obtain⟨more,Pt,St,Mid,W',st',ofSt,hval⟩:=W X pins σ H s i hP hw hK hc I st (.inr hg);subst hP hw hK;have e:=hstop i H hg;subst e;refine W'.done s _ _ st' fun h' tk hk=>⟨rfl,?_⟩;exact I.turnedL hk fun b hb=>hf b (hwr b hb)
 self:=self
def mJ(n:Nat)(Gd:Hp->Prop)(xs:List (List V)):It:=
 ⟨fun i H=>i<n/\Gd H,fun i H x H'=>∃T ys,x=.ref T/\H T=none/\xs[i]?=some ys/\H'=upd H T (.tup ys),fun i H=>i=n/\Gd H⟩
theorem oM{K:M9}{H₁:Hp}{n:Nat}{Gd:Hp->Prop}{xs:List (List V)}{pss:List (List PV)}(hn:pss.length=n)(hg:∀H,Kp H₁ H->Gd H)(r:∀(i:Nat)(ps:List PV)(ys:List V),pss[i]?=some ps->xs[i]?=some ys->aM K H₁ ps ys) :
  ItP K (mJ n Gd xs) H₁ (pss.map PV.tup):=fun i H k=>by
 refine⟨fun h=>⟨by rw[h,MC,hn],hg H k⟩,fun p e=>?_⟩;rw[MS] at e;cases hp:pss[i]? with
 | none=>rw[hp] at e;cases e
 | some ps=>
  rw[hp] at e;cases e;have hi:i<n:=by rw[← hn];exact(Mc.mp hp).1
  refine⟨⟨hi,hg H k⟩,fun x H' ⟨T,ys,ex,nT,ey,eH⟩=>?_⟩;subst ex eH;refine⟨Same.new nT,T,ys,rfl,(.inl aA),?_⟩;exact(aM.kp k ps (r i ps ys hp ey)).same (Same.new nT)
end PU
namespace PU
open PySem PySem.Spec PyProof.Rows L2 PySem.SeqAt
variable[TW]
theorem iQ:Nv "enumerate"=some (.type "enumerate"):=by decide +kernel
def pR(x:Str):List V:=x.cps.toList.map fun c=>.str ⟨#[c]⟩
theorem uh{K:M9}{H:Hp}(x:Str):aM K H (gQ x) (pR x):=by
 unfold gQ pR
 induction x.cps.toList with
 | nil=>rfl
 | cons c r ih=>exact⟨_,_,rfl,rfl,ih⟩
noncomputable def EK(xs:List V):List (List V):=(Mz xs.length).zipWith (fun (i:Nat) x=>[.int (i:Int),x]) xs
theorem lN{α β:Type}(f:Nat->α->β)(l:List α)(i:Nat):((Mz l.length).zipWith f l)[i]?=l[i]?.map (f i):=by
 rw[PL]
 by_cases hi:i<l.length
 ·rw[Os hi]
  simp[hi]
 ·rw[Nl (by simpa using hi)]
  simp[hi]
theorem sT{K:M9}{H:Hp}{ps:List PV}{xs:List V}(r:aM K H ps xs):∀(i:Nat)(qs:List PV)(ys:List V),(r9 ps)[i]?=some qs->(EK xs)[i]?=some ys->aM K H qs ys:=fun i qs ys h1 h2=>by
 unfold r9 at h1;unfold EK at h2;rw[lN] at h1 h2;cases e:ps[i]? with
 | none=>rw[e] at h1;cases h1
 | some p=>
  rw[e] at h1;obtain⟨x,ex,rp⟩:=r.get e;rw[ex] at h2;cases h1;cases h2;exact⟨_,_,rfl,rfl,_,_,rfl,rp,rfl⟩
theorem sU(ps:List PV):(r9 ps).length=ps.length:=by simp[r9]
section
variable{P : MP}{w : Me}{K : M9}{elts : List Expr}{kk : Nat}{tp : O4}
theorem uf(a it e:Addr)(xs:List V)(hne:e≠it)(hae:a≠e)(hai:a≠it) :
  Turn P w K (.Tuple elts kk tp) (mJ xs.length (fun H=>SqL K H a xs) (EK xs)) [e,it] e (fun i h=>(∃old,IsEnum h e it i old)/\h.IsListIter it a i):=by
 refine sC (wr:=[e,it]) (n:=xs.length) (fun X pins σ H s i hP hw hK hc I st hg=>?_) (by simp) (fun b hb=>hb) (fun i h st b hb=>?_) (fun i h h' st k=>?_) (fun i H h=>h.1) (fun i H h=>h.1) fun A i s Q E st h=>Oh st.1.choose_spec h
 ·subst hP hw hK
  have hq:SqL X.K H a xs:=by rcases hg with h | h <;> exact h.2
  obtain⟨its,rv,pl,hz⟩:=I.list hq;have hl:=rv.length;have W:=Qy (A:=X.A) (TF (prog:=X.prog) (w:=X.w) (A:=X.A.in1) (I.ok.hd hc) it a hai its.toArray) e hne (by simp[hne,Nd hae]) (by simp);rw[show its.toArray.size=xs.length by simp[hl]] at W;refine⟨_,_,_,_,W,⟨st.1,st.2,pl.isList⟩,fun j h st=>⟨st.1,st.2.1⟩,fun vals hv=>?_⟩;obtain⟨t,x,hx,rfl⟩:=hv;have hx:its[i]?=some x:=by simpa using hx
  have hi:i<xs.length:=by rw[hl];exact(Mc.mp hx).1
  have e1:xs[i]?=some xs[i]:=by simp[hi]
  obtain⟨u,eu,ru⟩:=rv.get e1;rw[hx] at eu;cases eu;refine⟨[.int i,xs[i]],.cons ⟨t,rfl⟩ (.cons ru .nil),by show 2<=sizeLine;decide,fun z=>(by obtain⟨b,z⟩:=z _ Mb;cases z),fun T hT=>⟨T,_,rfl,hT,?_,rfl⟩⟩;unfold EK;rw[lN,e1];rfl
 ·obtain⟨⟨old,he⟩,o,ho,hc,hd⟩:=st
  rcases MH.mp hb with rfl | hb
  ·exact⟨_,he,fun v z=>by cases (show Qj _=QC v from z)⟩
  ·have:b=it:=by simpa using hb
   subst this;exact⟨o,ho,fun v z=>by rw[hd] at z;cases z⟩
 ·obtain⟨⟨old,he⟩,hi⟩:=st
  exact⟨⟨old,k e (by simp) _ he⟩,hi.at fun o x=>k it (by simp) o x⟩
theorem yf{prog:MP}{w:Me}{A:Mi}(hh:A.handled=none)(it:Addr)(x:Str)(t:Sn) :
  SJ prog w A it [it] x.cps.size (fun i v=>∃c u,x.cps[i]?=some c/\v=.str ⟨#[c]⟩ u) (fun i h=>h.IsStrIter it (Ou x) x t i):=by
 unfold Ou
 split
 ·exact Draws.strAscii hh it x t
 ·exact Draws.strWide hh it x t
theorem ue(it e:Addr)(x:Str)(t:Sn)(hne:e≠it) :
  Turn P w K (.Tuple elts kk tp) (mJ x.cps.size (fun _=>True) (EK (pR x))) [e,it] e (fun i h=>(∃old,IsEnum h e it i old)/\h.IsStrIter it (Ou x) x t i):=by
 refine sC (wr:=[e,it]) (n:=x.cps.size) (fun X pins σ H s i hP hw hK hc I st hg=>?_) (by simp) (fun b hb=>hb) (fun i h st b hb=>?_) (fun i h h' st k=>?_) (fun i H h=>h.1) (fun i H h=>h.1) fun A i s Q E st h=>Oh st.1.choose_spec h
 ·subst hP hw hK
  refine⟨_,_,_,_,Qy (A:=X.A) (yf (A:=X.A.in1) (I.ok.hd hc) it x t) e hne (by simp[hne]) (by simp),⟨st.1,st.2⟩,fun j h st=>⟨st.1,st.2⟩,fun vals hv=>?_⟩;obtain⟨t',v,⟨c,u,hc',rfl⟩,rfl⟩:=hv
  have e1:(pR x)[i]?=some (.str ⟨#[c]⟩):=by
   unfold pR;rw[MS];simp[hc']
  refine⟨[.int i,.str ⟨#[c]⟩],.cons ⟨t',rfl⟩ (.cons ⟨u,rfl⟩ .nil),by show 2<=sizeLine;decide,fun z=>(by obtain⟨b,z⟩:=z _ Mb;cases z),fun T hT=>⟨T,_,rfl,hT,?_,rfl⟩⟩;unfold EK;rw[lN,e1];rfl
 ·obtain⟨⟨old,he⟩,o,ho,hc,hd⟩:=st
  rcases MH.mp hb with rfl | hb
  ·exact⟨_,he,fun v z=>by cases (show Qj _=QC v from z)⟩
  ·have:b=it:=by simpa using hb
   subst this;exact⟨o,ho,fun v z=>by rw[hd] at z;cases z⟩
 ·obtain⟨⟨old,he⟩,o,ho,r⟩:=st
  exact⟨⟨old,k e (by simp) _ he⟩,o,k it (by simp) o ho,r⟩
end
theorem yd {C:Cn} {e:Expr} {elts:List Expr} {kk:Nat} {tp p pos:O4} {f:PSt->R PV} (hg:Gl C.X "enumerate") (hm:C.X.mg "enumerate"=none) (he:EV C e f) (hs:MO [e] C.X.env=[(false,NC e C.X.env)]:=by exact cz rfl) :
  EI C (.Tuple elts kk tp) (.Call (.Name "enumerate" p) [e] [] pos) (yb f):=by
 intro pins s σ H Rk I ⟨ρ,vw,q⟩
 refine Call_ (lY I hg hm iQ (OL (thn ((cg he gg hs) pos pins s σ H (fun vs H'=>∃v p ps,vs=[v]/\Same H H'/\Rep C.X.K H' p v/\ya p=some ps/\∀J H2,Same H' H2->ItP C.X.K J H2 ps->Rk J H2) I ⟨ρ,vw,q.bind.imp fun p _ k v H' s' r=>?_⟩)
  fun us s1 ⟨vs,H1,I1,r1,v,p,ps,ev,sm,rp,ep,k⟩=>?_) hs rfl))
 ·obtain⟨ps,ep,k⟩:=k.ofO
  exact⟨v,p,ps,rfl,s',r,ep,fun J H2 s2 it=>k J H2 (s'.trans s2) it⟩
 ·subst ev
  obtain⟨u,rfl,ru⟩:=vals1 r1;have hne:s1.heap.objs.size+1≠s1.heap.objs.size:=RV _
  have fp:∀{h':Heap},(∀b o,s1.heap.get? b=some o->h'.get? b=some o)->L2.Inv C.X pins σ H1 { s1 with heap:=h' }/\∀b∈[s1.heap.objs.size+1,s1.heap.objs.size],rb C.X pins H1 b:=fun {h'} hk=>by
   refine⟨I1.kept (t':=s1.toks) hk,fun b hb=>?_⟩
   have hb:s1.heap.objs.size<=b:=by
    simp only[MH,Mf,or_false] at hb;rcases hb with rfl | rfl
    ·exact Q7 _
    ·exact MX _
   exact I1.fpOk hb (I1.hok.fresh hb)
  cases p with
  | lst qs=>
   cases ep;obtain⟨a,xs,rfl,g,rr⟩:=rp;cases ru;obtain⟨its,rv,pl,hz⟩:=I1.list g.l.l;have ha:a<s1.heap.objs.size:=by obtain⟨o,n,ho,_⟩:=pl;exact MJ ho
   refine call_enumerate_list pl.isList fun h' he' hi' hsz hk=>Oh he' ?_;obtain⟨I2,hf⟩:=fp hk;refine⟨_,_,_,_,H1,rfl,I2,uf a s1.heap.objs.size (s1.heap.objs.size+1) xs hne (MU (Q6 ha)) (MU ha),⟨⟨_,he'⟩,hi'⟩,hf,k _ H1 (Same.refl H1) ?_⟩;exact oM (by rw[sU,rr.length]) (fun H2 k2=>(k2.sqF g).l.l) (sT rr)
  | str x=>
   cases ep;cases (show v=.str x from rp);obtain⟨t,rfl⟩:=ru;refine call_enumerate_str fun h' he' hi' hsz hk=>Oh he' ?_;obtain⟨I2,hf⟩:=fp hk;refine⟨_,_,_,_,H1,rfl,I2,ue s1.heap.objs.size (s1.heap.objs.size+1) x t hne,⟨⟨_,he'⟩,hi'⟩,hf,k _ H1 (Same.refl H1) ?_⟩;exact oM (by rw[sU];simp[gQ]) (fun H2 k2=>trivial) (sT (uh x))
  | _=>cases ep
end PU
namespace PU
open PySem PySem.Spec PyProof.Rows L2 PySem.SeqAt
variable[TW]
theorem Aa{K:M9}{H:Hp}(k:Key):Rep K H (Ad k) (kV k):=by
 cases k <;> rfl
section
variable{P : MP}{w : Me}{K : M9}{elts : List Expr}{kk : Nat}{tp : O4}
theorem uz{kvs:List (Key×V)}{vs:List (Key×Value)}(rel:KV kvs vs):∀{i:Nat}{a:Key×V}{b:Key×Value},kvs[i]?=some a->vs[i]?=some b->a.1=b.1/\RelV a.2 b.2:=by
  induction rel with
  | nil=>intro i a b h _;simp at h
  | cons h t ih=>
   intro i a b h1 h2;cases i with
   | zero=>simp at h1 h2;subst h1 h2;exact h
   | succ i=>exact ih (by simpa using h1) (by simpa using h2)
def B7(K:M9)(H:Hp)(d:Addr)(o:Obj)(kvs:List (Key×V)):Prop:=H d=some (.frz o (.dK kvs))\/(K.lookup d=some o/\yC K d kvs)
theorem B7.at{X:Cx}{pins:List (Addr×Obj)}{σ:L2.St}{H:Hp}{s:MB}{d:Addr}{o:Obj}{kvs:List (Key×V)}{es:Array DictEntry}{ep:Nat}(hw:X.w=TW.w)(I:L2.Inv X pins σ H s)(h:B7 X.K H d o kvs)(ho:o.data=.dict es ep) :
  ∃vs,KV kvs vs/\s.heap.DictAt (aE X.prog X.w) d vs ep/\s.heap.get? d=some o/\o.ExactDict:=by
 rcases h with hq | ⟨hk,_,_,o2,es2,ep2,e,x,d2,r⟩
 ·obtain⟨e0,z,_,vs,rel,o',es',ep',e1,x1,d1,rest⟩:=I.hok d _ hq
  rw[e0] at e1;cases e1;rw[ho] at d1;cases d1;exact⟨vs,rel,⟨o,es,e0,x1,ho,rest⟩,e0,x1⟩
 ·rw[hk] at e
  cases e;rw[ho] at d2;cases d2;obtain⟨vs,rel,rest⟩:=r X.prog;rw[← hw] at rest;exact⟨vs,rel,⟨o,es,I.kIn _ _ hk,x,ho,rest⟩,I.kIn _ _ hk,x⟩
end
end PU
namespace PU
open PySem PySem.Spec PyProof.Rows L2 PySem.SeqAt
variable[TW]
section
variable{P : MP}{w : Me}{K : M9}{tg : Expr}
noncomputable def C2(K:M9)(d:Addr)(o:Obj)(kvs:List (Key×V)):It:=
 ⟨fun i H=>i<kvs.length/\B7 K H d o kvs,fun i H x H'=>H'=H/\∃kv,kvs[i]?=some kv/\x=kV kv.1,fun i H=>i=kvs.length/\B7 K H d o kvs⟩
theorem B7.kp{H H':Hp}{d:Addr}{o:Obj}{kvs:List (Key×V)}(k:Kp H H')(h:B7 K H d o kvs):B7 K H' d o kvs:=by
 rcases h with h | h
 ·exact .inl (k _ _ h rfl)
 ·exact .inr h
theorem Dw{H:Hp}{d:Addr}{o:Obj}{kvs:List (Key×V)}{ks:List Key}(g:B7 K H d o kvs)(e:kvs.map (·.1)=ks):ItP K (C2 K d o kvs) H (ks.map Ad):=fun i H' k=>by
 subst e;refine⟨fun h=>⟨by simpa using h,g.kp k⟩,fun p ep=>?_⟩;rw[MS,MS] at ep;cases hk:kvs[i]? with
 | none=>rw[hk] at ep;cases ep
 | some kv=>
  rw[hk] at ep;cases ep;refine⟨⟨(Mc.mp hk).1,g.kp k⟩,fun x H2 ⟨eh,kv',e1,e2⟩=>?_⟩;rw[hk] at e1;cases e1;subst eh e2;exact⟨Same.refl _,Aa kv.1⟩
theorem vC(d it:Addr)(o:Obj)(es:Array DictEntry)(ep:Nat)(ho:o.data=.dict es ep)(kvs:List (Key×V))(hw:w=TW.w):Turn P w K tg (C2 K d o kvs) [it] it (fun i h=>h.IsKeyIter it d i kvs.length ep) where
 mem:=by simp
 obj:=fun i h st b hb=>by
  have e:b=it:=by simpa using hb
  subst e;obtain⟨o,e,c,dd⟩:=st;exact⟨o,e,fun v z=>by rw[dd] at z;cases z⟩
 keep:=fun i h h' st k=>st.at fun o e=>k it (by simp) o e
 item:=by
  intro X hP hw hK hc i pins s σ H E I hf st hg;subst hP hw hK;obtain⟨hi,hq⟩:=hg;obtain⟨vs,rel,dat,_,_⟩:=hq.at hw I ho;have hl:kvs.length=vs.length:=NP rel;obtain⟨f0,f1,f2,f3,f4,f5⟩:=hf it (by simp);have eg:vs[i]?=some vs[i]:=by simp[← hl,hi]
  have egk:kvs[i]?=some kvs[i]:=by simp[hi]
  obtain⟨hk1,hk2⟩:kvs[i].1=vs[i].1/\RelV kvs[i].2 vs[i].2:=uz rel egk eg;rw[hl] at st;refine wpAny_pyNext_dict_item st dat (k:=vs[i].1) (v:=vs[i].2) eg fun key h' hkey st' sb=>?_;have I1:Inv X pins σ H { s with heap:=h' }:=I.turned (t':=s.toks) (fun b o hb e=>(sb.2 b hb).trans e) f0 f1 f3 f4 f5;obtain⟨oi,e,c,dd⟩:=id st'
  have rk:RelV (kV kvs[i].1) key:=by
   rw[hk1];rcases bz hkey with⟨j,t,e1,e2⟩|⟨y,t,e1,e2⟩
   ·rw[e1,e2];exact⟨t,rfl⟩
   ·rw[e1,e2];exact⟨t,rfl⟩
  exact⟨key,rfl,xG (s:={ s with heap:=h' }) e c dd (by decide) ⟨kV kvs[i].1,H,I1,rk,⟨rfl,_,egk,rfl⟩,by rw[hl];exact st',fun b hb=>(hf b hb).1⟩⟩
 done:=by
  intro X hP hw hK hc i pins s σ H E I hf st hg;subst hP hw hK;obtain⟨hi,hq⟩:=hg;obtain⟨vs,rel,dat,_,_⟩:=hq.at hw I ho;have hl:kvs.length=vs.length:=NP rel;obtain⟨f0,f1,f2,f3,f4,f5⟩:=hf it (by simp);rw[hl] at st;exact wpAny_pyNext_dict_end (I.ok.hd hc) st dat (by simp[← hl,hi]) fun h' eb=>⟨rfl,I.turned (t':=s.toks) (fun b o hb e=>eb b o hb e) f0 f1 f3 f4 f5⟩
 self:=fun _ _ _ _ _ st h=>wpAny_pyIter_keyiter st h
noncomputable def yD(x:Str):It:=⟨fun i _=>i<x.cps.size,fun i H y H'=>H'=H/\∃c,x.cps[i]?=some c/\y=.str ⟨#[c]⟩,fun i _=>i=x.cps.size⟩
theorem Ai{H:Hp}{x:Str}:ItP K (yD x) H (gQ x):=fun i H' k=>by
 refine⟨fun h=>show i=x.cps.size by simpa [gQ] using h,fun p ep=>?_⟩;unfold gQ at ep;rw[MS] at ep;cases hk:x.cps.toList[i]? with
 | none=>rw[hk] at ep;cases ep
 | some c=>
  rw[hk] at ep;cases ep;refine⟨show i<x.cps.size by simpa using (Mc.mp hk).1,fun y H2 ⟨eh,c',e1,e2⟩=>?_⟩
  have:c'=c:=by
   rw[Sg] at hk;rw[hk] at e1;exact(N6 e1).symm
  subst this eh e2;exact⟨Same.refl _,rfl⟩
theorem pG{A:Mi}(hh:A.handled=none)(it:Addr)(x:Str)(t:Sn):Walks P w A it [it] [it] x.cps.size (SignAt x) (fun i h=>h.IsStrIter it (Ou x) x t i):=by
 unfold Ou
 split
 ·exact Walks.strAscii hh it x t
 ·exact Walks.strWide hh it x t
theorem rC (x:Str):["enumerate","zip","dict_itemiterator","dict_reverseitemiterator","odict_iterator","itertools.zip_longest","itertools.pairwise"].contains (Ou x)=false:=by
 unfold Ou
 split <;> decide
theorem uc(it:Addr)(x:Str)(t:Sn):Turn P w K tg (yD x) [it] it (fun i h=>h.IsStrIter it (Ou x) x t i) where
 mem:=by simp
 obj:=fun i h st b hb=>by
  have e:b=it:=by simpa using hb
  subst e;obtain⟨o,e,c,dd⟩:=st;exact⟨o,e,fun v z=>by rw[dd] at z;cases z⟩
 keep:=fun i h h' st k=>by
  obtain⟨o,e,r⟩:=st;exact⟨o,k it (by simp) o e,r⟩
 item:=by
  intro X hP hw hK hc i pins s σ H E I hf st hg;subst hP hw hK;obtain⟨f0,f1,f2,f3,f4,f5⟩:=hf it (by simp);have W:=pG (P:=X.prog) (w:=X.w) (I.ok.hd hc) it x t;refine W.item i s _ _ hg st fun v h' tk hv st' kk=>?_;obtain⟨c,u,ec,rfl⟩:=hv;have I1:Inv X pins σ H { s with heap:=h',toks:=tk }:=I.turned (fun b o hb e=>kk b o (by simpa using hb) e) f0 f1 f3 f4 f5;obtain⟨oi,e,cc,dd⟩:=id st';exact⟨_,rfl,xG (s:={ s with heap:=h',toks:=tk }) e cc dd (rC x) ⟨.str ⟨#[c]⟩,H,I1,⟨u,rfl⟩,⟨rfl,c,ec,rfl⟩,st',fun b hb=>(hf b hb).1⟩⟩
 done:=by
  intro X hP hw hK hc i pins s σ H E I hf st hg;subst hP hw hK;obtain⟨f0,f1,f2,f3,f4,f5⟩:=hf it (by simp);have W:=pG (P:=X.prog) (w:=X.w) (I.ok.hd hc) it x t;have hg:i=x.cps.size:=hg;subst hg;refine W.done s _ _ st fun h' tk hk=>⟨rfl,I.turned (fun b o hb e=>hk b o (by simpa using hb) e) f0 f1 f3 f4 f5⟩
 self:=fun A i s Q E st h=>by
  unfold Ou at st;split at st
  ·exact wpAny_pyIter_striter_ascii st h
  ·exact wpAny_pyIter_striter_wide st h
end
section
variable{C : Cn}{e tg : Expr}{f : PSt → R PV}
theorem nW(he:EV C e f)(hw:C.X.w=TW.w:=by rfl):EI C tg e (itF f):=by
 intro pins s σ H R I ⟨ρ,vw,q⟩;refine thn (he pins s σ H (fun v H'=>∃p ps,Same H H'/\Rep C.X.K H' p v/\kU p=some ps/\∀J H2,Same H' H2->ItP C.X.K J H2 ps->R J H2) I ⟨ρ,vw,q.bind.imp fun p _ k v H' s' r=>?_⟩) fun v s1 ⟨x,H1,I1,r1,p,ps,sm,rp,ep,k⟩=>?_
 ·obtain⟨ps,ep,k⟩:=k.ofO
  exact⟨p,ps,s',r,ep,fun J H2 s2 it=>k J H2 (s'.trans s2) it⟩
 ·cases p with
  | lst qs=>
   cases ep;obtain⟨a,xs,rfl,g,rr⟩:=rp;cases r1;obtain⟨its,rv,pl,hz⟩:=I1.list g.l.l;refine OI pl.isList ?_;refine⟨s1.heap.objs.size,[s1.heap.objs.size],_,_,H1,rfl,I1.kept (t':=s1.toks) fun b o e=>MD _ e,pJ a _,⟨_,MZ _ rfl,rfl,rfl⟩,fun b hb=>?_,k _ H1 (Same.refl H1) (Dv g rr)⟩;have e:b=s1.heap.objs.size:=by simpa using hb
   subst e;exact I1.fpOk (MX _) (I1.hok.fresh (MX _))
  | tup qs=>
   cases ep;obtain⟨a,xs,rfl,g,rr⟩:=rp;cases r1;obtain⟨its,rv,pl,hz⟩:=I1.tuple g.sq;refine wpAny_pyIter_tuple (show s1.heap.IsTuple a its.toArray from pl) ?_;refine⟨s1.heap.objs.size,[s1.heap.objs.size],_,_,H1,rfl,I1.kept (t':=s1.toks) fun b o e=>MD _ e,ua a _,⟨_,MZ _ rfl,rfl,rfl⟩,fun b hb=>?_,k _ H1 (Same.refl H1) (GQ g.sq rr)⟩;have e:b=s1.heap.objs.size:=by simpa using hb
   subst e;exact I1.fpOk (MX _) (I1.hok.fresh (MX _))
  | dct ks qs=>
   cases ep;obtain⟨a,kvs,rfl,g,ek,rr⟩:=rp;cases r1
   obtain⟨o,es,ep,ho,hq,hs⟩:∃o es ep,o.data=.dict es ep/\B7 C.X.K H1 a o kvs/\(a == NL)=false:=by
    rcases g with⟨o,g⟩ | g
    ·obtain⟨e0,z,hs,vs,rel,o',es',ep',e1,x1,d1,rest⟩:=I1.hok a _ g
     rw[e0] at e1;cases e1;exact⟨o,es',ep',d1,.inl g,hs⟩
    ·obtain⟨_,hs,o,es,ep,e,x,d,r⟩:=id g
     exact⟨o,es,ep,d,.inr ⟨e,g⟩,hs⟩
   obtain⟨vs,rel,dat,_,_⟩:=hq.at hw I1 ho;have hl:kvs.length=vs.length:=NP rel;refine wpAny_pyIter_dict hs dat ?_;refine⟨s1.heap.objs.size,[s1.heap.objs.size],_,_,H1,rfl,I1.kept (t':=s1.toks) fun b o e=>MD _ e,vC a _ o es ep ho kvs hw,⟨_,MZ _ rfl,rfl,by rw[hl];rfl⟩,fun b hb=>?_,k _ H1 (Same.refl H1) (Dw hq ek)⟩;have e:b=s1.heap.objs.size:=by simpa using hb
   subst e;exact I1.fpOk (MX _) (I1.hok.fresh (MX _))
  | str y=>
   cases ep;cases (show x=.str y from rp);obtain⟨t,rfl⟩:=r1;refine wpAny_pyIter_strU ?_;refine⟨s1.heap.objs.size,[s1.heap.objs.size],_,_,H1,rfl,I1.kept (t':=s1.toks) fun b o e=>MD _ e,uc _ y t,⟨_,MZ _ rfl,rfl,rfl⟩,fun b hb=>?_,k _ H1 (Same.refl H1) Ai⟩;have e:b=s1.heap.objs.size:=by simpa using hb
   subst e;exact I1.fpOk (MX _) (I1.hok.fresh (MX _))
  | _=>cases ep
end
end PU
namespace PU
open PySem PySem.Spec PyProof.Rows L2 PySem.SeqAt
variable[TW]
def F4 (K:M9) (c:String):Prop:=∀t∈["NoneType","bool","int","str","tuple","list","dict"],QR K (.type t) (.type c)=some (GR t c)
theorem Dx {K:M9}:F4 K "str":=by intro t ht;simp only[MH,Mf,or_false] at ht;rcases ht with rfl | rfl | rfl | rfl | rfl | rfl | rfl <;> first | rfl | kernel_rfl
theorem Al {K:M9}:F4 K "bool":=by intro t ht;simp only[MH,Mf,or_false] at ht;rcases ht with rfl | rfl | rfl | rfl | rfl | rfl | rfl <;> first | rfl | kernel_rfl
theorem xx {K:M9}:F4 K "tuple":=by intro t ht;simp only[MH,Mf,or_false] at ht;rcases ht with rfl | rfl | rfl | rfl | rfl | rfl | rfl <;> first | rfl | kernel_rfl
theorem Ak {K:M9}:F4 K "dict":=by intro t ht;simp only[MH,Mf,or_false] at ht;rcases ht with rfl | rfl | rfl | rfl | rfl | rfl | rfl <;> first | rfl | kernel_rfl
theorem DG{c:String}{p z:PV}(h:vf c p=some z):z=.bl (GR (tyN p) c):=by
 cases p <;> cases h <;> rfl
def Ll(K:M9)(c:String):List V->Hp->VK->Prop:=fun vs H Q=>∃v p,vs=[v,.ty c]/\bw K H p v/\(vf c p).isSome=true/\Q (.bl (GR (tyN p) c)) H
theorem LG {X:Cx} {c:String} (hw:X.w=TW.w) (h:F4 X.K c):fF X (.builtin "isinstance") (Ll X.K c):=by
 intro pins s σ H xs us Q I r ⟨v,p,e1,rp,hsm,q⟩;subst e1;obtain⟨u,u2,rfl,ru,ru2⟩:=vals2 r;cases (show u2=OW c from ru2);have fin:∀tk,EP X pins σ Q (.bool (GR (tyN p) c)) { s with toks:=tk }:=fun tk=>⟨.bl _,H,I.tok _,rfl,q⟩;have hk:=fun t ht=>h t ht;cases p with
 | non=>cases (show v=.non from rp);cases ru;exact Nr PySem.W.kitx_none I.kIn OY (hk _ (by simp[tyN])) (fun z=>nomatch z) fin
 | bl b=>cases (show v=.bl b from rp);cases ru;exact Nr PySem.W.kitx_bool I.kIn OY (hk _ (by simp[tyN])) (fun z=>nomatch z) fin
 | int i=>cases (show v=.int i from rp);obtain⟨t,rfl⟩:=ru;exact Nr PySem.W.kitx_int I.kIn OY (hk _ (by simp[tyN])) (fun z=>nomatch z) fin
 | str i=>cases (show v=.str i from rp);obtain⟨t,rfl⟩:=ru;exact Nr PySem.W.kitx_str I.kIn OY (hk _ (by simp[tyN])) (fun z=>nomatch z) fin
 | tup ps=>
  obtain⟨a,ys,rfl,g,_⟩:=bw.tup_inv rp;cases ru;obtain⟨its,_,⟨o,e,c',_⟩,_⟩:=I.tuple g;exact Nr PySem.W.kitx_tuple I.kIn ⟨o,e,c'⟩ (hk _ (by simp[tyN])) (fun z=>nomatch z) fin
 | lst ps=>
  obtain⟨a,ys,rfl,g,_⟩:=bw.lst_inv rp;cases ru;obtain⟨_,its,n,_,e⟩:=g.is I;exact Nr PySem.W.kitx_list I.kIn ⟨_,e,rfl⟩ (hk _ (by simp[tyN])) (fun z=>nomatch z) fin
 | dct ks ps=>
  obtain⟨a,kvs,rfl,g,_⟩:=rp;cases ru;obtain⟨_,_,vs,_,o,es,ep,e,x,_⟩:=DkR.at hw I g;exact Nr Sz I.kIn ⟨o,e,x.1⟩ (hk _ (by simp[tyN])) (fun z=>nomatch z) fin
 | dtt ks ps=>
  obtain⟨a,kvs,rfl,g,_⟩:=rp;cases ru;obtain⟨_,_,_,_,o,es,ep,e,x,_⟩:=AI I.hok g;exact Nr Sz I.kIn ⟨o,e,x.1⟩ (hk _ (by simp[tyN])) (fun z=>nomatch z) fin
 | fn L cs=>cases hsm
theorem tH {C:Cn} {e:Expr} {f:PSt->R PV} {c:Str} {cs:String} {p p2 pos:O4} (h:F4 C.X.K cs) (hg:Gl C.X "isinstance") (hm:C.X.mg "isinstance"=none) (hg2:Gl C.X c) (hm2:C.X.mg c=none) (hb2:Nv c=some (.type cs)) (ha:EO C e f)
  (hs:MO [e,.Name c p2] C.X.env=[(false,NC e C.X.env),(false,NC (.Name c p2) C.X.env)]:=by exact o8 rfl rfl) (hs2:MO [.Name c p2] C.X.env=[(false,NC (.Name c p2) C.X.env)]:=by rfl)
  (hn:c≠"__name__":=by decide) (hd:(c == ("__debug__":Str))=false:=by decide) (hw:C.X.w=TW.w:=by rfl):EV C (.Call (.Name "isinstance" p) [e,.Name c p2] [] pos) (un1 f (vf cs)):=by
 intro pins s σ H Q I ⟨ρ,vw,q⟩;have hpa:PA C.X [e,.Name c p2] (zc (tO C f) (zc (tC (.ty cs)) HX)):=cg ha (cg (wC hg2 hm2 hb2 rfl hn hd) gg hs2) (by rw[hs,hs2]);refine oy (LG hw h) hg hm (by decide +kernel) hpa (by decide) (by decide) (by rw[hs,hs2]) (by rw[hs2];rfl) pins s σ H Q I ⟨ρ,vw,q.bind.imp fun p _ k v H1 s1 r1=>?_⟩;obtain⟨z,ez,k⟩:=RQ.ofO k;have hz:=DG ez;subst hz;exact⟨v,p,rfl,r1,by rw[ez];rfl,k _ H1 s1 rfl⟩
theorem cStr {X:Cx}:fF X (.type "str") (r1 X.K BK):=by
 intro pins s σ H xs us Q I r ⟨v,p,z,e1,rp,ez,k⟩;subst e1;cases p with
 | int i=>
  simp only[BK] at ez;split at ez
  ·rename_i hl
   cases ez;cases (show v=.int i from rp);exact qP pins s σ H _ us Q I r ⟨i,rfl,hl,k _ H (Same.refl H) rfl⟩
  ·cases ez
 | str x=>
  cases ez;cases (show v=.str x from rp);obtain⟨u,rfl,t,rfl⟩:=vals1 r;exact PySem.P.str_of_str ⟨.str x,H,I,⟨t,rfl⟩,k _ H (Same.refl H) rfl⟩
 | _=>cases ez
theorem xW{C:Cn}{e:Expr}{f:PSt->R PV}{pos:O4}(h:EV C e f):EV C (.UnaryOp .USub e pos) (un1 f GU):=by
 intro pins s σ H Q I ⟨ρ,vw,q⟩;refine IX FC h pins s σ H Q I ⟨ρ,vw,q.bind.imp fun p _ k v H1 s1 r1=>?_⟩;obtain⟨z,ez,k⟩:=k.ofO;cases p with
 | int i=>cases ez;cases (show v=.int i from r1);exact⟨i,rfl,k _ H1 s1 rfl⟩
 | _=>cases ez
def rM1(K:M9)(g:PV->PV->Option PV):V->List V->Hp->VK->Prop:=fun v vs H Q=>∃p q z u,vs=[u]/\bw K H p v/\bw K H q u/\g p q=some z/\∀w H',Same H H'->Rep K H' z w->Q w H'
structure StrM(name:Str)(id:String):Prop where
 slot:Slot "str" name id
 ty:typeOf (.builtin id)=pure (.type "method_descriptor")
theorem kX{C:Cn}{o e:Expr}{fo fe:PSt->R PV}{g:PV->PV->Option PV}{name:Str}{id:String}{apos cpos:O4}(S:StrM name id)(hm:MtR C.X id (rM1 C.X.K g))(ho:EV C o fo)(he:EO C e fe)
  (hbase:OZ o name C.X.env (NC o C.X.env)=NC o C.X.env:=by rfl) (hline:(apos.endLine == cpos.line)=true:=by rfl) (hs:MO [e] C.X.env=[(false,NC e C.X.env)]:=by exact cz rfl) :
  EV C (.Call (.Attribute o name apos) [e] [] cpos) (ie fo fe g):=by
 intro pins s σ H Q I ⟨ρ,vw,q⟩;refine zP S0 S.slot S.ty hm ho (qM he hs) hbase (by rw[hs];rfl) hline hs (by rfl) pins s σ H Q I ⟨ρ,vw,q.bind.imp fun p _ k v H1 s1 r1=>?_⟩;cases p with
 | str x=>
  cases (show v=.str x from r1);have k:RQ C H (fe ρ >>= fun q=>R.ofO (g (.str x) q)) fun p=>∀v H',Same H H'->Rep C.X.K H' p v->Q v H':=k;refine⟨rfl,ρ,vw.same s1,(k.bind.same s1).imp fun p2 _ k2 u H2 s2 r2=>?_⟩;obtain⟨z,ez,k3⟩:=k2.ofO;exact⟨.str x,p2,z,u,rfl,rfl,r2,ez,fun w H3 s3 r3=>k3 w H3 ((s1.trans s2).trans s3) r3⟩
 | _=>exact MG k
theorem ku{K:M9}{H:Hp}:∀{ps:List PV}{xs:List V}{us:List Value}{ys:List Str},kK ps=some ys->aM K H ps xs->Vals xs us->StrsAre us ys
 | [],_,_,_,e,r,rv=>by cases e;cases r;cases rv;exact .nil
 | p::ps,_,_,_,e,⟨x,t,ex,h1,h2⟩,rv=>by
  subst ex;cases p with
  | str y=>
   obtain⟨r,er,ez⟩:=MR.mp (show (kK ps).map (y::·)=some _ from e);subst ez;cases (show x=.str y from h1);cases rv with
   | cons a b=>
    obtain⟨tt,rfl⟩:=a;exact .cons y tt (ku er h2 b)
  | _=>cases e
theorem CD:StrM "join" "str.join":=⟨PySem.F.slot_str_join,PySem.F.type_str_join⟩
theorem Dn {X:Cx}:MtR X "str.join" (rM1 X.K mj):=by
 intro pins s σ H x xs v us Q I rx rs ⟨p,q,z,u,e1,rp,rq,ez,k⟩;subst e1;obtain⟨u',rfl,ru⟩:=vals1 rs;unfold mj at ez;split at ez
 ·rename_i y ps
  obtain⟨ys,ey,ez⟩:=MQ.mp ez;split at ez
  ·rename_i hl
   cases ez;cases (show x=.str y from rp);obtain⟨t,rfl⟩:=rx;obtain⟨a,zs,rfl,g,rr⟩:=bw.lst_inv rq;cases ru;obtain⟨_,its,n,rv,e⟩:=g.is I;exact join_list (items:=its.toArray) ⟨_,e,rfl,_,rfl⟩ (ku ey rr (by simpa using rv)) hl fun t' k'=>⟨.str _,H,I.tok _,⟨_,rfl⟩,k _ H (Same.refl H) rfl⟩
  ·cases ez
 ·rename_i y ps
  obtain⟨ys,ey,ez⟩:=MQ.mp ez;split at ez
  ·rename_i hl
   cases ez;cases (show x=.str y from rp);obtain⟨t,rfl⟩:=rx;obtain⟨a,zs,rfl,g,rr⟩:=bw.tup_inv rq;cases ru;obtain⟨its,rv,pl,_⟩:=I.tuple g;exact join_tuple (items:=its.toArray) pl (ku ey rr (by simpa using rv)) hl fun t' k'=>⟨.str _,H,I.tok _,⟨_,rfl⟩,k _ H (Same.refl H) rfl⟩
  ·cases ez
 ·cases ez
end PU
namespace PU
open PySem PySem.Spec PyProof.Rows L2 PySem.SeqAt
variable[TW]
def Lg(K:M9):V->Option Int->Option Int->Hp->VK->Prop:=fun v lo hi H Q=>∃p z,bw K H p v/\gSl p lo hi=some z/\∀w H',Same H H'->Rep K H' z w->Q w H'
noncomputable def tOI(C:Cn)(f:PSt->R (Option Int)):TO:=fun σ H Q=>∃ρ,View C.X.K H σ ρ/\RQ C H (f ρ) fun o=>∀H',Same H H'->Q o H'
def EOI(C:Cn)(e:Option Expr)(f:PSt->R (Option Int)):Prop:=PO C.X e (tOI C f)
theorem tQ{K:M9}{H:Hp}{ps:List PV}{xs:List V}(r:aM K H ps xs)(lo hi:Option Int):aM K H (jf ps lo hi) (AM xs lo hi):=by
 unfold jf AM;rw[r.length];exact(r.drop _).take _
section
variable{C : Cn}{e : Expr}{f : PSt → R PV}{lo hi : Option Expr}{l h : PSt → R (Option Int)}{pos p2 : O4}
theorem fO:EOI C none gi:=fun pins s σ H Q I ⟨ρ,vw,q⟩=>CW pins s σ H Q I (q H (Same.refl H))
theorem eL(he:EV C e f):EOI C (some e) (jg f):=by
 intro pins s σ H Q I ⟨ρ,vw,q⟩;refine CV he pins s σ H Q I ⟨ρ,vw,q.bind.imp fun p _ k v H1 s1 r1=>?_⟩;cases p with
 | int i=>cases (show v=.int i from r1);exact⟨i,rfl,k H1 s1⟩
 | _=>exact MG k
theorem slP{X:Cx}:SlR X (Lg X.K):=by
 intro pins s σ H x v vl vu lo hi sl Q I rx hs pl pu ⟨p,z,rp,ez,k⟩;cases p with
 | lst ps=>
  cases ez;obtain⟨a,xs,rfl,g,rr⟩:=bw.lst_inv rp;obtain⟨T,id,h1,h2,h3⟩:=Cv pins s σ H _ v vl vu lo hi sl (fun w H'=>∃b,w=.ref b/\H b=none/\H'=upd H b (.lst (AM xs lo hi))) I rx hs pl pu ⟨a,xs,rfl,g.l,fun b hb=>⟨b,rfl,hb,rfl⟩⟩;refine⟨T,id,h1,h2,thn h3 fun u s' ⟨w,H',I',rw',b,ew,nb,eH⟩=>?_⟩;subst ew eH;obtain⟨H2,I2,rp2,oth⟩:=L2.Inv.frz (a:=b) (p:=.lst (jf ps lo hi)) I' ⟨_,aA,(tQ rr lo hi).same (Same.new nb)⟩;refine⟨.ref b,H2,I2,rw',k _ H2 (.of fun c o ec=>?_) rp2⟩;have hc:=bT ec nb;rw[oth c hc,az hc];exact ec
 | tup ps=>
  simp only[gSl] at ez;obtain⟨a,xs,rfl,g,rr⟩:=bw.tup_inv rp
  by_cases hw:HT.sIx ps.length 0 lo=0/\HT.sIx ps.length ps.length hi=ps.length
  ·rw[if_pos hw] at ez
   cases ez
  ·rw[if_neg hw] at ez
   cases ez;exact FM pins s σ H _ v vl vu lo hi sl Q I rx hs pl pu ⟨a,xs,rfl,g,by rw[← rr.length];exact hw,fun b hb=>k _ _ (Same.new hb) ⟨b,_,rfl,(.inl aA),(tQ rr lo hi).same (Same.new hb)⟩⟩
 | _=>cases ez
theorem dC(ha:EO C e f)(hl:EOI C lo l)(hh:EOI C hi h):EV C (.Subscript e (.Slice lo hi none p2) pos) (fH f l h):=by
 intro pins s σ H Q I ⟨ρ,vw,q⟩;refine zJ slP ha hl hh pins s σ H Q I ⟨ρ,vw,q.bind.imp fun p _ k v H1 s1 r1=>⟨ρ,vw.same s1,(k.bind.same s1).imp fun o1 _ k2 H2 s2=>⟨ρ,(vw.same s1).same s2,(k2.bind.same (s1.trans s2)).imp fun o2 _ k3 H3 s3=>?_⟩⟩⟩;obtain⟨z,ez,k4⟩:=k3.ofO;exact⟨p,z,(r1.same s2).same s3,ez,fun w H4 s4 r4=>k4 w H4 (((s1.trans s2).trans s3).trans s4) r4⟩
end
theorem qa{K:M9}{H:Hp}{k:Key}{p:PV}{v:V}(rp:Rep K H p v):∀{kvs:List (Key×V)}{ps:List PV},aM K H ps (kvs.map (·.2))->aM K H (vW (kvs.map (·.1)) ps k p) ((kvs.map fun kv=>if kv.1=k then (kv.1,v) else kv).map (·.2))
 | [],ps,r=>by
  cases ps with
  | nil=>rfl
  | cons q qs=>obtain⟨x,t,e,_⟩:=r;cases e
 | kv::kvs,ps,r=>by
  cases ps with
  | nil=>cases r
  | cons q qs=>
   obtain⟨x,t,e,h1,h2⟩:=r;simp only[MN,R6] at e;obtain⟨rfl,rfl⟩:=e;have ih:=qa (k:=k) rp h2;simp only[MN,vW,QM]
   by_cases hk:kv.1=k
   ·rw[if_pos hk,if_pos hk];exact⟨_,_,rfl,rp,ih⟩
   ·rw[if_neg hk,if_neg hk];exact⟨_,_,rfl,h1,ih⟩
theorem zB{K:M9}{H:Hp}{kvs:List (Key×V)}{ps:List PV}{k:Key}{p:PV}{v:V}(rr:aM K H ps (kvs.map (·.2)))(rp:Rep K H p v) :
  ∃ks' ps',CS (kvs.map (·.1)) ps k p=.dct ks' ps'/\(putK kvs k v).map (·.1)=ks'/\aM K H ps' ((putK kvs k v).map (·.2)):=by
 unfold CS;have e:((kvs.map (·.1)).any fun j=>decide (j=k))=(kvs.any fun kv=>decide (kv.1=k)):=by rw[Pm];rfl
 rw[e];unfold putK
 split
 ·refine⟨_,_,rfl,?_,qa rp rr⟩
  rw[Mt];apply Oq;intro kv _;simp only[Tu]
  split <;> rfl
 ·refine⟨_,_,rfl,by simp,?_⟩
  rw[Mp];exact aM.append rr ⟨_,_,rfl,rp,rfl⟩
theorem CO{K:M9}{H:Hp}{a:Addr}{kvs:List (Key×V)}{ps:List PV}{k:Key}{p:PV}{v:V}(rr:aM K H ps (kvs.map (·.2)))(rp:Rep K H p v)(ha:H a=some (.dK (putK kvs k v))):dE K H a (CS (kvs.map (·.1)) ps k p):=by
 obtain⟨ks',ps',e,e1,e2⟩:=zB (k:=k) rr rp;rw[e];exact⟨_,ha,e1,e2⟩
theorem DW{C:Cn}{pos:O4}:EN C (.Dict [] [] pos) newD:=fun pins s σ H Q I ⟨ρ,vw,q⟩=>zL pins s σ H Q I fun p hp=>q p _ (Same.new hp) hp ⟨[],aA,rfl,rfl⟩
def Et(K:M9)(H:Hp):List (Key×PV)->List (Key×V)->Prop
 | [],xs=>xs=[]
 | kp::r,xs=>∃v t,xs=(kp.1,v)::t/\Rep K H kp.2 v/\Et K H r t
def ED(C:Cn)(pos:O4)(ks:List (Option Expr))(vs:List Expr)(f:PSt->R (List (Key×PV))):Prop:=∃trs,PPs C.X pos ks vs trs/\
 ∀σ H Q,(∃ρ,View C.X.K H σ ρ/\RQ C H (f ρ) fun kps=>∀kvs H',Same H H'->Et C.X.K H' kps kvs->Q (kvs.map fun kv=>(kV kv.1,kv.2)) H')->mZ trs σ H Q
end PU
namespace PU
open PySem PySem.Spec PyProof.Rows L2 PySem.SeqAt
variable[TW]
structure Con(K:M9)(mg:Str->Option Value)(x:Str)(c:PV):Prop where
 ex:∃v u,mg x=some u/\RelV v u/\∀H,Rep K H c v
theorem fL {C:Cn} {x:Str} {c:PV} {pos:O4} (hg:Gl C.X x) (h:Con C.X.K C.X.mg x c) (hd:(x == ("__debug__":Str))=false:=by decide):EV C (.Name x pos) (kP c):=by
 obtain⟨v,u,hm,r,rp⟩:=h.ex;exact DT hg hm r rp hd
noncomputable def BP(p:Params)(e:Str×Sn×Value):DictEntry:={ hash:=PyData.keyHash p e.1,key:=.str e.1 e.2.1,val:=e.2.2 }
omit [TW] in
theorem uI(w:Me)(x:Str):PyData.keyHash w.params x=hashStr w x:=rfl
omit [TW] in
theorem nv{P:MP}{w:Me}:∀(es:List (Str×Sn×Value)),Pairs (aE P w) (es.map (BP w.params)) (es.map fun e=>((NQ e.1:Key),e.2.2))
 | []=>.nil
 | e::es=>.cons (ja P w e.1 e.2.1) rfl (nv es)
omit [TW] in
theorem xj:∀{xs:List V}{es:List (Str×Sn×Value)},Vals xs (es.map (·.2.2))->KV ((es.map fun e=>(NQ e.1:Key)).zip xs) (es.map fun e=>((NQ e.1:Key),e.2.2))
 | [],[],_=>.nil
 | x::xs,e::es,r=>by
  cases r with
  | cons a b=>exact .cons ⟨rfl,a⟩ (xj b)
 | [],_::_,r=>by cases r
 | _::_,[],r=>by cases r
omit [TW] in
theorem con_dct{w:Me}{tabs:List Addr}{qual:Nat->Nat->Str}{K:M9}{h:Heap}{mg:Str->Option Value}{x:Str}{a:Addr}{o:Obj}(es:List (Str×Sn×Value)){ep:Nat}{ps:List PV}{xs:List V}(X:K.In h)(G:h.Ns MM mg)
  (n1:Ma K MM x=some (some (.ref a))) (n2:K.lookup a=some o) (n3:o={ cls:=.type "dict",data:=.dict (es.map (BP w.params)).toArray ep }) (hs:(a == NL)=false)
  (nd:(es.map (·.1)).Nodup) (hz:es.length<=sizeLine) (vals:Vals xs (es.map (·.2.2))) (reps:∀H,@aM ⟨w,tabs,qual⟩ K H ps xs):@Con ⟨w,tabs,qual⟩ K mg x (.dct (es.map fun e=>.inr e.1) ps):=by
 letI:TW:=⟨w,tabs,qual⟩
 have hl:xs.length=es.length:=by rw[vals.length,MC]
 have e1:((es.map fun e=>(NQ e.1:Key)).zip xs).map (·.1)=es.map fun e=>.inr e.1:=List.map_fst_zip (by rw[MC];omega);have e2:((es.map fun e=>(NQ e.1:Key)).zip xs).map (·.2)=xs:=List.map_snd_zip (by rw[MC];omega);refine⟨.ref a,_,O0 X G n1,rfl,fun H=>⟨a,(es.map fun e=>(NQ e.1:Key)).zip xs,rfl,.inr ⟨?_,hs,o,_,_,n2,?_,by rw[n3],fun P=>⟨es.map fun e=>((NQ e.1:Key),e.2.2),xj vals,?_,?_,?_⟩⟩,e1,by rw[e2];exact reps H⟩⟩
 ·rw[List.length_zip,MC,hl]
  omega
 ·rw[n3]
  exact⟨rfl,rfl,rfl⟩
 ·intro e he
  have he:e∈es.map (BP w.params):=by simpa using he
  obtain⟨z,_,rfl⟩:=Mr.mp he;exact⟨.inr z.1,ja P w z.1 z.2.1,uI w z.1⟩
 ·have e3:(es.map (BP w.params)).toArray.toList=es.map (BP w.params):=by simp
  rw[e3];exact nv (P:=P) (w:=w) es
 ·rw[Mt]
  have:((·.1) ∘ fun e:Str×Sn×Value=>((NQ e.1:Key),e.2.2))=NQ ∘ (·.1):=rfl;rw[this,← Mt];exact List.Pairwise.map _ (fun a b hab e=>hab (Sum.inr.inj e)) nd
theorem Ji{P:MP}{w:Me}{K:M9}{mg:Str->Option Value}{base:Heap}{x qual:Str}{st:Stmt}{f:Addr}{fd:FuncData}{N ps:List Str}{k:Nat}{g:PSt->R Fl}(F:Fun K x qual st f fd)(S:FnScope N ps (af st))
  (hbody:∀(cdv:Value)(A:Mi)(outer:List QX)(s:MB)(H:Hp)(E:XK),Room k (A.deeper (Og qual (af st) s.heap.objs.size f cdv))->SVs (Eb P w K mg base N qual (af st) f cdv A outer s H E) (ba st) g) :
  FnOk P w K mg base CX0 (k+1) f fd ps (spP K ps.length (iI ps.length N.length g)):=by
 refine F.ok S (fun vs H Q E h=>h.1) (fun cdv A outer s H vs Q E hr h=>?_);obtain⟨hl,tb,qs,p,r,e,k⟩:=h;refine⟨_,hbody cdv A outer s H E hr,start N.length qs,⟨H,H,fun _=>none⟩,l0 tb r,?_⟩;unfold iI at e;rw[if_pos (by rw[r.length];exact hl)] at e;cases hg:g (start N.length qs) with
 | ok fl=>
  rw[hg] at e;cases fl with
  | next ρ=>cases e;exact fun σ H' S'=>k .non H' S'.same rfl
  | ret q=>cases e;exact fun v H' s' r'=>k v H' s' r'
  | brk ρ=>cases e
  | cont ρ=>cases e
 | er x=>rw[hg] at e;cases e
 | no=>rw[hg] at e;cases e
theorem ui{K:M9}{H:Hp}{a:Addr}{ns:List Int}(h:SqF K H a (ns.map V.int)):aM K H [.lst (ns.map .int)] [.ref a]:=by
 have:∀l:List Int,aM K H (l.map PV.int) (l.map V.int):=by
  intro l
  induction l with
  | nil=>rfl
  | cons x l ih=>exact⟨_,_,rfl,rfl,ih⟩
 exact⟨_,_,rfl,⟨a,_,rfl,h,this ns⟩,rfl⟩
end PU
section
namespace PU
noncomputable def whF(t:PSt->R Bool)(g:PSt->R Fl):Nat->PSt->R Fl
 | 0,_=>.no
 | n+1,ρ=>t ρ >>= fun b=>if b=true then g ρ >>= fun fl=>(match fl with
  | .next ρ2=>whF t g n ρ2
  | .cont ρ2=>whF t g n ρ2
  | .brk ρ2=>.ok (.next ρ2)
  | .ret q=>.ok (.ret q)) else .ok (.next ρ)
def whS(n:Nat)(t:PSt->R Bool)(g:PSt->R Fl):PSt->R Fl:=whF t g n
end PU
namespace PU
open PySem PySem.Spec PyProof.Rows L2 PySem.SeqAt
variable[TW]
theorem zd{C:Cn}{c:Expr}{body:List Stmt}{t:PSt->R Bool}{g:PSt->R Fl}{pos:O4}(n:Nat)(hc:ET C c t)(hb:SVs C body g)(hp:R9 (MV C.X.prog C.X.w) C.X.A C.X.env C.X.xe:=by exact R3):SV C (.While c body [] pos) (whS n t g):=by
 intro pins s σ H D I ⟨ρ,B,S,q⟩;refine zE hp hc hb pins s σ H D I ⟨fun m σ' H'=>∃ρ',StOk C.X.K B H' σ' ρ'/\RS C B D (whF t g m ρ'),⟨n,ρ,S,q⟩,?_⟩;rintro m σ' H' ⟨ρ',S',q'⟩;cases m with
 | zero=>exact MG q'
 | succ m=>
  have q':RS C B D (t ρ' >>= fun b=>if b=true then g ρ' >>= fun fl=>(match fl with
   | .next ρ2=>whF t g m ρ2
   | .cont ρ2=>whF t g m ρ2
   | .brk ρ2=>.ok (.next ρ2)
   | .ret q=>.ok (.ret q)) else .ok (.next ρ')):=q'
  refine⟨ρ',S'.vw,(q'.bind S'.same).imp fun b _ k H1 s1=>?_⟩;cases b with
  | false=>
   rw[if_neg ML] at k ⊢;exact k σ' H1 (S'.grow s1)
  | true=>
   rw[if_pos rfl] at k ⊢;refine⟨fun σ2 H2=>∃ρ2,StOk C.X.K B H2 σ2 ρ2/\RS C B D (whF t g m ρ2),fun σ2 H2 z=>⟨m,Nat.lt_succ_self m,z⟩,ρ',B,S'.grow s1,?_⟩;cases hgr:g ρ' with
   | ok fl=>
    rw[hgr] at k;cases fl with
    | next ρ2=>exact fun σ4 H4 S4=>⟨ρ2,S4,k⟩
    | cont ρ2=>exact fun σ4 H4 S4=>⟨ρ2,S4,k⟩
    | brk ρ2=>exact fun σ4 H4 S4=>k σ4 H4 S4
    | ret p=>exact k
   | er x=>rw[hgr] at k;exact k
   | no=>rw[hgr] at k;exact k
end PU
end
section
namespace PU
open PySem
noncomputable def km:PV->PV->Option PV
 | .str x,.str y=>some (.bl (Txt.startswith x y))
 | _,_=>none
noncomputable def qH:PV->PV->Option PV
 | .str x,.str y=>some (.int (Txt.count x y))
 | _,_=>none
noncomputable def mI:List PV->Option (List Bool)
 | []=>some []
 | .bl b::r=>(mI r).map (b::·)
 | _::_=>none
def DJ:PV->Option PV
 | .lst ps=>(mI ps).bind fun bs=>some (.bl (bs.all id))
 | _=>none
def GW:PV->Option PV
 | .lst ps=>(mI ps).bind fun bs=>some (.bl (bs.any id))
 | _=>none
end PU
namespace PU
open PySem PySem.Spec PyProof.Rows L2 PySem.SeqAt
variable[TW]
theorem vS:StrM "startswith" "str.startswith":=⟨PySem.F.slot_str_startswith,PySem.F.type_str_startswith⟩
theorem FS:StrM "count" "str.count":=⟨PySem.F.slot_str_count,PySem.F.type_str_count⟩
theorem jo{K:M9}{H:Hp}{p q z:PV}{x u:V}{v:Value}{us:List Value}{g:PV->PV->Option PV}(hg:∀p q z,g p q=some z->∃a b,p=.str a/\q=.str b)(rx:RelV x v)(rs:Vals [u] us)(rp:bw K H p x)(rq:bw K H q u)(ez:g p q=some z) :
  ∃a b t t2,p=.str a/\q=.str b/\v=.str a t/\us=[.str b t2]:=by
 obtain⟨a,b,rfl,rfl⟩:=hg p q z ez;obtain⟨u',rfl,ru⟩:=vals1 rs;cases (show x=.str a from rp);cases (show u=.str b from rq);obtain⟨t,rfl⟩:=rx;obtain⟨t2,rfl⟩:=ru;exact⟨a,b,t,t2,rfl,rfl,rfl,rfl⟩
theorem wW {X:Cx}:MtR X "str.startswith" (rM1 X.K km):=by
 intro pins s σ H x xs v us Q I rx rs ⟨p,q,z,u,e1,rp,rq,ez,k⟩;subst e1;obtain⟨a,b,t,t2,rfl,rfl,rfl,rfl⟩:=jo (g:=km) (fun p q z e=>by unfold km at e;split at e;exact⟨_,_,rfl,rfl⟩;cases e) rx rs rp rq ez;cases ez;exact SC.startswith ⟨.bl _,H,I,rfl,k _ H (Same.refl H) rfl⟩
theorem Gy {X:Cx}:MtR X "str.count" (rM1 X.K qH):=by
 intro pins s σ H x xs v us Q I rx rs ⟨p,q,z,u,e1,rp,rq,ez,k⟩;subst e1;obtain⟨a,b,t,t2,rfl,rfl,rfl,rfl⟩:=jo (g:=qH) (fun p q z e=>by unfold qH at e;split at e;exact⟨_,_,rfl,rfl⟩;cases e) rx rs rp rq ez;cases ez;exact SC.count ⟨.int _,H,I.tok _,⟨_,rfl⟩,k _ H (Same.refl H) rfl⟩
theorem mH{K:M9}{H:Hp}:∀{ps:List PV}{xs:List V}{us:List Value}{bs:List Bool},mI ps=some bs->aM K H ps xs->Vals xs us->us=bs.map Rh
 | [],_,_,_,e,r,rv=>by cases e;cases r;cases rv;rfl
 | p::ps,_,_,_,e,⟨x,t,ex,h1,h2⟩,rv=>by
  subst ex;cases p with
  | bl y=>
   obtain⟨r,er,ez⟩:=MR.mp (show (mI ps).map (y::·)=some _ from e);subst ez;cases (show x=.bl y from h1);cases rv with
   | cons a b=>
    cases a;rw[mH er h2 b];rfl
  | _=>cases e
theorem wb(bs:List Bool):(Mz bs.length).all (fun i=>bs.getD i false)=bs.all id:=by
 rw[OP];simp only[NY,Pq,id];constructor
 ·intro h b hb
  obtain⟨i,hi,e⟩:=TM hb;have:=h i hi;rw[NA,Ml hi,e] at this;exact this
 ·intro h i hi
  rw[NA,Ml hi];exact h _ (O6 hi)
theorem vZ(bs:List Bool):(Mz bs.length).any (fun i=>bs.getD i false)=bs.any id:=by
 rw[OP];simp only[QF,Pq,id];constructor
 ·rintro⟨i,hi,e⟩
  rw[NA,Ml hi] at e;exact⟨_,O6 hi,e⟩
 ·rintro⟨b,hb,e⟩
  obtain⟨i,hi,e2⟩:=TM hb;exact⟨i,hi,by rw[NA,Ml hi,e2];exact e⟩
theorem JT {X:Cx} (hc:X.calm=true:=by rfl):fF X (.builtin "all") (r1 X.K DJ):=by
 intro pins s σ H xs us Q I r ⟨v,p,z,e1,rp,ez,k⟩;subst e1;unfold DJ at ez;split at ez
 ·rename_i ps
  obtain⟨bs,eb,ez⟩:=MQ.mp ez;cases ez;obtain⟨a,zs,rfl,g,rr⟩:=bw.lst_inv rp;obtain⟨u,rfl,ru⟩:=vals1 r;cases ru;obtain⟨_,its,n,rv,eg⟩:=g.is I;have ei:=mH eb rr rv;have hl:s.heap.IsList a its.toArray:=⟨_,eg,rfl,_,rfl⟩;have la:=MJ eg;have hh:X.A.in1.handled=none:=I.ok.hd hc;refine call_all_walk (OI hl ⟨s.heap.objs.size,_,_,_,_,_,fun i=>bs.getD i false,rfl,Walks.list hh s.heap.objs.size a (MU la) its.toArray,⟨?_,?_⟩,?_,fun h' tk keep=>?_⟩)
  ·exact⟨_,MZ _ rfl,rfl,rfl⟩
  ·exact⟨_,MD _ eg,rfl,_,rfl⟩
  ·intro i v s' Q' E' hv hQ
   have hv:its.toArray[i]?=some v:=hv;rw[ei,Sx,MS] at hv;obtain⟨b,hb,rfl⟩:=MR.mp hv;have hQ:Q' (bs.getD i false) s':=hQ;rw[NA,hb] at hQ;exact ND hQ
  ·have e2:its.toArray.size=bs.length:=by rw[ei];simp
   rw[e2,wb];exact⟨.bl _,H,I.kept (t':=tk) (fun b o e=>keep b o (fun z=>by rw[NT] at z;exact absurd (MJ e) (z▸Ms _)) (MD _ e)),rfl,k _ H (Same.refl H) rfl⟩
 ·cases ez
theorem LH {X:Cx} (hc:X.calm=true:=by rfl):fF X (.builtin "any") (r1 X.K GW):=by
 intro pins s σ H xs us Q I r ⟨v,p,z,e1,rp,ez,k⟩;subst e1;unfold GW at ez;split at ez
 ·rename_i ps
  obtain⟨bs,eb,ez⟩:=MQ.mp ez;cases ez;obtain⟨a,zs,rfl,g,rr⟩:=bw.lst_inv rp;obtain⟨u,rfl,ru⟩:=vals1 r;cases ru;obtain⟨_,its,n,rv,eg⟩:=g.is I;have ei:=mH eb rr rv;have hl:s.heap.IsList a its.toArray:=⟨_,eg,rfl,_,rfl⟩;have la:=MJ eg;have hh:X.A.in1.handled=none:=I.ok.hd hc;refine call_any_walk (OI hl ⟨s.heap.objs.size,_,_,_,_,_,fun i=>bs.getD i false,rfl,Walks.list hh s.heap.objs.size a (MU la) its.toArray,⟨?_,?_⟩,?_,fun h' tk keep=>?_⟩)
  ·exact⟨_,MZ _ rfl,rfl,rfl⟩
  ·exact⟨_,MD _ eg,rfl,_,rfl⟩
  ·intro i v s' Q' E' hv hQ
   have hv:its.toArray[i]?=some v:=hv;rw[ei,Sx,MS] at hv;obtain⟨b,hb,rfl⟩:=MR.mp hv;have hQ:Q' (bs.getD i false) s':=hQ;rw[NA,hb] at hQ;exact ND hQ
  ·have e2:its.toArray.size=bs.length:=by rw[ei];simp
   rw[e2,vZ];exact⟨.bl _,H,I.kept (t':=tk) (fun b o e=>keep b o (fun z=>by rw[NT] at z;exact absurd (MJ e) (z▸Ms _)) (MD _ e)),rfl,k _ H (Same.refl H) rfl⟩
 ·cases ez
end PU
end
section
namespace PU
def Am:PV->Bool
 | .dct _ _=>true
 | _=>false
noncomputable def A1(fo fe:PSt->R PV)(g:PV->PV->Option PV):PSt->R PV:=fun ρ=>fo ρ >>= fun p=>if Am p=true then fe ρ >>= fun q=>R.ofO (g p q) else .no
def F2:PV->PV->Option PV
 | .dct ks ps,q=>(lA q).bind fun k=>some ((fV ks ps k).getD .non)
 | _,_=>none
end PU
namespace PU
open PySem PySem.Spec PyProof.Rows L2 PySem.SeqAt
variable[TW]
theorem nE{K:M9}{H:Hp}{k:Key}:∀{ks:List Key}{ps:List PV}{kvs:List (Key×V)},kvs.map (·.1)=ks->aM K H ps (kvs.map (·.2))->fV ks ps k=none->o4 kvs k=none
 | _,_,[],h1,h2,e=>rfl
 | _,[],kv::kvs,h1,h2,e=>by
  cases h2
 | _,q::ps,kv::kvs,h1,h2,e=>by
  subst h1;obtain⟨x,r,ex,hx,ht⟩:=h2;simp only[MN,R6] at ex;obtain⟨rfl,rfl⟩:=ex;simp only[MN,fV] at e
  by_cases hk:kv.1=k
  ·rw[if_pos hk] at e
   cases e
  ·rw[if_neg hk] at e
   rw[dm hk];exact nE rfl ht e
theorem DU{C:Cn}{o e:Expr}{fo fe:PSt->R PV}{apos cpos:O4}(ho:EO C o fo)(he:EO C e fe)(hw:C.X.w=TW.w:=by rfl)
  (hbase:OZ o "get" C.X.env (NC o C.X.env)=NC o C.X.env:=by rfl) (hline:(apos.endLine == cpos.line)=true:=by rfl) (hs:MO [e] C.X.env=[(false,NC e C.X.env)]:=by exact cz rfl) :
  EV C (.Call (.Attribute o "get" apos) [e] [] cpos) (A1 fo fe F2):=by
 intro pins s σ H Q I ⟨ρ,vw,q⟩;refine Td hbase (by rw[hs];rfl) hline rfl (thn (ho pins s σ H (fun v H1=>∃p,bw C.X.K H1 p v/\Same H H1/\RQ C H (if Am p=true then fe ρ >>= fun q=>R.ofO (F2 p q) else .no) fun p=>∀v H',Same H H'->Rep C.X.K H' p v->Q v H') I ⟨ρ,vw,q.bind.imp fun p _ k v H1 s1 r1=>⟨p,r1,s1,k⟩⟩) fun v s1 ⟨x,H1,I1,r1,p,ro,sm,k⟩=>?_);cases p with
 | dct ks ps=>
  have ro':=ro;obtain⟨a,kvs,rfl,g,e1,r⟩:=ro;cases r1;obtain⟨hz,hd,vs,rel,dd⟩:=DkR.at hw I1 g;have k:RQ C H (fe ρ >>= fun q=>R.ofO (F2 (.dct ks ps) q)) fun p=>∀v H',Same H H'->Rep C.X.K H' p v->Q v H':=k;refine⟨"dict","dict.get",PySem.F.plainAttrs_dict,SH,PySem.F.type_dict_get,dd.typeIs,dd.mapOf.noDict,?_⟩
  have hA:=(qM he hs) cpos pins s1 σ H1 (fun xs H2=>∃q z u,xs=[u]/\bw C.X.K H2 q u/\F2 (.dct ks ps) q=some z/\Same H1 H2/\∀v H',Same H H'->Rep C.X.K H' z v->Q v H') I1 ⟨ρ,vw.same sm,(k.bind.same sm).imp fun q _ k2 u H2 s2 r2=>by
   obtain⟨z,ez,k3⟩:=k2.ofO;exact⟨q,z,u,rfl,r2,ez,s2,k3⟩⟩
  rw[hs] at hA ⊢;refine SY rfl (Ss ?_);refine thn hA fun us s2 ⟨xs,H2,I2,r2,q,z,u,eu,rq,ez,s2',k3⟩=>?_;subst eu;obtain⟨u',rfl,ru⟩:=vals1 r2;obtain⟨kk,ek,ez⟩:=MQ.mp (show (lA q).bind (fun k=>some ((fV ks ps k).getD .non))=some z from ez);cases ez;have hy:=gP ek rq;subst hy;obtain⟨a2,kvs2,ea,g2,e2,rr2⟩:=ro'.same s2';cases ea;obtain⟨_,hd2,vs2,rel2,dd2⟩:=DkR.at hw I2 g2;refine call_meetsIn SH dd2.typeIs PySem.F.entry_dict_get (PySem.F.args_dict_get_2 _ _) (meets_dict_get (aE C.X.prog C.X.w) a (oK ru) hd2) ⟨_,dd2.mapOf,?_⟩;cases el:fV ks ps kk with
  | some p'=>
   obtain⟨w,ew,rp⟩:=jF e2 rr2 el;obtain⟨w',hw',rw'⟩:=sv.some_of (v:=w) (o:=Nu vs2 kk) (by rw[← ew];exact rel2.val kk);rw[hw'];rw[el] at k3;exact⟨w,H2,I2.tok _,rw',k3 w H2 (sm.trans s2') rp⟩
  | none=>
   have ew:=nE (k:=kk) e2 rr2 el;have hn:Nu vs2 kk=none:=sv.none_of (by rw[← ew];exact rel2.val kk);rw[hn];rw[el] at k3;exact⟨.non,H2,I2.tok _,rfl,k3 .non H2 (sm.trans s2') rfl⟩
 | _=>exact MG k
end PU
end
namespace PU
open PySem PySem.Spec PyProof.Rows L2 PySem.SeqAt
theorem o7:isSubtype (.type "dict") (.type "dict")=pure true:=by rw[isSubtype_type];kernel_rfl
section
variable{P : MP}{w : Me}{A : Mi}{E : Value → MB → Prop}{s : MB}{d : Addr}{kvs : List (Key×Value)}{ep : Nat}
theorem qr{Q:Value->MB->Prop}(hh:A.handled=none)(hd:(d == NL)=false)(m:s.heap.DictAt (aE P w) d kvs ep)(hz:kvs.length<=sizeLine)
  (q:∀(h':Heap) (tk:Nat) (acc:Array Value) (c:Nat),(∀b o,s.heap.get? b=some o->h'.get? b=some o)->h'.get? s.heap.objs.size=some { cls:=.type "list",data:=.seq acc c }->
   ItemsOf (fun i v=>∃k x,kvs[i]?=some (k,x)/\(aE P w).is k v=true) acc kvs.length->Q (.ref s.heap.objs.size) { s with heap:=h',toks:=tk }):MK (MV P w) A (call (.type "list") [.ref d]) Q E s:=by
 have ld:d<s.heap.objs.size:=by obtain⟨o,es,ho,_⟩:=m;exact MJ ho
 refine callType_codes (Q₁:=fun obj s₁=>obj=.ref s.heap.objs.size/\s₁={ s with heap:=s.heap.push { cls:=.type "list",data:=.seq #[] } }) PySem.F.called_list (PySem.F.typeCall_list_1 _) PySem.F.entry_list_init (code_list_new _ ⟨rfl,rfl⟩) fun obj s₁ h₁=>?_;obtain⟨rfl,rfl⟩:=h₁;have g0:(s.heap.push { cls:=.type "list",data:=.seq #[] }).get? s.heap.objs.size=some { cls:=.type "list",data:=.seq #[] }:=MZ _ rfl;refine⟨⟨_,g0,rfl⟩,PySem.F.args_list_init_2 _ _,?_⟩;show MK _ _ (do let old<- RF (.ref s.heap.objs.size);Builtin.List.listUpdate (.ref s.heap.objs.size) (fun _=>#[]);letGo old.toList.reverse;PH (.ref s.heap.objs.size) (.ref d) .none) _ _ _;refine MA ?_;unfold RF;refine MA (Nx g0 rfl (ME ?_));show MK _ _ (updateSeq s.heap.objs.size (fun _=>#[]) >>= fun _=>letGo (#[]:Array Value).toList.reverse >>= fun _=>PH (.ref s.heap.objs.size) (.ref d) .none) _ _ _;refine MA (SU g0 rfl ?_ (O5 _) (O5 _));have g1:=Nc (Nz (fun _=>(#[]:Array Value))) g0 rfl
 have k1:∀b o,s.heap.get? b=some o->((s.heap.push { cls:=.type "list",data:=.seq #[] }).update s.heap.objs.size (Nz (fun _=>(#[]:Array Value)))).get? b=some o:=
  fun b o e=>(N5 _ _ (NZ (MJ e))).trans (MD _ e)
 have z1:((s.heap.push { cls:=.type "list",data:=.seq #[] }).update s.heap.objs.size (Nz (fun _=>(#[]:Array Value)))).objs.size=s.heap.objs.size+1:=by rw[PN,O7]
 refine MA (S8 ?_);generalize (s.heap.push { cls:=.type "list",data:=.seq #[] }).update s.heap.objs.size (Nz (fun _=>(#[]:Array Value)))=h1 at g1 k1 z1 ⊢
 have m1:h1.DictAt (aE P w) d kvs ep:=by
  obtain⟨o,es,ho,r⟩:=m;exact⟨o,es,k1 _ _ ho,r⟩
 have t1:({ s with heap:=h1 }:MB).TypeIs (.ref d) "dict":=m1.dictOf.typeIs;unfold PH;refine MA (Rb (T:="dict") t1 ?_)
 have r1:Builtin.List.listSameRef (.ref s.heap.objs.size) (.ref d)=false:=by
  show (s.heap.objs.size == d)=false;simpa using NZ ld
 have r2:(OW "dict" == OW "list")=false:=by decide
 have r3:(OW "dict" == OW "tuple")=false:=by decide
 simp only[r1,r2,r3,Pb,O9,if_false];refine MA (wpAny_pyIter_dict (knd:=aE P w) (s:={ s with heap:=h1 }) hd m1 ?_);refine MA (Nt ?_)
 have m2:(h1.push { cls:=.type "dict_keyiterator",data:=.fields #[.ref d,.int 0 0,.int kvs.length 0,.int ep 0] }).DictAt (aE P w) d kvs ep:=by
  obtain⟨o,es,ho,r⟩:=m1;exact⟨o,es,MD _ ho,r⟩
 have t2:=(show ({ s with heap:=h1.push { cls:=.type "dict_keyiterator",data:=.fields #[.ref d,.int 0 0,.int kvs.length 0,.int ep 0] } }:MB).TypeIs (.ref d) "dict" from m2.dictOf.typeIs);unfold Builtin.List.listLengthHint;refine MA (Pu (T:="dict") (v:=.ref d) t2 PySem.F.slot_dict_len.lookup ?_)
 wp_delta
 refine MA (Qe (T:="dict") (v:=.ref d) (b:=true) t2 o7 ?_);show MK _ _ (typeOf (Mq d) >>= _) _ _ _;refine MA (Rb (T:="dict") (v:=.ref d) t2 (ME ?_));rw[if_pos (by decide)];refine MA (Qo (MA ?_));unfold Builtin.List.listTouch;have nI:h1.objs.size≠s.heap.objs.size:=by rw[z1];exact RV _
 have gL2:(h1.push { cls:=.type "dict_keyiterator",data:=.fields #[.ref d,.int 0 0,.int kvs.length 0,.int ep 0] }).get? s.heap.objs.size=some _:=MD _ g1;have gI2:(h1.push { cls:=.type "dict_keyiterator",data:=.fields #[.ref d,.int 0 0,.int kvs.length 0,.int ep 0] }).get? h1.objs.size=some _:=MZ _ rfl;have k2:∀b o,s.heap.get? b=some o->(h1.push { cls:=.type "dict_keyiterator",data:=.fields #[.ref d,.int 0 0,.int kvs.length 0,.int ep 0] }).get? b=some o:=fun b o e=>MD _ (k1 b o e);refine MA (SU gL2 rfl ?_ (O5 _) (by show 1<=_;rw[My];decide));have g3:=Nc (Nz (·.push N3)) gL2 rfl;refine SU g3 rfl ?_ (by show 1<=_;rw[My];decide) (O5 _);have g4:=Nc (Nz (·.pop)) g3 rfl
 have k4:∀b ob,b≠s.heap.objs.size->(h1.push { cls:=.type "dict_keyiterator",data:=.fields #[.ref d,.int 0 0,.int kvs.length 0,.int ep 0] }).get? b=some ob->(((h1.push { cls:=.type "dict_keyiterator",data:=.fields #[.ref d,.int 0 0,.int kvs.length 0,.int ep 0] }).update s.heap.objs.size (Nz (·.push N3))).update s.heap.objs.size (Nz (·.pop))).get? b=some ob:=fun b ob hb e=>
  (N5 _ _ (Nd hb)).trans ((N5 _ _ (Nd hb)).trans e)
 show MK _ _ _ _ _ { s with heap:=(((h1.push { cls:=.type "dict_keyiterator",data:=.fields #[.ref d,.int 0 0,.int kvs.length 0,.int ep 0] }).update s.heap.objs.size (Nz (·.push N3))).update s.heap.objs.size (Nz (·.pop))) };generalize ((h1.push { cls:=.type "dict_keyiterator",data:=.fields #[.ref d,.int 0 0,.int kvs.length 0,.int ep 0] }).update s.heap.objs.size (Nz (·.push N3))).update s.heap.objs.size (Nz (·.pop))=h4 at g4 k4 ⊢;have nd:d≠s.heap.objs.size:=MU ld;have ndI:d≠h1.objs.size:=by rw[z1];exact MU (Q6 ld)
 have st4:h4.IsKeyIter h1.objs.size d 0 kvs.length ep/\h4.DictAt (aE P w) d kvs ep:=by
  refine⟨⟨_,k4 _ _ nI gI2,rfl,rfl⟩,?_⟩;obtain⟨o,es,ho,r⟩:=m2;exact⟨o,es,k4 _ _ nd ho,r⟩
 have nL:s.heap.objs.size ∉ [h1.objs.size,d]:=fun z=>by
  rcases MH.mp z with e | z
  ·exact nI e.symm
  ·exact nd (NT.mp z).symm
 have W:∀A':Mi,A'.handled=none->Walks P w A' h1.objs.size [h1.objs.size,d] [h1.objs.size] kvs.length _ _:=fun A' hA=>Walks.dictKeys (knd:=aE P w) hA h1.objs.size d ndI kvs ep;refine ME ⟨plainId_quiet PySem.F.plain_extend_loop _,codeAny_extend_loopS (W A.in1.in1 hh).toS hz _ nL _ kvs.length 0 _ _ _ rfl (O5 _) st4 g4 (ItemsOf.nil _) fun s' acc c mm gA it'=>?_⟩;rw[Moved.eq_with mm];refine⟨rfl,q s'.heap s'.toks acc c (fun b o e=>mm.heap b o (fun hb=>?_) (k4 b o (MU (MJ e)) (k2 b o e))) gA it'⟩;have lt:=MJ e;rcases MH.mp hb with z | z
 ·exact absurd lt (z▸Ms _)
 ·rw[NT.mp z,z1] at lt
  exact absurd lt (Pz.mpr (Q7 _))
end
end PU
section
namespace PU
noncomputable def qG:PV->Option PV
 | .lst ps=>some (.lst ps)
 | .tup ps=>some (.lst ps)
 | .dct ks _=>some (.lst (ks.map Ad))
 | _=>none
end PU
namespace PU
open PySem PySem.Spec PyProof.Rows L2 PySem.SeqAt
variable[TW]
theorem qv{K:M9}{H:Hp}:∀ks:List Key,aM K H (ks.map Ad) (ks.map kV)
 | []=>rfl
 | k::ks=>by
  refine⟨kV k,ks.map kV,rfl,?_,qv ks⟩;cases k <;> exact rfl
omit [TW] in
theorem Do{P:MP}{w:Me}{k:Key}{v:Value}(h:(aE P w).is k v=true):RelV (kV k) v:=by
 rcases bz (show rV k v=true from h) with⟨i,t,rfl,rfl⟩|⟨x,t,rfl,rfl⟩
 ·exact⟨t,rfl⟩
 ·exact⟨t,rfl⟩
omit [TW] in
theorem vy{P:MP}{w:Me}:∀(kvs:List (Key×Value))(us:List Value),us.length=kvs.length->(∀(i:Nat)(v:Value),us[i]?=some v->∃k x,kvs[i]?=some (k,x)/\(aE P w).is k v=true)->Vals ((kvs.map (·.1)).map kV) us
 | [],us,hl,_=>by
  cases us with
  | nil=>exact .nil
  | cons a r=>cases hl
 | kv::kvs,us,hl,h=>by
  cases us with
  | nil=>cases hl
  | cons a r=>
   obtain⟨k,x,e,hk⟩:=h 0 a rfl;cases e;exact .cons (Do hk) (vy kvs r (by simpa using hl) fun i v e=>h (i+1) v e)
theorem BU {X:Cx} (hc:X.calm=true:=by rfl) (hw:X.w=TW.w:=by rfl):fF X (.type "list") (rn1 X.K qG):=by
 intro pins s σ H xs us Q I r ⟨v,p,z,e1,rp,ez,k⟩;subst e1;cases p with
 | lst ps=>
  obtain⟨a,xs,rfl,g,rr⟩:=bw.lst_inv rp;cases ez;exact kJ pins s σ H _ us Q I r ⟨a,xs,rfl,.inl g.l,fun l hl=>k _ _ (Same.new hl) hl ⟨xs,aA,rr.same (Same.new hl)⟩⟩
 | tup ps=>
  obtain⟨a,xs,rfl,g,rr⟩:=bw.tup_inv rp;cases ez;exact kJ pins s σ H _ us Q I r ⟨a,xs,rfl,.inr g,fun l hl=>k _ _ (Same.new hl) hl ⟨xs,aA,rr.same (Same.new hl)⟩⟩
 | dct ks ps=>
  obtain⟨a,kvs,rfl,g,e1,rr⟩:=rp;cases ez;obtain⟨u,rfl,ru⟩:=vals1 r;cases ru;obtain⟨hz,hS,vs,rel,o,es,ep,ho,x1,d1,rest⟩:=DkR.at hw I g;have hl:kvs.length=vs.length:=NP rel
  have hk:kvs.map (·.1)=vs.map (·.1):=by
   clear hl hz e1 rr g rest
   induction rel with
   | nil=>rfl
   | cons a b ih=>rw[MN,MN,ih,a.1]
  refine qr (kvs:=vs) (ep:=ep) (I.ok.hd hc) hS ⟨o,es,ho,x1,d1,rest⟩ (by omega) fun h' tk acc c keep gA it'=>?_;obtain⟨i1,i2⟩:=it'
  have rv:Vals (ks.map kV) acc.toList:=by
   rw[← e1,hk];exact vy (P:=X.prog) (w:=X.w) vs acc.toList (by simpa using i1) fun i v e=>i2 i v (by simpa using e)
  have hlk:ks.length=kvs.length:=by rw[← e1,MC]
  have I2:=I.laid (a:=s.heap.objs.size) (o:=.lst (ks.map kV)) (h':=h') (t':=tk) keep (MX _) ⟨by rw[MC];omega,acc.toList,c,rv,by rw[Array.toArray_toList];exact gA⟩;have nf:H s.heap.objs.size=none:=I.fresh;exact⟨.ref _,_,I2,rfl,k _ _ (Same.new nf) nf ⟨_,aA,qv ks⟩⟩
 | _=>cases ez
end PU
end
section
namespace PU
open PySem
noncomputable def nR:PV->PV->Option PV
 | .str x,.str y=>match Md x y 0 x.length 1 with
  | i::_=>some (.int i)
  | []=>none
 | _,_=>none
end PU
namespace PU
open PySem PySem.Spec PyProof.Rows L2 PySem.SeqAt
variable[TW]
theorem Bi:StrM "index" "str.index":=⟨PySem.F.slot_str_index,PySem.F.type_str_index⟩
theorem BC {X:Cx}:MtR X "str.index" (rM1 X.K nR):=by
 intro pins s σ H x xs v us Q I rx rs ⟨p,q,z,u,e1,rp,rq,ez,k⟩;subst e1;obtain⟨a,b,t,t2,rfl,rfl,rfl,rfl⟩:=jo (g:=nR) (fun p q z e=>by unfold nR at e;split at e;exact⟨_,_,rfl,rfl⟩;cases e) rx rs rp rq ez
 have ez:(match Md a b 0 a.length 1 with
  | i::_=>some (PV.int i)
  | []=>none)=some z:=ez
 cases ho:Md a b 0 a.length 1 with
 | nil=>rw[ho] at ez;cases ez
 | cons i r=>
  rw[ho] at ez;cases ez;exact SC.index ho ⟨.int _,H,I.tok _,⟨_,rfl⟩,k _ H (Same.refl H) rfl⟩
end PU
end
namespace PU
open PySem PySem.Spec PyProof.Rows L2 PySem.SeqAt
theorem con_int{w:Me}{tabs:List Addr}{qual:Nat->Nat->Str}{K:M9}{h:Heap}{mg:Str->Option Value}{x:Str}{i:Int}{t:Sn}(X:K.In h)(G:h.Ns MM mg)(n1:Ma K MM x=some (some (.int i t))):@Con ⟨w,tabs,qual⟩ K mg x (.int i):=by
 letI:TW:=⟨w,tabs,qual⟩
 exact⟨.int i,.int i t,O0 X G n1,⟨t,rfl⟩,fun H=>rfl⟩
theorem con_str{w:Me}{tabs:List Addr}{qual:Nat->Nat->Str}{K:M9}{h:Heap}{mg:Str->Option Value}{x:Str}{i:Str}{t:Sn}(X:K.In h)(G:h.Ns MM mg)(n1:Ma K MM x=some (some (.str i t))):@Con ⟨w,tabs,qual⟩ K mg x (.str i):=by
 letI:TW:=⟨w,tabs,qual⟩
 exact⟨.str i,.str i t,O0 X G n1,⟨t,rfl⟩,fun H=>rfl⟩
end PU
namespace PU
open PySem PySem.Spec PyProof.Rows L2 PySem.SeqAt
def LA:PV->Option Int->Option Int->Option PV
 | .str x,lo,hi=>if x.length<=16777216 then some (.str (PySem.Txt.slice x lo hi)) else none
 | .lst ps,lo,hi=>gSl (.lst ps) lo hi
 | .tup ps,lo,hi=>gSl (.tup ps) lo hi
 | _,_,_=>none
variable[TW]
end PU
namespace PU
open PySem PySem.Spec PyProof.Rows L2 PySem.SeqAt
noncomputable def uZ(ps qs:List PV):List (List PV):=ps.zipWith (fun a b=>[a,b]) qs
noncomputable def ik:PV->Bool
 | .non | .bl _ | .int _ | .str _=>true
 | _=>false
variable[TW]
section
variable{P : MP}{w : Me}{K : M9}{elts : List Expr}{kk : Nat}{tp : O4}
noncomputable def HA(xs ys:List V):List (List V):=xs.zipWith (fun a b=>[a,b]) ys
theorem tE{x:V}{u:Value}(r:RelV x u)(h:∀b,x≠.ref b):¬ ∃b,u=Mq b:=fun ⟨b,e⟩=>by
 subst e;cases x with
 | ref a=>exact h a rfl
 | non=>cases r
 | bl b=>cases r
 | ty n=>cases r
 | int i=>obtain⟨t,r⟩:=r;cases r
 | str i=>obtain⟨t,r⟩:=r;cases r
 | byt i=>obtain⟨t,r⟩:=r;cases r
 | flt i=>obtain⟨t,r⟩:=r;cases r
theorem Ay{K:M9}{H:Hp}{p:PV}{x:V}(hf:ik p=true)(r:Rep K H p x):∀b,x≠.ref b:=fun b e=>by
 subst e;cases p with
 | non=>cases (show V.ref b=_ from r)
 | bl _=>cases (show V.ref b=_ from r)
 | int _=>cases (show V.ref b=_ from r)
 | str _=>cases (show V.ref b=_ from r)
 | _=>cases hf
theorem qI{K:M9}{H:Hp}{ps:List PV}{xs:List V}(hf:ps.all ik=true)(r:aM K H ps xs):∀x∈xs,∀b,x≠.ref b:=fun x hx=>by
 obtain⟨i,hi⟩:=QY.mp hx;have hl:=r.length;have hlt:i<ps.length:=by rw[hl];exact(Mc.mp hi).1
 have e1:ps[i]?=some ps[i]:=by simp[hlt]
 obtain⟨y,ey,ry⟩:=r.get e1;rw[hi] at ey;cases ey;exact Ay (NY.mp hf _ (O6 hlt)) ry
end
theorem yU{K:M9}{H:Hp}{ps qs:List PV}{xs ys:List V}(r1:aM K H ps xs)(r2:aM K H qs ys):∀(i:Nat)(zs:List PV)(ws:List V),(uZ ps qs)[i]?=some zs->(HA xs ys)[i]?=some ws->aM K H zs ws:=fun i zs ws h1 h2=>by
 unfold uZ at h1;unfold HA at h2;rw[PL] at h1 h2;cases e:ps[i]? with
 | none=>rw[e] at h1;cases h1
 | some p=>
  cases e2:qs[i]? with
  | none=>rw[e,e2] at h1;cases h1
  | some q=>
   rw[e,e2] at h1;obtain⟨x,ex,rp⟩:=r1.get e;obtain⟨y,ey,rq⟩:=r2.get e2;rw[ex,ey] at h2;cases h1;cases h2;exact⟨_,_,rfl,rp,_,_,rfl,rq,rfl⟩
end PU
namespace PU
open PySem PySem.Spec PyProof.Rows L2
variable[TW]
noncomputable def tIS(C:Cn)(f:PSt->R (List PV)):TI:=fun σ H Q=>∃ρ,View C.X.K H σ ρ/\RQ C H (f ρ) fun ps=>∀J H',Same H H'->ItS C.X.K J H' ps->Q J H'
def EIS(C:Cn)(tg iter:Expr)(f:PSt->R (List PV)):Prop:=PI C.X tg iter (tIS C f)
theorem Same.sqO{K:M9}{H H':Hp}(k:Same H H'){a:Addr}{xs:List V}(h:SqO K H a xs):SqO K H' a xs:=by
 rcases h with (h | ⟨o,h⟩) | h
 ·exact .inl (.inl (k _ _ h))
 ·exact .inl (.inr ⟨o,k _ _ h⟩)
 ·exact .inr h
theorem Af{K:M9}{H:Hp}{a:Addr}{xs:List V}{ps:List PV}(g:SqO K H a xs)(r:aM K H ps xs):ItS K (Itl K a) H ps:=fun i H' k=>by
 have g':=(Same.sqO k g).l;have r':=aM.kp (Same.kp k) ps r;have hl:=r'.length;refine⟨fun h=>⟨xs,g',by omega⟩,fun p e=>?_⟩;obtain⟨x,ex,rp⟩:=r'.get e
 exact⟨⟨xs,x,g',ex⟩,fun y H2 ⟨eh,hy⟩=>by
  subst eh;have:=hy xs g';rw[ex] at this;cases this;exact⟨Same.refl _,rp⟩⟩
def xw:PV->Option (List PV)
 | .lst ps=>some ps
 | _=>none
noncomputable def itL(f:PSt->R PV):PSt->R (List PV):=fun ρ=>f ρ >>= fun p=>R.ofO (xw p)
theorem Hg{C:Cn}{e tg:Expr}{f:PSt->R PV}(he:EO C e f):EIS C tg e (itL f):=by
 intro pins s σ H R I ⟨ρ,vw,q⟩;refine thn (he pins s σ H (fun v H'=>∃p ps,Same H H'/\bw C.X.K H' p v/\xw p=some ps/\∀J H2,Same H' H2->ItS C.X.K J H2 ps->R J H2) I ⟨ρ,vw,q.bind.imp fun p _ k v H' s' r=>?_⟩) fun v s1 ⟨x,H1,I1,r1,p,ps,sm,rp,ep,k⟩=>?_
 ·obtain⟨ps,ep,k⟩:=k.ofO
  exact⟨p,ps,s',r,ep,fun J H2 s2 it=>k J H2 (s'.trans s2) it⟩
 ·cases p with
  | lst qs=>
   cases ep;obtain⟨a,xs,rfl,g,rr⟩:=rp;cases r1;obtain⟨its,rv,pl,hz⟩:=I1.list g.l;refine OI pl.isList ?_;refine⟨s1.heap.objs.size,[s1.heap.objs.size],_,_,H1,rfl,I1.kept (t':=s1.toks) fun b o e=>MD _ e,pJ a _,⟨_,MZ _ rfl,rfl,rfl⟩,fun b hb=>?_,k _ H1 (Same.refl H1) (Af g rr)⟩;have e:b=s1.heap.objs.size:=by simpa using hb
   subst e;exact I1.fpOk (MX _) (I1.hok.fresh (MX _))
  | _=>cases ep
section
variable{C : Cn}{elt tg iter : Expr}{ifs : List Expr}{scope : Scope}{pos : O4}{N' : List Str}{nt : Nat}{idx : List Nat}{fi : PSt → R (List PV)}{h : Tgt}{t : PSt → R Bool}{fe : PSt → R PV}
theorem AF(O:CompOk C.X.N C.X.env.scope scope N' nt idx)(hi:EIS C tg iter fi)
  (hg:∀cl L s H fp,TCt (cO C N' scope cl L s H fp) tg h) (he:∀cl L s H fp,EV (cO C N' scope cl L s H fp) elt fe)
  (hs:∀x,Oi iter C.X.env x=pure x:=by intro _;rfl) (hc:C.X.calm=true:=by rfl) (hlow:B4 nt h:=by repeat' (first | exact rS | exact oF (by decide) | apply rR | apply oG)) (ht:∀cl L s H fp,ETs (cO C N' scope cl L s H fp) ifs t:=by exact fun _ _ _ _ _=>sd):EN C (.ListComp elt [⟨tg,iter,ifs,0⟩] scope pos) (gL fi h t fe nt idx):=by
 intro pins s σ H Q I ⟨ρ,vw,q⟩;rw[eval_ListComp];refine QP (use:=none) rfl hs (fE fun y hy hk=>I.ok.has y.1 (O.free y hy hk)) O.kind O.names ?_
 refine thn (hi pins s σ H (fun J H'=>∃ps qs,Same H H'/\ItS C.X.K J H' ps/\dj h t fe (dH nt idx ρ) ps=.ok qs/\qs.length<=sizeLine/\∀a H'',Same H H''->H a=none->dE C.X.K H'' a (.lst qs)->Q (.ref a) H'') I
  ⟨ρ,vw,q.bind.imp fun ps _ k J H' s' ip=>?_⟩) fun v s1 h1=>thn h1 fun itv s2 h2=>?_
 ·obtain⟨qs,e1,k⟩:=wQ k.bind
  obtain⟨z,k⟩:=jH k;exact⟨ps,qs,s',ip,e1,z,k⟩
 ·obtain⟨it,fp,tn,J,H2,e,I2,T,st2,f2,ps,qs,sm,ip,e1,hz,k⟩:=h2
  subst e;refine nY O hc hg hlow ht he I2 T st2 f2 (vw.same sm) ip e1 hz fun D L σ' H' s' xs I' sm' nD hD rp hL=>?_;obtain⟨m,hn,_⟩:=id I'.loc;have IB:=mC I2 f2 I';refine⟨m,hn,fun h' sb=>⟨.ref D,H',mB IB I'.free ?_ (Mm I2.sz hL) ?_ ?_ sb,rfl,k D H' (sm.trans sm') (sm.free nD) ⟨xs,hD,rp⟩⟩⟩
  ·exact NZ (MF I2.lt hL)
  ·intro x c ec z
   obtain⟨v,qc⟩:=I2.cell x c ec;have z:c=L:=z;exact Ms _ (MF (z▸qc.lt) hL)
  ·intro p hp z
   have z:p.1=L:=z;exact Ms _ (MF (z▸MJ (I2.pin p hp).1) hL)
end
end PU
namespace PU
open PySem PySem.Spec PyProof.Rows L2 PySem.SeqAt
variable[TW]
theorem AD{C:Cn}{a b c:Expr}{fa fb fc:PSt->R PV}{pos:O4}{op op':Sr}{g g':PV->PV->Option PV}(ho:OpR C.X (Mx op) (rP C.X.K g))(ho':OpR C.X (Mx op') (rP C.X.K g'))(hg:ve g)(hg':ve g')(ha:EO C a fa)(hb:EO C b fb)(hc:EO C c fc)
  (hm:TR [op,op'] [b,c]=false:=by with_unfolding_all rfl):ET C (.Compare a [op,op'] [b,c] pos) (bX (kH fa fb fc g g')):=by
 intro pins s σ H Q I ⟨ρ,vw,q⟩;refine zD ho ho' ha hb hc hm pins s σ H Q I ?_;have q1:=q.bind;refine⟨ρ,vw,q1.bind.imp fun p _ k v H1 s1 r1=>⟨ρ,vw.same s1,(k.bind.same s1).imp fun p2 _ k2 u H2 s2 r2=>?_⟩⟩;obtain⟨z,ez,k3⟩:=k2.bind.ofO;obtain⟨bb,rfl⟩:=hg _ _ _ ez;refine⟨p,p2,.bl bb,r1.same s2,r2,ez,fun w H3 s3 r3=>?_⟩;cases (show w=.bl bb from r3);refine⟨bb,rfl,?_⟩;have s13:=(s1.trans s2).trans s3;cases bb with
 | true=>
  refine Ag ⟨ρ,vw.same s13,?_⟩;refine(RQ.same (RQ.bind k3) s13).imp fun p3 _ k4 w4 H4 s4 r4=>?_;obtain⟨z2,ez2,k5⟩:=k4.ofO;obtain⟨b2,rfl⟩:=hg' _ _ _ ez2;refine⟨p2,p3,.bl b2,(r2.same s3).same s4,r4,ez2,fun w5 H5 s5 r5=>?_⟩;cases (show w5=.bl b2 from r5);obtain⟨b3,eb,k6⟩:=k5.ofO;cases eb;exact⟨b2,rfl,k6 H5 ((s13.trans s4).trans s5)⟩
 | false=>
  have k3:RQ C H (R.ofO (kM (.bl false))) (fun b=>∀H',Same H H'->Q b H'):=k3;obtain⟨b3,eb,k6⟩:=RQ.ofO k3;cases eb;exact Ah ⟨false,rfl,k6 H3 s13⟩
end PU
namespace PU
open PySem L2
def IQ(p:PV):R (List PV):=match p with
 | .int j=>if j.natAbs<1000000000 then .ok (fI 0 j.toNat) else .no
 | _=>.no
theorem Fs{j:Int}(h0:0<=j)(h1:j<1000000000):IQ (.int j)=.ok (fI 0 j.toNat):=by
 unfold IQ;exact if_pos (by omega)
section
noncomputable def FN(g':PSt->R Fl):R Fl->R Fl
 | .ok (.next ρ)=>g' ρ
 | .ok (.brk ρ)=>.ok (.brk ρ)
 | .ok (.cont ρ)=>.ok (.cont ρ)
 | .ok (.ret p)=>.ok (.ret p)
 | .er x=>.er x
 | .no=>.no
noncomputable def A4{α β:Type}(f:α->β):R α->R β
 | .ok a=>.ok (f a)
 | .er x=>.er x
 | .no=>.no
noncomputable def iR{α β:Type}(f:α->R β):R α->R β
 | .ok a=>f a
 | .er x=>.er x
 | .no=>.no
noncomputable def ifK{α:Type}(g g':PSt->R α)(ρ:PSt):R Bool->R α
 | .ok true=>g ρ
 | .ok false=>g' ρ
 | .er x=>.er x
 | .no=>.no
noncomputable def yF{α β γ:Type}(f:α->β->R γ):R α->R β->R γ
 | .ok a,.ok b=>f a b
 | .ok _,.er x=>.er x
 | .ok _,.no=>.no
 | .er x,_=>.er x
 | .no,_=>.no
variable{α : Type}{ρ : PSt}{f fa fb fc : PSt → R PV}{g g' : PSt → R Fl}{t u : PSt → R Bool}{i : Nat}
@[simp] theorem EX:FN g' (.ok (.next ρ))=g' ρ:=by unfold FN;exact Mh _
@[simp] theorem GJ(p:PV):FN g' (.ok (.ret p))=.ok (.ret p):=by unfold FN;exact Mh _
@[simp] theorem Lw{β:Type}(f:α->β)(a:α):A4 f (.ok a)=.ok (f a):=by unfold A4;exact Mh _
@[simp] theorem rW{β:Type}(f:α->R β)(a:α):iR f (.ok a)=f a:=by unfold iR;exact Mh _
@[simp] theorem Kx(g g':PSt->R α):ifK g g' ρ (.ok true)=g ρ:=by unfold ifK;exact Mh _
@[simp] theorem Ky(g g':PSt->R α):ifK g g' ρ (.ok false)=g' ρ:=by unfold ifK;exact Mh _
@[simp] theorem GI{β γ:Type}(f:α->β->R γ)(a:α)(b:β):yF f (.ok a) (.ok b)=f a b:=by unfold yF;exact Mh _
@[simp] theorem vn:bY g g' ρ=FN g' (g ρ):=by
 unfold bY;cases g ρ with
 | ok fl=>cases fl <;> rfl
 | er x=>rfl
 | no=>rfl
@[simp] theorem Ie:bK ρ=.ok (.next ρ):=by unfold bK;exact Mh _
@[simp] theorem K1:cA f ρ=A4 .ret (f ρ):=by unfold cA;cases f ρ <;> rfl
@[simp] theorem KQ:ifF t g g' ρ=ifK g g' ρ (t ρ):=by
 unfold ifF;cases t ρ with
 | ok b=>cases b <;> rfl
 | er x=>rfl
 | no=>rfl
def IK(i:Nat)(ρ:PSt)(p:PV):Fl:=.next (ρ.set i (.val p))
def J8(i:Nat)(ρ:PSt)(p:PV):Fl:=.next (ρ.set i (.own p))
@[simp] theorem Lp(p:PV):IK i ρ p=.next (ρ.set i (.val p)):=by unfold IK;exact Mh _
@[simp] theorem Ls(p:PV):J8 i ρ p=.next (ρ.set i (.own p)):=by unfold J8;exact Mh _
@[simp] theorem Fg:dF i f ρ=A4 (IK i ρ) (f ρ):=by unfold dF;cases f ρ <;> rfl
@[simp] theorem K9:EH i f ρ=A4 (J8 i ρ) (f ρ):=by unfold EH;cases f ρ <;> rfl
@[simp] theorem Kf:GY i g ρ=g (uL i ρ):=by unfold GY;exact Mh _
@[simp] theorem LX(j:Int):kI j ρ=.ok (.int j):=by unfold kI;exact Mh _
@[simp] theorem LY(j:Bool):kB j ρ=.ok (.bl j):=by unfold kB;exact Mh _
@[simp] theorem LW:kN ρ=.ok .non:=by unfold kN;exact Mh _
@[simp] theorem LU(j:Str):kS j ρ=.ok (.str j):=by unfold kS;exact Mh _
@[simp] theorem LV(j:PV):kP j ρ=.ok j:=by unfold kP;exact Mh _
@[simp] theorem Kb:aU ρ=.ok []:=by unfold aU;exact Mh _
def E9(p:PV)(ps:List PV):R (List PV):=.ok (p::ps)
@[simp] theorem KB(p:PV)(ps:List PV):E9 p ps=.ok (p::ps):=by unfold E9;exact Mh _
@[simp] theorem Io{fs:PSt->R (List PV)}:ae f fs ρ=yF E9 (f ρ) (fs ρ):=by unfold ae;cases f ρ <;> cases fs ρ <;> rfl
noncomputable def tupP(ps:List PV):R PV:=if ps.length<=16777216 then .ok (.tup ps) else .no
noncomputable def lstP(ps:List PV):R PV:=if ps.length<=16777216 then .ok (.lst ps) else .no
@[simp] theorem Jw(ps:List PV):tupP ps=if ps.length<=16777216 then .ok (.tup ps) else .no:=by unfold tupP;exact Mh _
@[simp] theorem GK(ps:List PV):lstP ps=if ps.length<=16777216 then .ok (.lst ps) else .no:=by unfold lstP;exact Mh _
@[simp] theorem JY{fs:PSt->R (List PV)}:kL fs ρ=iR tupP (fs ρ):=by
 unfold kL;cases fs ρ with
 | ok ps=>simp only[R.ok_bind,iN,rW,Jw];split <;> rfl
 | er x=>rfl
 | no=>rfl
@[simp] theorem Kc{fs:PSt->R (List PV)}:gp fs ρ=iR lstP (fs ρ):=by
 unfold gp;cases fs ρ with
 | ok ps=>simp only[R.ok_bind,iN,rW,GK];split <;> rfl
 | er x=>rfl
 | no=>rfl
def opP(g:PV->PV->Option PV)(p q:PV):R PV:=R.ofO (g p q)
def op1(g:PV->Option PV)(p:PV):R PV:=R.ofO (g p)
@[simp] theorem M5(g:PV->PV->Option PV)(p q:PV):opP g p q=R.ofO (g p q):=by unfold opP;exact Mh _
@[simp] theorem Lu(g:PV->Option PV)(p:PV):op1 g p=R.ofO (g p):=by unfold op1;exact Mh _
@[simp] theorem Ki{g:PV->PV->Option PV}:au fa fb g ρ=yF (opP g) (fa ρ) (fb ρ):=by unfold au;cases fa ρ <;> cases fb ρ <;> rfl
@[simp] theorem vk{g:PV->Option PV}:un1 f g ρ=iR (op1 g) (f ρ):=by unfold un1;cases f ρ <;> rfl
def Iz(p:PV):R Bool:=R.ofO (kM p)
@[simp] theorem Lo(p:PV):Iz p=R.ofO (kM p):=by unfold Iz;exact Mh _
@[simp] theorem JZ:bX f ρ=iR Iz (f ρ):=by unfold bX;cases f ρ <;> rfl
@[simp] theorem Kl:BX t u ρ=ifK u (fun _=>.ok false) ρ (t ρ):=by
 unfold BX;cases t ρ with
 | ok b=>cases b <;> rfl
 | er x=>rfl
 | no=>rfl
@[simp] theorem KN:orB t u ρ=ifK (fun _=>.ok true) u ρ (t ρ):=by
 unfold orB;cases t ρ with
 | ok b=>cases b <;> rfl
 | er x=>rfl
 | no=>rfl
@[simp] theorem Ka:lO t ρ=A4 not (t ρ):=by unfold lO;cases t ρ <;> rfl
noncomputable def Hv(fb:PSt->R PV)(ρ:PSt)(p:PV):R PV:=match p with
 | .bl true=>fb ρ
 | .bl false=>.ok (.bl false)
 | _=>.no
noncomputable def orK(fb:PSt->R PV)(ρ:PSt)(p:PV):R PV:=match p with
 | .bl true=>.ok (.bl true)
 | .bl false=>fb ρ
 | _=>.no
@[simp] theorem JA:Hv fb ρ (.bl true)=fb ρ:=by unfold Hv;exact Mh _
@[simp] theorem JB:Hv fb ρ (.bl false)=.ok (.bl false):=by unfold Hv;exact Mh _
@[simp] theorem Kt:orK fb ρ (.bl true)=.ok (.bl true):=by unfold orK;exact Mh _
@[simp] theorem Ku:orK fb ρ (.bl false)=fb ρ:=by unfold orK;exact Mh _
@[simp] theorem Kk:uU fa fb ρ=iR (Hv fb ρ) (fa ρ):=by unfold uU;cases fa ρ <;> rfl
@[simp] theorem KM:orV fa fb ρ=iR (orK fb ρ) (fa ρ):=by unfold orV;cases fa ρ <;> rfl
@[simp] theorem KP:ifV t fa fb ρ=ifK fa fb ρ (t ρ):=by
 unfold ifV;cases t ρ with
 | ok b=>cases b <;> rfl
 | er x=>rfl
 | no=>rfl
@[simp] theorem Ff:lu ρ=.ok true:=by unfold lu;exact Mh _
def Ed(F:List PV->Option PV)(ps:List PV):R PV:=R.ofO (F ps)
@[simp] theorem KC(F:List PV->Option PV)(ps:List PV):Ed F ps=R.ofO (F ps):=by unfold Ed;exact Mh _
@[simp] theorem Iq{fs:PSt->R (List PV)}{F:List PV->Option PV}:bq fs F ρ=iR (Ed F) (fs ρ):=by unfold bq;cases fs ρ <;> rfl
noncomputable def itQ(F:PV->Option (List PV))(p:PV):R (List PV):=R.ofO (F p)
@[simp] theorem M6(F:PV->Option (List PV))(p:PV):itQ F p=R.ofO (F p):=by unfold itQ;exact Mh _
@[simp] theorem KO:itF f ρ=iR (itQ kU) (f ρ):=by unfold itF;cases f ρ <;> rfl
@[simp] theorem Im:yb f ρ=iR (itQ ya) (f ρ):=by unfold yb;cases f ρ <;> rfl
def JM(h:Tgt)(g:PSt->R Fl)(ρ:PSt)(ps:List PV):R Fl:=mU h g ps ρ
@[simp] theorem Lx(h:Tgt)(ps:List PV):JM h g ρ ps=mU h g ps ρ:=by unfold JM;exact Mh _
@[simp] theorem Kh{fi:PSt->R (List PV)}{h:Tgt}:yP fi h g ρ=iR (JM h g ρ) (fi ρ):=by unfold yP;cases fi ρ <;> rfl
@[simp] theorem K0:FU f ρ=iR IQ (f ρ):=by unfold FU;cases f ρ <;> rfl
@[simp] theorem HC:gi ρ=.ok none:=by unfold gi;exact Mh _
noncomputable def aP(p:PV):R (Option Int):=match p with
 | .int i=>.ok (some i)
 | _=>.no
@[simp] theorem M7(i:Int):aP (.int i)=.ok (some i):=by unfold aP;exact Mh _
@[simp] theorem Iu:jg f ρ=iR aP (f ρ):=by unfold jg;cases f ρ <;> rfl
def slQ(p:PV)(lh:Option Int×Option Int):R PV:=R.ofO (gSl p lh.1 lh.2)
def D6(a b:Option Int):R (Option Int×Option Int):=.ok (a,b)
@[simp] theorem M3(p:PV)(a b:Option Int):slQ p (a,b)=R.ofO (gSl p a b):=by unfold slQ;exact Mh _
@[simp] theorem Ks(a b:Option Int):D6 a b=.ok (a,b):=by unfold D6;exact Mh _
@[simp] theorem HB{l h:PSt->R (Option Int)}:fH f l h ρ=yF slQ (f ρ) (yF D6 (l ρ) (h ρ)):=by unfold fH;cases f ρ <;> cases l ρ <;> cases h ρ <;> rfl
def Ea(h:Tgt)(t:PSt->R Bool)(fe:PSt->R PV)(ρ:PSt)(ps:List PV):R PV:=iR lstP (zW (dj h t fe ρ ps))
@[simp] theorem GL(h:Tgt)(ps:List PV):Ea h t f ρ ps=iR lstP (zW (dj h t f ρ ps)):=by unfold Ea;exact Mh _
@[simp] theorem Ip{fi:PSt->R (List PV)}{h:Tgt}{nt:Nat}{idx:List Nat}:gL fi h t f nt idx ρ=iR (Ea h t f (dH nt idx ρ)) (fi ρ):=by
 unfold gL;cases fi ρ with
 | ok ps=>
  simp only[R.ok_bind,rW,GL];cases dj h t f (dH nt idx ρ) ps with
  | ok qs=>simp only[zW,R.ok_bind,rW,GK,iN];split <;> rfl
  | er x=>rfl
  | no=>rfl
 | er x=>rfl
 | no=>rfl
@[simp] theorem HD(a:α):zW (.ok a)=.ok a:=by unfold zW;exact Mh _
end
section
variable{p : PV}{l : Sl}{ρ : PSt}{i : Nat}
@[simp] theorem rj:ah 0 (.val p::ρ)=.ok p:=by unfold ah;exact Mh _
@[simp] theorem vp:ah (i+1) (l::ρ)=ah i ρ:=by unfold ah;rw[Mg]
@[simp] theorem Kg:uL 0 (.own p::ρ)=.val p::ρ:=by unfold uL;exact Mh _
@[simp] theorem Il:uL 0 (.val p::ρ)=.val p::ρ:=by unfold uL;exact Mh _
theorem xK:uL (i+1) (l::ρ)=l::uL i ρ:=by
 unfold uL;simp only[Mg];cases ρ[i]? with
 | none=>rfl
 | some x=>cases x <;> rfl
@[simp] theorem Ke:uL (i+1) (l::ρ)=l::uL i ρ:=xK
def roA(i:Nat)(ρ:PSt):Sl:=roS ρ[i]?
@[simp] theorem Lr:roA 0 (.val p::ρ)=.val p:=by unfold roA roS;exact Mh _
@[simp] theorem Lq:roA (i+1) (l::ρ)=roA i ρ:=by unfold roA;rw[Mg]
theorem gO(nt:Nat)(idx:List Nat):dH nt idx ρ=NS nt .no++idx.map fun i=>roA i ρ:=by unfold dH roA;exact Mh _
noncomputable def BV(i:Nat)(ρ:PSt)(p:PV):R PSt:=match ρ[i]? with
 | some (.own (.lst ps))=>if ps.length<16777216 then .ok (ρ.set i (.own (.lst (ps++[p])))) else .no
 | _=>.no
noncomputable def yM(i:Nat)(ρ:PSt):Bool:=match ρ[i]? with
 | some (.own (.lst _))=>true
 | _=>false
def E8(l:Sl)(ρ:PSt):PSt:=l::ρ
@[simp] theorem Jx:E8 l ρ=l::ρ:=by unfold E8;exact Mh _
@[simp] theorem KF(ps:List PV):BV 0 (.own (.lst ps)::ρ) p=if ps.length<16777216 then .ok (.own (.lst (ps++[p]))::ρ) else .no:=by unfold BV;exact Mh _
@[simp] theorem KD:BV (i+1) (l::ρ) p=A4 (E8 l) (BV i ρ p):=by
 unfold BV;rw[Mg];cases ρ[i]? with
 | none=>rfl
 | some x=>
  cases x with
  | own q=>
   cases q with
   | lst ps=>dsimp only;split <;> rfl
   | _=>rfl
  | _=>rfl
@[simp] theorem KA(ps:List PV):yM 0 (.own (.lst ps)::ρ)=true:=by unfold yM;exact Mh _
@[simp] theorem Kz:yM (i+1) (l::ρ)=yM i ρ:=by unfold yM;rw[Mg]
def Hr(i:Nat)(ρ:PSt)(p:PV):R Fl:=A4 .next (BV i ρ p)
@[simp] theorem GM:Hr i ρ p=A4 .next (BV i ρ p):=by unfold Hr;exact Mh _
theorem El(f:PSt->R PV)(h:yM i ρ=true):BW i f ρ=iR (Hr i ρ) (f ρ):=by
 unfold yM at h;unfold BW;cases e:ρ[i]? with
 | none=>rw[e] at h;cases h
 | some x=>
  rw[e] at h;cases x with
  | own q=>
   cases q with
   | lst ps=>
    dsimp only;cases f ρ with
    | ok p=>
     simp only[R.ok_bind,rW,GM];unfold BV;rw[e];dsimp only
     split <;> rfl
    | er x=>rfl
    | no=>rfl
   | _=>cases h
  | _=>cases h
def Ia(b:Bool)(i:Nat)(ρ:PSt)(r:R PV):R Fl:=if b=true then iR (Hr i ρ) r else .no
@[simp] theorem GN(r:R PV):Ia true i ρ r=iR (Hr i ρ) r:=by unfold Ia;exact if_pos rfl
@[simp] theorem Kj(f:PSt->R PV):BW i f ρ=Ia (yM i ρ) i ρ (f ρ):=by
 cases h:yM i ρ with
 | true=>rw[El f h,GN]
 | false=>
  unfold Ia;rw[if_neg ML];unfold yM at h;unfold BW
  split
  ·rename_i ps e
   rw[e] at h;cases h
  ·rfl
end
@[simp] theorem FB(a b:Int):bC (.int a) (.int b)=some (.int (a+b)):=rfl
theorem aQ{a b:Str}(h:a.length+b.length<=16777216):bC (.str a) (.str b)=some (.str (a++b)):=if_pos h
theorem cS{a b:List PV}(h:a.length+b.length<=16777216):bC (.lst a) (.lst b)=some (.lst (a++b)):=if_pos h
@[simp] theorem Fz(a b:List PV):bC (.tup a) (.tup b)=if a.length+b.length<=16777216 then some (.tup (a++b)) else none:=rfl
@[simp] theorem KR(a b:Int):KG (.int a) (.int b)=some (.int (a-b)):=rfl
theorem Ft{a b:Int}(h:a.natAbs<18446744073709551616\/b.natAbs<18446744073709551616):F1 (.int a) (.int b)=some (.int (a * b)):=if_pos h
theorem pI{a b:Int}(h:0<b/\b<1073741824):yO (.int a) (.int b)=some (.int (a / b)):=if_pos h
theorem jZ{a b:Int}(h:0<b):oU (.int a) (.int b)=some (.int (a % b)):=if_pos h
@[simp] theorem v_lt(a b:Int):gLt (.int a) (.int b)=some (.bl (decide (a<b))):=rfl
@[simp] theorem LZ(a b:Int):gLe (.int a) (.int b)=some (.bl (decide (a<=b))):=rfl
@[simp] theorem M0(a b:Int):gGt (.int a) (.int b)=some (.bl (decide (b<a))):=rfl
@[simp] theorem M1(a b:Int):gGe (.int a) (.int b)=some (.bl (decide (b<=a))):=rfl
@[simp] theorem HL(x y:Str):gLt (.str x) (.str y)=some (.bl (decide (x.cps.toList<y.cps.toList))):=rfl
@[simp] theorem z7(a b:Int):gEq (.int a) (.int b)=some (.bl (decide (a=b))):=by simp[gEq,mR,scV,Bg]
@[simp] theorem sA(a b:Str):gEq (.str a) (.str b)=some (.bl (decide (a=b))):=by simp[gEq,mR,scV,Bg]
@[simp] theorem HK(a b:Int):gNe (.int a) (.int b)=some (.bl (!decide (a=b))):=by simp[gNe,mR,scV,Bg]
@[simp] theorem z6(a b:Str):gNe (.str a) (.str b)=some (.bl (!decide (a=b))):=by simp[gNe,mR,scV,Bg]
@[simp] theorem HG(b:Bool):kM (.bl b)=some b:=rfl
@[simp] theorem Fm(ps:List PV):kM (.lst ps)=some (!ps.isEmpty):=rfl
@[simp] theorem Fn(ks:List Key)(ps:List PV):kM (.dct ks ps)=some (!ks.isEmpty):=rfl
@[simp] theorem Fv(ps:List PV):eP (.lst ps)=some (.int ps.length):=rfl
@[simp] theorem Fu(ps:List PV):eP (.tup ps)=some (.int ps.length):=rfl
theorem jm{x:Str}(h:x.length<=16777216):eP (.str x)=some (.int x.length):=if_pos h
@[simp] theorem HN(ps:List PV)(i:Int):gIx (.lst ps) (.int i)=atI ps i:=rfl
@[simp] theorem HM(ps:List PV)(i:Int):gIx (.tup ps) (.int i)=atI ps i:=rfl
theorem sy{z:Str}{i:Int}{c:Nat}(h:z.length<=16777216)(e:atI z.cps.toList i=some c):gIx (.str z) (.int i)=some (.str ⟨#[c]⟩):=by
 show (if z.length<=16777216 then (atI z.cps.toList i).map fun c=>PV.str ⟨#[c]⟩ else none)=_;rw[if_pos h,e];rfl
@[simp] theorem HQ(ks:List Key)(ps:List PV)(k:PV):gIx (.dct ks ps) k=(lA k).bind fun k=>fV ks ps k:=rfl
@[simp] theorem Fx(i:Int):lA (.int i)=some (.inl i):=rfl
@[simp] theorem Fw(x:Str):lA (.str x)=some (.inr x):=rfl
@[simp] theorem vz(k j:Key)(ks:List Key)(p:PV)(ps:List PV):fV (k::ks) (p::ps) j=if k=j then some p else fV ks ps j:=rfl
@[simp] theorem HV(b:Bool):I8 (.bl b)=some (.int (if b then 1 else 0)):=rfl
@[simp] theorem Fy(b:Int):I8 (.int b)=some (.int b):=rfl
@[simp] theorem Fk(ps:List PV):nQ (.lst ps)=some (.tup ps):=rfl
@[simp] theorem Fj(ps:List PV):nQ (.tup ps)=some (.tup ps):=rfl
@[simp] theorem HS(ps:List PV):kU (.lst ps)=some ps:=rfl
@[simp] theorem HR(ps:List PV):kU (.tup ps)=some ps:=rfl
@[simp] theorem HU(ks:List Key)(ps:List PV):kU (.dct ks ps)=some (ks.map Ad):=rfl
@[simp] theorem Km(x:Str):Ad (.inr x)=.str x:=rfl
@[simp] theorem EB(ps:List PV):ya (.lst ps)=some ((r9 ps).map .tup):=rfl
@[simp] theorem Ez(x:Str):ya (.str x)=some ((r9 (gQ x)).map .tup):=rfl
@[simp] theorem Fp(i:Int):BK (.int i)=if i.natAbs.log2<1920 then some (.str (Qd i)) else none:=rfl
@[simp] theorem Fo(x:Str):BK (.str x)=some (.str x):=rfl
@[simp] theorem Iv(x:Str):rY (.str x)=true:=rfl
@[simp] theorem HH(ps:List PV)(lo hi:Option Int):gSl (.lst ps) lo hi=some (.lst (jf ps lo hi)):=rfl
theorem bR{α:Type}{xs:List α}{i:Int}{n:Nat}{x:α}(hi:i=n)(h:xs[n]?=some x):atI xs i=some x:=by
 subst hi;have hl:=(Mc.mp h).1;unfold atI ixN;rw[if_pos (by omega),if_pos (by omega)];simpa using h
@[simp] theorem LK{α:Type}(x:α)(xs:List α):atI (x::xs) 0=some x:=bR (n:=0) rfl rfl
@[simp] theorem LJ{α:Type}(x y:α)(xs:List α):atI (x::y::xs) 1=some y:=bR (n:=1) rfl rfl
@[simp] theorem LI{α:Type}(x y z:α)(xs:List α):atI (x::y::z::xs) 2=some z:=bR (n:=2) rfl rfl
theorem xN{h:Tgt}{g:PSt->R Fl}(I:Nat->PSt->Prop):∀(ps:List PV)(n:Nat)(ρ:PSt),I n ρ->
  (∀(i:Nat)(p:PV)(ρ:PSt),ps[i]?=some p->I (n+i) ρ->∃ρ1 ρ2,h p ρ=some ρ1/\(g ρ1=.ok (.next ρ2)\/g ρ1=.ok (.cont ρ2))/\I (n+i+1) ρ2)->
  ∃ρ',mU h g ps ρ=.ok (.next ρ')/\I (n+ps.length) ρ'
 | [],n,ρ,h0,_=>⟨ρ,rfl,h0⟩
 | p::ps,n,ρ,h0,hs=>by
  obtain⟨ρ1,ρ2,e1,e2,i2⟩:=hs 0 p ρ rfl h0
  obtain⟨ρ3,e3,i3⟩:=xN I ps (n+1) ρ2 i2 fun i q ρ' hq hi=>by
   have:=hs (i+1) q ρ' (by simpa using hq) (by rw[show n+(i+1)=n+1+i by omega];exact hi);rw[show n+(i+1)+1=n+1+i+1 by omega] at this;exact this
  refine⟨ρ3,?_,by rw[MI,show n+(ps.length+1)=n+1+ps.length by omega];exact i3⟩;unfold mU;rw[e1];rcases e2 with e2 | e2 <;> (simp only[R.ofO_some,R.ok_bind,e2];exact e3)
theorem ll{h:Tgt}{g:PSt->R Fl}{ps:List PV}{ρ:PSt}(I:Nat->PSt->Prop)(h0:I 0 ρ)
  (hs:∀(i:Nat)(p:PV)(ρ:PSt),ps[i]?=some p->I i ρ->∃ρ1 ρ2,h p ρ=some ρ1/\(g ρ1=.ok (.next ρ2)\/g ρ1=.ok (.cont ρ2))/\I (i+1) ρ2) :
  ∃ρ',mU h g ps ρ=.ok (.next ρ')/\I ps.length ρ':=by
 have:=xN I ps 0 ρ h0 fun i p ρ hp hi=>by
  rw[QS] at hi ⊢;exact hs i p ρ hp hi
 simpa using this
theorem uv(lo:Int)(n:Nat):(fI lo n).length=n:=by simp[fI]
theorem uw{lo:Int}{n i:Nat}{p:PV}(h:(fI lo n)[i]?=some p):i<n/\p=.int (lo+i):=by
 unfold fI at h;rw[MS] at h
 by_cases hi:i<n
 ·rw[Os hi] at h
  exact⟨hi,(N6 h).symm⟩
 ·rw[Nl (by simpa using hi)] at h
  cases h
theorem forR{h:Tgt}{g:PSt->R Fl}{lo:Int}{n:Nat}{ρ:PSt}(I:Nat->PSt->Prop)(h0:I 0 ρ)
  (hs:∀(i:Nat)(ρ:PSt),i<n->I i ρ->∃ρ1 ρ2,h (.int (lo+i)) ρ=some ρ1/\(g ρ1=.ok (.next ρ2)\/g ρ1=.ok (.cont ρ2))/\I (i+1) ρ2) :
  ∃ρ',mU h g (fI lo n) ρ=.ok (.next ρ')/\I n ρ':=by
 obtain⟨ρ',e,i'⟩:=ll (ps:=fI lo n) I h0 fun i p ρ hp hi=>by
  obtain⟨hn,rfl⟩:=uw hp;exact hs i ρ hn hi
 rw[uv] at i';exact⟨ρ',e,i'⟩
end PU
namespace PU
open PySem PySem.Spec PyProof.Rows L2 PySem.SeqAt
variable[TW]
mutual
noncomputable def noFn:PV->Bool
 | .fn _ _=>false
 | .tup ps=>rN ps
 | .lst ps=>rN ps
 | .dct _ ps=>rN ps
 | .dtt _ ps=>rN ps
 | _=>true
noncomputable def rN:List PV->Bool
 | []=>true
 | p::ps=>noFn p && rN ps
end
noncomputable def m4:HO->Bool
 | .tup _=>true
 | .frz _ (.tup _)=>true
 | .frz _ (.lst _)=>true
 | .frz _ (.dK _)=>true
 | .frz _ (.dT _)=>true
 | _=>false
mutual
theorem Rep.pl{K:M9}{H H':Hp}(k:∀b u,H b=some u->m4 u=true->H' b=some u):∀(p:PV){v:V},noFn p=true->Rep K H p v->Rep K H' p v
 | .non,_,_,h=>h
 | .bl _,_,_,h=>h
 | .int _,_,_,h=>h
 | .str _,_,_,h=>h
 | .tup ps,_,n,⟨a,xs,e,h,r⟩=>⟨a,xs,e,h.elim (fun h=>.inl (k _ _ h rfl)) fun h=>.inr ⟨h.1,h.2.elim (fun h=>.inl (h.elim (fun h=>.inl (k _ _ h rfl)) fun ⟨o,h⟩=>.inr ⟨o,k _ _ h rfl⟩)) .inr⟩,aM.pl k ps n r⟩
 | .lst ps,_,n,⟨a,xs,e,h,r⟩=>⟨a,xs,e,by
   rcases h with⟨o,h⟩ | h
   ·exact .inl ⟨o,k _ _ h rfl⟩
   ·exact .inr h,aM.pl k ps n r⟩
 | .dct ks ps,_,n,⟨a,kvs,e,h,ek,r⟩=>⟨a,kvs,e,by
   rcases h with⟨o,h⟩ | h
   ·exact .inl ⟨o,k _ _ h rfl⟩
   ·exact .inr h,ek,aM.pl k ps n r⟩
 | .dtt ks ps,_,n,⟨a,o,kvs,e,h,ek,r⟩=>⟨a,o,kvs,e,k _ _ h rfl,ek,aM.pl k ps n r⟩
 | .fn _ _,_,n,_=>by cases n
theorem aM.pl{K:M9}{H H':Hp}(k:∀b u,H b=some u->m4 u=true->H' b=some u):∀(ps:List PV){xs:List V},rN ps=true->aM K H ps xs->aM K H' ps xs
 | [],_,_,h=>h
 | p::ps,_,n,⟨x,r,e,h1,h2⟩=>by
  have n:(noFn p && rN ps)=true:=n;rw[Mk] at n;exact⟨x,r,e,Rep.pl k p n.1 h1,aM.pl k ps n.2 h2⟩
end
end PU
namespace PU
open PySem PySem.Spec PyProof.Rows L2 PySem.SeqAt
variable[TW]
section
variable{X : Cx}{pins : List (Addr×Obj)}{σ : L2.St}{H : Hp}{s : MB}
def Bn (X:Cx):Prop:=∃bm o,X.mg "__builtins__"=some (.ref bm)/\bm≠Qq/\bm≠MM/\X.base.get? bm=some o/\o.cls=.type "module"/\o.dict=some Qq/\o.data=.plain
end
end PU
namespace PU
open PySem PySem.Spec PyProof.Rows L2 PySem.SeqAt
variable[TW]
def LQ(X:Cx)(H:Hp)(σ:L2.St):PV->V->Prop
 | .fn L cs,v=>∃f c pm ct xs,v=.ref f/\H f=some (FnAt f (BE L (gc X.env.cells L.scope.names []) pm c ct))/\H c=some (yE c L.qual)/\
   (gc X.env.cells L.scope.names []).map (·.1)=L.kept/\((gc X.env.cells L.scope.names []).map (·.2)).Nodup/\xs.length=L.kept.length/\aM X.K H cs xs/\
   ∀(j:Nat)(y:Str),L.kept[j]?=some y->∃(i:Nat)(v:V),X.N[i]?=some y/\σ[i]?=some (some v)/\xs[j]?=some v/\X.env.scope.names.lookup y=some .cell
 | p,v=>Rep X.K H p v/\noFn p=true
def Hy(X:Cx)(H:Hp)(σ:L2.St):List PV->List V->Prop
 | [],xs=>xs=[]
 | p::ps,xs=>∃x r,xs=x::r/\LQ X H σ p x/\Hy X H σ ps r
abbrev Ph:=L2.St->Hp->Prop
def Ph.Ok(Φ:Ph):Prop:=∀σ H H',Φ σ H->Same H H'->Φ σ H'
noncomputable def tL(C:Cn)(Φ:Ph)(f:PSt->R (List PV)):TA:=fun σ H Q=>∃ρ,View C.X.K H σ ρ/\Φ σ H/\RQ C H (f ρ) fun ps=>∀vs H',Same H H'->Hy C.X H' σ ps vs->Q vs H'
def ELF(C:Cn)(Φ:Ph)(es:List Expr)(f:PSt->R (List PV)):Prop:=PA C.X es (tL C Φ f)
noncomputable def tVF(C:Cn)(Φ:Ph)(f:PSt->R PV):TE:=fun σ H Q=>Φ σ H/\tV C f σ H Q
def EVF(C:Cn)(Φ:Ph)(e:Expr)(f:PSt->R PV):Prop:=PE C.X e (tVF C Φ f)
noncomputable def tNF(C:Cn)(Φ:Ph)(f:PSt->R PV):TE:=fun σ H Q=>Φ σ H/\tN C f σ H Q
def ENF(C:Cn)(Φ:Ph)(e:Expr)(f:PSt->R PV):Prop:=PE C.X e (tNF C Φ f)
end PU
namespace PU
theorem IC[TW]{H:L2.Hp}{ts:List PySem.Addr}(e:TW.tabs=ts)(h:∀P∈ts,H P=some (.tbl #[])):tY H:=fun P hP=>⟨#[],h P (e▸hP),trivial,fun pos v h=>by cases h⟩
end PU
namespace PU
open PySem PySem.Spec PyProof.Rows L2
theorem fsc{N ps:List Str}{sc:Scope}(a:sc.kind=.function:=by rfl)(b:sc.isCoroutine=false:=by rfl)(c:sc.isGenerator=false:=by rfl)(d:N.Nodup:=by decide +kernel)(e:N.take ps.length=ps:=by rfl)
  (f:∀x∈ps,sc.names.lookup x=some .local\/sc.names.lookup x=some .cell:=by decide +kernel) (g:∀y∈sc.names,y.2≠.free:=by decide +kernel):FnScope N ps sc:=⟨a,b,c,d,e,f,g⟩
theorem cok{N ps NX N':List Str}{S scX scope:Scope}{nt:Nat}{idx:List Nat}(_:FnScope N ps S)(e1:NX=N:=by rfl)(e2:scX=S:=by rfl)(a:scope.kind=.function:=by rfl)(b:∀y∈scope.names,y.2≠.cell:=by decide +kernel)
  (c:∀y∈scope.names,y.2=.local->scope.names.lookup y.1=some .local:=by decide +kernel) (d:∀y∈scope.names,y.2=.free->S.names.lookup y.1=some .cell\/S.names.lookup y.1=some .free:=by decide +kernel) (e:N'.length=nt+idx.length:=by rfl)
  (f:(idx.zip (N'.drop nt)).all (fun p=>decide (N[p.1]?=some p.2) && decide (scope.names.lookup p.2=some .free))=true:=by decide +kernel):CompOk NX scX scope N' nt idx:=by
 subst e1 e2;exact⟨a,b,c,d,e,f⟩
def Has(K:M9)(n:Str)(st:Stmt):Prop:=∃(f:Addr)(oc kV dc pm cd ct:Value)(od an:Option Addr)(sl:Array (Option Value)),Ma K MM n=some (some (.ref f))/\
 K.lookup f=some ⟨oc,od,.func (NJ n n (cR st) (ba st) (af st) .none kV dc pm an cd ct),sl⟩/\OH K cd n=true/\NO K (.ref f)=true
theorem Has.of{K:M9}{n:Str}{st:Stmt}{f:Addr}{oc kV dc pm cd ct:Value}{od an:Option Addr}{sl:Array (Option Value)}(a:Ma K MM n=some (some (.ref f)))
  (l:K.lookup f=some ⟨oc,od,.func (NJ n n (cR st) (ba st) (af st) .none kV dc pm an cd ct),sl⟩) (c:OH K cd n=true) (k:NO K (.ref f)=true):Has K n st:=⟨_,_,_,_,_,_,_,_,_,_,a,l,c,k⟩
def Hs(K:M9)(mg:Str->Option Value)(n:Str)(st:Stmt):Prop:=∃f fd,Fun K n n st f fd/\mg n=some (.ref f)
theorem Has.fn{K:M9}{n:Str}{st:Stmt}{h:Heap}{mg:Str->Option Value}(x:Has K n st)(X:K.In h)(G:h.Ns MM mg):Hs K mg n st:=by
 obtain⟨f,_,_,_,_,_,_,_,_,_,a,l,c,k⟩:=x;exact⟨f,_,BL l c k,O0 X G a⟩
variable[TW]
section
variable{C : Cn}{pos : O4}
theorem aD(i:Nat){x:Str}(hN:C.X.N[i]?=some x:=by rfl)(hv:Vis C.X.env.scope x:=by first | exact .inl rfl | exact .inr (.inl rfl) | exact .inr (.inr rfl))
  (hd:(x == ("__debug__":Str))=false:=by decide) (hcd:(x == ("__classdict__":Str))=false:=by decide):EO C (.Name x pos) (ah i):=(bW i hN hv hd hcd).o
theorem av{i j}:EO C (.Constant (.int i) j pos) (kI i):=bE.o
theorem aH{i j}:EO C (.Constant (.str i) j pos) (kS i):=aj.o
theorem yG{C:Cn}{N':List Str}{scope:Scope}{cl}{L}{s}{H}{fp}(i:Nat){x:Str}(hi:N'[i]?=some x:=by rfl)(hx:Loc (cO C N' scope cl L s H fp).X.env.scope x:=by first | exact .inl rfl | exact .inr rfl)(hN:N'.Nodup:=by decide +kernel)
  (hf:(cO C N' scope cl L s H fp).X.fn x=true\/(cO C N' scope cl L s H fp).X.env.scope.names.lookup x=some .local:=by first | exact .inl rfl | exact .inr rfl | assumption):TCt (cO C N' scope cl L s H fp) (.Name x pos) (aL i):=Cp i hN hi hx hf
end
section
variable{P : MP}{w : Me}{K : M9}{mg : Str → Option Value}{base : Heap}{x : Str}{st : Stmt}{N ps : List Str}{k : Nat}{g : PSt → R Fl}
theorem lJ(h:Hs K mg x st)(S:FnScope N ps (af st))
  (hbody:∀(f:Addr)(cdv:Value)(A:Mi)(outer:List QX)(s:MB)(H:Hp)(E:XK),Room k (A.deeper (Og x (af st) s.heap.objs.size f cdv))->SVs (Eb P w K mg base N x (af st) f cdv A outer s H E) (ba st) g)
  (hb:∀(kV doc pm:Value)(an:Option Addr)(cdv ct:Value)(us:List Value),us.length=ps.length->Rg (NJ x x (cR st) (ba st) (af st) .none kV doc pm an cdv ct) ⟨us,[]⟩=pure (ps.zip us):=by
   intro _ _ _ _ _ _ us hl;repeat' (first | (exfalso;simp only[Np] at hl;omega) | (rcases us with _ | ⟨_,us⟩) | rfl)) :
  PF P w K mg base (k+1) x (iI ps.length N.length g):=by
 obtain⟨f,fd,F,hm⟩:=h;exact IW F S hm (F.binds hb) (hbody f)
end
end PU
namespace PU
open PySem PySem.Spec PyProof.Rows L2 PySem.SeqAt
variable[TW]
noncomputable def tSF(C:Cn)(Φ:Ph)(g:PSt->R Fl):TS:=fun D σ H=>Φ σ H/\tS C g D σ H
def SVF(C:Cn)(Φ:Ph)(st:List Stmt)(g:PSt->R Fl):Prop:=PSs C.X st (tSF C Φ g)
noncomputable def tBF(C:Cn)(Φ:Ph)(t:PSt->R Bool):TT:=fun σ H Q=>Φ σ H/\tBl C t σ H Q
def ETF(C:Cn)(Φ:Ph)(e:Expr)(t:PSt->R Bool):Prop:=PT C.X e (tBF C Φ t)
end PU
namespace PU
open PySem PySem.Spec PyProof.Rows L2
theorem FV(a:Addr):L2.RelV (.ref a) (.ref a):=by unfold L2.RelV;exact rfl
theorem rep_conT {w:Me} {tabs:List Addr} {qual:Nat->Nat->Str} {K:M9} {H:Hp} {a:Addr} {o:Obj} {its:Array Value} {n:Nat} {xs:List V} {ps:List PV} (n2:K.lookup a=some o) (n3:o={ cls:=.type "tuple",data:=.seq its n }) (hc:xA ps=true) (hz:its.size<=sizeLine) (vals:Vals xs its.toList) (reps:@aM ⟨w,tabs,qual⟩ K H ps xs) :
  @Rep ⟨w,tabs,qual⟩ K H (.tup ps) (.ref a):=by
 letI:TW:=⟨w,tabs,qual⟩
 subst n3;exact⟨a,xs,rfl,.inr ⟨hc,.inr ⟨_,its,n,n2,rfl,rfl,hz,vals,rfl⟩⟩,reps⟩
theorem con_tup{w:Me}{tabs:List Addr}{qual:Nat->Nat->Str}{K:M9}{h:Heap}{mg:Str->Option Value}{x:Str}{a:Addr}{o:Obj}{its:Array Value}{n:Nat}{xs:List V}{ps:List PV}(X:K.In h)(G:h.Ns MM mg)
  (n1:Ma K MM x=some (some (.ref a))) (n2:K.lookup a=some o) (n3:o={ cls:=.type "tuple",data:=.seq its n }) (hc:xA ps=true) (hz:its.size<=sizeLine) (vals:Vals xs its.toList) (reps:∀H,@aM ⟨w,tabs,qual⟩ K H ps xs) :
  @Con ⟨w,tabs,qual⟩ K mg x (.tup ps):=by
 letI:TW:=⟨w,tabs,qual⟩
 exact⟨.ref a,_,O0 X G n1,rfl,fun H=>rep_conT n2 n3 hc hz vals (reps H)⟩
theorem con_dctT{w:Me}{tabs:List Addr}{qual:Nat->Nat->Str}{K:M9}{h:Heap}{mg:Str->Option Value}{x:Str}{a:Addr}{o:Obj}(es:List (Str×Sn×Addr)){ep:Nat}{ps:List PV}(X:K.In h)(G:h.Ns MM mg)
  (n1:Ma K MM x=some (some (.ref a))) (n2:K.lookup a=some o) (n3:o={ cls:=.type "dict",data:=.dict (es.map fun e=>BP w.params (e.1,e.2.1,.ref e.2.2)).toArray ep }) (hs:(a == NL)=false)
  (nd:(es.map (·.1)).Nodup) (hz:es.length<=sizeLine) (reps:∀H,@aM ⟨w,tabs,qual⟩ K H ps (es.map fun e=>.ref e.2.2)):@Con ⟨w,tabs,qual⟩ K mg x (.dct (es.map fun e=>.inr e.1) ps):=by
 have e1:es.map (fun e=>BP w.params (e.1,e.2.1,.ref e.2.2))=(es.map fun e=>(e.1,e.2.1,Mq e.2.2)).map (BP w.params):=by rw[Mt];rfl
 rw[e1] at n3
 have:=con_dct (w:=w) (tabs:=tabs) (qual:=qual) (ps:=ps) (es.map fun e=>(e.1,e.2.1,Mq e.2.2)) X G n1 n2 n3 hs (by rw[Mt];exact nd) (by rw[MC];exact hz) (xs:=es.map fun e=>.ref e.2.2) (by
  rw[Mt];clear e1 n3 nd hz reps
  induction es with
  | nil=>exact .nil
  | cons e es ih=>exact .cons (FV _) ih) reps
 rw[Mt] at this;exact this
end PU
namespace L2
open PySem PySem.Spec PyProof.Rows
theorem xh{P:MP}{w:Me}{K:M9}{mg mb:Str->Option Value}{CX:CXT}{k:Nat}{fa a:Addr}{fd:FuncData}{x:Str}{sp:Sp}{s₁:MB}{vs:List Value}{ns:List Int}
  (KX:K.In s₁.heap) (hns:s₁.heap.Ns MM mg) (hb:s₁.heap.Ns Qq mb) (hbb:∀x:Str,x≠"__name__"->mb x=Nv x) (hlim:s₁.heap.NoLimit) (hg:s₁.gens=#[])
  (ha:s₁.heap.get? a=some { cls:=.type "list",data:=.seq vs.toArray }) (hi:Tq vs ns) (hl:ns.length<=sizeLine) (hr:Room k Re)
  (F:∀base:Heap,K.In base->base.Ns MM mg->FnOk P w K mg base CX k fa fd [x] sp) (hbind:∀(s:MB)(u:Value),Rm s fd ⟨[u],[]⟩ [(x,u)])
  (hsp:∀H:Hp,JV H->PU.SqF K H a (ns.map V.int)->sp [.ref a] H (fun v _=>v=.bl true) fun _ _ _=>False)
  (hCX:∀H e s',CX [] H s₁ (fun _ _ _=>False) e s'->False) :
  Pj (MV P w) Re (.call (.ref fa) ⟨[.ref a],[]⟩) (fun r s'=>r=.ok (.ret (.bool true))/\OldK s₁.heap s'.heap/\s'.os=s₁.os/\Q1 s'.gens) s₁:=by
 have rv:=pH hi;have lenV:=hi.length
 have core:∀H:Hp,JV H->PU.SqF K H a (ns.map V.int)->HOk P w H s₁.heap->(∀b,H b≠none->b=a)->(H a≠none->K.lookup a=none)->
   Pj (MV P w) Re (.call (.ref fa) ⟨[.ref a],[]⟩) (fun r s'=>r=.ok (.ret (.bool true))/\OldK s₁.heap s'.heap/\s'.os=s₁.os/\Q1 s'.gens) s₁:=by
  intro H hO hS hok hA hK;have base_of:∀{b:Addr}{o:Obj},s₁.heap.get? b=some o->H b=none->(Ap s₁.heap H).get? b=some o:=fun e n=>Ao e n
  have noA:∀{b:Addr}{o:Obj}{es:Array DictEntry}{ep:Nat},s₁.heap.get? b=some o->o.data=.dict es ep->H b=none:=fun {b o es ep} e d=>by
   cases q:H b with
   | none=>rfl
   | some u=>
    have e':b=a:=hA b (by rw[q];simp);subst e';rw[ha] at e;cases e;have d':Data.seq vs.toArray _=Data.dict es ep:=d;cases d'
  have nsK:∀{b:Addr}{m:Str->Option Value},s₁.heap.Ns b m->(Ap s₁.heap H).Ns b m:=fun {b m} ⟨o,es,ep,e,d,r⟩=>⟨o,es,ep,base_of e (noA e d),d,r⟩
  have hKb:K.In (Ap s₁.heap H):=fun b o e=>base_of (KX b o e) (by
   cases q:H b with
   | none=>rfl
   | some u=>
    have e':b=a:=hA b (by rw[q];simp);subst e';rw[hK (by rw[q];simp)] at e;cases e)
  have hM:Mod K mg (Ap s₁.heap H):=⟨hKb,nsK hns,⟨mb,nsK hb,hbb⟩,let ⟨mc,h1,h2⟩:=hlim;⟨mc,nsK h1,h2⟩⟩;have e0:Env0 P w K mg (Ap s₁.heap H) Re [] s₁ H:=⟨rfl,hM,fun b o e=>Dc e,QU (xD _ _),trivial,fun b hb=>absurd (show b∈([]:List Addr) from hb) (by simp),hok,.of_eq hg⟩;refine PR ((F _ hKb (nsK hns)).run Re [] s₁ H ⟨[.ref a],[]⟩ [.ref a] [.ref a] _ _ hr e0 (hbind s₁ (.ref a)) (.cons rfl .nil) (hsp H hO hS)) fun r s' h=>?_;cases r with
  | error e=>exact(hCX H e s' h).elim
  | ok fl=>
   cases fl with
   | next=>exact MG h
   | brk=>exact MG h
   | cont=>exact MG h
   | ret u=>
    obtain⟨v,H',os,bare,un,hok',r',q⟩:=h;have q':v=.bl true:=q;subst q';obtain rfl:u=Rh true:=r';refine⟨rfl,OldK.of_keep fun b o e=>?_,os,bare⟩;cases q:H b with
    | none=>exact un.keep b o e q (by intro z;exact absurd (show b∈([]:List Addr) from z) (by simp)) (by simp)
    | some u=>
     rcases hO b with z | ⟨ob,xs,z⟩
     ·rw[q] at z;cases z
     ·have z2:=un.frzs b ob _ z
      obtain⟨e1,_⟩:=hok b _ z;obtain⟨e2,_⟩:=hok' b _ z2;rw[e] at e1;cases e1;exact e2
 cases hk:K.lookup a with
 | some o=>
  have e:=KX a o hk;rw[ha] at e;cases e;refine core (fun _=>none) (fun _=>.inl rfl) (.inr ⟨vs,_,hk,by rw[MC];exact hl,rv⟩) (fun b u z=>by have z':(none:Option HO)=some u:=z;cases z') (fun b z=>absurd rfl z) fun z=>absurd rfl z
 | none=>
  refine core (fun b=>if b=a then some (.frz { cls:=.type "list",data:=.seq vs.toArray } (.lst (ns.map V.int))) else none) (fun b=>?_) (.inl ⟨{ cls:=.type "list",data:=.seq vs.toArray },if_pos rfl⟩) (fun b u z=>?_) (fun b z=>?_) fun _=>hk
  ·by_cases hb:b=a
   ·exact .inr ⟨_,_,if_pos hb⟩
   ·exact .inl (if_neg hb)
  ·by_cases hb:b=a
   ·have z':=(if_pos hb).symm.trans z
    cases z';subst hb;exact⟨ha,by rw[MC];exact hl,vs,_,rv,ha⟩
   ·have z':=(if_neg hb).symm.trans z
    cases z'
  ·by_cases hb:b=a
   ·exact hb
   ·exact absurd (if_neg hb) z
theorem walk_ofF{l:RB}{n k:Nat}{q:MP}{loose:List Str}{XP:(Str->Option Value)->Heap->Prop}{YP:Me->Heap->Prop}{d:DefRec}{K:Params->M9}{CX:Me->CXT}{sp:Me->Sp}{x:Str}
  (hn:l.most=some n) (hn2:n<=sizeLine) (hdf:d.params.defaults=[]) (hr:Room k Re)
  (hY:∀(w:Me)(h:Heap),YP w h->(K w.params).In h)
  (F:∀(w:Me)(mg:Str->Option Value)(fa:Addr)(h:Heap),(K w.params).In h->h.Ns MM mg->mg d.name=some (.ref fa)->
   ∃fd:FuncData,(∀(s:MB)(u:Value),Rm s fd ⟨[u],[]⟩ [(x,u)])/\
    ∀base:Heap,(K w.params).In base->base.Ns MM mg->FnOk l.prog w (K w.params) mg base (CX w) k fa fd [x] (sp w))
  (hsp:∀(w:Me)(H:Hp)(a:Addr)(ns:List Int),ns.length<=n->JV H->PU.SqF (K w.params) H a (ns.map V.int)->sp w [.ref a] H (fun v _=>v=.bl true) fun _ _ _=>False)
  (hCX:∀(w:Me)(H:Hp)(s:MB)(e:Value)(s':MB),CX w [] H s (fun _ _ _=>False) e s'->False) :
  PySem.W.WalkO q loose XP YP l.row.toRowW d [] (fun f vs=>T9 f vs):=by
 refine Att.attach_call hn hdf fun w s₀ s₁ mg mb fa o pm cd doc a vs ns G Y ho hd hcd hmg hobj hints hlen hg=>?_;have KX:=hY w _ Y;obtain⟨fd,hb,hF⟩:=F w mg fa _ KX G.T.g hmg;exact xh KX G.T.g G.T.b G.T.builtins G.T.nolimit hg hobj hints (Mm hlen hn2) hr hF hb (fun H hO hS=>hsp w H a ns hlen hO hS) fun H e s'=>hCX w H s₁ e s'
end L2
namespace PU
open PySem PySem.Spec PyProof.Rows L2 PySem.SeqAt
variable[TW]
def BY(K:M9)(B H:Hp)(a b:Addr)(p:PV):Prop:=∃(kvs:List (Key×V))(k:Key)(q:PV)(ps:List PV),p=.dct (kvs.map (·.1)++[k]) (ps++[q])/\H a=some (.dK (kvs++[(k,.ref b)]))/\aM K H ps (kvs.map (·.2))/\dE K H b q/\a≠b/\B a=none/\B b=none
noncomputable def tM(C:Cn)(f:PSt->R PV):TE:=fun σ H Q=>∃ρ,View C.X.K H σ ρ/\RQ C H (f ρ) fun p=>∀a b H',Same H H'->BY C.X.K H H' a b p->Q (.ref a) H'
def EM(C:Cn)(e:Expr)(f:PSt->R PV):Prop:=PE C.X e (tM C f)
def EDN(C:Cn)(pos:O4)(ks:List (Option Expr))(vs:List Expr)(f:PSt->R (List (Key×PV)))(k:Key)(i:Nat):Prop:=∃trs,PPs C.X pos ks vs trs/\
 ∀σ H Q b,(∃ρ,View C.X.K H σ ρ/\σ[i]?=some (some (.ref b))/\RQ C H (f ρ) fun kps=>∀kvs H',Same H H'->Et C.X.K H' kps kvs->Q ((kvs++[(k,V.ref b)]).map fun kv=>(kV kv.1,kv.2)) H')->mZ trs σ H Q
omit [TW] in
theorem lX:∀{kvs acc:List (Key×V)},((acc++kvs).map (·.1)).Nodup->iL acc kvs=acc++kvs
 | [],acc,_=>by simp[iL]
 | kv::kvs,acc,h=>by
  have h1:putK acc kv.1 kv.2=acc++[kv]:=by
   unfold putK;rw[if_neg];intro z;obtain⟨y,hy,e⟩:=QF.mp z;have e:y.1=kv.1:=by simpa using e
   rw[Mp,OF] at h;exact h.2.2 y.1 (Oo hy) kv.1 (by simp) e
  have:iL acc (kv::kvs)=iL (putK acc kv.1 kv.2) kvs:=rfl;rw[this,h1,lX (by simpa using h)];simp
def RM(C:Cn)(B:Bs)(D:Ends):R Fl->Prop
 | .ok (.ret p)=>∀a b H,Same B.1 H->BY C.X.K B.1 H a b p->D.rt (.ref a) H
 | _=>False
noncomputable def tSM(C:Cn)(g:PSt->R Fl):TS:=fun D σ H=>∃ρ B,StOk C.X.K B H σ ρ/\RM C B D (g ρ)
def SVM(C:Cn)(st:List Stmt)(g:PSt->R Fl):Prop:=PSs C.X st (tSM C g)
end PU
section
namespace PU
open PySem PySem.Spec PyProof.Rows L2
inductive XO (α:Type) where
 | ok (a:α) (ρ:PSt) | thr (x:PX) (ρ:PSt) | no
inductive Fb where
 | next | brk | cont | ret (p:PV) | retT (t:Tr)
namespace XO
protected noncomputable def bind{α β:Type}:XO α->(α->PSt->XO β)->XO β
 | ok a ρ,f=>f a ρ
 | thr x ρ,_=>thr x ρ
 | no,_=>no
noncomputable def rd{α:Type}(ρ:PSt):R α->XO α
 | .ok a=>ok a ρ
 | .er x=>thr x ρ
 | .no=>no
end XO
noncomputable def cU(g:PSt->R Fl):PSt->XO Fb:=fun ρ=>match g ρ with
 | .ok (.next ρ')=>.ok .next ρ'
 | .ok (.brk ρ')=>.ok .brk ρ'
 | .ok (.cont ρ')=>.ok .cont ρ'
 | .ok (.ret p)=>.ok (.ret p) ρ
 | .er x=>.thr x ρ
 | .no=>.no
def oI{α:Type}(f:PSt->R α):PSt->XO α:=fun ρ=>XO.rd ρ (f ρ)
def lU:PSt->XO Fb:=fun ρ=>.ok .next ρ
def gM(g g':PSt->XO Fb):PSt->XO Fb:=fun ρ=>(g ρ).bind fun fl ρ'=>match fl with
 | .next=>g' ρ'
 | fl=>.ok fl ρ'
def ifB(t:PSt->XO Bool)(g g':PSt->XO Fb):PSt->XO Fb:=fun ρ=>(t ρ).bind fun k ρ'=>if k=true then g ρ' else g' ρ'
def EF(f:PSt->XO PV):PSt->XO Fb:=fun ρ=>(f ρ).bind fun p ρ'=>.ok (.ret p) ρ'
def EL(t:PSt->XO Bool):PSt->XO Bool:=fun ρ=>(t ρ).bind fun k ρ'=>.ok (!k) ρ'
def HW(f:PSt->XO PV):PSt->XO Bool:=fun ρ=>(f ρ).bind fun p ρ'=>match p with
 | .bl b=>.ok b ρ'
 | _=>.no
def BM(h:Tgt)(g:PSt->XO Fb):List PV->PSt->XO Fb
 | [],ρ=>.ok .next ρ
 | p::ps,ρ=>match h p ρ with
  | none=>.no
  | some ρ1=>(g ρ1).bind fun fl ρ2=>match fl with
   | .next=>BM h g ps ρ2
   | .cont=>BM h g ps ρ2
   | .brk=>.ok .next ρ2
   | .ret p=>.ok (.ret p) ρ2
   | .retT t=>.ok (.retT t) ρ2
def JL(fi:PSt->R (List PV))(h:Tgt)(g:PSt->XO Fb):PSt->XO Fb:=fun ρ=>(XO.rd ρ (fi ρ)).bind fun ps ρ=>BM h g ps ρ
variable[TW]
structure Zs where
 hp:Hp
 kp:Hp
 at_:Nat->Option (Addr×List Addr)
structure BOk(n:Nat)(Z:Zs)(B:Bs):Prop where
 lim:∀i,n<=i->Z.at_ i=none
 kp:B.2=Z.kp
 same:Same Z.hp B.1
 at_:∀i q,Z.at_ i=some q->B.3 i=some q
 off:∀i a r,B.3 i=some (a,r)->∀b∈a::r,Z.hp b=none
 apart:∀i j a r a' r',B.3 i=some (a,r)->B.3 j=some (a',r')->i≠j->∀b∈a::r,b ∉ a'::r'
 liv:∀i a r,B.3 i=some (a,r)->∀b∈a::r,B.1 b≠none
def StB(K:M9)(n:Nat)(Z:Zs)(H:Hp)(σ:L2.St)(ρ:PSt):Prop:=∃B:Bs,StOk K B H σ ρ/\BOk n Z B
def TB(K:M9)(Z:Zs)(H:Hp)(ρ:PSt):Prop:=Same Z.hp H/\∀i a r t,Z.at_ i=some (a,r)->ρ[i]?=some (.tree t)->bu K H a r t
section
variable{K : M9}{n : Nat}{Z : Zs}{B : Bs}{H H' : Hp}{σ : L2.St}{ρ : PSt}
theorem Cq(S:StOk K B H σ ρ)(b:BOk n Z B)(s:Same B.1 H'):TB K Z H' ρ:=
 ⟨b.same.trans s,fun i a r t e1 e2=>by
  obtain⟨a',r',h1,_,h3⟩:=S.treed i t e2;rw[b.at_ i _ e1] at h1;cases h1;exact h3.same s⟩
theorem StB.tb(h:StB K n Z H σ ρ):TB K Z H ρ:=let ⟨_,S,b⟩:=h;Cq S b S.same
theorem StB.grow(h:StB K n Z H σ ρ)(s:Same H H'):StB K n Z H' σ ρ:=let ⟨B,S,b⟩:=h;⟨B,S.grow s,b⟩
theorem StB.vw(h:StB K n Z H σ ρ):View K H σ ρ:=let ⟨_,S,_⟩:=h;S.vw
theorem StB.kpt(h:StB K n Z H σ ρ):Kp Z.kp H:=let ⟨_,S,b⟩:=h;b.kp▸S.kp
theorem BOk.rebase(b:BOk n Z B)(k:Hp):BOk n { Z with kp:=k } ⟨B.1,k,B.3⟩:=⟨b.lim,rfl,b.same,b.at_,b.off,b.apart,b.liv⟩
theorem StB.rebase(h:StB K n Z H σ ρ){k:Hp}(kp:Kp k H):StB K n { Z with kp:=k } H σ ρ:=let ⟨_,S,b⟩:=h;⟨_,S.rebase kp,b.rebase k⟩
theorem StB.back{k:Hp}(h:StB K n { Z with kp:=k } H σ ρ)(kp:Kp Z.kp k):StB K n Z H σ ρ:=by
 obtain⟨B,S,b⟩:=h;have e:B.2=k:=b.kp;exact⟨⟨B.1,Z.kp,B.3⟩,S.rebase (kp.trans (e▸S.kp)),b.lim,rfl,b.same,b.at_,b.off,b.apart,b.liv⟩
end
def RX(C:Cn)(Z:Zs){α:Type}(r:XO α)(k:α->PSt->Prop):Prop:=
 match r with
 | .ok a ρ=>k a ρ
 | .thr x ρ=>∀H,TB C.X.K Z H ρ->C.Ac x H
 | .no=>False
section
variable{C : Cn}{n : Nat}{Z : Zs}{α β : Type}{r : XO α}{k k' : α → PSt → Prop}
theorem RX.imp(h:RX C Z r k)(f:∀a ρ,r=.ok a ρ->k a ρ->k' a ρ):RX C Z r k':=by
 cases r with
 | ok a ρ=>exact f a ρ rfl h
 | thr x ρ=>exact h
 | no=>exact h
theorem RX.bind{f:α->PSt->XO β}{m:β->PSt->Prop}(h:RX C Z (r.bind f) m):RX C Z r fun a ρ=>RX C Z (f a ρ) m:=by
 cases r <;> exact h
theorem RX.rd{σ:L2.St}{H:Hp}{ρ:PSt}{q:R α}(S:StB C.X.K n Z H σ ρ)(h:RX C Z (XO.rd ρ q) k):RQ C H q fun a=>k a ρ:=by
 cases q with
 | ok a=>exact h
 | er x=>exact fun H' s=>h H' (S.grow s).tb
 | no=>exact h
end
noncomputable def tX(C:Cn)(n:Nat)(f:PSt->XO PV):TE:=fun σ H Q=>∃ρ Z,StB C.X.K n Z H σ ρ/\RX C Z (f ρ) fun p ρ'=>∀v H',StB C.X.K n Z H' σ ρ'->Rep C.X.K H' p v->Q v H'
def XB(C:Cn)(n:Nat)(e:Expr)(f:PSt->XO PV):Prop:=PE C.X e (tX C n f)
noncomputable def tXT(C:Cn)(n:Nat)(f:PSt->XO Bool):TT:=fun σ H Q=>∃ρ Z,StB C.X.K n Z H σ ρ/\RX C Z (f ρ) fun b ρ'=>∀H',StB C.X.K n Z H' σ ρ'->Q b H'
def XT(C:Cn)(n:Nat)(e:Expr)(f:PSt->XO Bool):Prop:=PT C.X e (tXT C n f)
def Ew(C:Cn)(n:Nat)(Z:Zs)(D:Ends):Fb->PSt->Prop
 | .next,ρ=>∀σ H,StB C.X.K n Z H σ ρ->D.nx σ H
 | .brk,ρ=>∀σ H,StB C.X.K n Z H σ ρ->D.bk σ H
 | .cont,ρ=>∀σ H,StB C.X.K n Z H σ ρ->D.ct σ H
 | .ret p,ρ=>∀v H,TB C.X.K Z H ρ->Rep C.X.K H p v->D.rt v H
 | .retT t,_=>∀a r H,Same Z.hp H->(∀b∈a::r,Z.hp b=none)->bu C.X.K H a r t->D.rt (.ref a) H
noncomputable def tSB(C:Cn)(n:Nat)(g:PSt->XO Fb):TS:=fun D σ H=>∃ρ Z,StB C.X.K n Z H σ ρ/\RX C Z (g ρ) (Ew C n Z D)
def SB(C:Cn)(n:Nat)(st:Stmt)(g:PSt->XO Fb):Prop:=PS C.X st (tSB C n g)
def SBs(C:Cn)(n:Nat)(st:List Stmt)(g:PSt->XO Fb):Prop:=PSs C.X st (tSB C n g)
section
variable{C : Cn}{n : Nat}{st : Stmt}{sts a b body : List Stmt}{e c tg iter : Expr}{f : PSt → R PV}{fx : PSt → XO PV}{g g' : PSt → XO Fb}{t : PSt → XO Bool}{pos : O4}
theorem bF{g:PSt->R Fl}(h:SV C st g):SB C n st (cU g):=by
 intro pins s σ H D I ⟨ρ,Z,⟨B,S,b⟩,q⟩;refine h pins s σ H D I ⟨ρ,B,S,?_⟩;unfold cU at q;cases hg:g ρ with
 | ok fl=>
  rw[hg] at q;cases fl with
  | next ρ'=>exact fun σ' H' S'=>q σ' H' ⟨B,S',b⟩
  | brk ρ'=>exact fun σ' H' S'=>q σ' H' ⟨B,S',b⟩
  | cont ρ'=>exact fun σ' H' S'=>q σ' H' ⟨B,S',b⟩
  | ret p=>exact fun v H' s' r'=>q v H' (Cq S b s') r'
 | er x=>rw[hg] at q;exact fun H' s'=>q H' (Cq S b s')
 | no=>rw[hg] at q;exact q
theorem jY{t:PSt->R Bool}(h:ET C e t):XT C n e (oI t):=by
 intro pins s σ H Q I ⟨ρ,Z,S,q⟩;exact h pins s σ H Q I ⟨ρ,S.vw,(RX.rd S q).imp fun p _ k H' s'=>k H' (S.grow s')⟩
theorem F8(h:XB C n e fx)(he:∀whole,isTrue e C.X.env whole=(do let v<- whole;QK e.pos;Qp [v] (truthy v)):=by intro _;rfl):XT C n e (HW fx):=by
 intro pins s σ H Q I ⟨ρ,Z,S,q⟩;refine G0 h he pins s σ H Q I ⟨ρ,Z,S,q.bind.imp fun p ρ' _ k v H' S' r=>?_⟩;cases p with
 | bl b=>exact⟨b,r,k H' S'⟩
 | _=>exact MG k
theorem vg(h:XT C n e t):XT C n (.UnaryOp .Not e pos) (EL t):=by
 intro pins s σ H Q I ⟨ρ,Z,S,q⟩;exact Bm h pins s σ H Q I ⟨ρ,Z,S,q.bind.imp fun b ρ' _ k H' S'=>k H' S'⟩
theorem gR:SBs C n [] lU:=fun pins s σ H D I ⟨ρ,Z,S,h⟩=>wj pins s σ H D I (h σ H S)
theorem cP(h1:SB C n st g):SBs C n [st] g:=fun pins s σ H D I h=>wg h1 pins s σ H D I h
theorem aK(h1:SB C n st g)(h2:SBs C n sts g'):SBs C n (st::sts) (gM g g'):=by
 intro pins s σ H D I ⟨ρ,Z,S,h⟩;refine sQ h1 h2 pins s σ H D I ⟨ρ,Z,S,h.bind.imp fun fl ρ' _ k=>?_⟩;cases fl with
 | next=>exact fun σ' H' S'=>⟨ρ',Z,S',k⟩
 | brk=>exact k
 | cont=>exact k
 | ret p=>exact k
 | retT t=>exact k
theorem pY(hc:XT C n c t)(ha:SBs C n a g)(hb:SBs C n b g'):SB C n (.If c a b pos) (ifB t g g'):=by
 intro pins s σ H D I ⟨ρ,Z,S,h⟩;refine G1 hc ha hb pins s σ H D I ⟨ρ,Z,S,h.bind.imp fun k ρ' _ q H' S'=>?_⟩;cases k with
 | true=>exact Ag ⟨ρ',Z,S',q⟩
 | false=>exact Ah ⟨ρ',Z,S',q⟩
theorem vQ(he:XB C n e fx):SB C n (.Return (some e) pos) (EF fx):=by
 intro pins s σ H D I ⟨ρ,Z,S,h⟩;exact wm he pins s σ H D I ⟨ρ,Z,S,h.bind.imp fun p ρ' _ k v H' S' r=>k v H' S'.tb r⟩
theorem KS{h:Tgt}(hg:TGt C tg h){pins:List (Addr×Obj)}:PG C.X tg (fun v σ H Q=>∃ρ Z p ρ',StB C.X.K n Z H σ ρ/\Rep C.X.K H p v/\h p ρ=some ρ'/\∀σ',StB C.X.K n Z H σ' ρ'->Q σ' H):=by
 intro pins s σ H v u Q I r ⟨ρ,Z,p,ρ',⟨B,S,b⟩,rp,e,k⟩;exact hg pins s σ H v u Q I r ⟨ρ,B,p,ρ',S,rp,e,fun σ' S'=>k σ' ⟨B,S',b⟩⟩
theorem FP{fi:PSt->R (List PV)}{h:Tgt}(hi:EI C tg iter fi)(hg:TGt C tg h)(hb:SBs C n body g)
  (hs:∀x,Oi iter C.X.env x=pure x:=by intro _;rfl) (hp:R9 (MV C.X.prog C.X.w) C.X.A C.X.env C.X.xe:=by exact R3) (hc:C.X.calm=true:=by rfl):SB C n (.For tg iter body [] pos) (JL fi h g):=by
 intro pins s σ H D I ⟨ρ,Z,S,q⟩;refine Bo hp hc hi (KS (n:=n) (pins:=pins) hg) hb hs pins s σ H D I ⟨ρ,S.vw,(RX.rd S q.bind).imp fun ps _ k J H1 s1 it=>?_⟩;have kz:Kp Z.kp H1:=S.kpt.trans (Same.kp s1);refine⟨fun i m σ' H'=>∃ρ',m=ps.length-i/\i<=ps.length/\StB C.X.K n { Z with kp:=H1 } H' σ' ρ'/\RX C Z (BM h g (ps.drop i) ρ') (Ew C n Z D),⟨ps.length,ρ,rfl,O5 _,(S.grow s1).rebase (Kp.refl H1),by simpa using k⟩,?_⟩;rintro i m σ' H' ⟨ρ',rfl,hi',S',q'⟩;obtain⟨stp,stepp⟩:=it i H' S'.kpt
 by_cases hlt:i<ps.length
 ·have ei:ps[i]?=some ps[i]:=by simp[hlt]
  obtain⟨go,yl⟩:=stepp _ ei;rw[pq ei] at q';unfold BM at q';cases e1:h ps[i] ρ' with
  | none=>rw[e1] at q';exact MG q'
  | some ρ1=>
   rw[e1] at q';refine .inr ⟨go,fun σ2 H2=>∃ρ2,StB C.X.K n { Z with kp:=H1 } H2 σ2 ρ2/\RX C Z (BM h g (ps.drop (i+1)) ρ2) (Ew C n Z D),fun σ2 H2 ⟨ρ2,S2,r2⟩=>⟨ps.length-(i+1),by omega,ρ2,rfl,hlt,S2,r2⟩,fun x H2 y=>?_⟩;obtain⟨s2,rp⟩:=yl x H2 y;refine⟨ρ',{ Z with kp:=H1 },ps[i],ρ1,S'.grow s2,rp,e1,fun σ3 S3=>⟨ρ1,{ Z with kp:=H1 },S3,?_⟩⟩;have q1:=RX.bind q';cases hgr:g ρ1 with
   | ok fl ρ2=>
    rw[hgr] at q1;cases fl with
    | next=>exact fun σ4 H4 S4=>⟨ρ2,S4,q1⟩
    | cont=>exact fun σ4 H4 S4=>⟨ρ2,S4,q1⟩
    | brk=>exact fun σ4 H4 S4=>q1 σ4 H4 (S4.back kz)
    | ret p=>exact q1
    | retT t=>exact q1
   | thr x ρ2=>rw[hgr] at q1;exact q1
   | no=>rw[hgr] at q1;exact q1
 ·have e:i=ps.length:=by omega
  subst e;rw[QE] at q';exact .inl ⟨stp rfl,q' σ' H' (S'.back kz)⟩
end
end PU
end
namespace PU
open PySem PySem.Spec PyProof.Rows L2
noncomputable def eE:List Key->List Fld->Key->Option Fld
 | k::ks,f::fs,j=>if k=j then some f else eE ks fs j
 | _,_,_=>none
noncomputable def mO:List Key->List Fld->Key->Fld->List Fld
 | k::ks,f::fs,j,g=>if k=j then g::fs else f::mO ks fs j g
 | _,fs,_,_=>fs
inductive Sel where
 | whole (i:Nat) | fld (i:Nat) (k:Key)
def vN:Sel->PSt->Option Tr
 | .whole i,ρ=>match ρ[i]? with
  | some (.tree t)=>some t
  | _=>none
 | .fld i k,ρ=>match ρ[i]? with
  | some (.tree (.node ks fs))=>match eE ks fs k with
   | some (.own p)=>some (.leaf p)
   | _=>none
  | _=>none
def hV:Sel->Tr->PSt->Option PSt
 | .whole i,t,ρ=>some (ρ.set i (.tree t))
 | .fld i k,.leaf p,ρ=>match ρ[i]? with
  | some (.tree (.node ks fs))=>some (ρ.set i (.tree (.node ks (mO ks fs k (.own p)))))
  | _=>none
 | _,_,_=>none
open Classical in
noncomputable def cutH(H:Hp)(l:List Addr):Hp:=fun b=>if b∈l then none else H b
theorem my{H:Hp}{l:List Addr}{b:Addr}(h:b∈l):cutH H l b=none:=by unfold cutH;rw[if_pos h]
theorem cY{H:Hp}{l:List Addr}{b:Addr}(h:b ∉ l):cutH H l b=H b:=by unfold cutH;rw[if_neg h]
variable[TW]
section
variable{K : M9}{n : Nat}{H H' : Hp}{a : Addr}{r : List Addr}{t : Tr}{fs : List Fld}{xs : List V}
theorem bt.off(k:Kp H H'):∀{fs:List Fld}{r:List Addr}{xs:List V},(∀c∈r,H' c=H c)->bt K H r fs xs->bt K H' r fs xs
 | [],_,_,_,h=>h
 | .val p::fs,_,_,o,⟨x,ys,e,h,t⟩=>⟨x,ys,e,h.kp k,bt.off k o t⟩
 | .own p::fs,_,_,o,⟨b,r',ys,e1,e2,h,t⟩=>by
  subst e1;exact⟨b,r',ys,rfl,e2,h.kp k (o b (by simp)),bt.off k (fun c hc=>o c (by simp[hc])) t⟩
theorem bu.off(k:Kp H H')(o:∀c∈a::r,H' c=H c)(h:bu K H a r t):bu K H' a r t:=by
 cases t with
 | leaf p=>exact⟨h.1,h.2.kp k (o a (by simp))⟩
 | node ks fs=>
  obtain⟨n,kvs,e,ek,f⟩:=h;exact⟨n,kvs,by rw[o a (by simp)];exact e,ek,f.off k fun c hc=>o c (by simp[hc])⟩
theorem bt.obj:∀{fs:List Fld}{r:List Addr}{xs:List V},bt K H r fs xs->∀b∈r,∃u,H b=some u/\pD u=false/\rX u=false
 | [],_,_,⟨e,_⟩,b,hb=>by subst e;simp at hb
 | .val p::fs,_,_,⟨x,ys,e,h,t⟩,b,hb=>bt.obj t b hb
 | .own p::fs,_,_,⟨c,r',ys,e1,e2,h,t⟩,b,hb=>by
  subst e1;rcases MH.mp hb with z | z
  ·subst z
   obtain⟨u,hu,_⟩:=h.obj;exact⟨u,hu,h.nt u hu⟩
  ·exact bt.obj t b z
theorem bu.obj(h:bu K H a r t):∀b∈a::r,∃u,H b=some u/\pD u=false/\rX u=false:=fun b hb=>by
 cases t with
 | leaf p=>
  obtain⟨e,h⟩:=h;subst e;rcases MH.mp hb with z | z
  ·subst z
   obtain⟨u,hu,_⟩:=h.obj;exact⟨u,hu,h.nt u hu⟩
  ·simp at z
 | node ks fs=>
  obtain⟨n,kvs,e,ek,f⟩:=h;rcases MH.mp hb with z | z
  ·subst z
   exact⟨_,e,rfl,rfl⟩
  ·exact f.obj b z
theorem TOk.sub{H H':Hp}{ps:Array Value}(h:∀b u,H b=some u->pD u=true->H' b=some u)(t:TOk H ps):TOk H' ps:=t.kp h
theorem Same.cut(l:List Addr):Same (cutH H l) H:=.of fun b o e=>by
 by_cases hb:b∈l
 ·rw[my hb] at e;cases e
 ·rw[cY hb] at e;exact e
theorem StB.swap{Z:Zs}{σ:L2.St}{ρ:PSt}{i:Nat}{t0:Tr}(S:StB K n Z H σ ρ)(ei:ρ[i]?=some (.tree t0)):∃a0 r0,σ[i]?=some (some (.ref a0))/\bu K H a0 r0 t0/\
  ∀(l:List Addr)(H':Hp)(t':Tr),(∀b∈l,b∈a0::r0)->Same (cutH H l) H'->bu K H' a0 r0 t'->StB K n Z H' σ (ρ.set i (.tree t')):=by
 obtain⟨B,S,bk⟩:=S;obtain⟨a0,r0,e3,es,ht0⟩:=S.treed i t0 ei;have hT:bu K H a0 r0 t0:=ht0.same S.same;refine⟨a0,r0,es,hT,fun l H' t' hl hs ht=>?_⟩
 have mutb:∀b∈l,∀u,H b=some u->pD u=false/\rX u=false:=fun b hb u hu=>by
  obtain⟨u',hu',h1⟩:=hT.obj b (hl b hb);rw[hu] at hu';cases hu';exact h1
 have kp:Kp H H':=fun b u e f=>by
  have hb:b ∉ l:=fun z=>by rw[(mutb b z u e).1] at f;cases f
  refine hs.at_ b u (by rw[cY hb];exact e) ?_;cases u <;> first | rfl | cases f
 have stay:∀c,c ∉ l->∀u,H c=some u->rX u=false->H' c=H c:=fun c hc u e n=>by
  rw[e];exact hs.at_ c u (by rw[cY hc];exact e) n
 have tab:∀P ps,H P=some (.tbl ps)->TOk H ps->∃ps',H' P=some (.tbl ps')/\TOk H' ps':=fun P ps e k=>by
  have hP:P ∉ l:=fun z=>by have:=(mutb P z _ e).2;cases this
  obtain⟨ps',e',k'⟩:=hs.tb P ps (by rw[cY hP];exact e);refine⟨ps',e',k' (k.sub fun b u eb f=>?_)⟩;have hb:b ∉ l:=fun z=>by rw[(mutb b z u eb).1] at f;cases f
  rw[cY hb];exact eb
 let O:Addr->Prop:=fun c=>∃(j:Nat)(p:PV),ρ[j]?=some (.own p)/\σ[j]?=some (some (.ref c))
 have oB:∀c,O c->B.1 c=none:=fun c ⟨j,p,e1,e2⟩=>S.fresh j p c e1 e2
 have oH:∀c,O c->∃u,H c=some u/\pD u=false/\rX u=false:=fun c ⟨j,p,e1,e2⟩=>by
  obtain⟨c',e2',w⟩:=S.vw j _ e1;rw[e2] at e2';cases e2';obtain⟨u,hu,_⟩:=w.obj;exact⟨u,hu,w.nt u hu⟩
 have tn:∀j a r,B.3 j=some (a,r)->∀t,ρ[j]?=some (.tree t)->∀c∈a::r,¬ O c:=fun j a r e t et c hc o=>by
  obtain⟨a',r',e',_,ht'⟩:=S.treed j t et;rw[e] at e';cases e';obtain⟨u,hu,_⟩:=ht'.obj c hc;rw[oB c o] at hu;cases hu
 classical
 let B1:Hp:=fun c=>if O c then none else H' c
 have b1o:∀c,O c->B1 c=none:=fun c h=>if_pos h;have b1n:∀c,¬ O c->B1 c=H' c:=fun c h=>if_neg h;have oL:∀c,O c->c ∉ l:=fun c h z=>tn i a0 r0 e3 t0 ei c (hl c z) h
 have oH':∀c,O c->∃u,H' c=some u/\pD u=false/\rX u=false:=fun c h=>by
  obtain⟨u,hu,h1,h2⟩:=oH c h;exact⟨u,by rw[stay c (oL c h) u hu h2];exact hu,h1,h2⟩
 have k1:Kp H' B1:=fun b u e f=>by
  have:¬ O b:=fun o=>by
   obtain⟨u',hu',h1,_⟩:=oH' b o;rw[e] at hu';cases hu';rw[h1] at f;cases f
  rw[b1n b this];exact e
 have s1:Same B1 H':=.of fun b o e=>by
  by_cases h:O b
  ·rw[b1o b h] at e;cases e
  ·rw[b1n b h] at e;exact e
 have sz:Same Z.hp H:=bk.same.trans S.same
 have zl:∀b o,Z.hp b=some o->b ∉ l:=fun b o e z=>by
  rw[bk.off i a0 r0 e3 b (hl b z)] at e;cases e
 have zo:∀b o,Z.hp b=some o->rX o=false->¬ O b:=fun b o e n h=>by
  have:=bk.same.at_ b o e n;rw[oB b h] at this;cases this
 have trs:∀j t a r,j≠i->ρ[j]?=some (.tree t)->B.3 j=some (a,r)->bu K B.1 a r t->bu K B1 a r t:=fun j t a r hj et e h=>by
  have hd:=bk.apart j i a r a0 r0 e e3 hj
  have h1:bu K H' a r t:=bu.off kp (fun c hc=>by
   obtain⟨u,hu,_,n⟩:=(h.same S.same).obj c hc;exact stay c (fun z=>hd c hc (hl c z)) u hu n) (h.same S.same)
  exact h1.off k1 fun c hc=>b1n c (tn j a r e t et c hc)
 have tr0:bu K B1 a0 r0 t':=ht.off k1 fun c hc=>b1n c (tn i a0 r0 e3 t0 ei c hc);refine⟨⟨B1,B.2,B.3⟩,⟨by simp[S.len],s1,S.kp.trans kp,⟨fun j x ej=>?_,fun P hP=>?_⟩,fun j q c ej fj=>?_,fun j m q q' c e1 e2 f1 f2=>?_,fun j t ej=>?_⟩,bk.lim,bk.kp,⟨fun b o e n=>?_,fun b ps e=>?_⟩,bk.at_,bk.off,bk.apart,fun j a r e b hb=>?_⟩
 ·rcases aY ej with⟨rfl,rfl,_⟩|⟨hj,ej⟩
  ·exact⟨a0,r0,es,ht⟩
  ·have hx:=S.vw j x ej
   cases x with
   | no=>exact trivial
   | val q=>obtain⟨v,e1,rq⟩:=hx;exact⟨v,e1,rq.kp kp⟩
   | own q=>
    obtain⟨c,e1,rq⟩:=hx;obtain⟨u,hu,_,n⟩:=oH c ⟨j,q,ej,e1⟩;exact⟨c,e1,rq.kp kp (stay c (oL c ⟨j,q,ej,e1⟩) u hu n)⟩
   | tree t=>
    obtain⟨a,r,e1,e2,h⟩:=S.treed j t ej;exact⟨a,r,e2,(trs j t a r hj ej e1 h).same s1⟩
   | exc y=>exact hx.exk kp
 ·obtain⟨ps,e,k⟩:=S.vw.tb P hP
  exact tab P ps e k
 ·rcases aY ej with⟨_,z,_⟩|⟨hj,ej⟩
  ·cases z
  ·exact b1o c ⟨j,q,ej,fj⟩
 ·rcases aY e1 with⟨_,z,_⟩|⟨_,e1⟩
  ·cases z
  ·rcases aY e2 with⟨_,z,_⟩|⟨_,e2⟩
   ·cases z
   ·exact S.apart j m q q' c e1 e2 f1 f2
 ·rcases aY ej with⟨rfl,z,_⟩|⟨hj,ej⟩
  ·cases z
   exact⟨a0,r0,e3,es,tr0⟩
  ·obtain⟨a,r,e1,e2,h⟩:=S.treed j t ej
   exact⟨a,r,e1,e2,trs j t a r hj ej e1 h⟩
 ·have:=sz.at_ b o e n
  show B1 b=some o;rw[b1n b (zo b o e n),stay b (zl b o e) o this n];exact this
 ·obtain⟨p1,e1,k1'⟩:=sz.tb b ps e
  have hP:b ∉ l:=zl b _ e;obtain⟨p2,e2,k2⟩:=hs.tb b p1 (by rw[cY hP];exact e1)
  have nb:¬ O b:=fun o=>by
   obtain⟨u,hu,_,n⟩:=oH b o;rw[e1] at hu;cases hu;cases n
  refine⟨p2,by show B1 b=_;rw[b1n b nb];exact e2,fun tk=>?_⟩;refine(k2 ((k1' tk).sub fun c u ec f=>?_)).sub k1;have hc:c ∉ l:=fun z=>by rw[(mutb c z u ec).1] at f;cases f
  rw[cY hc];exact ec
 ·have hB:=bk.liv j a r e b hb
  have nO:¬ O b:=fun o=>hB (oB b o);show B1 b≠none;rw[b1n b nO]
  by_cases hj:j=i
  ·subst hj
   rw[e3] at e;cases e;obtain⟨u,hu,_⟩:=ht.obj b hb;rw[hu];exact fun z=>by cases z
  ·have hl':b ∉ l:=fun z=>bk.apart j i a r a0 r0 e e3 hj b hb (hl b z)
   cases hu:B.1 b with
   | none=>exact absurd hu hB
   | some u=>
    intro z;have s2:Same B.1 H:=S.same
    have hn:H b=none:=by
     have:=hs.free z;rw[cY hl'] at this;exact this
    rw[s2.free hn] at hu;cases hu
end
end PU
namespace PU
open PySem PySem.Spec PyProof.Rows L2
def xQ(i:Nat)(k:Key):PSt->R PV:=fun ρ=>match ρ[i]? with
 | some (.tree (.node ks fs))=>match eE ks fs k with
  | some (.val p)=>.ok p
  | some (.own p)=>.ok p
  | none=>.no
 | _=>.no
def xM(i:Nat)(k:Key)(f:PSt->R PV):PSt->XO Fb:=fun ρ=>match ρ[i]? with
 | some (.tree (.node ks fs))=>match eE ks fs k with
  | some (.val _)=>if ks.Nodup/\ks.length<16777216 then (XO.rd ρ (f ρ)).bind fun p ρ=>.ok .next (ρ.set i (.tree (.node ks (mO ks fs k (.val p))))) else .no
  | _=>.no
 | _=>.no
def Ht(s:Sel)(f:PSt->R PV):PSt->XO Fb:=fun ρ=>match vN s ρ with
 | some (.leaf (.lst ps))=>(XO.rd ρ (f ρ)).bind fun p ρ=>if ps.length<16777216 then (match hV s (.leaf (.lst (ps++[p]))) ρ with
  | some ρ'=>.ok .next ρ'
  | none=>.no) else .no
 | _=>.no
def vE(s:Sel)(fk fv:PSt->R PV):PSt->XO Fb:=fun ρ=>match vN s ρ with
 | some (.leaf (.dct ks ps))=>(XO.rd ρ (fv ρ)).bind fun p ρ=>(XO.rd ρ (fk ρ)).bind fun kp ρ=>match lA kp with
  | none=>.no
  | some k=>if ks.length<16777216 then (match hV s (.leaf (CS ks ps k p)) ρ with
   | some ρ'=>.ok .next ρ'
   | none=>.no) else .no
 | _=>.no
variable[TW]
section
variable{K : M9}{H : Hp}
theorem bt.own_at{k:Key}{p:PV}:∀{fs:List Fld}{r:List Addr}{kvs:List (Key×V)},bt K H r fs (kvs.map (·.2))->eE (kvs.map (·.1)) fs k=some (.own p)->
  ∃b,b∈r/\o4 kvs k=some (.ref b)/\dE K H b p/\∀(H':Hp)(p':PV),r.Nodup->Kp H H'->(∀c∈r,c≠b->H' c=H c)->dE K H' b p'->bt K H' r (mO (kvs.map (·.1)) fs k (.own p')) (kvs.map (·.2))
 | [],r,kvs,_,e=>by
  exfalso
  cases kvs with
  | nil=>cases e
  | cons kv kvs=>cases e
 | .val q::fs,r,kvs,h,e=>by
  obtain⟨x,ys,ex,hq,ht⟩:=h;cases kvs with
  | nil=>cases ex
  | cons kv kvs=>
   injection ex with ex1 ex2;subst ex1 ex2
   by_cases hk:kv.1=k
   ·have e:(if kv.1=k then some (Fld.val q) else eE (kvs.map (·.1)) fs k)=some (.own p):=e
    rw[if_pos hk] at e;cases e
   ·have e:(if kv.1=k then some (Fld.val q) else eE (kvs.map (·.1)) fs k)=some (.own p):=e
    rw[if_neg hk] at e;obtain⟨b,h1,h2,h3,h4⟩:=bt.own_at ht e;refine⟨b,h1,by rw[dm hk];exact h2,h3,fun H' p' nd kp o n=>?_⟩;show bt K H' r (if kv.1=k then _ else _) _;rw[if_neg hk];exact⟨_,_,rfl,hq.kp kp,h4 H' p' nd kp o n⟩
 | .own q::fs,r,kvs,h,e=>by
  obtain⟨b,r',ys,er,ex,hq,ht⟩:=h;cases kvs with
  | nil=>cases ex
  | cons kv kvs=>
   injection ex with ex1 ex2;subst ex2 er
   by_cases hk:kv.1=k
   ·have e:(if kv.1=k then some (Fld.own q) else eE (kvs.map (·.1)) fs k)=some (.own p):=e
    rw[if_pos hk] at e;cases e;refine⟨b,by simp,by rw[gu hk];exact congrArg some ex1,hq,fun H' p' nd kp o n=>?_⟩;show bt K H' _ (if kv.1=k then _ else _) _;rw[if_pos hk];refine⟨b,r',_,rfl,by rw[← ex1];rfl,n,ht.off kp fun c hc=>o c (by simp[hc]) fun z=>?_⟩;subst z;exact(Mo.mp nd).1 hc
   ·have e:(if kv.1=k then some (Fld.own q) else eE (kvs.map (·.1)) fs k)=some (.own p):=e
    rw[if_neg hk] at e;obtain⟨c,h1,h2,h3,h4⟩:=bt.own_at ht e;refine⟨c,by simp[h1],by rw[dm hk];exact h2,h3,fun H' p' nd kp o n=>?_⟩;show bt K H' _ (if kv.1=k then _ else _) _;rw[if_neg hk];have nd':=Mo.mp nd;exact⟨b,r',_,rfl,by rw[← ex1];rfl,hq.kp kp (o b (by simp) fun z=>nd'.1 (z▸h1)),h4 H' p' nd'.2 kp (fun d hd=>o d (by simp[hd])) n⟩
theorem bt.val_at{k:Key}{p:PV}:∀{fs:List Fld}{r:List Addr}{kvs:List (Key×V)},bt K H r fs (kvs.map (·.2))->eE (kvs.map (·.1)) fs k=some (.val p)->
  ∃v,o4 kvs k=some v/\Rep K H p v/\∀(H':Hp)(p':PV)(v':V),(kvs.map (·.1)).Nodup->Kp H H'->(∀c∈r,H' c=H c)->Rep K H' p' v'->
   bt K H' r (mO (kvs.map (·.1)) fs k (.val p')) ((kvs.map fun kv=>if kv.1=k then (kv.1,v') else kv).map (·.2))
 | [],r,kvs,_,e=>by
  exfalso
  cases kvs with
  | nil=>cases e
  | cons kv kvs=>cases e
 | .val q::fs,r,kvs,h,e=>by
  obtain⟨x,ys,ex,hq,ht⟩:=h;cases kvs with
  | nil=>cases ex
  | cons kv kvs=>
   injection ex with ex1 ex2;subst ex1 ex2
   by_cases hk:kv.1=k
   ·have e:(if kv.1=k then some (Fld.val q) else eE (kvs.map (·.1)) fs k)=some (.val p):=e
    rw[if_pos hk] at e;cases e;refine⟨kv.2,by rw[gu hk],hq,fun H' p' v' nd kp o n=>?_⟩;show bt K H' _ (if kv.1=k then _ else _) _;rw[if_pos hk,MN,if_pos hk];have nd':=Mo.mp nd
    have hz:kvs.map (fun kv=>if kv.1=k then (kv.1,v') else kv)=kvs:=by
     conv=>rhs;rw[← List.map_id kvs]
     refine Oq fun y hy=>if_neg fun z=>nd'.1 ?_;show kv.1∈_;rw[hk,← z];exact Oo (f:=(·.1)) hy
    rw[hz];exact⟨v',_,rfl,n,ht.off kp o⟩
   ·have e:(if kv.1=k then some (Fld.val q) else eE (kvs.map (·.1)) fs k)=some (.val p):=e
    rw[if_neg hk] at e;obtain⟨v,h2,h3,h4⟩:=bt.val_at ht e;refine⟨v,by rw[dm hk];exact h2,h3,fun H' p' v' nd kp o n=>?_⟩;show bt K H' r (if kv.1=k then _ else _) _;rw[if_neg hk,MN,if_neg hk];exact⟨_,_,rfl,hq.kp kp,h4 H' p' v' (Mo.mp nd).2 kp o n⟩
 | .own q::fs,r,kvs,h,e=>by
  obtain⟨b,r',ys,er,ex,hq,ht⟩:=h;cases kvs with
  | nil=>cases ex
  | cons kv kvs=>
   injection ex with ex1 ex2;subst ex2 er
   by_cases hk:kv.1=k
   ·have e:(if kv.1=k then some (Fld.own q) else eE (kvs.map (·.1)) fs k)=some (.val p):=e
    rw[if_pos hk] at e;cases e
   ·have e:(if kv.1=k then some (Fld.own q) else eE (kvs.map (·.1)) fs k)=some (.val p):=e
    rw[if_neg hk] at e;obtain⟨v,h2,h3,h4⟩:=bt.val_at ht e;refine⟨v,by rw[dm hk];exact h2,h3,fun H' p' v' nd kp o n=>?_⟩;show bt K H' _ (if kv.1=k then _ else _) _;rw[if_neg hk,MN,if_neg hk];exact⟨b,r',_,rfl,by rw[← ex1];rfl,hq.kp kp (o b (by simp)),h4 H' p' v' (Mo.mp nd).2 kp (fun d hd=>o d (by simp[hd])) n⟩
end
def Ib(H:Hp)(σ:L2.St):Sel->Addr->Prop
 | .whole i,a=>σ[i]?=some (some (.ref a))
 | .fld i k,a=>∃a0 kvs,σ[i]?=some (some (.ref a0))/\H a0=some (.dK kvs)/\o4 kvs k=some (.ref a)
theorem StB.sel{K:M9}{n:Nat}{Z:Zs}{H:Hp}{σ:L2.St}{ρ:PSt}{s:Sel}{t:Tr}(S:StB K n Z H σ ρ)(e:vN s ρ=some t):∃a r,Ib H σ s a/\bu K H a r t/\
  ∀(H':Hp)(t':Tr)(ρ':PSt),hV s t' ρ=some ρ'->Same (cutH H (a::r)) H'->bu K H' a r t'->StB K n Z H' σ ρ':=by
 cases s with
 | whole i=>
  simp only[vN] at e;split at e
  ·rename_i t0 e0
   cases e;obtain⟨a,r,h1,h2,h3⟩:=S.swap e0;refine⟨a,r,h1,h2,fun H' t' ρ' ep s ht=>?_⟩;cases ep;exact h3 (a::r) H' t' (fun b h=>h) s ht
  ·cases e
 | fld i k=>
  simp only[vN] at e;split at e
  ·rename_i ks fs e0
   split at e
   ·rename_i p el
    cases e;obtain⟨a0,r0,h1,h2,h3⟩:=S.swap e0;obtain⟨nd,kvs,h4,ek,h5⟩:=id h2;subst ek;obtain⟨b,hb,hv,hn,hup⟩:=h5.own_at el;refine⟨b,[],⟨a0,kvs,h1,h4,hv⟩,⟨rfl,hn⟩,fun H' t' ρ' ep s ht=>?_⟩;cases t' with
    | node _ _=>cases ep
    | leaf p'=>
     simp only[hV,e0] at ep;cases ep
     have nb:∀c,c≠b->∀u,H c=some u->rX u=false->H' c=H c:=fun c hc u hu ht'=>by
      rw[hu];exact s.at_ c u (by rw[cY (by simpa using hc)];exact hu) ht'
     obtain⟨ub,hub,fb,_⟩:=h2.obj b (by simp[hb])
     have kp:Kp H H':=fun c u hu f=>by
      have hc:c≠b:=fun z=>by
       subst z;rw[hub] at hu;cases hu;rw[fb] at f;cases f
      rw[nb c hc u hu (by cases u <;> first | rfl | cases f)]
      exact hu
     have ha:a0≠b:=fun z=>(Mo.mp nd).1 (z▸hb);refine h3 [b] H' _ (fun c hc=>by have:=NT.mp hc;subst this;simp[hb]) s ⟨nd,kvs,by rw[nb a0 ha _ h4 rfl];exact h4,rfl,hup H' p' (Mo.mp nd).2 kp (fun c hc z=>?_) ht.2⟩;obtain⟨u,hu,_,tb⟩:=h2.obj c (by simp[hc]);exact nb c z u hu tb
   ·cases e
  ·cases e
def FG(s:Sel):TE:=fun σ H Q=>∃a,Ib H σ s a/\Q (.ref a) H
section
variable{C : Cn}{n : Nat}
theorem ow (i:Nat) {x:Str} {pos:O4} (hN:C.X.N[i]?=some x:=by rfl) (hv:Vis C.X.env.scope x:=by first | exact .inl rfl | exact .inr (.inl rfl) | exact .inr (.inr rfl)) (hd:(x == ("__debug__":Str))=false:=by decide) (hcd:(x == ("__classdict__":Str))=false:=by decide) :
  PE C.X (.Name x pos) (FG (.whole i)):=fun pins s σ H Q I ⟨a,h,q⟩=>eC hN hv hd hcd pins s σ H Q I ⟨_,h,q⟩
theorem rJ (i:Nat) {x y:Str} {j} {np kp pos:O4} (hu:C.X.A.units+64<cLine) (hN:C.X.N[i]?=some x:=by rfl) (hv:Vis C.X.env.scope x:=by first | exact .inl rfl | exact .inr (.inl rfl) | exact .inr (.inr rfl)) (hd:(x == ("__debug__":Str))=false:=by decide) (hcd:(x == ("__classdict__":Str))=false:=by decide) :
  PE C.X (.Subscript (.Name x np) (.Constant (.str y) j kp) pos) (FG (.fld i (.inr y))):=fun pins s σ H Q I ⟨a,⟨a0,kvs,h1,h2,h3⟩,q⟩=>
 rK (by omega) (eC hN hv hd hcd) lM (fun _ _=>rfl) pins s σ H Q I ⟨_,h1,a0,.ref a,rfl,by rw[← h3];exact C4.k (k:=.inr y) h2,q⟩
theorem xZ (i:Nat) {x y:Str} {j} {np kp pos:O4} (hu:C.X.A.units+64<cLine) (hN:C.X.N[i]?=some x:=by rfl) (hv:Vis C.X.env.scope x:=by first | exact .inl rfl | exact .inr (.inl rfl) | exact .inr (.inr rfl)) (hd:(x == ("__debug__":Str))=false:=by decide) (hcd:(x == ("__classdict__":Str))=false:=by decide) :
  EO C (.Subscript (.Name x np) (.Constant (.str y) j kp) pos) (xQ i (.inr y)):=by
 intro pins s σ H Q I ⟨ρ,vw,q⟩;unfold xQ at q;split at q
 ·rename_i ks fs e0
  obtain⟨a,r,ea,nd,kvs,ha,ek,hf⟩:=vw i _ e0;subst ek;split at q
  ·rename_i p el
   obtain⟨v,h1,h2,_⟩:=hf.val_at el;exact rK (by omega) (eC hN hv hd hcd) lM (fun _ _=>rfl) pins s σ H Q I ⟨_,ea,a,v,rfl,by rw[← h1];exact C4.k (k:=.inr y) ha,q v H (Same.refl H) h2.o⟩
  ·rename_i p el
   obtain⟨b,_,h1,h2,_⟩:=hf.own_at el;exact rK (by omega) (eC hN hv hd hcd) lM (fun _ _=>rfl) pins s σ H Q I ⟨_,ea,a,.ref b,rfl,by rw[← h1];exact C4.k (k:=.inr y) ha,q _ H (Same.refl H) h2.o⟩
  ·exact MG q
 ·exact MG q
theorem gS{H:Hp}{a:Addr}{r:List Addr}{u u':HO}(hu:H a=some u)(nf:pD u=false)(nf':pD u'=false):Same (cutH H (a::r)) (upd H a u'):=by
 have k:Kp H (upd H a u'):=Kp.upd hu nf;refine⟨fun b o e n=>?_,fun b ps e=>?_⟩
 ·have hb:b ∉ a::r:=fun z=>by rw[my z] at e;cases e
  rw[cY hb] at e;rw[az fun z=>hb (by simp[z])];exact e
 ·have hb:b ∉ a::r:=fun z=>by rw[my z] at e;cases e
  rw[cY hb] at e;refine⟨ps,by rw[az fun z=>hb (by simp[z])];exact e,fun t=>?_⟩;refine t.sub fun c w ec f=>?_;have hc:c ∉ a::r:=fun z=>by rw[my z] at ec;cases ec
  rw[cY hc] at ec;exact k c w ec f
theorem CB(i:Nat){x y:Str}{e:Expr}{f:PSt->R PV}{j}{np kp pos' pos:O4}(hu:C.X.A.units+64<cLine)(hv:EV C e f)(hN:C.X.N[i]?=some x:=by rfl)(hvis:Vis C.X.env.scope x:=by first | exact T5 rfl | exact SM (T5 rfl))
  (hs:Nk e (some (.Subscript (.Name x np) (.Constant (.str y) j kp) pos')) pos.line C.X.env=pure false:=by rfl) (hd:(x == ("__debug__":Str))=false:=by decide) (hcd:(x == ("__classdict__":Str))=false:=by decide) :
  SB C n (.Assign [.Subscript (.Name x np) (.Constant (.str y) j kp) pos'] e pos) (xM i (.inr y) f):=by
 intro pins s σ H D I ⟨ρ,Z,S,q⟩;unfold xM at q;split at q
 ·rename_i ks fs e0
  split at q
  ·rename_i p0 el
   split at q
   ·rename_i hc
    obtain⟨a0,r0,h1,_,_⟩:=S.swap e0;refine wq (by omega) (eC hN hvis hd hcd) lM hv hs pins s σ H D I ⟨ρ,S.vw,(RX.rd S q.bind).imp fun p _ q1 v H1 s1 r1=>⟨_,h1,?_⟩⟩;obtain⟨a,r,h1',h2,h3⟩:=(S.grow s1).swap e0;rw[h1] at h1';cases h1';obtain⟨nd,kvs,ha,ek,hf⟩:=h2;subst ek;obtain⟨v0,hv0,_,hup⟩:=hf.val_at el;have hl:kvs.length<sizeLine:=by rw[My];simpa using hc.2
    refine⟨a0,_,rfl,F5.k (k:=.inr y) ha hl,?_⟩;have any:(kvs.any fun kv=>decide (kv.1=(NQ y:Key)))=true:=by rw[jk,hv0];rfl
    have ep:putK kvs (.inr y) v=kvs.map fun kv=>if kv.1=(NQ y:Key) then (kv.1,v) else kv:=if_pos any
    have kp:Kp H1 (upd H1 a0 (.dK (putK kvs (.inr y) v))):=Kp.upd ha rfl;have nr:∀c∈r,upd H1 a0 (.dK (putK kvs (.inr y) v)) c=H1 c:=fun c hc=>az fun z=>(Mo.mp nd).1 (z▸hc);refine q1 σ _ (h3 (a0::r) _ _ (fun b h=>h) (gS ha rfl rfl) ⟨nd,_,aA,?_,?_⟩)
    ·rw[ep,Mt]
     refine Oq fun kv _=>?_;show (if kv.1=(NQ y:Key) then (kv.1,v) else kv).1=kv.1
     split <;> rfl
    ·have:=hup _ p v hc.1 kp nr (Rep.kp kp _ r1)
     rw[ep] at this ⊢;exact this
   ·exact MG q
  ·exact MG q
 ·exact MG q
theorem jt{K:M9}{Z:Zs}{H H1:Hp}{σ:L2.St}{ρ:PSt}{s:Sel}{t:Tr}{a:Addr}(S:StB K n Z H σ ρ)(e:vN s ρ=some t)(s1:Same H H1)(h:Ib H σ s a):∃r,Ib H1 σ s a/\bu K H1 a r t/\
  ∀(H':Hp)(t':Tr)(ρ':PSt),hV s t' ρ=some ρ'->Same (cutH H1 (a::r)) H'->bu K H' a r t'->StB K n Z H' σ ρ':=by
 obtain⟨a',r,h1,h2,h3⟩:=(S.grow s1).sel e
 have:a'=a:=by
  cases s with
  | whole i=>
   have h:σ[i]?=some (some (.ref a)):=h;have h1:σ[i]?=some (some (.ref a')):=h1;rw[h] at h1;cases h1;rfl
  | fld i k=>
   obtain⟨b,kvs,g1,g2,g3⟩:=h;obtain⟨b',kvs',g1',g2',g3'⟩:=h1;rw[g1] at g1';cases g1';rw[s1 _ _ g2] at g2';cases g2';rw[g3] at g3';cases g3';rfl
 subst this;exact⟨r,h1,h2,h3⟩
theorem FQ{s:Sel}{o e:Expr}{f:PSt->R PV}{pos apos cpos:O4}(ho:PE C.X o (FG s))(he:EV C e f)(hs:MO [e] C.X.env=[(false,NC e C.X.env)]:=by exact cz rfl)
  (hb:OZ o "append" C.X.env (NC o C.X.env)=NC o C.X.env:=by rfl) (hline:(apos.endLine == cpos.line)=true:=by rfl):SB C n (.Expr (.Call (.Attribute o "append" apos) [e] [] cpos) pos) (Ht s f):=by
 intro pins st σ H D I ⟨ρ,Z,S,q⟩;unfold Ht at q;split at q
 ·rename_i ps e1
  obtain⟨a,r,h1,h2,_⟩:=S.sel e1;obtain⟨xs,hx,rr⟩:=h2.2;refine wo (zP Ro QH Rj lW ho (cg he gg hs) hb (by rw[hs];rfl) hline hs (by rfl)) (by rfl) pins st σ H D I ?_;refine⟨a,h1,.inl ⟨rfl,xs,SqL.of hx⟩,ρ,S.vw,(RX.rd S q.bind).imp fun p _ q' v H1 s1 r1=>?_⟩;split at q'
  ·rename_i hl
   split at q'
   ·rename_i ρ' ep
    obtain⟨r',_,h2',h3⟩:=jt S e1 s1 h1;have hx1:=s1 _ _ hx;refine⟨a,xs,v,rfl,rfl,hx1,by rw[My,← rr.length];exact hl,?_⟩;have kp:Kp H1 (upd H1 a (.lst (xs++[v]))):=Kp.upd hx1 rfl;exact q' σ _ (h3 _ _ _ ep (gS hx1 rfl rfl) ⟨h2'.1,xs++[v],aA,aM.append (aM.kp kp _ (rr.same s1)) (aM.cons (Rep.kp kp _ r1) aM.nil)⟩)
   ·exact MG q'
  ·exact MG q'
 ·exact MG q
theorem Bh{s:Sel}{o ke e:Expr}{fk fv:PSt->R PV}{pos' pos:O4}(hu:C.X.A.units+64<cLine)(ho:PE C.X o (FG s))(hk:EV C ke fk)(hv:EV C e fv)
  (hs:Nk e (some (.Subscript o ke pos')) pos.line C.X.env=pure false:=by rfl):SB C n (.Assign [.Subscript o ke pos'] e pos) (vE s fk fv):=by
 intro pins st σ H D I ⟨ρ,Z,S,q⟩;unfold vE at q;split at q
 ·rename_i ks ps e1
  obtain⟨a,r,h1,h2,_⟩:=S.sel e1;obtain⟨kvs,hx,ek,rr⟩:=h2.2;refine wq (by omega) ho hk hv hs pins st σ H D I ⟨ρ,S.vw,(RX.rd S q.bind).imp fun p _ q1 v H1 s1 r1=>?_⟩;obtain⟨r1',g1,_,_⟩:=jt S e1 s1 h1;refine⟨a,g1,ρ,(S.grow s1).vw,(RX.rd (S.grow s1) q1.bind).imp fun kp _ q2 y H2 s2 r2=>?_⟩;split at q2
  ·exact MG q2
  ·rename_i k e3
   split at q2
   ·rename_i hl
    split at q2
    ·rename_i ρ' ep
     obtain⟨r2',_,h2',h3⟩:=jt S e1 (s1.trans s2) h1;have hy:=gP e3 r2.o;subst hy;subst ek;have hx2:H2 a=some (.dK kvs):=(s1.trans s2) _ _ hx;refine⟨a,_,rfl,F5.k hx2 (by rw[My];simpa using hl),?_⟩;have kp:Kp H2 (upd H2 a (.dK (putK kvs k v))):=Kp.upd hx2 rfl;refine q2 σ _ (h3 _ _ _ ep (gS hx2 rfl rfl) ⟨h2'.1,?_⟩);exact CO (aM.kp kp _ ((rr.same s1).same s2)) (Rep.kp kp _ (r1.same s2)) aA
    ·exact MG q2
   ·exact MG q2
 ·exact MG q
end
end PU
namespace PU
open PySem PySem.Spec PyProof.Rows L2
def qR(s:Sel)(fs:PSt->R (List PV))(F:Tr->List PV->Option (PV×Tr)):PSt->XO PV:=fun ρ=>match vN s ρ with
 | none=>.no
 | some t=>(XO.rd ρ (fs ρ)).bind fun ps ρ=>match F t ps with
  | none=>.no
  | some (p,t')=>match hV s t' ρ with
   | some ρ'=>.ok p ρ'
   | none=>.no
noncomputable def tr0(ρ:PSt):Option Tr:=match (ρ[(0:Nat)]?:Option Sl) with
 | some (.tree t)=>some t
 | _=>none
def yH(m n:Nat)(g:PSt->XO Fb)(t:Tr)(qs:List PV):Option (PV×Tr):=if qs.length+1=m then (match g (.tree t::start (n-1) qs) with
 | .ok (.ret p) ρ=>(tr0 ρ).map fun t'=>(p,t')
 | .ok .next ρ=>(tr0 ρ).map fun t'=>(.non,t')
 | _=>none) else none
theorem Bc{ρ:PSt}{t:Tr}(e:tr0 ρ=some t):ρ[0]?=some (.tree t):=by
 unfold tr0 at e;split at e
 ·rename_i u eu;cases e;exact eu
 ·cases e
def ER:PSt->R (List (Key×Fld)):=fun _=>.ok []
noncomputable def nX(k:Key)(fv:PSt->R PV)(f:PSt->R (List (Key×Fld))):PSt->R (List (Key×Fld)):=fun ρ=>fv ρ >>= fun p=>f ρ >>= fun r=>.ok ((k,.val p)::r)
noncomputable def iP(k:Key)(fv:PSt->R PV)(f:PSt->R (List (Key×Fld))):PSt->R (List (Key×Fld)):=fun ρ=>fv ρ >>= fun p=>f ρ >>= fun r=>.ok ((k,.own p)::r)
noncomputable def uD(f:PSt->R (List (Key×Fld))):PSt->R Tr:=fun ρ=>f ρ >>= fun kfs=>if kfs.length<=15/\(kfs.map (·.1)).Nodup then .ok (.node (kfs.map (·.1)) (kfs.map (·.2))) else .no
def Cm(i:Nat)(f:PSt->R Tr):PSt->XO Fb:=fun ρ=>(XO.rd ρ (f ρ)).bind fun t ρ=>.ok .next (ρ.set i (.tree t))
noncomputable def vV(i:Nat):PSt->XO Fb:=fun ρ=>match ρ[i]? with
 | some (.tree t)=>.ok (.retT t) ρ
 | _=>.no
def JN:Fld->PV
 | .val p=>p
 | .own p=>p
noncomputable def trV:Tr->PV
 | .leaf p=>p
 | .node ks fs=>.dct ks (fs.map JN)
variable[TW]
def spB(K:M9)(n:Nat)(F:Tr->List PV->Option (PV×Tr)):Sp:=fun vs H Q _=>vs.length=n/\tY H/\∃a r xs t ps p t',vs=.ref a::xs/\bu K H a r t/\aM K H ps xs/\F t ps=some (p,t')/\
 ∀v H',Same (cutH H (a::r)) H'->bu K H' a r t'->Rep K H' p v->Q v H'
structure PFB(P:MP)(w:Me)(K:M9)(mg:Str->Option Value)(base:Heap)(k:Nat)(x:Str)(F:Tr->List PV->Option (PV×Tr)):Prop where
 ex:∃(f:Addr)(fd:FuncData)(ps:List Str),FnOk P w K mg base CX0 k f fd ps (spB K ps.length F)/\mg x=some (.ref f)/\NO K (.ref f)=true/\Binds K fd ps []/\∀t qs z,F t qs=some z->qs.length+1=ps.length
noncomputable def tNT(C:Cn)(f:PSt->R Tr):TE:=fun σ H Q=>∃ρ,View C.X.K H σ ρ/\RQ C H (f ρ) fun t=>∀a r H',Same H H'->(∀b∈a::r,H b=none)->bu C.X.K H' a r t->Q (.ref a) H'
def ENT(C:Cn)(e:Expr)(f:PSt->R Tr):Prop:=PE C.X e (tNT C f)
section
variable{C : Cn}{n : Nat}{e : Expr}{es : List Expr}{fs : PSt → R (List PV)}{x : Str}{k : Nat}{p pos : O4}
theorem o3{s:Sel}{F:Tr->List PV->Option (PV×Tr)}(G:PFB C.X.prog C.X.w C.X.K C.X.mg C.X.base k x F){kr:Nat}(hr:Room kr C.X.A)(h0:PE C.X e (FG s))(ha:EA C es fs)
  (hdb:(x == ("__debug__":Str))=false:=by decide) (he:MO (e::es) C.X.env=(false,NC e C.X.env)::MO es C.X.env:=by exact eX rfl) (hpl:(Nq pos (MO es C.X.env)).any (·.1)=false:=by exact o9 rfl) (hk:k<=kr:=by decide) (hg:Gl C.X x:=by exact rfl) :
  XB C n (.Call (.Name x p) (e::es) [] pos) (qR s fs F):=by
 replace hr:=hr.mono hk;obtain⟨f,fd,ps,a,b,c,d,l⟩:=G.ex;intro pins st σ H Q I ⟨ρ,Z,S,q⟩;unfold qR at q;split at q
 ·exact MG q
 ·rename_i t et
  obtain⟨ad,r,h1,h2,_⟩:=S.sel et;refine wB (dvs:=[]) (ds:=[]) (E:=E0) a hr hg b c d .nil D5 (cg h0 ha he) hdb he hpl pins st σ H Q I ⟨ad,h1,ρ,S.vw,(RX.rd S q.bind).imp fun qs _ q1 vs H1 s1 r1=>?_⟩;obtain⟨r',_,h2',h3⟩:=jt S et s1 h1;split at q1
  ·exact MG q1
  ·rename_i p t' ef
   split at q1
   ·rename_i ρ' ep
    rw[N1];exact⟨by rw[MI,← r1.length];exact l t qs _ ef,s1.tabs S.vw.tb,ad,r',vs,t,qs,p,t',rfl,h2',r1,ef,fun v H' s' ht rp=>q1 v H' (h3 H' t' ρ' ep s' ht) rp⟩
   ·exact MG q1
end
section
variable{P : MP}{w : Me}{K : M9}{mg : Str → Option Value}{base : Heap}
theorem vL{H:Hp}{N:List Str}{a:Addr}{r:List Addr}{t:Tr}{ps:List PV}{vs:List V}(tb:tY H)(ht:bu K H a r t)(rp:aM K H ps vs) :
  StB K 1 ⟨cutH H (a::r),H,fun i=>if i=0 then some (a,r) else none⟩ H (L2.start N (.ref a::vs)) (.tree t::start (N.length-1) ps):=by
 have e0:L2.start N (.ref a::vs)=some (.ref a)::L2.start N.tail vs:=by
  unfold L2.start;rw[MN,List.cons_append,MI,List.length_tail,Nat.sub_add_eq,Nat.sub_right_comm]
 have e1:N.length-1=N.tail.length:=by rw[List.length_tail]
 rw[e0,e1];have S:=l0 (N:=N.tail) tb rp;refine⟨⟨H,H,fun i=>if i=0 then some (a,r) else none⟩,⟨by rw[MI,MI,S.len],Same.refl H,Kp.refl H,⟨fun i l e=>?_,tb⟩,fun i p c e f=>?_,fun i j p q c e1 e2 f1 f2=>?_,fun i u e=>?_⟩,fun i hi=>if_neg (by omega),rfl,Same.cut _,fun i q h=>h,fun i b s h c hc=>?_,fun i j b s b' s' h h' hn=>?_,fun i b s h c hc=>?_⟩
 ·cases i with
  | zero=>cases e;exact⟨a,r,rfl,ht⟩
  | succ i=>exact S.vw i l (by simpa using e)
 ·cases i with
  | zero=>cases e
  | succ i=>exact S.fresh i p c (by simpa using e) (by simpa using f)
 ·cases i with
  | zero=>cases e1
  | succ i=>cases j with
   | zero=>cases e2
   | succ j=>exact congrArg _ (S.apart i j p q c (by simpa using e1) (by simpa using e2) (by simpa using f1) (by simpa using f2))
 ·cases i with
  | zero=>cases e;exact⟨a,r,rfl,rfl,ht⟩
  | succ i=>exact absurd (show (start N.tail.length ps)[i]?=some (.tree u) by simpa using e) fun z=>wO z
 ·have h:(if i=0 then some (a,r) else none)=some (b,s):=h
  split at h
  ·cases h;exact my hc
  ·cases h
 ·have h:(if i=0 then some (a,r) else none)=some (b,s):=h
  have h':(if j=0 then some (a,r) else none)=some (b',s'):=h';split at h
  ·split at h'
   ·rename_i z1 z2;exact absurd (z1.trans z2.symm) hn
   ·cases h'
  ·cases h
 ·have h:(if i=0 then some (a,r) else none)=some (b,s):=h
  split at h
  ·cases h
   obtain⟨u,hu,_⟩:=ht.obj c hc;show H c≠none;rw[hu];exact fun z=>by cases z
  ·cases h
theorem pO{H:Hp}{N:List Str}{ps:List PV}{vs:List V}(tb:tY H)(rp:aM K H ps vs):StB K 0 ⟨H,H,fun _=>none⟩ H (L2.start N vs) (start N.length ps):=
 ⟨⟨H,H,fun _=>none⟩,l0 tb rp,(fun _ _=>rfl),rfl,Same.refl H,(fun _ _ h=>h),(fun _ _ _ h=>by cases h),(fun _ _ _ _ _ _ h=>by cases h),(fun _ _ _ h=>by cases h)⟩
theorem G4{x qual:Str}{st:Stmt}{f:Addr}{fd:FuncData}{N ps:List Str}{k:Nat}{g:PSt->XO Fb}(F:Fun K x qual st f fd)(S:FnScope N ps (af st))(hm:mg x=some (.ref f))(hb:Binds K fd ps [])
  (hbody:∀(cdv:Value)(A:Mi)(outer:List QX)(s:MB)(H:Hp)(E:XK),Room k (A.deeper (Og qual (af st) s.heap.objs.size f cdv))->SBs (Eb P w K mg base N qual (af st) f cdv A outer s H E) 1 (ba st) g) :
  PFB P w K mg base (k+1) x (yH ps.length N.length g):=by
 refine⟨f,fd,ps,F.ok S (fun vs H Q E h=>h.1) (fun cdv A outer s H vs Q E hr h=>?_),hm,F.kp,hb,fun t qs p h=>?_⟩
 ·obtain⟨hl,tb,a,r,xs,t,qs,p,t',rfl,ht,rp,e,k⟩:=h
  refine⟨_,hbody cdv A outer s H E hr,_,_,vL tb ht rp,?_⟩;unfold yH at e;split at e
  ·have fin:∀{ρ:PSt}{H':Hp},TB K ⟨cutH H (a::r),H,fun i=>if i=0 then some (a,r) else none⟩ H' ρ->∀{u},ρ[0]?=some (.tree u)->Same (cutH H (a::r)) H'/\bu K H' a r u:=fun {ρ H'} h {u} eu=>⟨h.1,h.2 0 a r u rfl eu⟩
   split at e
   ·rename_i q ρ hg
    rw[hg];obtain⟨u,eu,e⟩:=MR.mp e;cases e;have eu:=Bc eu;exact fun v H' h rv=>k v H' (fin h eu).1 (fin h eu).2 rv
   ·rename_i ρ hg
    rw[hg];obtain⟨u,eu,e⟩:=MR.mp e;cases e;have eu:=Bc eu;exact fun σ H' h=>k .non H' (fin h.tb eu).1 (fin h.tb eu).2 rfl
   ·cases e
  ·cases e
 ·unfold yH at h
  split at h
  ·rename_i hl;exact hl
  ·cases h
end
section
variable{C : Cn}{n : Nat}{pos : O4}
def EDF(C:Cn)(pos:O4)(ks:List (Option Expr))(vs:List Expr)(f:PSt->R (List (Key×Fld))):Prop:=∃trs,PPs C.X pos ks vs trs/\
 ∀σ H Q,(∃ρ,View C.X.K H σ ρ/\RQ C H (f ρ) fun kfs=>∀(r:List Addr)(kvs:List (Key×V))(H':Hp),Same H H'->(∀b∈r,H b=none)->r.Nodup->kvs.map (·.1)=kfs.map (·.1)->bt C.X.K H' r (kfs.map (·.2)) (kvs.map (·.2))->Q (kvs.map fun kv=>(kV kv.1,kv.2)) H')->mZ trs σ H Q
theorem E7:EDF C pos [] [] ER:=⟨[],CU,fun σ H Q ⟨ρ,vw,q⟩=>q [] [] H (Same.refl H) (by simp) (by simp) rfl ⟨rfl,rfl⟩⟩
theorem E6{y:Str}{j}{p1:O4}{v:Expr}{ks:List (Option Expr)}{vs:List Expr}{fv:PSt->R PV}{f:PSt->R (List (Key×Fld))}(hv:EV C v fv)(h:EDF C pos ks vs f):EDF C pos (some (.Constant (.str y) j p1)::ks) (v::vs) (nX (.inr y) fv f):=by
 obtain⟨trs,hp,ht⟩:=h;refine⟨_,sR lM hv hp,fun σ H Q ⟨ρ,vw,q⟩=>⟨ρ,vw,q.bind.imp fun p _ q1 x H1 s1 r1=>ht σ H1 _ ⟨ρ,vw.same s1,(q1.bind.same s1).imp fun kfs _ q2 r kvs H2 s2 fr nd ek hf=>?_⟩⟩⟩;exact q2 r ((.inr y,x)::kvs) H2 (s1.trans s2) (fun b hb=>s1.free (fr b hb)) nd (by simp[ek]) ⟨x,_,rfl,r1.same s2,hf⟩
theorem ye{y:Str}{j}{p1:O4}{v:Expr}{ks:List (Option Expr)}{vs:List Expr}{fv:PSt->R PV}{f:PSt->R (List (Key×Fld))}(hv:EN C v fv)(h:EDF C pos ks vs f):EDF C pos (some (.Constant (.str y) j p1)::ks) (v::vs) (iP (.inr y) fv f):=by
 obtain⟨trs,hp,ht⟩:=h;refine⟨_,sR lM hv hp,fun σ H Q ⟨ρ,vw,q⟩=>⟨ρ,vw,q.bind.imp fun p _ q1 b H1 s1 nb r1=>ht σ H1 _ ⟨ρ,vw.same s1,(q1.bind.same s1).imp fun kfs _ q2 r kvs H2 s2 fr nd ek hf=>?_⟩⟩⟩
 have hb:b ∉ r:=fun z=>by
  obtain⟨u,hu,_⟩:=r1.obj;rw[fr b z] at hu;cases hu
 refine q2 (b::r) ((.inr y,.ref b)::kvs) H2 (s1.trans s2) (fun c hc=>?_) (Mo.mpr ⟨hb,nd⟩) (by simp[ek]) ⟨b,r,_,rfl,rfl,r1.same s2,hf⟩;rcases MH.mp hc with z | z
 ·subst z;exact nb
 ·exact s1.free (fr c z)
theorem AE{ks:List (Option Expr)}{vs:List Expr}{f:PSt->R (List (Key×Fld))}(h:EDF C pos ks vs f)(hall:ks.all (·.isSome)=true:=by rfl)(hl:ks.length=vs.length:=by rfl)(h0:ks≠[]:=by simp)(h15:ks.length<=15:=by decide):ENT C (.Dict ks vs pos) (uD f):=by
 obtain⟨trs,hp,ht⟩:=h;intro pins s σ H Q I ⟨ρ,vw,q⟩;refine D3 hp hall hl h0 h15 pins s σ H Q I fun d hd=>ht σ _ _ ⟨ρ,vw.same (Same.new hd),(q.bind.same (Same.new hd)).imp fun kfs _ q1 r kvs H2 s2 fr nd ek hf=>?_⟩;split at q1
 ·rename_i hc
  have hd2:H2 d=some (.dK []):=s2 _ _ aA
  have ne:∀b∈r,b≠d/\H b=none:=fun b hb=>by
   have:=fr b hb;have hn:b≠d:=fun z=>by subst z;rw[aA] at this;cases this
   rw[az hn] at this;exact⟨hn,this⟩
  have em:iL [] kvs=kvs:=lX (acc:=[]) (by rw[RY,ek];exact hc.2);refine⟨hd2,kvs,rfl,by have:=congrArg Np ek;simp at this;omega,?_⟩;rw[em];have kp:Kp H2 (upd H2 d (.dK kvs)):=Kp.upd hd2 rfl;refine q1 d r _ (((Same.new hd).trans s2).but hd (fun u h=>by rw[hd2] at h;cases h;rfl) fun b hb=>az hb) (fun b hb=>?_) ⟨Mo.mpr ⟨fun z=>(ne d z).1 rfl,nd⟩,kvs,aA,ek,hf.off kp fun c hc=>az (ne c hc).1⟩;rcases MH.mp hb with z | z
  ·subst z;exact hd
  ·exact(ne b z).2
 ·exact MG q1
theorem StB.setT{K:M9}{Z:Zs}{H H':Hp}{σ:L2.St}{ρ:PSt}{i:Nat}{a:Addr}{r:List Addr}{t:Tr}(S:StB K n Z H σ ρ)(s:Same H H')(fr:∀b∈a::r,H b=none)(ht:bu K H' a r t)(hi:n<=i):StB K n Z H' (σ.set i (some (.ref a))) (ρ.set i (.tree t)):=by
 obtain⟨B,S,bk⟩:=S;have S1:=S.grow s
 let O:Addr->Prop:=fun c=>∃(j:Nat)(p:PV),ρ[j]?=some (.own p)/\σ[j]?=some (some (.ref c))
 have oB:∀c,O c->B.1 c=none:=fun c ⟨j,p,e1,e2⟩=>S.fresh j p c e1 e2
 have oH:∀c,O c->∃u,H c=some u/\pD u=false/\rX u=false:=fun c ⟨j,p,e1,e2⟩=>by
  obtain⟨c',e2',w⟩:=S.vw j _ e1;rw[e2] at e2';cases e2';obtain⟨u,hu,_⟩:=w.obj;exact⟨u,hu,w.nt u hu⟩
 classical
 let B1:Hp:=fun c=>if O c then none else H' c
 have b1o:∀c,O c->B1 c=none:=fun c h=>if_pos h;have b1n:∀c,¬ O c->B1 c=H' c:=fun c h=>if_neg h
 have k1:Kp H' B1:=fun b u e f=>by
  have:¬ O b:=fun o=>by
   obtain⟨u',hu',h1,h2⟩:=oH b o;rw[s.at_ b u' hu' h2] at e;cases e;rw[h1] at f;cases f
  rw[b1n b this];exact e
 have s1:Same B1 H':=.of fun b o e=>by
  by_cases h:O b
  ·rw[b1o b h] at e;cases e
  ·rw[b1n b h] at e;exact e
 have sz:Same Z.hp H':=(bk.same.trans S.same).trans s;have tn:∀j a r,B.3 j=some (a,r)->∀c∈a::r,¬ O c:=fun j a r e c hc o=>bk.liv j a r e c hc (oB c o)
 have no:∀c∈a::r,¬ O c:=fun c hc o=>by
  obtain⟨u,hu,_⟩:=oH c o;rw[fr c hc] at hu;cases hu
 have liv':∀j a r,B.3 j=some (a,r)->∀c∈a::r,H c≠none:=fun j a r e c hc z=>bk.liv j a r e c hc (S.same.free z);have t0:bu K B1 a r t:=ht.off k1 fun c hc=>b1n c (no c hc);have z0:∀b∈a::r,Z.hp b=none:=fun b hb=>(bk.same.trans S.same).free (fr b hb)
 have own':∀{j:Nat}{q:PV},(ρ.set i (.tree t))[j]?=some (.own q)->j≠i/\ρ[j]?=some (.own q):=fun {j q} e=>by
  rcases aY e with⟨_,z,_⟩|⟨hj,e⟩
  ·cases z
  ·exact⟨hj,e⟩
 refine⟨⟨B1,B.2,fun j=>if j=i then some (a,r) else B.3 j⟩,⟨by simp[S.len],s1,S1.kp,⟨fun j x ej=>?_,S1.vw.tb⟩,fun j q c ej fj=>?_,fun j m q q' c e1 e2 f1 f2=>?_,fun j u ej=>?_⟩,bk.lim,bk.kp,⟨fun b o e m=>?_,fun b ps e=>?_⟩,fun j q e=>?_,fun j b l e=>?_,fun j m b l b' l' e e' hn=>?_,fun j b l e c hc=>?_⟩
 ·rcases aY ej with⟨rfl,rfl,hl⟩|⟨hj,ej⟩
  ·exact⟨a,r,cM (by rw[← S.len];exact hl),ht⟩
  ·rw[aI hj]
   exact S1.vw j x ej
 ·obtain⟨hj,ej⟩:=own' ej
  rw[aI hj] at fj;exact b1o c ⟨j,q,ej,fj⟩
 ·obtain⟨hj,e1⟩:=own' e1
  obtain⟨hm,e2⟩:=own' e2;rw[aI hj] at f1;rw[aI hm] at f2;exact S.apart j m q q' c e1 e2 f1 f2
 ·rcases aY ej with⟨rfl,z,hl⟩|⟨hj,ej⟩
  ·cases z
   exact⟨a,r,if_pos rfl,cM (by rw[← S.len];exact hl),t0⟩
  ·obtain⟨a',r',h1,h2,h3⟩:=S1.treed j u ej
   refine⟨a',r',(if_neg hj).trans h1,by rw[aI hj];exact h2,?_⟩;exact(h3.same S1.same).off k1 fun c hc=>b1n c (tn j a' r' h1 c hc)
 ·have h1:=sz.at_ b o e m
  show B1 b=some o;rw[b1n b fun o'=>?_]
  ·exact h1
  ·have:=bk.same.at_ b o e m
   rw[oB b o'] at this;cases this
 ·obtain⟨p1,e1,k1'⟩:=sz.tb b ps e
  have nb:¬ O b:=fun o=>by
   obtain⟨u,hu,_,m⟩:=oH b o;rw[s.at_ b u hu m] at e1;cases e1;cases m
  exact⟨p1,by show B1 b=_;rw[b1n b nb];exact e1,fun tk=>(k1' tk).sub k1⟩
 ·have hj:j≠i:=fun z=>by
   subst z;rw[bk.lim j hi] at e;cases e
  exact(if_neg hj).trans (bk.at_ j q e)
 ·have e:(if j=i then some (a,r) else B.3 j)=some (b,l):=e
  split at e
  ·cases e;exact z0
  ·exact bk.off j b l e
 ·have e:(if j=i then some (a,r) else B.3 j)=some (b,l):=e
  have e':(if m=i then some (a,r) else B.3 m)=some (b',l'):=e';split at e
  ·rename_i hj
   cases e;split at e'
   ·rename_i hm;exact absurd (hj.trans hm.symm) hn
   ·exact fun c hc z=>liv' m b' l' e' c z (fr c hc)
  ·split at e'
   ·cases e'
    exact fun c hc z=>liv' j b l e c hc (fr c z)
   ·exact bk.apart j m b l b' l' e e' hn
 ·have e:(if j=i then some (a,r) else B.3 j)=some (b,l):=e
  show B1 c≠none;split at e
  ·cases e
   rw[b1n c (no c hc)];obtain⟨u,hu,_⟩:=ht.obj c hc;rw[hu];exact fun z=>by cases z
  ·rw[b1n c (tn j b l e c hc)]
   exact fun z=>liv' j b l e c hc (s.free z)
theorem Cz(i:Nat){x:Str}{e:Expr}{f:PSt->R Tr}{pos':O4}(hN:C.X.N.Nodup)(he:ENT C e f)(hin:n<=i:=by decide)(hs:Nk e (some (.Name x pos')) pos.line C.X.env=pure false:=by rfl)
  (hf:C.X.fn x=true\/C.X.env.scope.names.lookup x=some .local:=by first | exact .inl rfl | exact .inr rfl | assumption) (hi:C.X.N[i]?=some x:=by rfl) (hx:Loc C.X.env.scope x:=by first | exact .inl rfl | exact .inr rfl) :
  SB C n (.Assign [.Name x pos'] e pos) (Cm i f):=by
 intro pins s σ H D I ⟨ρ,Z,S,q⟩;exact wk hN hi hx he hs hf pins s σ H D I ⟨ρ,S.vw,(RX.rd S q.bind).imp fun t _ k a r H' s' fr ht=>k _ H' (S.setT s' fr ht hin)⟩
theorem CA (i:Nat) {x:Str} {np:O4} (hN:C.X.N[i]?=some x:=by rfl) (hv:Vis C.X.env.scope x:=by first | exact .inl rfl | exact .inr (.inl rfl) | exact .inr (.inr rfl)) (hd:(x == ("__debug__":Str))=false:=by decide) (hcd:(x == ("__classdict__":Str))=false:=by decide) :
  SB C n (.Return (some (.Name x np)) pos) (vV i):=by
 intro pins s σ H D I ⟨ρ,Z,⟨B,S,bk⟩,q⟩;unfold vV at q;split at q
 ·rename_i t e
  obtain⟨a,r,h1,h2,h3⟩:=S.treed i t e;exact wm (eC hN hv hd hcd) pins s σ H D I ⟨_,h2,q a r H (bk.same.trans S.same) (bk.off i a r h1) (h3.same S.same)⟩
 ·exact MG q
end
end PU
namespace PU
open PySem PySem.Spec PyProof.Rows L2
def A5{α:Type}(i:Nat)(f:PSt->R α):PSt->XO α:=fun ρ=>match ρ[i]? with
 | some (.tree t)=>XO.rd ρ (zW (f (ρ.set i (.val (trV t)))))
 | _=>.no
noncomputable def yL:HO->Bool
 | .lst _=>true
 | .dK _=>true
 | .dT _=>true
 | _=>false
theorem yL.fz{u:HO}(h:yL u=true):pD u=false:=by cases u <;> first | rfl | cases h
variable[TW]
theorem _root_.L2.Inv.frzX{X:Cx}{pins:List (Addr×Obj)}{σ:L2.St}{H:Hp}{s:MB}{a:Addr}{p:PV}(I:L2.Inv X pins σ H s)(n:dE X.K H a p) :
  ∃o u,H a=some u/\yL u=true/\L2.Inv X pins σ (upd H a (.frz o u)) s/\Rep X.K (upd H a (.frz o u)) p (.ref a):=by
 cases p with
 | lst ps=>
  obtain⟨xs,q,r⟩:=n;obtain⟨z,its,m,rv,e⟩:=I.hok a _ q;exact⟨_,.lst xs,q,rfl,I.reH q rfl rfl (by intro _ h;cases h) (by intro _ h;cases h) ⟨e,z,its,m,rv,e⟩,a,xs,rfl,.inl ⟨_,aA⟩,r.kp (Kp.upd q rfl)⟩
 | dct ks ps=>
  obtain⟨kvs,q,ek,r⟩:=n;obtain⟨z,hs,vs,rv,o,es,ep,e,rest⟩:=I.hok a _ q;exact⟨o,.dK kvs,q,rfl,I.reH q rfl rfl (by intro _ h;cases h) (by intro _ h;cases h) ⟨e,z,hs,vs,rv,o,es,ep,e,rest⟩,a,kvs,rfl,.inl ⟨_,aA⟩,ek,r.kp (Kp.upd q rfl)⟩
 | dtt ks ps=>
  obtain⟨kvs,q,ek,r⟩:=n;obtain⟨z,hs,ys,rv,o,es,ep,e,rest⟩:=I.hok a _ q;refine⟨o,.dT kvs,q,rfl,I.reH q rfl rfl (by intro _ h;cases h) (by intro _ h;cases h) ⟨e,z,hs,ys,?_,o,es,ep,e,rest⟩,a,o,kvs,rfl,aA,ek,r.kp (Kp.upd q rfl)⟩;exact Paired.mapP rv fun p1 q1 ⟨h1,h2,h3⟩=>⟨h1,h2.keeps fun b ys hb=>Kp.upd q rfl _ _ hb rfl,h3⟩
 | _=>exact MG n
theorem _root_.L2.Inv.thaw1{X:Cx}{pins:List (Addr×Obj)}{σ:L2.St}{H H':Hp}{s s':MB}{a:Addr}{o:Obj}{u:HO}(I0:L2.Inv X pins σ H s)(I:L2.Inv X pins σ H' s')(h0:H a=some u)(mu:yL u=true)(h1:H' a=some (.frz o u)) :
  L2.Inv X pins σ (upd H' a u) s':=by
 have ne:∀b w,H' b=w->w≠some (.frz o u)->b≠a:=fun b w e n z=>by
  subst z;rw[h1] at e;exact n e.symm
 refine⟨I.ok,I.os,I.bare,⟨I.base.keep,I.base.slot,fun b q e n hx=>?_,I.base.there,fun b ys e=>?_,fun b q w e=>?_,fun b ps e=>?_⟩,I.loc,I.cell,?_,fun x c e=>?_,fun p hp=>?_,fun b w e=>?_,I.len⟩
 ·have:=I.base.free b q e n hx
  rw[az (ne b _ this (by intro h;cases h))];exact this
 ·have:=I.base.tups b ys e
  rw[az (ne b _ this (by intro h;cases h))];exact this
 ·have h2:=I.base.frzs b q w e
  have h3:=I0.base.frzs b q w e;have hb:b≠a:=fun z=>by subst z;rw[h0] at h3;cases h3;cases mu
  rw[az hb];exact h2
 ·obtain⟨m,e2⟩:=I.base.tbls b ps e
  refine⟨m,?_⟩;rw[az (ne b _ e2 (by intro h;cases h))];exact e2
 ·have:=I.free
  rw[az (ne _ _ this (by intro h;cases h))];exact this
 ·have:=I.freeC x c e
  rw[az (ne _ _ this (by intro h;cases h))];exact this
 ·obtain⟨p1,p2,p3⟩:=I.pin p hp
  refine⟨p1,?_,p3⟩;rw[az (ne _ _ p2 (by intro h;cases h))];exact p2
 ·have st:∀{b:Addr}{w:HO},eK X.prog X.w H' s'.heap b w->eK X.prog X.w (upd H' a u) s'.heap b w:=fun {b w} h=>h.stay (fun c v hc q=>q) (fun c q=>by
   rw[az (ne _ _ q (by intro h;cases h))];exact q) fun c ys q=>by
   rw[az (ne _ _ q (by intro h;cases h))];exact q
  by_cases hb:b=a
  ·subst hb
   rw[aA] at e;cases e;exact st (I.hok b _ h1).2
  ·rw[az hb] at e
   exact st (I.hok b w e)
theorem qB{X:Cx}{pins:List (Addr×Obj)}{σ:L2.St}{H:Hp}{s s':MB}(I0:L2.Inv X pins σ H s):∀(l:List Addr){H1:Hp},L2.Inv X pins σ H1 s'->(∀b∈l,∃o u,H b=some u/\yL u=true/\(H1 b=some (.frz o u)\/H1 b=some u))->
  ∃H2,L2.Inv X pins σ H2 s'/\(∀b∈l,H2 b=H b)/\∀b,b ∉ l->H2 b=H1 b
 | [],H1,I,_=>⟨H1,I,by simp,fun _ _=>rfl⟩
 | a::l,H1,I,h=>by
  obtain⟨o,u,h0,mu,h1⟩:=h a (by simp)
  have:∃H1',L2.Inv X pins σ H1' s'/\H1' a=some u/\∀b,b≠a->H1' b=H1 b:=by
   rcases h1 with h1 | h1
   ·exact⟨_,I0.thaw1 I h0 mu h1,aA,fun b hb=>az hb⟩
   ·exact⟨H1,I,h1,fun _ _=>rfl⟩
  obtain⟨H1',I',ha,oth⟩:=this
  obtain⟨H2,I2,g1,g2⟩:=qB I0 l I' fun b hb=>by
   by_cases hba:b=a
   ·subst hba
    exact⟨o,u,h0,mu,.inr ha⟩
   ·rw[oth b hba]
    exact h b (by simp[hb])
  refine⟨H2,I2,fun b hb=>?_,fun b hb=>?_⟩
  ·by_cases hl:b∈l
   ·exact g1 b hl
   ·have hba:b=a:=by rcases MH.mp hb with z | z;exact z;exact absurd z hl
    subst hba;rw[g2 b hl,ha,h0]
  ·have h1:b≠a:=fun z=>hb (by simp[z])
   rw[g2 b fun z=>hb (by simp[z]),oth b h1]
theorem oP{X:Cx}{pins:List (Addr×Obj)}{σ:L2.St}{s:MB}:∀{fs:List Fld}{r:List Addr}{xs:List V}{H:Hp},L2.Inv X pins σ H s->bt X.K H r fs xs->r.Nodup->
  ∃H',L2.Inv X pins σ H' s/\aM X.K H' (fs.map JN) xs/\(∀b,b ∉ r->H' b=H b)/\Kp H H'/\∀b∈r,∃o u,H b=some u/\yL u=true/\H' b=some (.frz o u)
 | [],r,xs,H,I,⟨e1,e2⟩,_=>by
  subst e1 e2;exact⟨H,I,rfl,fun _ _=>rfl,Kp.refl H,by simp⟩
 | .val p::fs,r,xs,H,I,⟨x,ys,e,h,t⟩,nd=>by
  obtain⟨H',I',rr,o,k,f⟩:=oP I t nd;subst e;exact⟨H',I',⟨x,ys,rfl,h.kp k,rr⟩,o,k,f⟩
 | .own p::fs,r,xs,H,I,⟨b,r',ys,e1,e2,h,t⟩,nd=>by
  subst e1 e2;obtain⟨nb,nd'⟩:=Mo.mp nd;obtain⟨H',I',rr,o,k,f⟩:=oP I t nd';obtain⟨ob,u,hu,mu,I2,rp⟩:=I'.frzX (h.kp k (o b nb));have k2:Kp H' (upd H' b (.frz ob u)):=Kp.upd hu (yL.fz mu);refine⟨_,I2,⟨_,_,rfl,rp,aM.kp k2 _ rr⟩,fun c hc=>?_,k.trans k2,fun c hc=>?_⟩
  ·rw[az fun z=>hc (by simp[z])]
   exact o c fun z=>hc (by simp[z])
  ·rcases MH.mp hc with z | z
   ·subst z
    exact⟨ob,u,by rw[← o c nb];exact hu,mu,aA⟩
   ·rw[az fun w=>nb (by rw[← w];exact z)]
    exact f c z
theorem _root_.L2.Inv.frzT{X:Cx}{pins:List (Addr×Obj)}{σ:L2.St}{s:MB}{H:Hp}{a:Addr}{r:List Addr}{t:Tr}(I:L2.Inv X pins σ H s)(h:bu X.K H a r t) :
  ∃H',L2.Inv X pins σ H' s/\Rep X.K H' (trV t) (.ref a)/\(∀b,b ∉ a::r->H' b=H b)/\Kp H H'/\∀b∈a::r,∃o u,H b=some u/\yL u=true/\H' b=some (.frz o u):=by
 cases t with
 | leaf p=>
  obtain⟨e,h⟩:=h;subst e;obtain⟨o,u,hu,mu,I',rp⟩:=I.frzX h
  exact⟨_,I',rp,fun b hb=>az fun z=>hb (by simp[z]),Kp.upd hu (yL.fz mu),fun b hb=>by
   have:=NT.mp hb;subst this;exact⟨o,u,hu,mu,aA⟩⟩
 | node ks fs=>
  obtain⟨nd,kvs,ha,ek,hf⟩:=h;obtain⟨na,nd'⟩:=Mo.mp nd;obtain⟨H',I',rr,o,k,f⟩:=oP I hf nd';have n:dE X.K H' a (.dct ks (fs.map JN)):=⟨kvs,by rw[o a na];exact ha,ek,rr⟩;obtain⟨ob,u,hu,mu,I2,rp⟩:=I'.frzX n;have k2:Kp H' (upd H' a (.frz ob u)):=Kp.upd hu (yL.fz mu);refine⟨_,I2,rp,fun c hc=>?_,k.trans k2,fun c hc=>?_⟩
  ·rw[az fun z=>hc (by simp[z])]
   exact o c fun z=>hc (by simp[z])
  ·rcases MH.mp hc with z | z
   ·subst z
    exact⟨ob,u,by rw[← o c na];exact hu,mu,aA⟩
   ·rw[az fun w=>na (by rw[← w];exact z)]
    exact f c z
section
variable{C : Cn}{n : Nat}{e : Expr}
theorem lend{pins:List (Addr×Obj)}{s:MB}{σ:L2.St}{H:Hp}{ρ:PSt}{Z:Zs}{i:Nat}{t:Tr}(I:Inv C.X pins σ H s)(S:StB C.X.K n Z H σ ρ)(ei:ρ[i]?=some (.tree t)) :
  ∃Hf,Inv C.X pins σ Hf s/\View C.X.K Hf σ (ρ.set i (.val (trV t)))/\∀H1 s',Same Hf H1->Inv C.X pins σ H1 s'->∃H2,Inv C.X pins σ H2 s'/\StB C.X.K n Z H2 σ ρ:=by
 obtain⟨B,S,bk⟩:=S;obtain⟨a,r,e3,es,ht⟩:=S.treed i t ei;have hT:=ht.same S.same;obtain⟨Hf,If,rp,oth,kp,fz⟩:=I.frzT hT;refine⟨Hf,If,⟨fun j l ej=>?_,fun P hP=>?_⟩,fun H1 s' sm I1=>?_⟩
 ·rcases aY ej with⟨rfl,rfl,_⟩|⟨hj,ej⟩
  ·exact⟨_,es,rp⟩
  ·have hx:=S.vw j l ej
   cases l with
   | no=>exact trivial
   | val q=>obtain⟨v,e1,rq⟩:=hx;exact⟨v,e1,rq.kp kp⟩
   | own q=>
    obtain⟨c,e1,rq⟩:=hx;exact⟨c,e1,rq.kp kp (oth c fun z=>bk.liv i a r e3 c z (S.fresh j q c ej e1))⟩
   | tree u=>
    obtain⟨a',r',h1,h2,h3⟩:=S.treed j u ej;exact⟨a',r',h2,(h3.same S.same).off kp fun c hc=>oth c (bk.apart j i a' r' a r h1 e3 hj c hc)⟩
   | exc y=>exact hx.exk kp
 ·obtain⟨ps,e,k⟩:=S.vw.tb P hP
  have hb:P ∉ a::r:=fun z=>by
   obtain⟨_,u,hu,mu,_⟩:=fz P z;rw[e] at hu;cases hu;cases mu
  exact⟨ps,by rw[oth P hb];exact e,k.kp kp⟩
 ·obtain⟨H2,I2,g1,g2⟩:=qB I (a::r) I1 fun b hb=>by
   obtain⟨o,u,hu,mu,hf⟩:=fz b hb;exact⟨o,u,hu,mu,.inl (sm _ _ hf)⟩
  refine⟨H2,I2,StB.grow ⟨B,S,bk⟩ ⟨fun b o e m=>?_,fun b ps e=>?_⟩⟩
  ·by_cases hb:b∈a::r
   ·rw[g1 b hb];exact e
   ·rw[g2 b hb]
    exact sm.at_ b o (by rw[oth b hb];exact e) m
  ·have hb:b ∉ a::r:=fun z=>by
    obtain⟨_,u,hu,mu,_⟩:=fz b z;rw[e] at hu;cases hu;cases mu
   obtain⟨p1,e1,k1⟩:=sm.tb b ps (by rw[oth b hb];exact e);refine⟨p1,by rw[g2 b hb];exact e1,fun tk=>?_⟩;have t1:=k1 (tk.kp kp);refine⟨t1.1,fun pos v ev=>?_⟩;obtain⟨c,f1,f2⟩:=t1.2 pos v ev
   have hc:c ∉ a::r:=fun z=>by
    obtain⟨o,u,_,_,hf⟩:=fz c z;rw[sm _ _ hf] at f2;cases f2
   exact⟨c,f1,by rw[g2 c hc];exact f2⟩
theorem Cb(i:Nat){f:PSt->R Bool}(he:ET C e f):XT C n e (A5 i f):=by
 intro pins s σ H Q I ⟨ρ,Z,S,q⟩;unfold A5 at q;split at q
 ·rename_i t ei
  obtain⟨Hf,If,vw,back⟩:=lend I S ei;cases hf:f (ρ.set i (.val (trV t))) with
  | ok b=>
   rw[hf] at q;refine thn (he pins s σ Hf (fun b' H'=>b'=b/\Same Hf H') If ⟨_,vw,by rw[hf];exact fun H' s'=>⟨rfl,s'⟩⟩) fun b' s1 ⟨H1,I1,eb,sm⟩=>?_;subst eb;obtain⟨H2,I2,S2⟩:=back H1 s1 sm I1;exact⟨H2,I2,q H2 S2⟩
  | er x=>rw[hf] at q;exact MG q
  | no=>rw[hf] at q;exact MG q
 ·exact MG q
end
end PU
namespace PU
open PySem PySem.Spec PyProof.Rows L2 PySem.SeqAt
noncomputable def jL:PV->PV->Option PV
 | .str x,.str y=>if (y.length == 0)=false/\x.length<=16777216/\(Txt.split x y).length<=16777216 then some (.lst ((Txt.split x y).map .str)) else none
 | _,_=>none
noncomputable def xI:PV->PV->Option PV
 | .str x,.str y=>if (y.length == 0)=false/\x.length<=16777216 then some (.tup [.str (Txt.partition x y).1,.str (Txt.partition x y).2.1,.str (Txt.partition x y).2.2]) else none
 | _,_=>none
noncomputable def oR:PV->PV->PV->Option PV
 | .str x,.str y,.int k=>if (y.length == 0)=false/\x.length<=16777216/\k.natAbs<1000000000/\(Txt.splitMax x y k).length<=16777216 then some (.lst ((Txt.splitMax x y k).map .str)) else none
 | _,_,_=>none
noncomputable def DI:PV->Option PV
 | .str x=>if x.length<=640 then (Rc x).map .int else none
 | _=>none
noncomputable def A2(fo fe fg:PSt->R PV)(g:PV->PV->PV->Option PV):PSt->R PV:=fun ρ=>fo ρ >>= fun p=>if rY p=true then fe ρ >>= fun q=>fg ρ >>= fun r=>R.ofO (g p q r) else .no
variable[TW]
theorem ly:∀(xs:List Str)(tk:Nat),Vals (xs.map V.str) (strsFrom tk xs)
 | [],_=>.nil
 | x::r,tk=>.cons ⟨tk,rfl⟩ (ly r (tk+1))
theorem lG{K:M9}{H:Hp}:∀(xs:List Str),aM K H (xs.map .str) (xs.map V.str)
 | []=>rfl
 | x::r=>⟨_,_,rfl,rfl,lG r⟩
theorem sH:StrM "split" "str.split":=⟨Nh,PySem.F.type_str_split⟩
theorem IL:StrM "partition" "str.partition":=⟨RT,PySem.F.type_str_partition⟩
theorem wX {X:Cx}:MtR X "str.split" (rM1 X.K jL):=by
 intro pins s σ H x xs v us Q I rx rs ⟨p,q,z,u,e1,rp,rq,ez,k⟩;subst e1;obtain⟨a,b,t,t2,rfl,rfl,rfl,rfl⟩:=jo (g:=jL) (fun p q z e=>by unfold jL at e;split at e;exact⟨_,_,rfl,rfl⟩;cases e) rx rs rp rq ez;have ez:(if (b.length == 0)=false/\a.length<=16777216/\(Txt.split a b).length<=16777216 then some (PV.lst ((Txt.split a b).map .str)) else none)=some z:=ez;split at ez
 ·rename_i hc
  cases ez;obtain⟨hy,ha,hn⟩:=hc;have hs:=My
  have one:Txt.split a b=[a]->wants (EP X pins σ Q) X.xe (.ok (.ret (.ref s.heap.objs.size))) { s with heap:=s.heap.push { cls:=.type "list",data:=.seq [Pl a t].toArray } }:=fun e=>by
   rw[e] at k;obtain⟨H',I',sm,r'⟩:=lV (ps:=[.str a]) I (ys:=[V.str a]) (its:=[Pl a t]) (.cons ⟨t,rfl⟩ .nil) (by show 1<=sizeLine;decide) ⟨_,_,rfl,rfl,rfl⟩ s.toks;exact⟨.ref _,H',I',rfl,k _ H' sm r'⟩
  cases h1:(decide (a.length<b.length) || decide (NU a<NU b)) with
  | true=>exact Pg Nh (PD _ _ _) Nn (Py _ _) (meets_str_split_cannot_occur a b t t2 h1) (one (if_pos h1))
  | false=>
   cases hf:(Md a b 0 a.length (a.length+1)).isEmpty with
   | true=>exact Pg Nh (PD _ _ _) Nn (Py _ _) (meets_str_split_not_found a b t t2 h1 hy hf) (one ((if_neg (by rw[h1];decide)).trans (if_pos hf)))
   | false=>
    have e:Txt.split a b=Nj a (Md a b 0 a.length (a.length+1)) b.length:=(if_neg (by rw[h1];decide)).trans (if_neg (by rw[hf];decide));rw[e] at hn k;refine Pg Nh (PD _ _ _) Nn (Py _ _) (meets_str_split_sep a b t t2 h1 hy hf (by omega) (by omega)) ?_;obtain⟨H',I',sm,r'⟩:=lV I (ly (Nj a (Md a b 0 a.length (a.length+1)) b.length) s.toks) (by rw[MC];omega) (lG _) (s.toks+(Nj a (Md a b 0 a.length (a.length+1)) b.length).length);exact⟨.ref _,H',I',rfl,k _ H' sm r'⟩
 ·cases ez
theorem Jo {X:Cx}:MtR X "str.partition" (rM1 X.K xI):=by
 intro pins s σ H x xs v us Q I rx rs ⟨p,q,z,u,e1,rp,rq,ez,k⟩;subst e1;obtain⟨a,b,t,t2,rfl,rfl,rfl,rfl⟩:=jo (g:=xI) (fun p q z e=>by unfold xI at e;split at e;exact⟨_,_,rfl,rfl⟩;cases e) rx rs rp rq ez;have ez:(if (b.length == 0)=false/\a.length<=16777216 then some (PV.tup [.str (Txt.partition a b).1,.str (Txt.partition a b).2.1,.str (Txt.partition a b).2.2]) else none)=some z:=ez;split at ez
 ·rename_i hc
  cases ez;obtain⟨hy,ha⟩:=hc;have hs:=My
  have fin:∀(ta tb tc tk:Nat),EP X pins σ Q (.ref s.heap.objs.size) { s with toks:=tk,heap:=s.heap.push { cls:=.type "tuple",data:=.seq [.str (Txt.partition a b).1 ta,.str (Txt.partition a b).2.1 tb,.str (Txt.partition a b).2.2 tc].toArray } }:=fun ta tb tc tk=>by
   have nf:H s.heap.objs.size=none:=I.fresh;refine⟨.ref s.heap.objs.size,_,I.laid (t':=tk) (o:=.tup [.str (Txt.partition a b).1,.str (Txt.partition a b).2.1,.str (Txt.partition a b).2.2]) (fun b ob q=>MD _ q) (MX _) ?_,rfl,k _ _ (Same.new nf) ⟨_,_,rfl,(.inl aA),_,_,rfl,rfl,_,_,rfl,rfl,_,_,rfl,rfl,rfl⟩⟩;exact⟨by show 3<=sizeLine;decide,_,.cons ⟨ta,rfl⟩ (.cons ⟨tb,rfl⟩ (.cons ⟨tc,rfl⟩ .nil)),B5.new _ _⟩
  refine Pg RT (PD _ _ _) PySem.F.entry_str_partition (PySem.F.args_str_partition_2 _ _) (meets_str_partition a b t t2 hy (by omega)) ?_
  revert fin
  unfold Txt.partition;cases Md a b 0 a.length 1 with
  | nil=>intro fin;exact fin _ _ _ _
  | cons i r=>intro fin;exact fin _ _ _ _
 ·cases ez
def rM2(K:M9)(g:PV->PV->PV->Option PV):V->List V->Hp->VK->Prop:=fun v vs H Q=>∃p q r z u u2,vs=[u,u2]/\bw K H p v/\bw K H q u/\bw K H r u2/\g p q r=some z/\∀w H',Same H H'->Rep K H' z w->Q w H'
theorem Dm {X:Cx}:MtR X "str.split" (rM2 X.K oR):=by
 intro pins s σ H x xs v us Q I rx rs ⟨p,q,r,z,u,u2,e1,rp,rq,rr,ez,k⟩;subst e1;unfold oR at ez;split at ez
 ·rename_i a b n
  cases (show x=.str a from rp);cases (show u=.str b from rq);cases (show u2=.int n from rr);obtain⟨t,rfl⟩:=rx;cases rs with
  | cons r1 rs=>
   cases rs with
   | cons r2 rs=>
    cases rs;obtain⟨t2,rfl⟩:=r1;obtain⟨t3,rfl⟩:=r2;split at ez
    ·rename_i hc
     cases ez;obtain⟨hy,ha,hk,hn⟩:=hc;have hs:=My
     have hkk:(decide (n < -(2 ^ 63:Int)) || decide (n ≥ 2 ^ 63))=false:=by
      rw[T7];exact⟨decide_eq_false (by omega),decide_eq_false (by omega)⟩
     have one:Txt.splitMax a b n=[a]->wants (EP X pins σ Q) X.xe (.ok (.ret (.ref s.heap.objs.size))) { s with heap:=s.heap.push { cls:=.type "list",data:=.seq [Pl a t].toArray } }:=fun e=>by
      rw[e] at k;obtain⟨H',I',sm,r'⟩:=lV (ps:=[.str a]) I (ys:=[V.str a]) (its:=[Pl a t]) (.cons ⟨t,rfl⟩ .nil) (by show 1<=sizeLine;decide) ⟨_,_,rfl,rfl,rfl⟩ s.toks;exact⟨.ref _,H',I',rfl,k _ H' sm r'⟩
     cases h1:(decide (a.length<b.length) || decide (NU a<NU b)) with
     | true=>exact Pg Nh (PD _ _ _) Nn (Px _ _ _) (meets_str_split_max_cannot_occur a b n t t2 t3 hkk h1) (one (if_pos h1))
     | false=>
      cases hf:(Md a b 0 a.length (Sa a n)).isEmpty with
      | true=>exact Pg Nh (PD _ _ _) Nn (Px _ _ _) (meets_str_split_max_not_found a b n t t2 t3 hkk h1 hy hf) (one ((if_neg (by rw[h1];decide)).trans (if_pos hf)))
      | false=>
       have e:Txt.splitMax a b n=Nj a (Md a b 0 a.length (Sa a n)) b.length:=(if_neg (by rw[h1];decide)).trans (if_neg (by rw[hf];decide));rw[e] at hn k;refine Pg Nh (PD _ _ _) Nn (Px _ _ _) (meets_str_split_sep_max a b n t t2 t3 hkk h1 hy hf (by omega) (by omega)) ?_;obtain⟨H',I',sm,r'⟩:=lV I (ly (Nj a (Md a b 0 a.length (Sa a n)) b.length) s.toks) (by rw[MC];omega) (lG _) (s.toks+(Nj a (Md a b 0 a.length (Sa a n)) b.length).length);exact⟨.ref _,H',I',rfl,k _ H' sm r'⟩
    ·cases ez
 ·cases ez
theorem JO{C:Cn}{o e e2:Expr}{fo fe fg:PSt->R PV}{g:PV->PV->PV->Option PV}{name:Str}{id:String}{apos cpos:O4}(S:StrM name id)(hm:MtR C.X id (rM2 C.X.K g))(ho:EV C o fo)(he:EO C e fe)(hg:EO C e2 fg)
  (hbase:OZ o name C.X.env (NC o C.X.env)=NC o C.X.env:=by rfl) (hline:(apos.endLine == cpos.line)=true:=by rfl) (hs:MO [e,e2] C.X.env=[(false,NC e C.X.env),(false,NC e2 C.X.env)]:=by exact o8 rfl rfl) (hs2:MO [e2] C.X.env=[(false,NC e2 C.X.env)]:=by exact cz rfl) :
  EV C (.Call (.Attribute o name apos) [e,e2] [] cpos) (A2 fo fe fg g):=by
 intro pins s σ H Q I ⟨ρ,vw,q⟩;refine zP S0 S.slot S.ty hm ho (cg he (cg hg gg hs2) (hs.trans (by rw[hs2]))) hbase (by rw[hs];rfl) hline (hs.trans (by rw[hs2])) (by rw[hs2];rfl) pins s σ H Q I ⟨ρ,vw,q.bind.imp fun p _ k v H1 s1 r1=>?_⟩;cases p with
 | str x=>
  cases (show v=.str x from r1);have k:RQ C H (fe ρ >>= fun q=>fg ρ >>= fun r=>R.ofO (g (.str x) q r)) fun p=>∀v H',Same H H'->Rep C.X.K H' p v->Q v H':=k;refine⟨rfl,ρ,vw.same s1,(k.bind.same s1).imp fun p2 _ k2 u H2 s2 r2=>⟨ρ,(vw.same s1).same s2,(k2.bind.same (s1.trans s2)).imp fun p3 _ k3 u2 H3 s3 r3=>?_⟩⟩;obtain⟨z,ez,k4⟩:=k3.ofO;exact⟨.str x,p2,p3,z,u,u2,rfl,rfl,r2.same s3,r3,ez,fun w H4 s4 r4=>k4 w H4 (((s1.trans s2).trans s3).trans s4) r4⟩
 | _=>exact MG k
theorem JS {X:Cx}:fF X (.type "int") (r1 X.K DI):=by
 intro pins s σ H xs us Q I r ⟨v,p,z,e1,rp,ez,k⟩;subst e1;cases p with
 | str x=>
  cases (show v=.str x from rp);obtain⟨u,rfl,ru⟩:=vals1 r;obtain⟨t,rfl⟩:=ru;have ez:(if x.length<=640 then (Rc x).map PV.int else none)=some z:=ez;split at ez
  ·rename_i hl
   obtain⟨n,hn,rfl⟩:=MR.mp ez;exact PySem.W.KIN.call_text hn hl ⟨.int n,H,I.tok _,⟨_,rfl⟩,k _ H (Same.refl H) rfl⟩
  ·cases ez
 | _=>cases ez
end PU
namespace PU
open PySem PySem.Spec PyProof.Rows
section
variable{M : SG}{A : Mi}{E : Value → MB → Prop}{s : MB}{env : QX}
theorem DX{pos:O4}{T:String}{e:Expr}{rest:List Expr}{kws:List Ti}{Q:Value->MB->Prop}
  (h:MK M A (spliced (Nq pos (MO (e::rest) env))) (fun vs s1=>MK M A (evalAll ((Ox pos (Ny kws env)).map (·.2))) (fun ks s2=>MK M A (call (.type T) vs (((Ox pos (Ny kws env)).filterMap (·.1)).zip ks)) Q E s2) E s1) E s)
  (he:Nq pos (MO (e::rest) env)=(false,NC e env)::Nq pos (MO rest env)) (hp:(Nq pos (MO (e::rest) env)).any (·.1)=false)
  (ha:(Ox pos (Ny kws env)).all (·.1.isSome)=true) (hk:(Ox pos (Ny kws env)).any (·.1.isNone)=false) :
  MK M A (Rf pos (.type T) [] (Nq pos (MO (e::rest) env)) (Ox pos (Ny kws env))) Q E s:=by
 have h2:MK M A (evalArgs (.type T) true (Nq pos (MO (e::rest) env)) (Ox pos (Ny kws env))) (fun a s1=>MK M A (call (.type T) a.pos a.kw) Q E s1) E s:=by
  rw[he] at h ⊢;exact evalArgs_kwB ha h
 unfold Rf;refine MA (Nt (N7 h2 (fun a s1 k1=>MA (Pi ?_)) fun _ _ z=>z));simp only[hp,hk,Pb];refine MA (ME (MA (N7 k1 (fun r s2 kr=>MA (Nt (wpAny_point (ME kr)))) fun _ _ z=>z)))
end
section
variable{prog : MP}{w : Me}{A : Mi}{E : Value → MB → Prop}{s : MB}
theorem AG(l:Addr)(items:Array Value)(n:Nat)(d:Option Addr)(sl:Array (Option Value))(t:Sn) :
  Meets (Builtin.«enumerate.__new__» ⟨[.type "enumerate",.ref l],[("start",.int 1 t)]⟩) (fun _ R s=>s.heap.get? l=some { cls:=.type "list",dict:=d,data:=.seq items n,slots:=sl }/\
   R (.ok (.ret (.ref (s.heap.push { cls:=.type "list_iterator",data:=.fields #[.ref l,.int 0 0] }).objs.size)))
    { s with heap:=(s.heap.push { cls:=.type "list_iterator",data:=.fields #[.ref l,.int 0 0] }).push { cls:=.type "enumerate",data:=.fields #[.none,.bool false,.ref s.heap.objs.size,OK 1,.none,.none] } }):=
 .of_wp fun prog w A R s ⟨hl,h⟩=>by
  obtain⟨hp,g,dd,tk,os⟩:=s;have sb:=sub_enumerate;have hL:Heap.IsList (Sb ⟨hp,g,dd,tk,os⟩) l items:=⟨_,hl,rfl,n,rfl⟩
  wp_walk using Pp hl
  refine wpAny_stack_any fun st=>ME ?_
  split
  ·rename_i c _ _ _ _ _
   cases (c == OW "enumerate") <;> (wp_walk using Pp hl,OI hL;exact⟨_,rfl,h⟩)
  ·wp_walk using Pp hl,OI hL
   exact⟨_,rfl,h⟩
theorem DZ {T newId:String} {self:Value} {rest:List Value} {kw:List (Str×Value)} (hl:Si (.type T) "__init__"=pure (some (.builtin "object.__init__"))) (hm:Bind.madeBy (.type T)=pure (some newId)) (hne:(some newId != some "object.__new__")=true) :
  Meets (Builtin.«object.__init__» ⟨self::rest,kw⟩) (fun _ R s=>s.TypeIs self T/\R (.ok (.ret .none)) s):=.of_wp fun prog w A R s ⟨hT,hq⟩=>by
 cases rest with
 | nil=>
  cases kw with
  | nil=>exact ME ⟨_,rfl,hq⟩
  | cons b kw=>
   repeat (any_goals (first | assumption | wp_step))
   exact⟨_,rfl,hq⟩
 | cons a rest=>
  repeat (any_goals (first | assumption | wp_step))
  exact⟨_,rfl,hq⟩
theorem E4 {T newId:String} {Bn:Builtin} {args:List Value} {kw:List (Str×Value)} {S:PySem.Spec} {Q:Value->MB->Prop} (ft:TypeCalled T newId "object.__init__") (hne:(some newId != some "object.__new__")=true)
  (hct:checkTypeCall T ⟨args,kw⟩=pure ()) (hcn:checkBuiltinCall newId ⟨.type T::args,kw⟩=pure ()) (hok:∀obj,argsOk "object.__init__" ⟨obj::args,kw⟩) (en:entryFor table newId=some Bn) (g:Meets (Bn ⟨.type T::args,kw⟩) S)
  (h:S A.in1 (wants (fun obj s1=>s1.TypeIs obj T/\Q obj s1) E) s):MK (MV prog w) A (call (.type T) args kw) Q E s:=by
 obtain⟨c0,tl0,f1⟩:=ft.mro;have f2:=ft.made;have f3:=ft.sub;have f4:=ft.notType;have f5:=ft.canCreate;refine Pf (codeAny_of_tree (show MK _ _ (callAny (.type T) _) _ _ _ from ME ⟨Code.quiet_builtin _ (by decide +kernel),codeAny_builtin F.entry_type_call ?_⟩));rw[Around.under_plain (weight_type_call_type T args kw) (units_type_call_type T args kw)]
 repeat (any_goals (first | assumption | wp_step))
 refine PR (Ov ft.plain en (wpAny_of_eq hcn (g prog w A.in1 _ s h))) fun r s1 hr=>?_;cases r with
 | error e=>exact hr
 | ok fl=>
  cases fl with
  | ret obj=>
   obtain⟨hT,hQ⟩:=hr;have f6:=ft.init.lookup;have f7:=ft.init.bind obj
   repeat (any_goals (first | assumption | wp_step))
   refine PR (Ov ft.init.plain F.entry_object_init (ft.init.check _ _ _ _ _ _ _ _ hT (hok obj) (DZ (kw:=kw) f6 f2 hne prog w A.in1 _ s1 ⟨hT,(show wants (fun r s2=>r=.none/\Q obj s2) E _ s1 from ⟨rfl,hQ⟩)⟩))) fun r2 s2 hr2=>?_;cases r2 with
   | error e=>exact hr2
   | ok fl2=>
    cases fl2 with
    | ret r=>
     obtain⟨rfl,hq⟩:=hr2
     repeat (any_goals (first | assumption | wp_step))
    | _=>exact hr2.elim
  | _=>exact hr.elim
theorem E1{l:Addr}{items:Array Value}{t:Sn}{Q:Value->MB->Prop}(hL:s.heap.IsList l items)
  (h:∀h',IsEnum h' (s.heap.objs.size+1) s.heap.objs.size 1 .none->h'.IsListIter s.heap.objs.size l 0->(∀b o,s.heap.get? b=some o->h'.get? b=some o)->Q (.ref (s.heap.objs.size+1)) { s with heap:=h' }) :
  MK (MV prog w) A (call (.type "enumerate") [.ref l] [("start",.int 1 t)]) Q E s:=by
 obtain⟨⟨c,d,dt,sl⟩,hl,hc,n,hd⟩:=hL;cases (show c=.type "list" from hc);cases (show dt=.seq items n from hd);refine E4 F.called_enumerate (by decide) (by kernel_rfl) (by kernel_rfl) (fun obj=>by first | exact F.args_object_init_2 obj _ | trivial | simp[argsOk]) F.entry_enumerate_new (AG l items n d sl t) ⟨hl,?_⟩;have hz:(s.heap.push { cls:=.type "list_iterator",data:=.fields #[.ref l,.int 0 0] }).objs.size=s.heap.objs.size+1:=O7 ..;rw[hz];have he:=MZ (s.heap.push { cls:=.type "list_iterator",data:=.fields #[.ref l,.int 0 0] }) (o:={ cls:=.type "enumerate",data:=.fields #[.none,.bool false,.ref s.heap.objs.size,OK 1,.none,.none] }) rfl;rw[hz] at he;exact⟨⟨_,he,rfl⟩,h _ he ⟨_,MD _ (MZ _ rfl),rfl,rfl⟩ fun b o x=>MD _ (MD _ x)⟩
end
theorem AH{prog:MP}{w:Me}{A:Mi}{it:Addr}{fp:List Addr}{n:Nat}{P:Nat->Value->Prop}{St:Nat->Heap->Prop}(D:SJ prog w A it fp n P St) :
  SJ prog w A it fp (n+1) (fun i v=>∃j,i=j+1/\P j v) (fun i h=>∃j,i=j+1/\St j h) where
 live:=fun i h ⟨j,_,st⟩=>D.live j h st
 frame:=fun i h h' ⟨j,e,st⟩ k=>⟨j,e,D.frame j h h' st k⟩
 item:=fun i s Q E hi ⟨j,e,st⟩ hQ=>D.item j s Q E (by omega) st fun x h' tk p st' sb=>hQ x h' tk ⟨j,e,p⟩ ⟨j+1,by omega,st'⟩ sb
 done:=fun s Q E ⟨j,e,st⟩ hE=>by
  cases (show n=j by omega);exact D.done s Q E st hE
theorem DY{prog:MP}{w:Me}{A:Mi}{I:Addr}{fp wr:List Addr}{n:Nat}{Pt:Nat->Array Value->Prop}{St:Nat->Heap->Prop}{Mid:Nat->Addr->Heap->Prop}(W:WalksT prog w A I fp wr (n+1) Pt St Mid) :
  WalksT prog w A I fp wr n (fun i=>Pt (i+1)) (fun i=>St (i+1)) (fun i=>Mid (i+1)) where
 sub:=W.sub
 frame:=fun i=>W.frame (i+1)
 item:=fun i s Q E hi=>W.item (i+1) s Q E (by omega)
 go:=fun elts k pos i=>W.go elts k pos (i+1)
 apart:=fun i=>W.apart (i+1)
 done:=W.done
 self:=fun i=>W.self (i+1)
end PU
namespace PU
open PySem PySem.Spec PyProof.Rows L2 PySem.SeqAt
noncomputable def qj(ps:List PV):List (List PV):=(Mz ps.length).zipWith (fun (i:Nat) p=>[.int ((i+1:Nat):Int),p]) ps
def tJ:PV->Option (List PV)
 | .lst ps=>some ((qj ps).map .tup)
 | _=>none
def jR(f:PSt->R PV):PSt->R (List PV):=fun ρ=>f ρ >>= fun p=>R.ofO (tJ p)
variable[TW]
noncomputable def zS(xs:List V):List (List V):=(Mz xs.length).zipWith (fun (i:Nat) x=>[.int ((i+1:Nat):Int),x]) xs
theorem wM{K:M9}{H:Hp}{ps:List PV}{xs:List V}(r:aM K H ps xs):∀(i:Nat)(qs:List PV)(ys:List V),(qj ps)[i]?=some qs->(zS xs)[i]?=some ys->aM K H qs ys:=fun i qs ys h1 h2=>by
 unfold qj at h1;unfold zS at h2;rw[lN] at h1 h2;cases e:ps[i]? with
 | none=>rw[e] at h1;cases h1
 | some p=>
  rw[e] at h1;obtain⟨x,ex,rp⟩:=r.get e;rw[ex] at h2;cases h1;cases h2;exact⟨_,_,rfl,rfl,_,_,rfl,rp,rfl⟩
theorem ug{P:MP}{w:Me}{K:M9}{elts:List Expr}{kk:Nat}{tp:O4}(a it e:Addr)(xs:List V)(hne:e≠it)(hae:a≠e)(hai:a≠it) :
  Turn P w K (.Tuple elts kk tp) (mJ xs.length (fun H=>SqL K H a xs) (zS xs)) [e,it] e (fun i h=>(∃old,IsEnum h e it ((i+1:Nat):Int) old)/\h.IsListIter it a i):=by
 refine sC (wr:=[e,it]) (n:=xs.length) (fun X pins σ H s i hP hw hK hc I st hg=>?_) (by simp) (fun b hb=>hb) (fun i h st b hb=>?_) (fun i h h' st k=>?_) (fun i H h=>h.1) (fun i H h=>h.1) fun A i s Q E st h=>Oh st.1.choose_spec h
 ·subst hP hw hK
  have hq:SqL X.K H a xs:=by rcases hg with h | h <;> exact h.2
  obtain⟨its,rv,pl,hz⟩:=I.list hq;have hl:=rv.length;have W:=DY (Qy (A:=X.A) (AH (TF (prog:=X.prog) (w:=X.w) (A:=X.A.in1) (I.ok.hd hc) it a hai its.toArray)) e hne (by simp[hne,Nd hae]) (by simp));rw[show its.toArray.size=xs.length by simp[hl]] at W;refine⟨_,_,_,_,W,⟨st.1,i,rfl,st.2,pl.isList⟩,fun j h ⟨s1,j',ej,s2⟩=>⟨s1,by cases (show j=j' by omega);exact s2.1⟩,fun vals hv=>?_⟩;obtain⟨t,x,⟨j,ej,hx⟩,rfl⟩:=hv;cases (show i=j by omega);have hx:its[i]?=some x:=by simpa using hx
  have hi:i<xs.length:=by rw[hl];exact(Mc.mp hx).1
  have e1:xs[i]?=some xs[i]:=by simp[hi]
  obtain⟨u,eu,ru⟩:=rv.get e1;rw[hx] at eu;cases eu;refine⟨[.int ((i+1:Nat):Int),xs[i]],.cons ⟨t,rfl⟩ (.cons ru .nil),by show 2<=sizeLine;decide,fun z=>(by obtain⟨b,z⟩:=z _ Mb;cases z),fun T hT=>⟨T,_,rfl,hT,?_,rfl⟩⟩;unfold zS;rw[lN,e1];rfl
 ·obtain⟨⟨old,he⟩,o,ho,hc,hd⟩:=st
  rcases MH.mp hb with rfl | hb
  ·exact⟨_,he,fun v z=>by cases (show Qj _=QC v from z)⟩
  ·have:b=it:=by simpa using hb
   subst this;exact⟨o,ho,fun v z=>by rw[hd] at z;cases z⟩
 ·obtain⟨⟨old,he⟩,hi⟩:=st
  exact⟨⟨old,k e (by simp) _ he⟩,hi.at fun o x=>k it (by simp) o x⟩
theorem tK {C:Cn} {e:Expr} {elts:List Expr} {kk:Nat} {tp p pos kp cp:O4} {j} {f:PSt->R PV} (hg:Gl C.X "enumerate") (hm:C.X.mg "enumerate"=none) (he:EV C e f) (hs:MO [e] C.X.env=[(false,NC e C.X.env)]:=by exact cz rfl) :
  EI C (.Tuple elts kk tp) (.Call (.Name "enumerate" p) [e] [⟨some "start",.Constant (.int 1) j cp,kp⟩] pos) (jR f):=by
 intro pins s σ H Rk I ⟨ρ,vw,q⟩
 refine OB (lY I hg hm iQ (DX (thn ((cg he gg hs) pos pins s σ H (fun vs H'=>∃v p ps,vs=[v]/\Same H H'/\Rep C.X.K H' p v/\tJ p=some ps/\∀J H2,Same H' H2->ItP C.X.K J H2 ps->Rk J H2) I ⟨ρ,vw,q.bind.imp fun p _ k v H' s' r=>?_⟩)
  fun us s1 ⟨vs,H1,I1,r1,v,p,ps,ev,sm,rp,ep,k⟩=>thn ((D0 Bq G3) pos pins s1 σ H1 (fun vs H'=>vs=[.int 1]/\H'=H1) I1 ⟨rfl,rfl⟩) fun ws s2 ⟨zs,H2,I2,r2,ez,eh⟩=>?_) (by rw[hs];rfl) (by rw[hs];rfl) rfl rfl))
 ·obtain⟨ps,ep,k⟩:=k.ofO
  exact⟨v,p,ps,rfl,s',r,ep,fun J H2 s2 it=>k J H2 (s'.trans s2) it⟩
 ·subst ev ez eh
  obtain⟨u,rfl,ru⟩:=vals1 r1;obtain⟨u2,rfl,ru2⟩:=vals1 r2;obtain⟨t2,rfl⟩:=ru2;have hne:s2.heap.objs.size+1≠s2.heap.objs.size:=RV _;cases p with
  | lst qs=>
   cases ep;obtain⟨a,xs,rfl,g,rr⟩:=rp;cases ru;obtain⟨its,rv,pl,hz⟩:=I2.list g.l.l;have ha:a<s2.heap.objs.size:=by obtain⟨o,n,ho,_⟩:=pl;exact MJ ho
   refine E1 pl.isList fun h' he' hi' hk=>Oh he' ?_;refine⟨_,_,_,_,H2,rfl,I2.kept (t':=s2.toks) hk,ug a s2.heap.objs.size (s2.heap.objs.size+1) xs hne (MU (Q6 ha)) (MU ha),⟨⟨_,he'⟩,hi'⟩,fun b hb=>?_,k _ H2 (Same.refl H2) ?_⟩
   ·have hb:s2.heap.objs.size<=b:=by
     simp only[MH,Mf,or_false] at hb;rcases hb with rfl | rfl
     ·exact Q7 _
     ·exact MX _
    exact I2.fpOk hb (I2.hok.fresh hb)
   ·exact oM (by unfold qj;simp[rr.length]) (fun H3 k3=>(k3.sqF g).l.l) (wM rr)
  | _=>cases ep
end PU
namespace PU
open PySem PySem.Spec PyProof.Rows
section
variable{prog : MP}{w : Me}{A : Mi}{E : Value → MB → Prop}{s : MB}
theorem C7{it t:Addr}{i:Nat}{items:Array Value}{x:Value}{Q:Value->MB->Prop}(hit:s.heap.IsTupleIter it t i)(ht:s.heap.IsTuple t items)(hx:items[i]?=some x)
  (hQ:∀g,g.IsTupleIter it t (i+1)->Oj it s.heap g->Q x { s with heap:=g }):MK (MV prog w) A (N0 (.ref it)) Q E s:=by
 obtain⟨o,e1,e2,e3⟩:=id hit;obtain⟨o2,f1,_,n,f3⟩:=ht;unfold N0
 refine MA (ON (name:=M8 "__next__") hit.typeIs Om (OM Om hit.typeIs SI
  (show MK _ _ (TV (.ref it) 0 >>= _) _ _ s from MA (NB e1 e3 (x:=.ref t) rfl (show MK _ _ (if (Mq t == N3)=true then _ else _) _ _ s from ?_))) (S5 _)))
 rw[if_neg (show ¬ ((Mq t == N3)=true) from ML)];refine(show MK _ _ (TV (.ref it) 1 >>= _) _ _ s from MA (NB e1 e3 (x:=.int i 0) rfl (show MK _ _ (seqItems? (.ref t) >>= _) _ _ s from MA (Nx f1 f3 ?_))));simp only[hx,RD];refine MA (Q8 e1 e3 (by simp) (ME ⟨x,rfl,ME (hQ _ ⟨_,Nc _ e1 (Qg (Pv e3 _)),(Obj.cls_mapFields ..).trans e2,?_⟩ (Ri ..))⟩));rw[Pv e3];simp[OK]
theorem F6{it t:Addr}{i:Nat}{items:Array Value}{Q:Value->MB->Prop}(hh:A.handled=none)(hit:s.heap.IsTupleIter it t i)(ht:s.heap.IsTuple t items)(hx:items[i]?=none)
  (hE:∀g e,Heap.ExtBut it s.heap g->(∃o,g.get? e=some o/\o.cls=.type "StopIteration")->E (.ref e) { s with heap:=g }):MK (MV prog w) A (N0 (.ref it)) Q E s:=by
 obtain⟨o,e1,e2,e3⟩:=id hit;obtain⟨o2,f1,_,n,f3⟩:=ht;unfold N0
 refine MA (ON (name:=M8 "__next__") hit.typeIs Om (OM Om hit.typeIs SI
  (show MK _ _ (TV (.ref it) 0 >>= _) _ _ s from MA (NB e1 e3 (x:=.ref t) rfl (show MK _ _ (if (Mq t == N3)=true then _ else _) _ _ s from ?_))) (S5 _)))
 rw[if_neg (show ¬ ((Mq t == N3)=true) from ML)];refine(show MK _ _ (TV (.ref it) 1 >>= _) _ _ s from MA (NB e1 e3 (x:=.int i 0) rfl (show MK _ _ (seqItems? (.ref t) >>= _) _ _ s from MA (Nx f1 f3 ?_))));simp only[hx,RD];refine MA (Qo (MA (Q8 e1 e3 (by simp) (show MK _ _ (newExc (.type "StopIteration") [] >>= _) _ _ _ from MA ?_))));simp only[newExc,newTuple];refine MA (O3 (MA (m:=firstArgMember _ _) (wpAny_of_eq (a:=N3) (by first | rfl | (simp only[firstArgMember];rfl)) (O3 ?_ (by size_fits)))) (by size_fits));simp only[raiseNew];refine MA (wpAny_handled ?_)
 first | rw[show A.in1.handled=none from hh] | rw[hh]
 exact MA (ME (wpAny_throw (hE _ _ (((Ri ..).extBut.push _).push _) ⟨_,MZ _ rfl,rfl⟩)))
end
theorem yS{prog:MP}{w:Me}{A:Mi}(hh:A.handled=none)(it t:Addr)(hne:t≠it)(items:Array Value) :
  SJ prog w A it [it,t] items.size (fun i v=>items[i]?=some v) (fun i h=>h.IsTupleIter it t i/\h.IsTuple t items) where
 live:=fun _ _ ⟨⟨o,e,_⟩,_⟩=>⟨o,e⟩
 frame:=fun _ _ _ ⟨a,o,e,r⟩ k=>⟨a.at fun o e=>k it (by simp) o e,o,k t (by simp) o e,r⟩
 item:=fun i s Q E hi st hQ=>C7 st.1 st.2 (x:=items[i]) (by simp[hi]) fun g g1 g2=>hQ _ g s.toks (by simp[hi]) ⟨g1,st.2.extBut g2.extBut hne⟩ g2
 done:=fun s Q E st hE=>F6 hh st.1 st.2 (by simp) hE
structure ZtA(z T O i1 i2:Addr)(f1 f2:List Addr):Prop where
 nd:[z,T,O,i1,i2].Nodup
 m1:i1∈f1
 m2:i2∈f2
 a1:∀b∈f1,b≠z/\b≠O/\b≠i2
 a2:∀b∈f2,b≠z/\b≠O/\b≠i1
section
variable{prog : MP}{w : Me}{A : Mi}{E : Value → MB → Prop}{s : MB}{z T O i1 i2 : Addr}{f1 f2 : List Addr}{n1 n2 : Nat}{P1 P2 : Nat → Value → Prop}{S1 S2 : Nat → Heap → Prop}
theorem C6{k:Nat}{a b:Value}{Q:Value->MB->Prop}(Z:ZtA z T O i1 i2 f1 f2)(D1:SJ prog w A i1 f1 n1 P1 S1)(D2:SJ prog w A i2 f2 n2 P2 S2)(hz:R4 s.heap z T O .none)(hT:Oy s.heap T (.ref i1) (.ref i2))(hO:Oy s.heap O a b)
  (k1:k<n1) (k2:k<n2) (st1:S1 k s.heap) (st2:S2 k s.heap)
  (hQ:∀(x y:Value)(g:Heap)(N:Addr)(tk:Nat),P1 k x->P2 k y->R4 g z T O (OK N)->Oy g O x y->S1 (k+1) g->S2 (k+1) g->Oy g N x y->s.heap.objs.size<=N->(∀c o,c≠z->c≠O->c≠i1->c≠i2->s.heap.get? c=some o->g.get? c=some o)->Q (.ref N) { s with heap:=g,toks:=tk }) :
  MK (MV prog w) A (Builtin.«zip.__next__» ⟨[.ref z],[]⟩) (fun fin s'=>∃v,fin=.done (.ret v)/\Q v s') E s:=by
 have nd:=Z.nd;simp only[Mo,MH,Mf,or_false,not_or] at nd;obtain⟨⟨zT,zO,z1,z2⟩,⟨TO,T1,T2⟩,⟨O1,O2⟩,n12,_⟩:=nd;refine(show MK _ _ (TV (.ref z) 2 >>= _) _ _ _ from MA (NB hz rfl (x:=.bool false) rfl (show MK _ _ (TV (.ref z) 3 >>= _) _ _ _ from MA (NB hz rfl (x:=.ref T) rfl (MA (Nx hT rfl (show MK _ _ (Nm (.ref z) >>= _) _ _ _ from MA ?_)))))));unfold Nm;refine MA (NB hz rfl (x:=.none) rfl (ME ?_));simp only[if_true];refine MA (Qo (MA (NB hz rfl (x:=.ref O) rfl (MA (PC hz (by simp) fun g1 hz1 c1=>MA ?_)))));have hz1:R4 g1 z T O .ellipsis:=hz1;simp only[List.zipIdx_cons,List.zipIdx_nil,QW,List.forIn_nil];refine MA (MA (QO (show MK _ _ (N0 (.ref i1) >>= _) _ _ _ from MA (D1.item k _ _ _ k1 (D1.frame _ _ _ st1 fun b hb o e=>c1.extBut _ _ (Z.a1 b hb).1 e) fun x g2 t2 p1 s2 c2=>ME ?_))));have hO2:Oy g2 O a b:=c2.extBut _ _ O1 (c1.extBut _ _ (Nd zO) hO);refine MA (Nx hO2 rfl (MA (R1 hO2 fun g3 hO3 c3=>MA (S8 (ME ?_)))));have hO3:Oy g3 O x b:=hO3;refine MA (MA (QO (show MK _ _ (N0 (.ref i2) >>= _) _ _ _ from MA (D2.item k _ _ _ k2 (D2.frame _ _ _ st2 fun b hb o e=>c3.extBut _ _ (Z.a2 b hb).2.1 (c2.extBut _ _ (Z.a2 b hb).2.2 (c1.extBut _ _ (Z.a2 b hb).1 e))) fun y g4 t4 p2 s4 c4=>ME ?_))));have hO4:Oy g4 O x b:=c4.extBut _ _ O2 hO3;refine MA (Nx hO4 rfl (MA (R1 hO4 fun g5 hO5 c5=>MA (S8 (ME (ME ?_))))));have hO5:Oy g5 O x y:=hO5;refine MA (Nx hO5 rfl (MA (wpAny_newTuple ?_)));have up5:∀c o,c≠z->c≠O->c≠i1->c≠i2->s.heap.get? c=some o->g5.get? c=some o:=fun c o d1 d2 d3 d4 e=>c5.extBut _ _ d2 (c4.extBut _ _ d4 (c3.extBut _ _ d2 (c2.extBut _ _ d3 (c1.extBut _ _ d1 e))));have hz5:R4 g5 z T O .ellipsis:=c5.extBut _ _ zO (c4.extBut _ _ z2 (c3.extBut _ _ zO (c2.extBut _ _ z1 hz1)));have q1:S1 (k+1) g5:=D1.frame _ _ _ s2 fun b hb o e=>c5.extBut _ _ (Z.a1 b hb).2.1 (c4.extBut _ _ (Z.a1 b hb).2.2 (c3.extBut _ _ (Z.a1 b hb).2.1 e));have q2:S2 (k+1) g5:=D2.frame _ _ _ s4 fun b hb o e=>c5.extBut _ _ (Z.a2 b hb).2.1 e;have lz:z<g5.objs.size:=MJ hz5;have sz:s.heap.objs.size<=g5.objs.size:=QU (by rw[c5.1,c4.1,c3.1,c2.1,c1.1]);refine(show MK _ _ (Po (.ref z) (.ref g5.objs.size) >>= _) _ _ _ from MA ?_);unfold Po;have hz6:R4 (g5.push { cls:=.type "tuple",data:=.seq #[x,y] }) z T O .ellipsis:=MD _ hz5;refine MA (PC hz6 (by simp) fun g7 hz7 c7=>PC (show R4 g7 z T O (OK g5.objs.size) from hz7) (by simp) fun g8 hz8 c8=>ME ⟨_,rfl,?_⟩);have up8:∀c o,c≠z->(g5.push { cls:=.type "tuple",data:=.seq #[x,y] }).get? c=some o->g8.get? c=some o:=fun c o d e=>c8.extBut _ _ d (c7.extBut _ _ d e);have up:∀c o,c≠z->g5.get? c=some o->g8.get? c=some o:=fun c o d e=>up8 c o d (MD _ e)
 exact hQ x y g8 g5.objs.size _ p1 p2 hz8 (up _ _ (Nd zO) hO5) (D1.frame _ _ _ q1 fun b hb o e=>up b o (Z.a1 b hb).1 e) (D2.frame _ _ _ q2 fun b hb o e=>up b o (Z.a2 b hb).1 e) (up8 _ _ (NZ lz) (MZ _ rfl)) sz
  fun c o d1 d2 d3 d4 e=>up c o d1 (up5 c o d1 d2 d3 d4 e)
theorem C5{a b:Value}{Q:Fin->MB->Prop}(Z:ZtA z T O i1 i2 f1 f2)(D1:SJ prog w A i1 f1 n1 P1 S1)(D2:SJ prog w A i2 f2 n2 P2 S2)(hz:R4 s.heap z T O .none)(hT:Oy s.heap T (.ref i1) (.ref i2))(hO:Oy s.heap O a b)
  (st1:S1 (TK n1 n2) s.heap) (st2:S2 (TK n1 n2) s.heap)
  (hE:∀g e tk,(∀c o,c≠z->c≠O->c≠i1->c≠i2->s.heap.get? c=some o->g.get? c=some o)->(∃o,g.get? e=some o/\o.cls=.type "StopIteration")->E (.ref e) { s with heap:=g,toks:=tk }) :
  MK (MV prog w) A (Builtin.«zip.__next__» ⟨[.ref z],[]⟩) Q E s:=by
 have nd:=Z.nd;simp only[Mo,MH,Mf,or_false,not_or] at nd;obtain⟨⟨zT,zO,z1,z2⟩,⟨TO,T1,T2⟩,⟨O1,O2⟩,n12,_⟩:=nd;refine(show MK _ _ (TV (.ref z) 2 >>= _) _ _ _ from MA (NB hz rfl (x:=.bool false) rfl (show MK _ _ (TV (.ref z) 3 >>= _) _ _ _ from MA (NB hz rfl (x:=.ref T) rfl (MA (Nx hT rfl (show MK _ _ (Nm (.ref z) >>= _) _ _ _ from MA ?_)))))));unfold Nm;refine MA (NB hz rfl (x:=.none) rfl (ME ?_));simp only[if_true];refine MA (Qo (MA (NB hz rfl (x:=.ref O) rfl (MA (PC hz (by simp) fun g1 hz1 c1=>MA ?_)))));have hz1:R4 g1 z T O .ellipsis:=hz1;simp only[List.zipIdx_cons,List.zipIdx_nil,QW,List.forIn_nil]
 have fin:∀{g g':Heap} {e:Addr} {tk:Nat},R4 g' z T O .ellipsis->(∀c o,c≠z->c≠O->c≠i1->c≠i2->s.heap.get? c=some o->g'.get? c=some o)->(∃o,g'.get? e=some o/\o.cls=.type "StopIteration")->
   MK (MV prog w) A (setField (.ref z) 0 .none) (fun _ s'=>E (.ref e) s') E { s with heap:=g',toks:=tk }:=fun {g g' e tk} h1 h2 ⟨o,h3,h4⟩=>by
  have ez:e≠z:=fun q=>by subst q;rw[h1] at h3;cases h3;simp at h4
  exact PC h1 (by simp) fun g3 _ c3=>hE g3 e tk (fun c o d1 d2 d3 d4 x=>c3.extBut _ _ d1 (h2 c o d1 d2 d3 d4 x)) ⟨o,c3.extBut _ _ ez h3,h4⟩
 by_cases h12:n1<=n2
 ·rw[Nat.min_eq_left h12] at st1
  refine MA (MA (QO (show MK _ _ (N0 (.ref i1) >>= _) _ _ _ from MA (D1.done _ _ _ (D1.frame _ _ _ st1 fun b hb o e=>c1.extBut _ _ (Z.a1 b hb).1 e) fun g2 e c2 he=>?_))));exact fin (g:=g2) (c2 _ _ z1 hz1) (fun c o d1 d2 d3 d4 x=>c2 _ _ d3 (c1.extBut _ _ d1 x)) he
 ·have h21:n2<n1:=by omega
  rw[Nat.min_eq_right (QT h21)] at st1 st2;refine MA (MA (QO (show MK _ _ (N0 (.ref i1) >>= _) _ _ _ from MA (D1.item n2 _ _ _ h21 (D1.frame _ _ _ st1 fun b hb o e=>c1.extBut _ _ (Z.a1 b hb).1 e) fun x g2 t2 p1 s2 c2=>ME ?_))));have hO2:Oy g2 O a b:=c2.extBut _ _ O1 (c1.extBut _ _ (Nd zO) hO);refine MA (Nx hO2 rfl (MA (R1 hO2 fun g3 hO3 c3=>MA (S8 (ME ?_)))));refine MA (MA (QO (show MK _ _ (N0 (.ref i2) >>= _) _ _ _ from MA (D2.done _ _ _ (D2.frame _ _ _ st2 fun b hb o e=>c3.extBut _ _ (Z.a2 b hb).2.1 (c2.extBut _ _ (Z.a2 b hb).2.2 (c1.extBut _ _ (Z.a2 b hb).1 e))) fun g4 e c4 he=>?_))));exact fin (g:=g4) (c4 _ _ z2 (c3.extBut _ _ zO (c2.extBut _ _ z1 hz1))) (fun c o d1 d2 d3 d4 x=>c4 _ _ d4 (c3.extBut _ _ d2 (c2.extBut _ _ d3 (c1.extBut _ _ d1 x)))) he
end
end PU
namespace PU
open PySem PySem.Spec PyProof.Rows L2 PySem.SeqAt
theorem yQ{prog:MP}{w:Me}{A:Mi}{z T O i1 i2:Addr}{f1 f2:List Addr}{n1 n2:Nat}{P1 P2:Nat->Value->Prop}{S1 S2:Nat->Heap->Prop}(Z:ZtA z T O i1 i2 f1 f2)(hT1:T ∉ f1)(hT2:T ∉ f2)
  (D1:SJ prog w A.in1 i1 f1 n1 P1 S1) (D2:SJ prog w A.in1 i2 f2 n2 P2 S2) :
  WalksT prog w A z (z::T::O::(f1++f2)) [z,O,i1,i2] (TK n1 n2) (fun i vals=>∃x y,P1 i x/\P2 i y/\vals=#[x,y])
   (fun i h=>R4 h z T O .none/\Oy h T (.ref i1) (.ref i2)/\(∃a b,Oy h O a b)/\S1 i h/\S2 i h)
   (fun i N h=>R4 h z T O (OK N)/\Oy h T (.ref i1) (.ref i2)/\(∃a b,Oy h O a b)/\S1 (i+1) h/\S2 (i+1) h/\N ∉ [z,O,i1,i2]):=by
 have nd:=Z.nd;simp only[Mo,MH,Mf,or_false,not_or] at nd;obtain⟨⟨zT,zO,z1,z2⟩,⟨TO,T1,T2⟩,⟨O1,O2⟩,n12,_⟩:=nd
 have fr:∀{h h':Heap},(∀b∈z::T::O::(f1++f2),∀o,h.get? b=some o->h'.get? b=some o)->(∀b∈f1,∀o,h.get? b=some o->h'.get? b=some o)/\∀b∈f2,∀o,h.get? b=some o->h'.get? b=some o:=
  fun k=>⟨fun b hb=>k b (by simp[hb]),fun b hb=>k b (by simp[hb])⟩
 refine⟨fun b hb=>?_,fun i h h' st k=>⟨k z (by simp) _ st.1,k T (by simp) _ st.2.1,?_,D1.frame _ _ _ st.2.2.2.1 (fr k).1,D2.frame _ _ _ st.2.2.2.2 (fr k).2⟩,fun i s Q E hi st hQ=>?_,fun elts k pos i N s Q E hm hQ=>?_,fun i N h hm=>hm.2.2.2.2.2,fun s Q E st hQ=>?_,fun i s Q E st hQ=>Rq st.1 hQ⟩
 ·simp only[MH,Mf,or_false] at hb
  rcases hb with rfl | rfl | rfl | rfl
  ·simp
  ·simp
  ·simp[Z.m1]
  ·simp[Z.m2]
 ·obtain⟨a,b,hO⟩:=st.2.2.1
  exact⟨a,b,k O (by simp) _ hO⟩
 ·obtain⟨hz,hT,⟨a,b,hO⟩,s1,s2⟩:=st
  have hY:s.TypeIs (.ref z) "zip":=⟨_,hz,rfl⟩;have l1:i1<s.heap.objs.size:=by obtain⟨o,e⟩:=D1.live _ _ s1;exact MJ e
  have l2:i2<s.heap.objs.size:=by obtain⟨o,e⟩:=D2.live _ _ s2;exact MJ e
  have l3:z<s.heap.objs.size:=MJ hz;have l4:O<s.heap.objs.size:=MJ hO;unfold pyNext
  refine MA (RE (ON (name:=M8 "__next__") hY Qi (OM Qi hY F.entry_zip_next
   (C6 Z D1 D2 hz hT hO (MF hi (Nat.min_le_left ..)) (MF hi (Nat.min_le_right ..)) s1 s2 fun x y g N tk p1 p2 q1 q2 q3 q4 q5 q6 q7=>ME ?_) (F.args_zip_next_1 _))))
  exact hQ N #[x,y] g tk ⟨x,y,p1,p2,rfl⟩ q6 ⟨_,q5,rfl,_,rfl⟩ ⟨q1,q7 _ _ (Nd zT) TO T1 T2 hT,⟨_,_,q2⟩,q3,q4,by simp only[MH,Mf,or_false,not_or];exact⟨NZ (MF l3 q6),NZ (MF l4 q6),NZ (MF l1 q6),NZ (MF l2 q6)⟩⟩
   fun c o hc e=>q7 c o (fun x=>hc (by simp[x])) (fun x=>hc (by simp[x])) (fun x=>hc (by simp[x])) (fun x=>hc (by simp[x])) e
 ·obtain⟨hz,hT,⟨a,b,hO⟩,s1,s2,_⟩:=hm
  exact wpAny_letOwnedTupleGo_zip hz fun h' hz' hs'=>hQ h' ⟨hz',hs'.extBut _ _ (Nd zT) hT,⟨a,b,hs'.extBut _ _ (Nd zO) hO⟩,D1.frame _ _ _ s1 fun b hb o e=>hs'.extBut _ _ (Z.a1 b hb).1 e,D2.frame _ _ _ s2 fun b hb o e=>hs'.extBut _ _ (Z.a2 b hb).1 e⟩ fun c o hc e=>hs'.extBut _ _ (fun x=>hc (by simp[x])) e
 ·obtain⟨hz,hT,⟨a,b,hO⟩,s1,s2⟩:=st
  have hY:s.TypeIs (.ref z) "zip":=⟨_,hz,rfl⟩;unfold pyNext
  refine MA (RE (ON (name:=M8 "__next__") hY Qi (OM Qi hY F.entry_zip_next
   (C5 Z D1 D2 hz hT hO s1 s2 fun g e tk q1 ⟨o,ho,hc⟩=>MA (Qe (T:="StopIteration") (b:=true) ⟨o,ho,hc⟩ isSubtype_stop (ME (hQ g tk fun c o hc e=>q1 c o (fun x=>hc (by simp[x])) (fun x=>hc (by simp[x])) (fun x=>hc (by simp[x])) (fun x=>hc (by simp[x])) e)))) (F.args_zip_next_1 _))))
noncomputable def ztH(h:Heap)(t l:Addr):Heap:=
 ((((h.push { cls:=.type "tuple_iterator",data:=.fields #[.ref t,.int 0 0] }).push { cls:=.type "list_iterator",data:=.fields #[.ref l,.int 0 0] }).push { cls:=.type "tuple",data:=.seq #[.ref h.objs.size,.ref (h.objs.size+1)] }).push { cls:=.type "tuple",data:=.seq #[.none,.none] }).push
  { cls:=.type "zip",data:=.fields #[.none,.bool false,.bool false,.ref (h.objs.size+2),.ref (h.objs.size+3)] }
theorem yR (t l:Addr) (xs ys:Array Value):Meets (Builtin.«zip.__new__» ⟨[.type "zip",.ref t,.ref l],[]⟩) (fun _ R s=>s.heap.IsTuple t xs/\s.heap.IsList l ys/\R (.ok (.ret (.ref (s.heap.objs.size+4)))) { s with heap:=ztH s.heap t l }):=
 .of_wp fun prog w A R s h=>by
  obtain⟨hp,g,d,tk,os⟩:=s;obtain⟨h1,h2,h⟩:=h;have sb:=sub_zip;have k1:Heap.IsTuple (Sb ⟨hp,g,d,tk,os⟩) t xs:=h1;have k2:Heap.IsList (Sb ⟨hp.push { cls:=.type "tuple_iterator",data:=.fields #[.ref t,.int 0 0] },g,d,tk,os⟩) l ys:=Heap.IsList.push h2 _
  wp_walk using wpAny_pyIter_tuple k1,OI k2
  refine⟨_,rfl,?_⟩;simp only[O7];exact h
theorem C8{prog:MP}{w:Me}{A:Mi}{E:Value->MB->Prop}{s:MB}{t l:Addr}{xs ys:Array Value}{Q:Value->MB->Prop}(h1:s.heap.IsTuple t xs)(h2:s.heap.IsList l ys)
  (hQ:∀h',R4 h' (s.heap.objs.size+4) (s.heap.objs.size+2) (s.heap.objs.size+3) .none/\Oy h' (s.heap.objs.size+2) (.ref s.heap.objs.size) (.ref (s.heap.objs.size+1))/\(∃a b,Oy h' (s.heap.objs.size+3) a b)/\
   h'.IsTupleIter s.heap.objs.size t 0/\h'.IsListIter (s.heap.objs.size+1) l 0->(∀c o,s.heap.get? c=some o->h'.get? c=some o)->Q (.ref (s.heap.objs.size+4)) { s with heap:=h' }) :
  MK (MV prog w) A (call (.type "zip") [.ref t,.ref l]) Q E s:=by
 refine callType_new F.called_zip (by decide) (F.typeCall_zip_2 _ _) (F.newCall_zip_2 _ _) (fun obj=>F.args_object_init_3 obj _ _) F.entry_zip_new (yR t l xs ys) ⟨h1,h2,?_⟩;have up:∀{h:Heap}{o:Obj}{c:Addr}{x:Obj},h.get? c=some x->(h.push o).get? c=some x:=fun e=>MD _ e;have at':∀(h:Heap)(o:Obj)(n:Nat),h.objs.size=n->o.isFreed=false->(h.push o).get? n=some o:=fun h o n e f=>by subst e;exact MZ _ f
 have g5:(ztH s.heap t l).get? (s.heap.objs.size+4)=some _:=at' _ _ _ (by simp only[O7]) rfl;have g4:(ztH s.heap t l).get? (s.heap.objs.size+3)=some _:=up (at' _ _ _ (by simp only[O7]) rfl);have g3:(ztH s.heap t l).get? (s.heap.objs.size+2)=some _:=up (up (at' _ _ _ (by simp only[O7]) rfl));have g2:(ztH s.heap t l).get? (s.heap.objs.size+1)=some _:=up (up (up (at' _ _ _ (by simp only[O7]) rfl)));have g1:(ztH s.heap t l).get? s.heap.objs.size=some _:=up (up (up (up (at' _ _ _ rfl rfl))));exact⟨⟨_,g5,rfl⟩,hQ _ ⟨g5,g3,⟨_,_,g4⟩,⟨_,g1,rfl,rfl⟩,_,g2,rfl,rfl⟩ fun c o x=>up (up (up (up (up x))))⟩
theorem yT{n t l:Addr}(h1:t<n)(h2:l<n):ZtA (n+4) (n+2) (n+3) n (n+1) [n,t] [n+1,l]:=by
 have q1:(t:Nat)<n:=h1;have q2:(l:Nat)<n:=h2;refine⟨?_,by simp,by simp,fun b hb=>?_,fun b hb=>?_⟩
 ·simp
 ·simp only[MH,Mf,or_false] at hb
  rcases hb with rfl | rfl
  ·exact⟨MU (P9 (by decide)),MU (P9 (by decide)),MU (P9 (by decide))⟩
  ·exact⟨MU (MF q1 (NK _ _)),MU (MF q1 (NK _ _)),MU (MF q1 (NK _ _))⟩
 ·simp only[MH,Mf,or_false] at hb
  rcases hb with rfl | rfl
  ·exact⟨MU (Tb (by decide) n),MU (Tb (by decide) n),NZ (P9 (by decide))⟩
  ·exact⟨MU (MF q2 (NK _ _)),MU (MF q2 (NK _ _)),MU q2⟩
def yV(f g:PSt->R PV):PSt->R (List PV):=fun ρ=>f ρ >>= fun p=>g ρ >>= fun q=>(match p,q with
 | .tup ps,.lst qs=>if (ps.all ik || qs.all ik)=true then .ok ((uZ ps qs).map .tup) else .no
 | _,_=>.no)
variable[TW]
theorem vB{P:MP}{w:Me}{K:M9}{elts:List Expr}{kk:Nat}{tp:O4}{z T O i1 i2 a b:Addr}(Z:ZtA z T O i1 i2 [i1,a] [i2,b])(hTa:T≠a)(hTb:T≠b)(ha1:a≠i1)(hb2:b≠i2)(xs ys:List V)(hfl:(∀x∈xs,∀b,x≠V.ref b)\/(∀y∈ys,∀b,y≠V.ref b)) :
  Turn P w K (.Tuple elts kk tp) (mJ (TK xs.length ys.length) (fun H=>SqT K H a xs/\SqL K H b ys) (HA xs ys)) [z,T,O,i1,i2] z
   (fun i h=>R4 h z T O .none/\Oy h T (.ref i1) (.ref i2)/\(∃a b,Oy h O a b)/\h.IsTupleIter i1 a i/\h.IsListIter i2 b i):=by
 have nd:=Z.nd;simp only[Mo,MH,Mf,or_false,not_or] at nd;obtain⟨⟨zT,zO,z1,z2⟩,⟨TO,T1,T2⟩,⟨O1,O2⟩,n12,_⟩:=nd;refine sC (wr:=[z,O,i1,i2]) (n:=TK xs.length ys.length) (fun X pins σ H s i hP hw hK hc I st hg=>?_) (by simp) (fun b hb=>by simp at hb ⊢;rcases hb with rfl | rfl | rfl | rfl <;> simp) (fun i h st b hb=>?_) (fun i h h' st k=>?_) (fun i H h=>h.1) (fun i H h=>h.1) fun A i s Q E st h=>Rq st.1 h
 ·subst hP hw hK
  obtain⟨hq1,hq2⟩:SqT X.K H a xs/\SqL X.K H b ys:=by rcases hg with h | h <;> exact h.2
  obtain⟨its1,rv1,pl1,hz1⟩:=I.tuple hq1;obtain⟨its2,rv2,pl2,hz2⟩:=I.list hq2;have hl1:=rv1.length;have hl2:=rv2.length;have W:=yQ (prog:=X.prog) (w:=X.w) (A:=X.A) Z (by simp;exact⟨T1,hTa⟩) (by simp;exact⟨T2,hTb⟩) (yS (A:=X.A.in1) (I.ok.hd hc) i1 a ha1 its1.toArray) (TF (A:=X.A.in1) (I.ok.hd hc) i2 b hb2 its2.toArray);rw[show TK its1.toArray.size its2.toArray.size=TK xs.length ys.length by simp[hl1,hl2]] at W;refine⟨_,_,_,_,W,⟨st.1,st.2.1,st.2.2.1,⟨st.2.2.2.1,pl1⟩,st.2.2.2.2,pl2.isList⟩,fun j h st=>⟨st.1,st.2.1,st.2.2.1,st.2.2.2.1.1,st.2.2.2.2.1⟩,fun vals hv=>?_⟩;obtain⟨x,y,hx,hy,rfl⟩:=hv;have hx:its1[i]?=some x:=by simpa using hx
  have hy:its2[i]?=some y:=by simpa using hy
  have h1:i<xs.length:=by rw[hl1];exact(Mc.mp hx).1
  have h2:i<ys.length:=by rw[hl2];exact(Mc.mp hy).1
  have e1:xs[i]?=some xs[i]:=by simp[h1]
  have e2:ys[i]?=some ys[i]:=by simp[h2]
  obtain⟨u,eu,ru⟩:=rv1.get e1;rw[hx] at eu;cases eu;obtain⟨v,ev,rv⟩:=rv2.get e2;rw[hy] at ev;cases ev;refine⟨[xs[i],ys[i]],.cons ru (.cons rv .nil),by show 2<=sizeLine;decide,fun z=>?_,fun T hT=>⟨T,_,rfl,hT,?_,rfl⟩⟩
  ·rcases hfl with g | g
   ·exact tE ru (g _ (O6 h1)) (z _ Mb)
   ·exact tE rv (g _ (O6 h2)) (z _ (MY _ Mb))
  unfold HA;rw[PL,e1,e2]
 ·obtain⟨hz,hTI,⟨u,v,hTO⟩,⟨o1,ho1,_,hd1⟩,o2,ho2,_,hd2⟩:=st
  simp only[MH,Mf,or_false] at hb;rcases hb with rfl | rfl | rfl | rfl | rfl
  ·exact⟨_,hz,fun v z=>by cases (show Qj _=QC v from z)⟩
  ·exact⟨_,hTI,fun v z=>by cases (show Data.seq _ _=QC v from z)⟩
  ·exact⟨_,hTO,fun v z=>by cases (show Data.seq _ _=QC v from z)⟩
  ·exact⟨o1,ho1,fun v z=>by rw[hd1] at z;cases z⟩
  ·exact⟨o2,ho2,fun v z=>by rw[hd2] at z;cases z⟩
 ·obtain⟨hz,hTI,⟨u,v,hTO⟩,h1,h2⟩:=st
  exact⟨k z (by simp) _ hz,k T (by simp) _ hTI,⟨u,v,k O (by simp) _ hTO⟩,h1.at fun o x=>k i1 (by simp) o x,h2.at fun o x=>k i2 (by simp) o x⟩
theorem E5 {C:Cn} {e e2:Expr} {elts:List Expr} {kk:Nat} {tp p pos:O4} {f g:PSt->R PV} (hg:Gl C.X "zip") (hm:C.X.mg "zip"=none) (he:EV C e f) (he2:EV C e2 g)
  (hs:MO [e,e2] C.X.env=[(false,NC e C.X.env),(false,NC e2 C.X.env)]:=by exact o8 rfl rfl) (hs2:MO [e2] C.X.env=[(false,NC e2 C.X.env)]:=by exact cz rfl) :
  EI C (.Tuple elts kk tp) (.Call (.Name "zip" p) [e,e2] [] pos) (yV f g):=by
 intro pins s σ H Rk I ⟨ρ,vw,q⟩
 refine Call_ (lY I hg hm PyProof.Rows.boot_zip (OL (thn ((cg he (cg he2 gg hs2) (by rw[hs,hs2])) pos pins s σ H (fun vs H'=>∃v u ps qs,vs=[v,u]/\Same H H'/\Rep C.X.K H' (.tup ps) v/\Rep C.X.K H' (.lst qs) u/\(ps.all ik || qs.all ik)=true/\∀J H2,Same H' H2->ItP C.X.K J H2 ((uZ ps qs).map .tup)->Rk J H2) I ⟨ρ,vw,q.bind.imp fun p _ k v H1 s1 r1=>⟨ρ,vw.same s1,(k.bind.same s1).imp fun p2 _ k2 u H2 s2 r2=>?_⟩⟩)
  fun us s1 ⟨vs,H1,I1,r1,v,u,ps,qs,ev,sm,rp,rq,hfl,k⟩=>?_) (by rw[hs,hs2]) (by rw[hs2];rfl)))
 ·cases p with
  | tup ps=>
   cases p2 with
   | lst qs=>
    by_cases hfl:(ps.all ik || qs.all ik)=true
    ·simp only[if_pos hfl] at k2
     exact⟨v,u,ps,qs,rfl,s1.trans s2,r1.same s2,r2,hfl,fun J H3 s3 it=>k2 J H3 ((s1.trans s2).trans s3) it⟩
    ·simp only[if_neg hfl] at k2
     exact MG k2
   | _=>exact MG k2
  | _=>exact MG k2
 ·subst ev
  obtain⟨w1,w2,rfl,rw1,rw2⟩:=vals2 r1;obtain⟨a,xs,rfl,g1,rr1⟩:=rp;obtain⟨b,ys,rfl,g2,rr2⟩:=rq;cases rw1;cases rw2;obtain⟨its1,rv1,pl1,hz1⟩:=I1.tuple g1.sq;obtain⟨its2,rv2,pl2,hz2⟩:=I1.list g2.l.l;have ha:a<s1.heap.objs.size:=by obtain⟨o,ho,_⟩:=pl1;exact MJ ho
  have hb:b<s1.heap.objs.size:=by obtain⟨o,n,ho,_⟩:=pl2;exact MJ ho
  have hfl2:(∀x∈xs,∀b,x≠V.ref b)\/(∀y∈ys,∀b,y≠V.ref b):=by
   cases hA:ps.all ik with
   | true=>exact .inl (qI hA rr1)
   | false=>
    rw[hA,SR] at hfl;exact .inr (qI hfl rr2)
  refine C8 pl1 pl2.isList fun h' st hk=>Rq st.1 ?_
  refine⟨_,[s1.heap.objs.size+4,s1.heap.objs.size+2,s1.heap.objs.size+3,s1.heap.objs.size,s1.heap.objs.size+1],_,_,H1,rfl,I1.kept (t':=s1.toks) hk,
   vB (yT ha hb) (NZ (MF ha (NK _ _))) (NZ (MF hb (NK _ _))) (MU ha) (MU (MF hb (NK _ _))) xs ys hfl2,st,fun c hc=>?_,k _ H1 (Same.refl H1) ?_⟩
  ·have hc:s1.heap.objs.size<=c:=by
    simp only[MH,Mf,or_false] at hc;rcases hc with rfl | rfl | rfl | rfl | rfl <;> omega
   exact I1.fpOk hc (I1.hok.fresh hc)
  ·refine oM ?_ (fun H2 k2=>⟨k2.sqT g1.sq,(k2.sqF g2).l.l⟩) (yU rr1 rr2)
   unfold uZ;rw[Qt,rr1.length,rr2.length]
end PU
namespace PU
open PySem PySem.Spec PyProof.Rows L2
def CG(m n:Nat)(g:PSt->XO Fb)(qs:List PV):Option PV:=if qs.length=m then (match g (start n qs) with
 | .ok (.ret p) _=>some p
 | .ok .next _=>some .non
 | _=>none) else none
variable[TW]
section
variable{P : MP}{w : Me}{K : M9}{mg : Str → Option Value}{base : Heap}{x : Str}{st : Stmt}{N ps : List Str}{k : Nat}{g : PSt → XO Fb}
def HsB(K:M9)(mg:Str->Option Value)(x:Str)(st:Stmt)(ps:List Str):Prop:=∃f fd,Fun K x x st f fd/\mg x=some (.ref f)/\Binds K fd ps []
theorem F0(h:Hs K mg x st) (hb:∀(kV doc pm:Value)(an:Option Addr)(cdv ct:Value)(us:List Value),us.length=ps.length->Rg (NJ x x (cR st) (ba st) (af st) .none kV doc pm an cdv ct) ⟨us,[]⟩=pure (ps.zip us):=by
   intro _ _ _ _ _ _ us hl;repeat' (first | (exfalso;simp only[Np] at hl;omega) | (rcases us with _ | ⟨_,us⟩) | rfl)):HsB K mg x st ps:=by
 obtain⟨f,fd,F,hm⟩:=h;exact⟨f,fd,F,hm,F.binds hb⟩
theorem Gi{qual:Str}{f:Addr}{fd:FuncData}(F:Fun K x qual st f fd)(S:FnScope N ps (af st))
  (hbody:∀(cdv:Value)(A:Mi)(outer:List QX)(s:MB)(H:Hp)(E:XK),Room k (A.deeper (Og qual (af st) s.heap.objs.size f cdv))->SBs (Eb P w K mg base N qual (af st) f cdv A outer s H E) 0 (ba st) g) :
  FnOk P w K mg base CX0 (k+1) f fd ps (spP K ps.length (CG ps.length N.length g)):=by
 refine F.ok S (fun vs H Q E h=>h.1) (fun cdv A outer s H vs Q E hr h=>?_);obtain⟨hl,tb,qs,p,r,e,k⟩:=h;refine⟨_,hbody cdv A outer s H E hr,_,_,pO tb r,?_⟩;unfold CG at e;split at e
 ·split at e
  ·rename_i q ρ hg
   rw[hg];cases e;exact fun v H' h rv=>k v H' h.1 rv
  ·rename_i ρ hg
   rw[hg];cases e;exact fun σ H' h=>k .non H' h.tb.1 rfl
  ·cases e
 ·cases e
theorem IV(h:HsB K mg x st ps)(S:FnScope N ps (af st))
  (hbody:∀(f:Addr)(cdv:Value)(A:Mi)(outer:List QX)(s:MB)(H:Hp)(E:XK),Room k (A.deeper (Og x (af st) s.heap.objs.size f cdv))->SBs (Eb P w K mg base N x (af st) f cdv A outer s H E) 0 (ba st) g) :
  PF P w K mg base (k+1) x (CG ps.length N.length g):=by
 obtain⟨f,fd,F,hm,hb⟩:=h;refine⟨f,fd,ps,Gi F S (hbody f),hm,F.kp,hb,fun qs p e=>?_⟩;unfold CG at e;split at e
 ·rename_i hl;exact hl
 ·cases e
theorem zH(h:HsB K mg x st ps)(S:FnScope N ps (af st))
  (hbody:∀(f:Addr)(cdv:Value)(A:Mi)(outer:List QX)(s:MB)(H:Hp)(E:XK),Room k (A.deeper (Og x (af st) s.heap.objs.size f cdv))->SBs (Eb P w K mg base N x (af st) f cdv A outer s H E) 1 (ba st) g) :
  PFB P w K mg base (k+1) x (yH ps.length N.length g):=by
 obtain⟨f,fd,F,hm,hb⟩:=h;exact G4 F S hm hb (hbody f)
end
end PU
namespace PU
open PySem PySem.Spec PyProof.Rows
def mW(h:Heap)(e T:Addr)(x cls:Value)(dx:Option Addr):Prop:=
 ∃oe vs oT ts,h.get? e=some oe/\oe.cls=cls/\oe.dict=dx/\oe.data=.fields vs/\vs[1]?=some (.ref T)/\T≠e/\h.get? T=some oT/\oT.data=.fields ts/\ts[3]?=some x
def JW(h:Heap)(e:Addr)(cls:Value)(dx:Option Addr):Prop:=
 ∃oe vs,h.get? e=some oe/\oe.cls=cls/\oe.dict=dx/\oe.data=.fields vs/\vs[1]?=some .none
def F3(fs ks:List Addr)(h h':Heap):Prop:=h.objs.size<=h'.objs.size/\∀b o,b ∉ ks->h.get? b=some o->(b ∉ fs->h'.get? b=some o)/\∃sl,h'.get? b=some { o with slots:=sl }
def Ex(L:Addr)(h:Heap)(ks:List Addr)(e:Addr)(cls:Value)(dx:Option Addr):Prop:=
 (ks=[e]/\JW h e cls dx)\/∃T x,(x=.none\/x=OK L)/\ks=[e,T]/\mW h e T x cls dx
section
variable{M : SG}{A : Mi}{E : Value → MB → Prop}{s : MB}{base : Heap}{env : QX}{outer : List QX}{L e T : Addr}{cls : Value}{dx : Option Addr}
theorem sY{oe:Obj}{vs:Array Value}{hd:Value}{nx:Bool}{Q:Unit->MB->Prop}(hA:A.frames=some (env::outer))(hF:s.heap.FunFrames base (env::outer))(hL:env.frame=some L)
  (q1:s.heap.get? e=some oe) (q2:oe.data=.fields vs) (q3:1<vs.size)
  (k:∀g N,s.heap.objs.size<=N->mW g e N (OK L) oe.cls oe.dict->F3 ((env::outer).filterMap (·.frame)) [e] s.heap g->Q () { s with heap:=g }) :
  MK M A (do let x<- frameOf env;let p<- entryPlaceOf L nx;let n<- S6 hd x .none (OK L) .none p;setField (.ref e) 1 n) Q E s:=by
 have ne:e ∉ (env::outer).filterMap (·.frame):=fun z=>by
  obtain⟨_,o,z1,z2⟩:=hF.mem z;rw[q1] at z1;cases z1;exact z2 vs q2
 refine MA (wpAny_frameOf_fun hA hF hL fun g1 c1=>MA (wpAny_entryPlaceOf fun p hp=>?_));unfold S6 newFields;refine MA (O3 ?_ (hp.sizeOk5 _ _ _ _ _));have e1:g1.get? e=some oe:=(c1.2.1 e ne).trans q1;generalize hob:({ cls:=.type "traceback",dict:=none,data:=.fields ([hd,.ref L,.none,OK L,.none]++(if p.isEmpty then NS 6 N3 else p)).toArray }:Obj)=ob;have od:ob.data=.fields ([hd,.ref L,.none,OK L,.none]++(if p.isEmpty then NS 6 N3 else p)).toArray:=by rw[← hob]
 have of:ob.isFreed=false:=by rw[← hob];rfl
 have e2:(g1.push ob).get? e=some oe:=MD _ e1;refine Q8 e2 q2 q3 ?_;have nT:g1.objs.size≠e:=NZ (MJ e1);have zs:s.heap.objs.size<=g1.objs.size:=QU c1.1.symm;have d3:=Pv q2 (·.setIfInBounds 1 (Mq g1.objs.size));have e3:=Nc (Pc (·.setIfInBounds 1 (Mq g1.objs.size))) e2 (Qg d3)
 have t3:((g1.push ob).update e (Pc (·.setIfInBounds 1 (Mq g1.objs.size)))).get? g1.objs.size=some ob:=by
  rw[N5 _ _ (Nd nT)];exact MZ _ of
 refine k _ g1.objs.size zs ⟨_,_,_,_,e3,Obj.cls_mapFields _ _,?_,d3,by simp[q3],nT,t3,od,?_⟩ ⟨?_,fun b o nb hb=>?_⟩
 ·unfold Pc
  split <;> rfl
 ·rcases hp with rfl | ⟨_,_,_,_,_,_,_,rfl⟩ <;> simp
 ·rw[PN,O7]
  exact Nat.le_succ_of_le zs
 ·have nb:b≠e:=fun z=>nb (by simp[z])
  have up:∀o',g1.get? b=some o'->((g1.push ob).update e (Pc (·.setIfInBounds 1 (Mq g1.objs.size)))).get? b=some o':=fun o' z=>by
   rw[N5 _ _ (Nd nb)];exact MD _ z
  obtain⟨sl,z⟩:=c1.2.2 b o hb;exact⟨fun nf=>up o ((c1.2.1 b nf).trans hb),sl,up _ z⟩
theorem BA{ks:List Addr}{Q:Unit->MB->Prop}(hA:A.frames=some (env::outer))(hF:s.heap.FunFrames base (env::outer))(hL:env.frame=some L)(hx:Ex L s.heap ks e cls dx)
  (k:∀g T,(T∈ks\/s.heap.objs.size<=T)->mW g e T (OK L) cls dx->F3 ((env::outer).filterMap (·.frame)) ks s.heap g->Q () { s with heap:=g }):MK M A (Qf (.ref e) env) Q E s:=by
 rcases hx with⟨rfl,oe,vs,q1,rfl,rfl,q2,q3⟩|⟨T,x,hx,rfl,oe,vs,oT,ts,q1,rfl,rfl,q2,q3,q4,q5,q6,q7⟩
 ·unfold Qf
  simp only[hL];refine MA (NB q1 q2 q3 ?_);rw[if_neg (by decide)];exact sY hA hF hL q1 q2 (OX.mp q3).1 fun g N z1 z2 z3=>k g N (.inr z1) z2 z3
 ·unfold Qf
  simp only[hL];refine MA (NB q1 q2 q3 ?_);rw[if_pos (show (Mq T != N3)=true from by simp)];refine MA (NB q5 q6 q7 ?_);rcases hx with rfl | rfl
  ·rw[if_neg (show ¬ ((N3 == OK L)=true) from by simp[OK])]
   refine MA (Q8 q5 q6 (OX.mp q7).1 ?_);have oth:∀b,b≠T->(s.heap.update T (Pc (·.setIfInBounds 3 N3))).get? b=s.heap.get? b:=fun b z=>N5 _ _ (Nd z)
   have noT:∀b o,s.heap.get? b=some o->(∀vs,o.data≠.fields vs)->b≠T:=fun b o z1 z2 z=>by
    rw[z,q5] at z1;cases z1;exact z2 ts q6
   refine sY hA (hF.of_keeps fun b o z1 z2=>⟨o,(oth b (noT b o z1 z2)).trans z1,rfl⟩) hL ((oth e (Nd q4)).trans q1) q2 (OX.mp q3).1 fun g N z1 z2 z3=>k g N (.inr ?_) z2 ⟨?_,fun b o z4 z5=>?_⟩
   ·rw[PN] at z1;exact z1
   ·have:=z3.1;rw[PN] at this;exact this
   ·have n1:b≠e:=fun z=>z4 (by simp[z])
    have n2:b≠T:=fun z=>z4 (by simp[z]);exact z3.2 b o (by simpa using n1) ((oth b n2).trans z5)
  ·rw[if_pos (show (OK L == OK L)=true from by simp)]
   exact ME (k _ T (.inl (by simp)) ⟨oe,vs,oT,ts,q1,rfl,rfl,q2,q3,q4,q5,q6,q7⟩ ⟨MX _,fun b o _ z=>⟨fun _=>z,o.slots,z⟩⟩)
theorem vM{x:Value}{fr:Option Addr}{Q:Unit->MB->Prop}(hx:mW s.heap e T x cls dx)
  (k:∀g,mW g e T (fr.elim N3 fun f=>OK f) cls dx->F3 [] [T] s.heap g->Q () { s with heap:=g }):MK M A (Rt (.ref e) fr) Q E s:=by
 obtain⟨oe,vs,oT,ts,q1,rfl,rfl,q2,q3,q4,q5,q6,q7⟩:=hx;unfold Rt;refine MA (NB q1 q2 q3 ?_);rw[if_pos (show (Mq T != N3)=true from by simp)];have lt:=(OX.mp q7).1;have d3:=Pv q6 (·.setIfInBounds 3 (fr.elim N3 fun f=>OK f));refine Q8 q5 q6 lt (k _ ⟨oe,vs,_,_,?_,rfl,rfl,q2,q3,q4,Nc _ q5 (Qg d3),d3,by simp[lt]⟩ ⟨?_,fun b o nb hb=>?_⟩)
 ·rw[N5 _ _ q4]
  exact q1
 ·rw[PN]
  exact MX _
 ·have:b≠T:=fun z=>nb (by simp[z])
  have e:=(N5 s.heap (Pc (·.setIfInBounds 3 (fr.elim N3 fun f=>OK f))) (Nd this)).trans hb;exact⟨fun _=>e,o.slots,e⟩
end
end PU
namespace PU
open PySem PySem.Spec PyProof.Rows
section
variable{prog : MP}{w : Me}{A : Mi}{E : Value → MB → Prop}{H : Heap}{gs : Array GenState}{dr : Drawn}{tk : Nat}{os : OsState}
variable{nm ql : Str}{C N : Addr}{bs bm bB : List Value}{hd : Bool}{sn : List Str}{sb : List Value}{ab : Bool}{co : Option Bool}{dd : Option Addr}{k0 k1 k2 k3 k5 : Option Value}{B ni ii : String}
theorem Fe (F:Tn B ni ii bB) (T:OwnTail H bB bm) {mN:Str->Option Value} {as:List Value} {f:Addr} {of:Obj} {Q:Fin->MB->Prop} (q1:H.get? C=some (QL nm ql C N bs bm hd sn sb ab co dd k0 k1 k2 k3 k5 ni)) (q2:H.Ns N mN) (q3:mN "__init__"=some (.ref f)) (q4:H.get? f=some of) (q5:of.cls=.type "function") (hl:as.length<=sizeLine)
  (k:∀H' e,H.objs.size<=e->Heap.MadeExcOf H H' e (.ref C) as->MK (MV prog w) A (call (.ref f) (.ref e::as)) (fun r s=>r=.none/\Q (.done (.ret (.ref e))) s) E ⟨H',gs,dr,tk,os⟩) :
  MK (MV prog w) A (Builtin.«type.__call__» ⟨.ref C::as,[]⟩) Q E ⟨H,gs,dr,tk,os⟩:=by
 repeat (first | with_reducible refine PQ q1 ?_ | with_reducible refine wpAny_madeBy_exc q1 ?_ | wp_step)
 refine codeAny_call_builtin_code (Code.quiet_builtin _ F.quiet) (wpAny_check_new_subT F T q1 (codeAny_exc_new_subT F T q1 (show MK _ _ _ _ _ _ from ?_) hl));have up:∀{b:Addr} {o:Obj},H.get? b=some o->((H.push { cls:=.type "tuple",data:=.seq as.toArray }).push { cls:=.ref C,data:=.fields #[.ref H.objs.size,.none,.none,.none,.bool false,.none] }).get? b=some o:=fun z=>MD _ (MD _ z);have n1:((H.push { cls:=.type "tuple",data:=.seq as.toArray }).push { cls:=.ref C,data:=.fields #[.ref H.objs.size,.none,.none,.none,.bool false,.none] }).Ns N mN:=q2.keeps fun b o z=>up z;have g1:((H.push { cls:=.type "tuple",data:=.seq as.toArray }).push { cls:=.ref C,data:=.fields #[.ref H.objs.size,.none,.none,.none,.bool false,.none] }).get? (H.objs.size+1)=some { cls:=.ref C,data:=.fields #[.ref H.objs.size,.none,.none,.none,.bool false,.none] }:=by heap_get
 have cC:(Mq C::bm).contains (.ref C)=true:=by simp
 have T1:=T.keeps fun b o z=>up z;have C1:=up q1;unfold isInstance
 repeat (first | with_reducible refine PQ g1 ?_ | (with_reducible refine wpAny_isSubtype_exc C1 ?_;rw[cC]) | wp_step)
 refine(show MK _ _ (Si (.ref C) _) _ _ _ from wpAny_typeLookup_tail C1 n1 T1 F.mroIs F.init.lookup ?_);rw[q3];refine Nt (MA ?_);unfold bindSpecial;refine MA (Rb (T:="function") ⟨_,up q4,q5⟩ ?_);rw[if_pos (by decide)];refine ME (MA (N7 (k _ (H.objs.size+1) (Q7 _) ⟨fun b o z=>up z,Pd (Q7 _),H.objs.size,g1,Pd (MX _),MD _ (Tj rfl rfl)⟩) (fun r s z=>?_) fun _ _ x=>x));obtain⟨rfl,z⟩:=z
 wp_walk
 exact z
theorem Ci (F:Tn B ni ii bB) (T:OwnTail H bB bm) {mN:Str->Option Value} {as:List Value} {f:Addr} {of:Obj} {Q:Value->MB->Prop} (q1:H.get? C=some (QL nm ql C N bs bm hd sn sb ab co dd k0 k1 k2 k3 k5 ni)) (q2:H.Ns N mN) (q3:mN "__init__"=some (.ref f)) (q4:H.get? f=some of) (q5:of.cls=.type "function") (hl:as.length<=sizeLine)
  (k:∀H' e,H.objs.size<=e->Heap.MadeExcOf H H' e (.ref C) as->MK (MV prog w) (A.under (.builtin "type.__call__" ⟨.ref C::as,[]⟩)) (call (.ref f) (.ref e::as)) (fun r s=>r=.none/\Q (.ref e) s) E ⟨H',gs,dr,tk,os⟩) :
  MK (MV prog w) A (call (.ref C) as) Q E ⟨H,gs,dr,tk,os⟩:=by
 have z1:=tc_lookup;have z2:=tc_bind (.ref C);have z3:(⟨H,gs,dr,tk,os⟩:MB).TypeIs (.ref C) "type":=⟨_,q1,rfl⟩;refine Pf (codeAny_of_tree (show MK _ _ (callAny (.ref C) _) _ _ _ from ?_))
 repeat (any_goals (first | assumption | with_reducible refine PQ q1 ?_ | wp_step))
 exact⟨rfl,codeAny_call_builtin_at (Code.quiet_builtin _ (by decide +kernel)) entry_typeCall (wpAny_check_type_call_sub q1 (Fe F T q1 q2 q3 q4 q5 hl fun H' e z m=>k H' e z m))⟩
end
end PU
namespace PU
open PySem PySem.Spec PyProof.Rows PySem.W PySem.Calls PySem.Builtin PySem.Builtin.ObjectAttr
section
variable{prog : MP}{w : Me}{A : Mi}{E : Value → MB → Prop}{s : MB}{K : M9}{x C : Addr}{ox : Obj}{cd : ClassData}{name : Str}{v : Value}{R : Th → MB → Prop}
theorem Cc {tk:Sn} (X:K.In s.heap) (I:InstAt s.heap x ox C none) (hc:clsIn K C=some cd) (ne:cd.mro.isEmpty=false) (ho:cd.mro.contains (.type "object")=true) (hp:∀u,refuseLoop u "__setattr__" cd.mro=pure ()) (hn:findIn K (.ref C) name=some none)
  (h:MK (MV prog w) A.in1 (storeInOwnDict (.ref x) (.ref C) (.str name tk) name v false) (fun fin s'=>match fin with | .done f=>R (.ok f) s' | .again c'=>c'.quiet=true/\Pj (MV prog w) A c' R s') (fun e s'=>R (.error e) s') s) :
  Pj (MV prog w) A (.call (.builtin "object.__setattr__") ⟨[.ref x,.str name tk,v],[]⟩) R s:=by
 have SF:=PySem.F.store_object;have sub:Looks (MV prog w) s.heap (isInstance (.ref x) (.type "object")) true:=I.type.andThen (looks_mroIn X (by unfold mroIn;rw[hc,Oa,if_neg (by rw[ne];decide),ho]));have hm:Looks (MV prog w) s.heap (mroOf (.ref C)) cd.mro:=(looks_clsIn X hc).andThen .now;refine Ov SF.slot.plain SF.entry (@check_slot (MV prog w) _ _ s "object.__setattr__" "object" "__setattr__" (.ref x) [.str name tk,v] [] _ SF.kind SF.split sub (SF.args _ _ _) ?_);rw[osa_eq,refuse_eq];refine MA (MA (I.type.here (MA (hm.here ?_))));rw[hp];exact ME (MA (I.type.here (MA ((looks_findIn X hn).here (MA (ME h))))))
theorem yW {Q:Unit->MB->Prop} {vs:Array Value} (X:K.In s.heap) (I:InstAt s.heap x ox C none) (hd:ox.data=.fields vs) (hc:clsIn K C=some cd) (hh:cd.hasDict=true) (ne:cd.mro.isEmpty=false) (ho:cd.mro.contains (.type "object")=true) (hp:∀u,refuseLoop u "__setattr__" cd.mro=pure ()) (hs:findIn K (.ref C) "__setattr__"=some (some (.builtin "object.__setattr__"))) (hn:findIn K (.ref C) name=some none)
  (k:∀g tk,g.get? x=some { ox with dict:=some s.heap.objs.size }->g.Ns1 s.heap.objs.size (fun y=>if y=name then some v else none)->(∀b o,b≠x->s.heap.get? b=some o->g.get? b=some o)->Q () { s with heap:=g,toks:=tk }) :
  MK (MV prog w) A (setAttr (.ref x) name v) Q E s:=by
 refine set_plain X I hs (Cc (s:={ s with toks:=s.toks+1 }) X I hc ne ho hp hn ?_);obtain⟨q1,q2,q3,q4⟩:=I
 have q5:ox.dict=none:=by
  cases z:ox.dict with
  | none=>rfl
  | some d=>rw[z] at q4;cases q4
 have hx:x≠s.heap.objs.size:=MU (MJ q1);refine MA (ME (MA (MA (wpAny_loadPart q1 ?_))));rw[q2];have Y:K.In ({ s with toks:=s.toks+1 }:MB).heap:=X;refine MA ((looks_clsIn Y hc).here ?_);rw[hh,q5,hd];have e1:(s.heap.push { cls:=.type "dict",data:=.dict #[] }).get? x=some ox:=MD _ q1;refine MA (wpAny_alloc' (MA (wpAny_update' e1 (ME ?_))));have e2:((s.heap.push { cls:=.type "dict",data:=.dict #[] }).update x fun o=>{ o with dict:=some s.heap.objs.size }).get? s.heap.objs.size=some { cls:=.type "dict",data:=.dict #[] }:=(TC _ _ _ _ (Nd hx)).trans (Tj rfl rfl);have e3:((s.heap.push { cls:=.type "dict",data:=.dict #[] }).update x fun o=>{ o with dict:=some s.heap.objs.size }).Ns s.heap.objs.size (fun _=>none):=⟨_,#[],_,e2,rfl,fun e he=>absurd he (by simp),fun _=>rfl⟩;refine(show MK _ _ (storeInDict s.heap.objs.size (.str name s.toks) name v) _ _ _ from ?_);unfold storeInDict newKeyGuard;refine MA (ME (MA (wpAny_nsSet1 (Heap.Ns1.of_empty e3) fun g n1 c1=>?_)));obtain⟨oD,es,ep,z1,z2,z3⟩:=n1.count (Within.cons name v Within.nil);refine MA (wpAny_lookBehind z1 (by rw[z2];exact pastItsLine_dict (Mm z3 (by rw[MI,OD,My];omega))) ?_)
 wp_walk
 refine k g _ ((c1.2 x hx).trans (Nc _ e1 ?_)) ?_ fun b o nb hb=>?_
 ·obtain⟨oc,od,oda,osl⟩:=ox
  cases hd;rfl
 ·exact n1
 ·exact(c1.2 b (MU (MJ hb))).trans ((TC _ _ _ _ nb).trans (MD _ hb))
end
end PU
namespace PU
open PySem PySem.Spec PyProof.Rows PySem.W PySem.Calls
section
variable{prog : MP}{w : Me}{A : Mi}{E : Value → MB → Prop}{H : Heap}{gs : Array GenState}{dr : Drawn}{tk : Nat}{os : OsState}
variable{nm ql : Str}{C N e : Addr}{bs bm bB : List Value}{hd : Bool}{sn : List Str}{sb : List Value}{ab : Bool}{co : Option Bool}{dd : Option Addr}{k0 k1 k2 k3 k5 : Option Value}{B ni ii : String}
theorem Cf(F:Tn B ni ii bB)(T:OwnTail H bB bm){t0:Addr}{u:Value}{dx:Option Addr}{Q:Value->MB->Prop}(q1:H.get? C=some (QL nm ql C N bs bm hd sn sb ab co dd k0 k1 k2 k3 k5 ni))(q2:H.get? e=some { cls:=.ref C,dict:=dx,data:=.fields #[.ref t0,.none,.none,.none,.bool false,.none] })
  (k:∀g t,g.get? e=some { cls:=.ref C,dict:=dx,data:=.fields #[.ref t,.none,.none,.none,.bool false,.none] }->(∀b o,b≠e->H.get? b=some o->g.get? b=some o)->Q .none ⟨g,gs,dr,tk,os⟩) :
  MK (MV prog w) A (call (.builtin ii) [.ref e,u]) Q E ⟨H,gs,dr,tk,os⟩:=by
 refine Pf (Ov F.init.plain F.initEntry (wpAny_check_init_subT F T q1 q2 rfl ?_))
 wp_walk
 refine k _ H.objs.size ?_ fun b o nb hb=>?_
 ·rw[Nc _ (MD _ q2) rfl]
  rfl
 ·rw[N5 _ _ (Nd nb)]
  exact MD _ hb
end
end PU
namespace PU
open PySem PySem.Spec PyProof.Rows PySem.W PySem.Calls
section
variable{M : SG}{A : Mi}{E : Value → MB → Prop}{s : MB}{env : QX}
variable{nm ql : Str}{C N : Addr}{bs bm : List Value}{hd : Bool}{sn : List Str}{sb : List Value}{ab : Bool}{co : Option Bool}{dd : Option Addr}{k0 k1 k2 k3 k5 : Option Value}{ni : String}
theorem Cd {x:Sem Value} {Q:Flow->MB->Prop} (hb:bm.contains (.type "BaseException")=true) (hh:A.handled=none)
  (k:MK M A x (fun v s1=>∃e a0 dx,v=.ref e/\s1.heap.get? C=some (QL nm ql C N bs bm hd sn sb ab co dd k0 k1 k2 k3 k5 ni)/\s1.heap.get? e=some { cls:=.ref C,dict:=dx,data:=.fields #[a0,.none,.none,.none,.bool false,.none] }/\E (.ref e) s1) E s):MK M A (raiseStmt env (some x) none) Q E s:=by
 have cB:(Mq C::bm).contains (.type "BaseException")=true:=by rw[List.contains_cons,hb,Bool.or_true]
 unfold raiseStmt;refine MA (N7 k (fun v s1 z=>?_) fun _ _ z=>z);obtain⟨e,a0,dx,rfl,q1,q2,q5⟩:=z;obtain⟨hp,g,d,tk,os⟩:=s1
 repeat (first | with_reducible refine PQ q2 ?_ | with_reducible refine PQ q1 ?_ | (with_reducible refine wpAny_isSubtype_exc q1 ?_;rw[cB]) | wp_step)
 exact wpAny_raiseNew_none hh q5
end
end PU
namespace PU
open PySem PySem.Spec PyProof.Rows PySem.W L2
noncomputable def bmV:List Value:=[.type "ValueError",.type "Exception",.type "BaseException",.type "object"]
def Ey(K:M9)(C:Addr)(ini:Option Addr):Bool:=match K.lookup C with
 | some ⟨.type "type",_,.cls cd,sl⟩=>(match cd.mro,sl.toList with
  | .ref C'::bm,[_,_,_,_,some (.builtin n),_]=>C' == C && n == "ValueError.__new__" && !cd.hasDel && tailIn K bmV bm && nsOkIn K cd.ns && nsIn K cd.ns "__init__" == some (ini.map .ref)
  | _,_=>false)
 | _=>false
def LN (h:Heap) (C:Addr) (ini:Option Addr):Prop:=∃bm N nm q bs hd sn sub ab col dd k0 k1 k2 k3 k5 mN,h.get? C=some (QL nm q C N bs bm hd sn sub ab col dd k0 k1 k2 k3 k5 "ValueError.__new__")/\h.Ns N mN/\mN "__init__"=ini.map .ref/\OwnTail h bmV bm
theorem uC{K:M9}{h:Heap}{N:Addr}{mg:Str->Option Value}{n:Str}{v:Value}(X:K.In h)(G:h.Ns N mg)(e:nsIn K N n=some (some v)):mg n=some v:=by
 obtain⟨o,es,ep,ho,hd,_,hf⟩:=G;unfold nsIn at e;split at e
 ·rename_i c d es' n' sl q
  have:=X _ _ q;rw[ho] at this;cases this;cases hd;split at e
  ·rename_i en he
   cases e;rw[← hf];unfold nsFind findBy;rw[← TQ,he];rfl
  ·split at e <;> cases e
 ·cases e
theorem Cg{K:M9}{h:Heap}{C:Addr}{ini:Option Addr}(X:K.In h)(q:Ey K C ini=true):LN h C ini:=by
 unfold Ey at q;split at q
 ·rename_i dd cd sl ho
  split at q
  ·rename_i C' bm k0 k1 k2 k3 n k5 hm hs
   simp only[Mk,beq_iff_eq,Q5] at q;obtain⟨⟨⟨⟨⟨rfl,rfl⟩,hdel⟩,ht⟩,hok⟩,hni⟩:=q;obtain⟨nm,bs,mro,ns,qn,hd,sn,sub,ab,col,del⟩:=cd;dsimp only at hm hdel hok hni;subst hm hdel
   have hsl:sl=#[k0,k1,k2,k3,some (.builtin "ValueError.__new__"),k5]:=by
    obtain⟨l⟩:=sl;simp only at hs;rw[hs]
   subst hsl;refine⟨bm,ns,nm,qn,bs,hd,sn,sub,ab,col,dd,k0,k1,k2,k3,k5,_,X _ _ ho,.of_isNs (isNs_of_in X hok),?_,tail_of_in X ht⟩;cases ini with
   | none=>exact nsMap_none_of_in X hok hni
   | some f=>exact uC X (.of_isNs (isNs_of_in X hok)) hni
  ·cases q
 ·cases q
theorem Eu{X:Cx}{pins:List (Addr×Obj)}{σ:L2.St}{H:Hp}{s:MB}{e:Addr}(I:L2.Inv X pins σ H s)(h0:X.ex=[])(h1:e≠X.env.locals)(h2:∀x c,X.env.cells.lookup x=some c->c≠e)(h3:X.base.get? e=none)(h4:e ∉ X.fs):L2.Inv { X with ex:=[e] } pins σ H s:=by
 have o:=I.ok;have one:∀b,b∈[e]->b=e:=fun b z=>by simpa using z
 refine⟨⟨o.mod,o.kind,o.glob,o.blt,o.above,o.inj,o.has,o.cab,o.hd,o.frames,o.stk,fun b hb=>?_,o.bs,o.bsz,fun b ob hb z=>?_,fun b hb=>?_,o.funs,o.frf⟩,I.os,I.bare,?_,I.loc,I.cell,I.free,I.freeC,I.pin,I.hok,I.len⟩
 ·cases one b hb;exact⟨h1,h2⟩
 ·cases one b z;rw[h3] at hb;cases hb
 ·cases one b hb;exact h4
 ·exact I.base.mono (fun _ z=>z) (fun b z=>by rw[h0] at z;cases z)
end PU
namespace PU
open PySem PySem.Spec PyProof.Rows PySem.W L2
abbrev cxI(P:MP)(w:Me)(K:M9)(mg:Str->Option Value)(base:Heap)(N:List Str)(qual:Str)(sc:Scope)(f:Addr)(cdv:Value)(A:Mi)(outer:List QX)(s:MB)(H:Hp)(e:Addr):Cx:=
 { (ym CX0 P w K mg base N qual sc f cdv A outer s H E0).nox with ex:=[e] }
structure XCls(K:M9)(mg:Str->Option Value)(b0 fld:Str)(C C0:Addr):Prop where
 m0:mg b0=some (.ref C0)
 rd:∃mc,readsIn K C0 mc=true/\findCls K (.ref C0) mc "__init__"=some (.val (.builtin "ValueError.__init__"))
 ga:specialIn K (.ref C0) "__getattribute__"=some (some (.builtin "type.__getattribute__"))
 cd:∃cd,clsIn K C=some cd/\cd.hasDict=true/\cd.mro=.ref C::.ref C0::bmV
 sa:findIn K (.ref C) "__setattr__"=some (some (.builtin "object.__setattr__"))
 nm:findIn K (.ref C) fld=some none
section
variable{P : MP}{w : Me}{K : M9}{mg : Str → Option Value}{base : Heap}{A : Mi}{outer : List QX}{s : MB}{H : Hp}{k : Nat}{f e C C0 t0 : Addr}{qual b0 x fld : Str}{st : Stmt}{oc kV doc pm cdv ct : Value}{od an : Option Addr}{osl : Array (Option Value)}
theorem ur (C C0:Addr) (u:Value):refuseLoop u "__setattr__" (.ref C::.ref C0::bmV)=pure ():=by
 rw[refuseLoop_ref,refuseLoop_ref];exact PySem.F.store_ValueError.passes u
theorem vA{X:Cx}{pins:List (Addr×Obj)}{σ:L2.St}{s:MB}{h':Heap}{tk:Nat}(I:L2.Inv X pins σ H s)(k:∀b o,b≠e->s.heap.get? b=some o->h'.get? b=some o)(hn:H e=none)(hx:X.ex=[e])(hp:∀p∈X.pn++pins,p.1≠e):L2.Inv X pins σ H { s with heap:=h',toks:=tk }:=
 I.turned k hn (I.ok.exf e (by rw[hx];simp)).1 (.inl (by rw[hx];simp)) (I.ok.exf e (by rw[hx];simp)).2 hp
theorem Ce{X:Cx}{σ:L2.St}{s1:MB}{E2 E3:Expr}{p1 p2 p3 p4 p5 q1 q2 q3:O4}{t2:TA}{t3:TE}{W:V->Hp->Prop}(hex:X.ex=[e])(hpn:X.pn=[])(I1:L2.Inv X [] σ H s1)
  (XC:Ey X.K C (some f)=true) (O:XCls X.K X.mg b0 fld C C0) (he:s1.heap.get? e=some { cls:=.ref C,data:=.fields #[.ref t0,.none,.none,.none,.bool false,.none] }) (hH:H e=none)
  (hsf:∀pins s' H' Q,L2.Inv X pins σ H' s'->Q (.ref e) H'->MK (MV X.prog X.w) X.A (NC (.Name "self" q1) X.env) (EP X pins σ Q) X.xe s') (hE2:PA X [.Name "self" p3,E2] t2) (hE3:PE X E3 t3)
  (hW:t2 σ H fun vs H2=>(∃y,vs=[.ref e,y])/\t3 σ H2 W) (gl:Gl X b0) (hd0:(b0 == ("__debug__":Str))=false)
  (ht:∃pl,NC (.Call (.Attribute (.Name b0 p1) "__init__" p2) [.Name "self" p3,E2] [] p4) X.env=(do
   let ov<- NC (.Name b0 p1) X.env
   QK p2.atName
   let (f,first)<- Qp [ov] (TU ov "__init__" pl)
   Rf p4 f first (Nq p4 (MO [.Name "self" p3,E2] X.env)) (Ox p4 (Ny [] X.env))))
  (hst:MO [.Name "self" p3,E2] X.env=(false,NC (.Name "self" p3) X.env)::MO [E2] X.env) (hst2:(Nq p4 (MO [E2] X.env)).any (·.1)=false)
  (hsw:Nk (.Call (.Attribute (.Name b0 p1) "__init__" p2) [.Name "self" p3,E2] [] p4) none p5.line X.env=pure false) (hsw2:Nk E3 (some (.Attribute (.Name "self" q1) fld q2)) q3.line X.env=pure false) :
  MK (MV X.prog X.w) X.A (execs [.Expr (.Call (.Attribute (.Name b0 p1) "__init__" p2) [.Name "self" p3,E2] [] p4) p5,.Assign [.Attribute (.Name "self" q1) fld q2] E3 q3] X.env) (fun fl s'=>fl=.next/\∃H' dx y z t,L2.Inv X [] σ H' s'/\
   s'.heap.get? e=some { cls:=.ref C,dict:=some dx,data:=.fields #[.ref t,.none,.none,.none,.bool false,.none] }/\s'.heap.Ns1 dx (fun n=>if n=fld then some z else none)/\RelV y z/\H' e=none/\H' dx=none/\X.s₀.heap.objs.size<=dx/\dx≠e/\W y H') X.xe s1:=by
 have mem:e∈X.ex:=by rw[hex];simp
 have neL:e≠X.env.locals:=(I1.ok.exf e mem).1;have nfs:e ∉ X.fs:=I1.ok.exfs e mem
 have pinI:∀{o:Obj}{H':Hp}{s':MB},L2.Inv X [] σ H' s'->s'.heap.get? e=some o->H' e=none->(∀v,o.data≠.cell v)->L2.Inv X [(e,o)] σ H' s':=fun {o H' s'} J g n d=>
  J.pins_of fun p hp=>by
   have:p=(e,o):=by simpa using hp
   subst this;exact⟨g,n,neL,nfs,d⟩
 have unp:∀{o:Obj}{H':Hp}{s':MB},L2.Inv X [(e,o)] σ H' s'->L2.Inv X [] σ H' s'/\s'.heap.get? e=some o/\H' e=none:=fun {o H' s'} J=>
  ⟨J.pins_of fun p hp=>(by cases hp),(J.pin (e,o) (by simp)).1,(J.pin (e,o) (by simp)).2.1⟩
 have J1:=pinI I1 he hH (fun v z=>by cases z);refine Pe (wpAny_Expr_any ?_ I1.quiet hsw);obtain⟨pl,hpl⟩:=ht;refine methodCall_KW (pl:=pl) (jc J1 gl O.m0 ?_ hd0) hpl;obtain⟨mc,rd1,rd2⟩:=O.rd;refine method_cls J1.kIn O.ga (cls_value J1.kIn rd1 rd2 (by decide +kernel) ?_);have J2:=J1.tok (s1.toks+1);refine callWith_builtin1 (thn (hE2 p4 [(e,_)] _ _ H _ J2 hW) fun us s2 ⟨vs,H2,K2,r2,⟨y2,ev⟩,q2⟩=>?_) hst hst2;subst ev;obtain⟨u1,us',rfl,r3,r4⟩:∃u1 us',us=u1::us'/\RelV (.ref e) u1/\Vals [y2] us':=by cases r2 with | cons a b=>exact⟨_,_,rfl,a,b⟩
 obtain⟨u2,rfl,r5⟩:=vals1 r4;cases (show u1=Mq e from r3);obtain⟨K3,e2,n2⟩:=unp K2;obtain⟨bm,N,nm,q,bs,hd,sn,sub,ab,col,dd,k0,k1,k2,k3,k5,mN,c1,c2,c3,c4⟩:=Cg K3.kIn XC;obtain⟨hp2,g2,d2,tk2,os2⟩:=s2;refine Cf RU c4 c1 e2 fun g t ge gk=>?_;have K4:L2.Inv X [] σ H2 { heap:=g,gens:=g2,drawn:=d2,toks:=tk2,os:=os2 }:=vA (tk:=tk2) K3 gk n2 hex (fun p hp=>by rw[hpn] at hp;cases hp);have J4:=pinI K4 ge n2 (fun v z=>by cases z);refine Pe (plainObj_wpAny_Assign_Attribute (thn (hE3 _ _ _ _ _ J4 q2) fun z s3 ⟨y,H3,K5,r6,q3⟩=>thn (hsf _ _ _ (fun x H'=>x=.ref e/\H'=H3) K5 ⟨rfl,rfl⟩) fun ov s4 ⟨x',H4,K6,r7,ex,eH⟩=>?_) hsw2);subst ex eH;cases (show ov=Mq e from r7);obtain⟨K7,e4,n4⟩:=unp K6;obtain⟨cd,f1,f2,f3⟩:=O.cd;refine yW K7.kIn ⟨e4,rfl,rfl,trivial⟩ rfl f1 f2 (by rw[f3];rfl) (by rw[f3];simp[bmV]) (by rw[f3];exact ur C C0) O.sa O.nm fun g' tk' z1 z2 z3=>OV ⟨rfl,H4,s4.heap.objs.size,y,z,t,?_,z1,z2,r6,n4,K7.hok.fresh (MX _),?_,?_,q3⟩
 ·exact vA K7 z3 n4 hex (fun p hp=>by rw[hpn] at hp;cases hp)
 ·exact K7.sz
 ·exact Nd (MU (MJ e4))
theorem F9{E2 E3:Expr}{p1 p2 p3 p4 p5 q1 q2 q3:O4}{v:V}{u:Value}{t2:TA}{t3:TE}{W:V->Hp->Prop}(hr:Room (k+1) A)(e0:Env0 P w K mg base A outer s H)
  (lk:K.lookup f=some ⟨oc,od,.func (fnOf "__init__" qual (cR st) (ba st) (af st) .none kV doc pm an cdv ct),osl⟩) (hcd:codeIn K cdv qual=true) (S:FnScope ["self",x] ["self",x] (af st))
  (hb:Rm s (fnOf "__init__" qual (cR st) (ba st) (af st) .none kV doc pm an cdv ct) ⟨[.ref e,u],[]⟩ [("self",.ref e),(x,u)])
  (hbody:ba st=[.Expr (.Call (.Attribute (.Name b0 p1) "__init__" p2) [.Name "self" p3,E2] [] p4) p5,.Assign [.Attribute (.Name "self" q1) fld q2] E3 q3])
  (XC:Ey K C (some f)=true) (O:XCls K mg b0 fld C C0) (he:s.heap.get? e=some { cls:=.ref C,data:=.fields #[.ref t0,.none,.none,.none,.bool false,.none] }) (hH:H e=none) (hbe:base.get? e=none) (hfe:e ∉ frs outer) (ru:RelV v u)
  (hE2:PA (cxI P w K mg base ["self",x] qual (af st) f cdv A outer s H e) [.Name "self" p3,E2] t2) (hE3:PE (cxI P w K mg base ["self",x] qual (af st) f cdv A outer s H e) E3 t3)
  (hW:t2 [some (.ref e),some v] H fun vs H2=>(∃y,vs=[.ref e,y])/\t3 [some (.ref e),some v] H2 W) (gl:(af st).names.lookup b0=some .globalImplicit) (hd0:(b0 == ("__debug__":Str))=false)
  (ht:∀env,∃pl,NC (.Call (.Attribute (.Name b0 p1) "__init__" p2) [.Name "self" p3,E2] [] p4) env=(do
   let ov<- NC (.Name b0 p1) env
   QK p2.atName
   let (f,first)<- Qp [ov] (TU ov "__init__" pl)
   Rf p4 f first (Nq p4 (MO [.Name "self" p3,E2] env)) (Ox p4 (Ny [] env))))
  (hst:∀env,MO [.Name "self" p3,E2] env=(false,NC (.Name "self" p3) env)::MO [E2] env) (hst2:∀env,(Nq p4 (MO [E2] env)).any (·.1)=false)
  (hsw:∀env,Nk (.Call (.Attribute (.Name b0 p1) "__init__" p2) [.Name "self" p3,E2] [] p4) none p5.line env=pure false) (hsw2:∀env,Nk E3 (some (.Attribute (.Name "self" q1) fld q2)) q3.line env=pure false) :
  Pj (MV P w) A (.call (.ref f) ⟨[.ref e,u],[]⟩) (fun r s'=>r=.ok (.ret .none)/\∃H' dx y z t,s'.os=s.os/\Q1 s'.gens/\Un (frs outer) [e] H H' s.heap s'.heap/\HOk P w H' s'.heap/\
   s'.heap.get? e=some { cls:=.ref C,dict:=some dx,data:=.fields #[.ref t,.none,.none,.none,.bool false,.none] }/\s'.heap.Ns1 dx (fun n=>if n=fld then some z else none)/\RelV y z/\H' e=none/\H' dx=none/\s.heap.objs.size<=dx/\dx≠e/\W y H') s:=by
 have KX:K.In s.heap:=e0.mod.kin.keeps fun b o e=>(e0.bs b o e).1;have lim:s.heap.NoLimit:=e0.mod.nolimit.keeps fun b o e=>(e0.bs b o e).1
 have hkind:∀y∈[(("self":Str),Mq e),(x,u)],(af st).names.lookup y.1=some .local\/((af st).names.lookup y.1=some .cell/\((Rx (s.heap.objs.size+1) (af st).names []).lookup y.1).isSome=true):=fun ⟨n,v⟩ hy=>by
  rcases S.par n (by simp at hy;rcases hy with⟨z,_⟩|⟨z,_⟩ <;> simp[z]) with q | q
  ·exact .inl q
  ·exact .inr ⟨q,Q9 _ _ _ (.inl q)⟩
 refine codeAny_call_function hr.depth (KX _ _ lk) rfl S.co S.gen rfl (Sm KX hcd) (hb _ _ _ _ ?_);refine Sh S.kind hkind fun env henv s1 X1=>?_;subst henv;refine⟨lim.keeps X1.toInCall.keep,codeAny_func ?_⟩;have I0:L2.Inv (ym CX0 P w K mg base ["self",x] qual (af st) f cdv A outer s H E0) [] (L2.start ["self",x] [.ref e,v]) H s1:=qC S hr.hd e0 rfl (.cons rfl (.cons ru .nil)) X1;have lt:e<s.heap.objs.size:=MJ he
 have ncl:∀y c,(Rx (s.heap.objs.size+1) (af st).names []).lookup y=some c->c≠e:=fun y c h z=>by
  have:=X1.above y c (NG h);rw[z] at this;exact Ms _ (Su lt this)
 have I1:L2.Inv (cxI P w K mg base ["self",x] qual (af st) f cdv A outer s H e) [] [some (.ref e),some v] H s1:=Eu (I0.wish _) rfl (MU lt) ncl hbe hfe;have e1:s1.heap.get? e=some { cls:=.ref C,data:=.fields #[.ref t0,.none,.none,.none,.bool false,.none] }:=X1.toInCall.keep _ _ he
 have vis:Vis (af st) "self":=by
  rcases S.par "self" (by simp) with z | z
  ·exact .inl z
  ·exact .inr (.inl z)
 have sf:∀pins s' H' Q,L2.Inv (cxI P w K mg base ["self",x] qual (af st) f cdv A outer s H e) pins [some (.ref e),some v] H' s'->Q (.ref e) H'->MK (MV P w) (A.deeper (Og qual (af st) s.heap.objs.size f cdv)) (NC (.Name "self" q1) (Og qual (af st) s.heap.objs.size f cdv)) (EP (cxI P w K mg base ["self",x] qual (af st) f cdv A outer s H e) pins [some (.ref e),some v] Q) (fun _ _=>False) s':=fun pins s' H' Q J q=>
  eC (X:=cxI P w K mg base ["self",x] qual (af st) f cdv A outer s H e) (i:=0) rfl vis (by decide) (by decide) pins s' _ H' Q J ⟨.ref e,rfl,q⟩
 rw[hbody];refine N7 (Ce (X:=cxI P w K mg base ["self",x] qual (af st) f cdv A outer s H e) (σ:=[some (.ref e),some v]) rfl rfl I1 XC O e1 hH sf hE2 hE3 hW gl hd0 (ht _) (hst _) (hst2 _) (hsw _) (hsw2 _)) (fun fl s' hq=>?_) fun _ _ z=>MG z;obtain⟨rfl,H',dx,y,z,t,J,g1,g2,g3,g4,g5,g6,g7,g8⟩:=hq;exact⟨rfl,H',dx,y,z,t,J.os,J.bare,J.base,J.hok,g1,g2,g3,g4,g5,g6,g7,g8⟩
end
end PU
namespace PU
open PySem PySem.Spec PyProof.Rows L2
def Apart(X:Cx)(H:Hp)(ks:List Addr):Prop:=∀b∈ks,X.s₀.heap.objs.size<=b/\b≠X.env.locals/\(∀x c,X.env.cells.lookup x=some c->c≠b)/\H b=none
section
variable{X : Cx}{σ : L2.St}{H : Hp}{s : MB}{ks : List Addr}
theorem ic{pins:List (Addr×Obj)}{b:Addr}(I:L2.Inv X pins σ H s)(h:s.heap.objs.size<=b):X.s₀.heap.objs.size<=b/\b≠X.env.locals/\(∀x c,X.env.cells.lookup x=some c->c≠b)/\H b=none:=
 ⟨Mm I.sz h,fun z=>Ms _ (MF (z▸I.lt) h),fun x c e z=>by
  obtain⟨v,q⟩:=I.cell x c e;have z:c=b:=z;exact Ms _ (MF (z▸q.lt) h),I.hok.fresh h⟩
theorem jq{pins:List (Addr×Obj)}{g:Heap}(I:L2.Inv X pins σ H s)(hp:∀b∈ks,∀p∈X.pn++pins,p.1≠b)(st:F3 (frs X.stack) ks s.heap g)(ap:Apart X H ks):L2.Inv X pins σ H { s with heap:=g }:=by
 have nf:∀b u,H b=some u->b ∉ ks/\b ∉ frs X.stack:=fun b u e=>⟨fun z=>(by rw[(ap b z).2.2.2] at e;cases e),fun z=>(by rw[I.stkFree b z] at e;cases e)⟩;refine I.call (g':=s.gens) (d':=s.drawn) (t':=s.toks) (ch:=ks) ⟨fun b o e n hb hx=>(st.2 b o hx e).1 hb,fun b o e n hb hx=>(st.2 b o hx e).2,fun b o e n hx=>n,fun b o e hx=>let ⟨sl,z⟩:=(st.2 b o hx e).2;⟨_,z⟩,fun _ _ e=>e,fun _ _ _ e=>e,fun b ps e=>⟨#[],by rw[e];simp⟩⟩ (fun b u e=>?_) I.bare fun b hb=>?_
 ·refine(I.hok b u e).stay (fun c v hc q=>?_) (fun _ q=>q) fun _ _ q=>q
  obtain⟨u',e'⟩:∃u',H c=some u':=by
   rcases hc with z | z
   ·exact⟨u,z▸e⟩
   ·exact⟨_,z⟩
  exact(st.2 c v (nf c u' e').1 q).1 (nf c u' e').2
 ·obtain⟨z1,z2,z3,_⟩:=ap b hb
  exact⟨.inr z1,z2,z3,hp b hb⟩
theorem Bx(hp:X.pn=[]):∀b∈ks,∀p∈X.pn++[],p.1≠b:=fun b _ p hp'=>by rw[hp] at hp';cases hp'
end
variable[TW]
def XS(X:Cx)(Ac:PX->Hp->Prop):Value->MB->Prop:=fun e s'=>∃σ H a ks C dx x,e=.ref a/\L2.Inv X [] σ H s'/\Ex X.env.locals s'.heap ks a (.ref C) dx/\Apart X H ks/\ExP X.K H C dx x/\Ac x H
def XN(X:Cx)(Ac:PX->Hp->Prop)(y:Value):Value->MB->Prop:=fun e s'=>∃σ H a T C dx x,e=.ref a/\L2.Inv X [] σ H s'/\mW s'.heap a T y (.ref C) dx/\Apart X H [a,T]/\ExP X.K H C dx x/\Ac x H
section
variable{X : Cx}{Ac : PX → Hp → Prop}{M : SG}{E : Value → MB → Prop}{e y : Value}{s : MB}
structure Own(X:Cx):Prop where
 pn:X.pn=[]
 st:X.stack=X.env::X.outer
 fr:X.env.frame=some X.env.locals
theorem vi{Q:Unit->MB->Prop}(o:Own X)(h:XS X Ac e s)(k:∀s',XN X Ac (OK X.env.locals) e s'->Q () s'):MK M X.A (Qf e X.env) Q E s:=by
 obtain⟨σ,H,a,ks,C,dx,x,rfl,I,al,ap,ex,ac⟩:=h;refine BA (by rw[I.ok.frames,o.st]) (by have:=I.stack;rw[o.st] at this;exact this) o.fr al fun g T hT fl st=>k _ ?_;have st':F3 (frs X.stack) ks s.heap g:=by rw[o.st];exact st
 have hk:a∈ks:=by
  rcases al with⟨rfl,_⟩|⟨_,_,_,rfl,_⟩ <;> simp
 refine⟨σ,H,a,T,C,dx,x,rfl,jq I (Bx o.pn) st' ap,fl,fun b hb=>?_,ex,ac⟩;rcases MH.mp hb with z | z
 ·subst z;exact ap _ hk
 ·have:b=T:=by simpa using z
  subst this;rcases hT with z | z
  ·exact ap _ z
  ·exact ic I z
theorem pF{Q:Unit->MB->Prop}{fr:Option Addr}(o:Own X)(h:XN X Ac y e s)(k:∀s',XN X Ac (fr.elim N3 fun f=>OK f) e s'->Q () s'):MK M X.A (Rt e fr) Q E s:=by
 obtain⟨σ,H,a,T,C,dx,x,rfl,I,fl,ap,ex,ac⟩:=h;refine vM fl fun g fl' st=>k _ ⟨σ,H,a,T,C,dx,x,rfl,jq I (Bx o.pn) ⟨st.1,fun b ob nb hb=>?_⟩ ap,fl',ap,ex,ac⟩;obtain⟨z1,sl,z2⟩:=st.2 b ob (fun z=>nb (by simp at z;simp[z])) hb;exact⟨fun _=>z1 (by simp),sl,z2⟩
theorem XN.xs{s:MB}(h:XN X Ac y e s)(hy:y=.none\/y=OK X.env.locals):XS X Ac e s:=by
 obtain⟨σ,H,a,T,C,dx,x,rfl,I,fl,ap,ex,ac⟩:=h;exact⟨σ,H,a,[a,T],C,dx,x,rfl,I,.inr ⟨T,y,hy,rfl,fl⟩,ap,ex,ac⟩
theorem vh(o:Own X):R9 M X.A X.env (XS X Ac):=fun e s h=>by
 refine vi o h fun s' hn=>?_;obtain⟨σ,H,a,T,C,dx,x,rfl,I,fl,ap,ex,ac⟩:=id hn;obtain⟨oe,vs,oT,ts,q1,q1',q1'',q2,q3,q4,q5,q6,q7⟩:=id fl;unfold cameBackBy;refine MA (NB q1 q2 q3 ?_);rw[if_neg (show ¬ ((Mq T == N3)=true) from by simp)];refine pF o hn fun s'' h''=>h''.xs (.inr ?_);rw[o.fr];rfl
theorem yX{Q:Unit->MB->Prop}(o:Own X)(h:XS X Ac e s)(k:∀s',XN X Ac .none e s'->Q () s'):MK M X.A (leaving X.env e) Q E s:=
 MA (vi o h fun s' hn=>pF (fr:=none) o hn fun s'' h''=>k s'' h'')
end
noncomputable def CXr(P:MP)(w:Me):CXT:=fun outer H s E e s'=>∃H' a T C dx,e=.ref a/\mW s'.heap a T .none (.ref C) dx/\s'.os=s.os/\Q1 s'.gens/\Un (frs outer) [] H H' s.heap s'.heap/\HOk P w H' s'.heap/\
 (∀b∈[a,T],s.heap.objs.size<=b/\H' b=none)/\E (.ref C) dx H'
def acE(K:M9)(E:XK):PX->Hp->Prop:=fun x H'=>∀C dx,ExP K H' C dx x->E (.ref C) dx H'
abbrev cnX(P:MP)(w:Me)(K:M9)(mg:Str->Option Value)(base:Heap)(N:List Str)(qual:Str)(sc:Scope)(f:Addr)(cdv:Value)(A:Mi)(outer:List QX)(s:MB)(H:Hp)(E:XK):Cn:=
 ⟨(ym (CXr P w) P w K mg base N qual sc f cdv A outer s H E).wish (XS (ym (CXr P w) P w K mg base N qual sc f cdv A outer s H E) (acE K E)),acE K E⟩
section
variable{P : MP}{w : Me}{K : M9}{mg : Str → Option Value}{base : Heap}
theorem okX{x qual:Str}{st:Stmt}{f:Addr}{fd:FuncData}{N ps:List Str}{k:Nat}{sp:Sp}(F:Fun K x qual st f fd)(S:FnScope N ps (af st))(len:∀vs H Q E,sp vs H Q E->vs.length=ps.length)
  (hbody:∀(cdv:Value)(A:Mi)(outer:List QX)(s:MB)(H:Hp)(vs:List V)(Q:VK)(E:XK),Room k (A.deeper (Og qual (af st) s.heap.objs.size f cdv))->sp vs H Q E->
   ∃t,PSs (cnX P w K mg base N qual (af st) f cdv A outer s H E).X (ba st) t/\t { nx:=fun _ H'=>Q .non H',rt:=Q } (L2.start N vs) H):FnOk P w K mg base (CXr P w) (k+1) f fd ps sp:=by
 obtain⟨oc,od,kV,doc,pm,an,cdv,ct,osl,rfl,lk,hcd⟩:=F.ex;refine GZ lk hcd S len fun A outer s H vs Q E hr hsp=>?_;obtain⟨t,h,q⟩:=hbody cdv A outer s H vs Q E hr hsp;refine⟨t,fun pins s' σ' H' D I q=>N7 (h pins s' σ' H' D (I.wish _) q) (fun _ _ z=>z.unwish) fun e s'' z=>?_,q⟩;refine yX ⟨rfl,rfl,rfl⟩ z fun s3 ⟨σ3,H3,a,T,C,dx,y,e1,I3,fl,ap,ex,ac⟩=>⟨H3,a,T,C,dx,e1,fl,I3.os,I3.bare,I3.base,I3.hok,fun b hb=>⟨(ap b hb).1,(ap b hb).2.2.2⟩,ac C dx ex⟩
end
def Thr(C:Cn):Prop:=∀σ H s a ks D dx x,L2.Inv C.X [] σ H s->Ex C.X.env.locals s.heap ks a (.ref D) dx->Apart C.X H ks->ExP C.X.K H D dx x->C.Ac x H->C.X.xe (.ref a) s
theorem z9{P:MP}{w:Me}{K:M9}{mg:Str->Option Value}{base:Heap}{N:List Str}{qual:Str}{sc:Scope}{f:Addr}{cdv:Value}{A:Mi}{outer:List QX}{s:MB}{H:Hp}{E:XK} :
  Thr (cnX P w K mg base N qual sc f cdv A outer s H E):=fun σ H' s' a ks D dx x I al ap ex ac=>⟨σ,H',a,ks,D,dx,x,rfl,I.unwish,al,ap,ex,ac⟩
end PU
namespace PU
open PySem PySem.Spec PyProof.Rows L2
section
variable{X : Cx}{pins : List (Addr×Obj)}{σ : L2.St}{H : Hp}{s : MB}
theorem r8{d:Addr}{o:HO}(I:L2.Inv X pins σ H s)(hd:H d=none)(h1:X.s₀.heap.objs.size<=d)(h2:d≠X.env.locals)(h3:∀x c,X.env.cells.lookup x=some c->c≠d)(h4:∀p∈X.pn++pins,p.1≠d)(ok:eK X.prog X.w (upd H d o) s.heap d o):L2.Inv X pins σ (upd H d o) s:=by
 have ne:∀b u,H b=some u->b≠d:=fun b u e z=>by rw[z,hd] at e;cases e
 refine I.step (h':=s.heap) (g':=s.gens) (d':=s.drawn) (t':=s.toks) (ch:=[d]) (fun b hb=>?_) (fun b ob _ _ _ e _=>e) (fun b ob _ _ _ e _=>⟨ob.slots,e⟩) (fun b ob hb e n=>?_) (fun b ob _ e=>⟨ob,e⟩) (fun b xs e=>by rw[az (ne b _ e)];exact e) (fun b ob u e=>by rw[az (ne b _ e)];exact e) (fun b ps e=>⟨#[],by rw[az (ne b _ e),e];simp⟩) (fun m hm=>hm) (fun b u e=>?_) I.bare
 ·have:b=d:=by simpa using hb
  subst this;exact⟨.inr h1,h2,h3,h4⟩
 ·rw[az (fun z=>hb (by simp[z]))]
  exact n
 ·by_cases hb:b=d
  ·subst hb;rw[aA] at e;cases e;exact ok
  ·rw[az hb] at e
   exact(I.hok b u e).stay (fun c v _ q=>q) (fun c q=>by rw[az (ne c _ q)];exact q) fun c xs q=>by rw[az (ne c _ q)];exact q
end
structure XHas(K:M9)(mg:Str->Option Value)(cls qual fld:Str)(st:Stmt)(C:Addr):Prop where
 glob:mg cls=some (.ref C)
 ns:Ma K MM cls=some (some (.ref C))
 kp:NO K (.ref C)=true
 ini:∃f C0 od kV doc pm an cdv ct osl,Ey K C (some f)=true/\XCls K mg "MenuError" fld C C0/\K.lookup f=some ⟨.type "function",od,.func (NJ "__init__" qual (cR st) (ba st) (af st) .none kV doc pm an cdv ct),osl⟩/\OH K cdv qual=true
section
variable{X : Cx}
noncomputable def tFs(i:Nat):TE:=fun σ H Q=>∃n:Int,σ[i]?=some (some (.int n))/\n.natAbs<1073741824/\∀y,Q (.str y) H
theorem J5{i j:Nat}{t x:Str}{p1 p2 p3 p4:O4}(hx:PE X (.Name x p2) (Kn i))(hz:t.length<=1000):PE X (.JoinedStr [.Constant (.str t) j p1,.FormattedValue (.Name x p2) (-1) none p3] p4) (tFs i):=by
 intro pins s σ H Q I ⟨n,e,hn,q⟩
 have hlog:n.natAbs.log2<1920:=by
  by_cases h0:n.natAbs=0
  ·rw[h0];decide
  ·exact Su ((Nat.log2_lt (k:=30) h0).mpr (by omega)) (by decide)
 have hlen:=int_text_length_le (k:=1920) (by decide) hlog;refine JoinedStr_many (joinParts_cons (TH ⟨?_,?_⟩))
 ·show (Str.empty++t).length<=sizeLine
  rw[QQ];exact Mm (show 0+t.length<=1000 by omega) (by decide)
 ·refine joinParts_cons (FormattedValue_plain (thn (hx pins _ σ H (fun v H'=>v=.int n/\H'=H) (I.tok _) ⟨_,e,rfl,rfl⟩) fun u s1 ⟨v,H1,I1,r1,ev,eH⟩=>?_))
  subst ev eH;obtain⟨tk,rfl⟩:=(show ∃tk,u=RC n tk from r1);refine formatField_int_small hlog ⟨?_,joinParts_nil ?_ ?_⟩
  ·rw[QQ,QQ,SZ]
   have:Str.empty.length=0:=rfl;rw[My];omega
  ·exact⟨.str _,H1,(I1.tok _).tok _,⟨_,rfl⟩,q _⟩
  ·rw[QQ,QQ,SZ]
   have:Str.empty.length=0:=rfl;rw[My];omega
theorem Dg{pins:List (Addr×Obj)}{σ:L2.St}{H:Hp}{s:MB}{k j:Nat}{C:Addr}{cls qual fld x t:Str}{st:Stmt}{p1 p2 p3 p4 p5 p6 p7 p8 p9 q1 q2 q3 q4:O4}{n:Int}{u:Value}{E:Value->MB->Prop}{Q:Value->MB->Prop}
  (hr:Room (k+2) X.A) (I:L2.Inv X pins σ H s) (h:XHas X.K X.mg cls qual fld st C) (S:FnScope ["self",x] ["self",x] (af st)) (hz:t.length<=1000)
  (hbody:ba st=[.Expr (.Call (.Attribute (.Name "MenuError" p1) "__init__" p2) [.Name "self" p3,.JoinedStr [.Constant (.str t) j p4,.FormattedValue (.Name x p5) (-1) none p6] p7] [] p8) p9,.Assign [.Attribute (.Name "self" q1) fld q2] (.Name x q3) q4])
  (gl:(af st).names.lookup ("MenuError":Str)=some .globalImplicit) (hvx:Vis (af st) x) (hxd:(x == ("__debug__":Str))=false) (hxc:(x == ("__classdict__":Str))=false)
  (hbind:∀(kV doc pm:Value) (an:Option Addr) (cdv ct:Value) (a b:Value),Rg (NJ "__init__" qual (cR st) (ba st) (af st) .none kV doc pm an cdv ct) ⟨[a,b],[]⟩=pure [(("self":Str),a),(x,b)])
  (ht:∀env,∃pl,NC (.Call (.Attribute (.Name "MenuError" p1) "__init__" p2) [.Name "self" p3,.JoinedStr [.Constant (.str t) j p4,.FormattedValue (.Name x p5) (-1) none p6] p7] [] p8) env=(do
   let ov<- NC (.Name "MenuError" p1) env
   QK p2.atName
   let (f,first)<- Qp [ov] (TU ov "__init__" pl)
   Rf p8 f first (Nq p8 (MO [.Name "self" p3,.JoinedStr [.Constant (.str t) j p4,.FormattedValue (.Name x p5) (-1) none p6] p7] env)) (Ox p8 (Ny [] env))))
  (hsw:∀env,Nk (.Call (.Attribute (.Name "MenuError" p1) "__init__" p2) [.Name "self" p3,.JoinedStr [.Constant (.str t) j p4,.FormattedValue (.Name x p5) (-1) none p6] p7] [] p8) none p9.line env=pure false) (hsw2:∀env,Nk (.Name x q3) (some (.Attribute (.Name "self" q1) fld q2)) q4.line env=pure false)
  (ru:RelV (.int n) u) (hn:n.natAbs<1073741824)
  (kk:∀s' e dx t z,RelV (.int n) z->L2.Inv X pins σ (upd H dx (KH dx fld z)) s'->H dx=none->s'.heap.get? e=some { cls:=.ref C,dict:=some dx,data:=.fields #[.ref t,.none,.none,.none,.bool false,.none] }->s.heap.objs.size<=e->H e=none->dx≠e->Q (.ref e) s') :
  MK (MV X.prog X.w) X.A (call (.ref C) [u]) Q E s:=by
 obtain⟨f,C0,od,kV,doc,pm,an,cdv,ct,osl,x1,x2,x3,x4⟩:=h.ini;obtain⟨bm,N,nm,q,bs,hd,sn,sub,ab,col,dd,k0,k1,k2,k3,k5,mN,c1,c2,c3,c4⟩:=Cg I.kIn x1;obtain⟨hp,gs,dr,tk,os⟩:=s;refine Ci RU c4 c1 c2 c3 (I.kIn _ _ x3) rfl (show 1<=sizeLine by decide) fun H1 e sz m=>?_;have sz:hp.objs.size<=e:=sz;have I1:L2.Inv X pins σ H { heap:=H1,gens:=gs,drawn:=dr,toks:=tk,os:=os }:=I.kept (t':=tk) m.keeps;obtain⟨t0,m1,m2,m3⟩:=m.there;have He:H e=none:=I.hok.fresh sz;have be:X.base.get? e=none:=Pd (Mm (Mm I.ok.bsz I.sz) sz)
 have fe:e ∉ frs X.stack:=fun z=>by
  obtain⟨_,o,ho,_⟩:=I.stack.mem z;exact Ms _ (MF (MJ ho) sz)
 have e0:=I1.env0.make C [u] []
 have vself:Vis (af st) "self":=by
  rcases S.par "self" (by simp) with z | z
  ·exact .inl z
  ·exact .inr (.inl z)
 refine Pf (PR (F9 (W:=fun y H3=>y=.int n/\H3=H) (k:=k) (hr.make C [u] []) e0 x3 x4 S (.of_eq (hbind kV doc pm an cdv ct (.ref e) u)) hbody x1 x2 m1 He be fe ru
  (cg (eC (i:=0) rfl vself (by decide) (by decide)) (cg (J5 (i:=1) (eC (i:=1) rfl hvx hxd hxc) hz) gg)) (eC (i:=1) rfl hvx hxd hxc) ?_ gl (by decide) ht (fun _=>rfl) (fun _=>rfl) hsw hsw2) fun r s' hq=>?_)
 ·exact⟨.ref e,rfl,n,rfl,hn,fun y=>⟨⟨.str y,rfl⟩,.int n,rfl,rfl,rfl⟩⟩
 ·obtain⟨rfl,H',dx,y,z,t',g1,g2,g3,g4,g5,g6,g7,g8,g9,g10,g11,rfl,e9⟩:=hq
  subst e9
  have ne:∀b o,hp.get? b=some o->b ∉ [e]:=fun b o hb zz=>by
   have:b=e:=by simpa using zz
   subst this;exact Ms _ (MF (MJ hb) sz)
  have un:Un (frs X.stack) [] H' H' hp s'.heap:=⟨fun b o q n hb _=>g3.keep b o (m.keeps b o q) n hb (ne b o q),fun b o q n hb _=>g3.slot b o (m.keeps b o q) n hb (ne b o q),fun b o q n _=>g3.free b o (m.keeps b o q) n (ne b o q),fun b o q _=>g3.there b o (m.keeps b o q) (ne b o q),g3.tups,g3.frzs,g3.tbls⟩;have J:L2.Inv X pins σ H' s':=I.call' (s':=s') (ch:=[]) g1 un g4 g2 (fun b zz=>absurd zz (by simp));have dz:hp.objs.size<=dx:=Mm (QT (P8 sz (MJ m1))) g10;obtain⟨z1,z2,z3,z4⟩:=ic I dz;refine⟨rfl,kk s' e dx t' z g7 (r8 J g9 z1 z2 z3 (fun p hp' zz=>?_) ⟨g6,?_,fun h1 h2 a b=>a.at b⟩) g9 g5 sz g8 g11⟩
  ·have:=(I.pin p hp').1
   rw[zz] at this;exact Ms _ (MF (MJ this) dz)
  ·obtain⟨o,_,_,ho,_⟩:=g6
   exact⟨o,ho⟩
end
end PU
namespace PU
open PySem PySem.Spec PyProof.Rows L2
def Er (qual fld:Str) (st:Stmt):Prop:=∃(x t:Str) (j:Nat) (p1 p2 p3 p4 p5 p6 p7 p8 p9 q1 q2 q3 q4:O4),FnScope ["self",x] ["self",x] (af st)/\t.length<=1000/\
 ba st=[.Expr (.Call (.Attribute (.Name "MenuError" p1) "__init__" p2) [.Name "self" p3,.JoinedStr [.Constant (.str t) j p4,.FormattedValue (.Name x p5) (-1) none p6] p7] [] p8) p9,.Assign [.Attribute (.Name "self" q1) fld q2] (.Name x q3) q4]/\
 (af st).names.lookup ("MenuError":Str)=some .globalImplicit/\Vis (af st) x/\(x == ("__debug__":Str))=false/\(x == ("__classdict__":Str))=false/\
 (∀(kV doc pm:Value) (an:Option Addr) (cdv ct:Value) (a b:Value),Rg (NJ "__init__" qual (cR st) (ba st) (af st) .none kV doc pm an cdv ct) ⟨[a,b],[]⟩=pure [(("self":Str),a),(x,b)])/\
 (∀env,∃pl,NC (.Call (.Attribute (.Name "MenuError" p1) "__init__" p2) [.Name "self" p3,.JoinedStr [.Constant (.str t) j p4,.FormattedValue (.Name x p5) (-1) none p6] p7] [] p8) env=(do
   let ov<- NC (.Name "MenuError" p1) env
   QK p2.atName
   let (f,first)<- Qp [ov] (TU ov "__init__" pl)
   Rf p8 f first (Nq p8 (MO [.Name "self" p3,.JoinedStr [.Constant (.str t) j p4,.FormattedValue (.Name x p5) (-1) none p6] p7] env)) (Ox p8 (Ny [] env))))/\
 (∀env,Nk (.Call (.Attribute (.Name "MenuError" p1) "__init__" p2) [.Name "self" p3,.JoinedStr [.Constant (.str t) j p4,.FormattedValue (.Name x p5) (-1) none p6] p7] [] p8) none p9.line env=pure false)/\(∀env,Nk (.Name x q3) (some (.Attribute (.Name "self" q1) fld q2)) q4.line env=pure false)
def ky(cls:Str)(f:PSt->R PV):PSt->XO Fb:=fun ρ=>(XO.rd ρ (f ρ)).bind fun p ρ=>match p with
 | .int n=>if n.natAbs<1073741824 then .thr ⟨cls,[.int n]⟩ ρ else .no
 | _=>.no
variable[TW]
theorem zm{C:Cn}{n k:Nat}{cls qual:Str}{st:Stmt}{D:Addr}{e:Expr}{f:PSt->R PV}{np cpos pos:O4}(h:XHas C.X.K C.X.mg cls qual (ml cls) st D)(nd:Er qual (ml cls) st)(hT:Thr C)(hr:Room (k+2) C.X.A)(he:EV C e f)
  (hg:Gl C.X cls:=by exact rfl) (hd:(cls == ("__debug__":Str))=false:=by decide) (hst:MO [e] C.X.env=(false,NC e C.X.env)::MO [] C.X.env:=by rfl):SB C n (.Raise (some (.Call (.Name cls np) [e] [] cpos)) none pos) (ky cls f):=by
 intro pins s σ H D' I ⟨ρ,Z,S,q⟩;have hh:C.X.A.handled=none:=hr.hd;obtain⟨x,t,j,p1,p2,p3,p4,p5,p6,p7,p8,p9,q1,q2,q3,q4,d1,d2,d3,d4,d5,d6,d7,d8,d9,d10,d11⟩:=nd;obtain⟨fi,C0,od,kV,doc,pm,an,cdv,ct,osl,x1,x2,x3,x4⟩:=h.ini;obtain⟨bm,N,nm,ql,bs,hdc,sn,sub,ab,col,dd,k0,k1,k2,k3,k5,mN,c1,c2,c3,c4⟩:=Cg I.ok.mod.kin x1;rw[arm_exec_Raise];show MK _ _ (do QK pos;raiseStmt C.X.env (some (do let v<- NC (.Call (.Name cls np) [e] [] cpos) C.X.env;QK pos;pure v)) none) _ _ s;refine MA (Pi (Cd (C:=D) (nm:=nm) (ql:=ql) (N:=N) (bs:=bs) (bm:=bm) (hd:=hdc) (sn:=sn) (sb:=sub) (ab:=ab) (co:=col) (dd:=dd) (k0:=k0) (k1:=k1) (k2:=k2) (k3:=k3) (k5:=k5) (ni:="ValueError.__new__") (c4.hasType (by decide +kernel)) hh ?_));refine MA (N7 (OB (Q:=fun v s1=>∃e a0 dx,v=.ref e/\s1.heap.get? D=some (QL nm ql D N bs bm hdc sn sub ab col dd k0 k1 k2 k3 k5 "ValueError.__new__")/\s1.heap.get? e=some { cls:=.ref D,dict:=dx,data:=.fields #[a0,.none,.none,.none,.bool false,.none] }/\C.X.xe (.ref e) s1) (jc I hg h.glob ?_ hd)) (fun v s₃ h₃=>MA (Pi (ME h₃))) fun _ _ x=>x);refine Qr (h₀:=C.X.base) I.ok.mod.kin h.kp (thn (cg he gg hst cpos pins s σ H (fun vs H1=>∃m:Int,vs=[.int m]/\m.natAbs<1073741824/\StB C.X.K n Z H1 σ ρ/\∀H',TB C.X.K Z H' ρ->C.Ac ⟨cls,[.int m]⟩ H') I ?_) fun us s1 ⟨vs,H1,I1,r,m,ev,hm,S1,ac⟩=>⟨I1.kIn,?_⟩) hst rfl
 ·refine⟨ρ,S.vw,(RX.rd S q.bind).imp fun p _ kq v H' s' rp=>?_⟩
  cases p with
  | int m=>
   have kq:RX C Z (if m.natAbs<1073741824 then .thr ⟨cls,[.int m]⟩ ρ else .no) (Ew C n Z D'):=kq;split at kq
   ·rename_i hm
    exact⟨m,by rw[show v=.int m from rp],hm,S.grow s',kq⟩
   ·exact MG kq
  | _=>exact MG kq
 ·subst ev
  obtain⟨u,rfl,ru⟩:=vals1 r;refine Dg (k:=k) hr I1 h d1 d2 d3 d4 d5 d6 d7 d8 d9 d10 d11 ru hm fun s' e' dx t' z rz J g1 g2 g3 g4 g5=>⟨e',_,_,rfl,J.bk D _ c1,g2,?_⟩;refine hT σ _ s' e' [e'] D (some dx) ⟨cls,[.int m]⟩ (J.pins_of fun p hp=>(by cases hp)) (.inl ⟨rfl,_,_,g2,rfl,rfl,rfl,rfl⟩) (fun b hb=>?_) ⟨h.ns,.int m,z,aA,rz,rfl⟩ (ac _ (S1.grow (Same.new g1)).tb);have:b=e':=by simpa using hb
  subst this;obtain⟨z1,z2,z3,z4⟩:=ic I1 g3;exact⟨z1,z2,z3,by rw[az (Nd g5)];exact z4⟩
end PU
namespace PU
open PySem PySem.Spec PyProof.Rows PySem.W
section
variable{prog : MP}{w : Me}{A : Mi}{E : Value → MB → Prop}{s : MB}{K : M9}{x C : Addr}{ox : Obj}{od : Option Obj}{name : Str}
structure XFit(K:M9)(C:Addr):Prop where
 pg:findIn K (.ref C) "__getattribute__"=some (some (.builtin "BaseException.__getattribute__"))
 pn:findIn K (.ref C) "__getattr__"=some none
 pb:mroIn K C (.type "BaseException")=some true
 hd:hasDictIn K C=true
 ha:findIn K (.ref C) "__class__"=some (some (.builtin "object.__class__"))
 hn:specialIn K (.builtin "object.__class__") "__get__"=some (some (.builtin "getset_descriptor.__get__"))
 htk:takesIn K (.builtin "object.__class__")=some true
 hm:mroIn K C (.type "object")=some true
theorem xF{fill expr:Bool}{tk:Sn}{Q:Value->MB->Prop}(X:K.In s.heap)(I:InstAt s.heap x ox C od)(ft:XFit K C)
  (h:MK (MV prog w) A.in1 (Builtin.«object.__getattribute__» ⟨[.ref x,.str name tk],[]⟩) (fun fin s'=>match fin with | .done (.ret v)=>MK (MV prog w) A (handedOut v) Q E s' | _=>False) (fun _ _=>False) s) :
  MK (MV prog w) A (getAttrBy (.ref x) (.str name tk) fill expr) Q E s:=by
 have L0:=I.type (M:=MV prog w);have L1:=looks_findIn (M:=MV prog w) X ft.pg;have L2:Looks (MV prog w) s.heap (hookBefore (.ref C)) none:=looks_hook X (by rw[show onTheHeap (Mq C)=true from rfl,if_pos rfl];exact ft.pn);unfold getAttrBy;refine Nt (MA (L0.here (MA (L1.here ?_))));dsimp only;rw[show (onTheHeap (Mq C) && PM "BaseException.__getattribute__" == PM "object.__getattribute__")=false from by rw[show (PM "BaseException.__getattribute__" == PM "object.__getattribute__")=false from by decide +kernel,OJ],if_neg ML];unfold getAttrByItsOwn;refine MA (L2.here (MA (RE (Nt ?_))));unfold callGetattribute;rw[show (expr && onTheHeap (PM "BaseException.__getattribute__"))=false from OJ _,if_neg ML];unfold boundAndCalled;rw[F.attr_ValueError.ga.bind];refine MA (ME ?_);show MK _ _ (call (.builtin "BaseException.__getattribute__") [.ref x,.str name tk]) _ _ _;refine Pf (Ov F.attr_ValueError.ga.plain F.entry_bexc_ga ?_);refine @check_slot (MV prog w) _ _ s "BaseException.__getattribute__" "BaseException" "__getattribute__" (.ref x) [.str name tk] [] _ (by decide +kernel) (by decide +kernel) (L0.andThen (looks_mroIn X ft.pb)) (F.args_bexc_ga (.ref x) (.str name tk)) ?_;refine N7 h (fun fin s' z=>?_) fun _ _ z=>z.elim;rcases fin with (_ | _ | _ | _) | _ <;> first | exact z | exact z.elim
theorem As{expr:Bool}{v:Value}{Q:Value->MB->Prop}(X:K.In s.heap)(I:InstAt s.heap x ox C od)(ft:XFit K C)(hf:findObj K C od name=some (.value v))(hh:handedIn v=true)(h:Q v { s with toks:=s.toks+1 }) :
  MK (MV prog w) A (getAttr (.ref x) name expr) Q E s:=by
 unfold getAttr;refine MA (wpAny_mkText (xF (s:={ s with toks:=s.toks+1 }) X I ft ?_));have L0:=I.type (M:=MV prog w);have L1:=looks_find (M:=MV prog w) X I hf;obtain⟨hp,g,d,t,os⟩:=s;refine MA (ME (MA (ME (MA (L0.at (MA (L1.at (ME ?_))))))));show MK _ _ (handedOut v) _ _ _;rw[handedOut_of hh];exact ME h
theorem Au{Q:Option Value->MB->Prop}(X:K.In s.heap)(I:InstAt s.heap x ox C od)(ft:XFit K C)(h:Q (some (.ref C)) { s with toks:=s.toks+1 }) :
  MK (MV prog w) A (getAttr? (.ref x) "__class__") Q E s:=by
 have hf:findObj K C od "__class__"=some (.bind (.builtin "getset_descriptor.__get__") (.builtin "object.__class__")):=by
  obtain⟨cd,hc,_⟩:=any_some ft.hd;unfold findObj;rw[hc,Oa,ft.ha,Oa];simp[ft.hn,ft.htk]
 unfold getAttr? getAttrBy?;refine MA (wpAny_mkText (MA (RE (xF (s:={ s with toks:=s.toks+1 }) X I ft ?_))));have L0:=I.type (M:=MV prog w);have L1:=looks_find (M:=MV prog w) X I hf;obtain⟨hp,g,d,t,os⟩:=s;refine MA (ME (MA (ME (MA (L0.at (MA (L1.at ?_)))))));show MK _ _ (Qp [.builtin "object.__class__"] (call (.builtin "getset_descriptor.__get__") [.builtin "object.__class__",.ref x,.ref C]) >>= ret) _ _ _;refine MA (Nt (Pf (class_get (s:=⟨hp,g,d,t+1,os⟩) (ox:=ox) (od:=od) X I ft.hm (ME ?_))));show MK _ _ (handedOut (.ref C)) _ _ _;rw[handedOut_of rfl];exact ME (ME h)
theorem A8(ft:XFit K C):KitX K (.ref x) (.ref C) (fun h=>InstAt h x ox C od) where
 ty:=fun _ _ _ I=>I.type
 it:=fun _ _ X _=>by
  obtain⟨cd,hc,_⟩:=any_some ft.hd;unfold clsIn at hc;split at hc
  ·rename_i ho
   intro A' Q' E' s' k q;unfold isType loadHead;exact MA (wpAny_loadPart (k _ _ (X _ _ ho)) (ME q))
  ·cases hc
 ne:=fun h tp dd its n sl X htp=>by
  obtain⟨cd,hc,_⟩:=any_some ft.hd;refine Bool.eq_false_iff.mpr fun q=>?_;have e:C=tp:=Value.ref.inj (beq_iff_eq.mp q);subst e;unfold clsIn at hc;split at hc
  ·rename_i ho
   cases (X _ _ ho).symm.trans htp
  ·cases hc
 ca:=fun X I k=>Au X I ft k
end
end PU
namespace PU
open PySem PySem.Spec PyProof.Rows L2
def AY(K:M9)(c:Str):Prop:=∃C,Ma K MM c=some (some (.ref C))/\XFit K C/\P7 K (.ref C) (ml c)=some none
def XIs(K:M9)(tab:Str->Option Bool)(cV:Value):Prop:=∀c b,tab c=some b->∃C,Ma K MM c=some (some (.ref C))/\XFit K C/\QR K (.ref C) cV=some b
noncomputable def vj(i:Nat)(cs:List Str)(fld:Str):PSt->R PV:=fun ρ=>match ρ[i]? with
 | some (.exc ⟨c,[p]⟩)=>if c∈cs/\ml c=fld then .ok p else .no
 | _=>.no
noncomputable def mQ(i:Nat)(tab:Str->Option Bool):PSt->R PV:=fun ρ=>match ρ[i]? with
 | some (.exc x)=>(match tab x.cls with
  | some b=>.ok (.bl b)
  | none=>.no)
 | _=>.no
variable[TW]
section
variable{X : Cx}{pins : List (Addr×Obj)}{σ : L2.St}{H : Hp}{s : MB}
theorem AB{a C:Addr}{dx:Option Addr}{c:Str}{p:PV}(I:L2.Inv X pins σ H s)(h1:H a=some (XAt a (.ref C) dx))(h2:ExP X.K H C dx ⟨c,[p]⟩) :
  ∃ox od v z,Tg s.heap a ox C (some od)/\RelV v z/\Rep X.K H p v/\∀name,RL name od=some (if name=ml c then some z else none):=by
 obtain⟨⟨o,vs,g1,g2,g3,g4⟩,_⟩:=I.hok a _ h1;cases dx with
 | none=>exact MG h2.2
 | some d=>
  obtain⟨v,z,h3,rv,rp⟩:=h2.2;obtain⟨n1,_⟩:=I.hok d _ h3;obtain⟨od,ho,hl⟩:=xa n1;refine⟨o,od,v,z,⟨g1,g2,?_,?_⟩,rv,rp,hl⟩
  ·unfold RK;rw[g4]
  ·rw[g3];exact ho
end
theorem xU{X:Cx}{pins:List (Addr×Obj)}{σ:L2.St}{H:Hp}{s:MB}{a C:Addr}{dx:Option Addr}{y:PX}(I:L2.Inv X pins σ H s)(h1:H a=some (XAt a (.ref C) dx))(h2:ExP X.K H C dx y):∃ox od,Tg s.heap a ox C od:=by
 obtain⟨⟨o,vs,g1,g2,g3,g4⟩,_⟩:=I.hok a _ h1;have no:RK o=true:=by unfold RK;rw[g4]
 obtain⟨c,as⟩:=y;cases dx with
 | none=>exact⟨o,none,g1,g2,no,by rw[g3];trivial⟩
 | some d=>
  match as,h2.2 with
  | [p],h2=>
   obtain⟨v,z,h3,_⟩:=h2;obtain⟨_,⟨od,ho⟩,_⟩:=I.hok d _ h3;exact⟨o,some od,g1,g2,no,by rw[g3];exact ho⟩
section
variable{C : Cn}{pos p1 p2 : O4}{x : Str}
theorem DS(i:Nat){cs:List Str}{fld:Str}(hc:∀c∈cs,AY C.X.K c)(hN:C.X.N[i]?=some x:=by rfl)(hv:Vis C.X.env.scope x:=by first | exact .inl rfl | exact .inr (.inl rfl) | exact .inr (.inr rfl))
  (hb:OZ (.Name x p1) fld C.X.env (NC (.Name x p1) C.X.env)=NC (.Name x p1) C.X.env:=by rfl) (hd:(x == ("__debug__":Str))=false:=by decide) (hcd:(x == ("__classdict__":Str))=false:=by decide):EV C (.Attribute (.Name x p1) fld pos) (vj i cs fld):=by
 intro pins s σ H Q I ⟨ρ,vw,q⟩;unfold vj at q;split at q
 ·rename_i c p e
  split at q
  ·rename_i hcs
   obtain⟨a,D,dx,ea,h1,h2⟩:=vw i _ e;obtain⟨D',n1,ft,nf⟩:=hc c hcs.1
   obtain rfl:D=D':=by
    have:=h2.1.symm.trans n1;cases this;rfl
   refine Ek hb (thn (eC hN hv hd hcd pins s σ H (fun v H'=>v=.ref a/\H'=H) I ⟨_,ea,rfl,rfl⟩) fun u s1 ⟨v,H1,I1,r1,e1,e2⟩=>?_);subst e1 e2;cases (show u=Mq a from r1);obtain⟨ox,od,v,z,J,rv,rp,hl⟩:=AB I1 h1 h2;refine As I1.kIn J ft (PySem.W.findObj_own ft.hd (by rw[← hcs.2];exact nf) rfl (by rw[hl,hcs.2,if_pos rfl])) (xE rv) ⟨v,H1,I1.tok _,rv,q v H1 (Same.refl _) rp⟩
  ·exact MG q
 ·exact MG q
theorem BN (i:Nat) {tab:Str->Option Bool} {D:Str} {cV:Value} {vD:V} (hX:XIs C.X.K tab cV) (hD:PE C.X (.Name D p2) (tC vD)) (rD:∀u,RelV vD u->u=cV) (hm:C.X.mg "isinstance"=none) (hN:C.X.N[i]?=some x:=by rfl) (hv:Vis C.X.env.scope x:=by first | exact .inl rfl | exact .inr (.inl rfl) | exact .inr (.inr rfl))
  (hg:Gl C.X "isinstance":=by exact rfl) (hd:(x == ("__debug__":Str))=false:=by decide) (hcd:(x == ("__classdict__":Str))=false:=by decide) {p:O4}:EV C (.Call (.Name "isinstance" p) [.Name x p1,.Name D p2] [] pos) (mQ i tab):=by
 intro pins s σ H Q I ⟨ρ,vw,q⟩;unfold mQ at q;split at q
 ·rename_i y e
  split at q
  ·rename_i b eb
   obtain⟨a,B,dx,ea,h1,h2⟩:=vw i _ e;obtain⟨B',n1,ft,kt⟩:=hX y.cls b eb
   obtain rfl:B=B':=by
    have:=h2.1.symm.trans n1;cases this;rfl
   have hc:fF C.X (.builtin "isinstance") (fun vs H' Q'=>vs=[.ref a,vD]/\H' a=some (XAt a (.ref B) dx)/\ExP C.X.K H' B dx y/\Q' (.bl b) H'):=by
    intro pins s σ H xs us Q I r ⟨e1,e2,e3,k⟩;subst e1;obtain⟨u,u2,rfl,ru,ru2⟩:=vals2 r;cases (show u=Mq a from ru);obtain⟨ox,od,J⟩:=xU I e2 e3;have:u2=cV:=rD u2 ru2;subst this;exact Nr (A8 ft) I.kIn J kt (fun z=>nomatch z) fun tk=>⟨.bl b,H,I.tok _,rfl,k⟩
   exact oy hc hg hm (by decide +kernel) (cg (eC hN hv hd hcd) (cg hD gg)) (by decide) (by decide) rfl rfl pins s σ H Q I ⟨.ref a,ea,rfl,h1,h2,q _ H (Same.refl _) rfl⟩
  ·exact MG q
 ·exact MG q
end
end PU
namespace PU
open PySem PySem.Spec PyProof.Rows L2
def pZ(m n:Nat)(g:PSt->XO Fb)(qs:List PV):Option (Tr ⊕ PX):=if qs.length=m then (match g (start n qs) with
 | .ok (.retT t) _=>some (.inl t)
 | .thr x _=>some (.inr x)
 | _=>none) else none
variable[TW]
noncomputable def Ld(K:M9)(n:Nat)(F:List PV->Option (Tr ⊕ PX)):Sp:=fun vs H Q E=>vs.length=n/\tY H/\∃ps r,aM K H ps vs/\F ps=some r/\
 (∀t,r=.inl t->∀a l H',Same H H'->(∀b∈a::l,H b=none)->bu K H' a l t->Q (.ref a) H')/\∀x,r=.inr x->∀H' C dx,Same H H'->ExP K H' C dx x->E (.ref C) dx H'
structure PFTX(P:MP)(w:Me)(K:M9)(mg:Str->Option Value)(base:Heap)(k:Nat)(x:Str)(F:List PV->Option (Tr ⊕ PX)):Prop where
 ex:∃(f:Addr)(fd:FuncData)(ps:List Str),FnOk P w K mg base (CXr P w) k f fd ps (Ld K ps.length F)/\mg x=some (.ref f)/\NO K (.ref f)=true/\Binds K fd ps []/\∀qs z,F qs=some z->qs.length=ps.length
section
variable{P : MP}{w : Me}{K : M9}{mg : Str → Option Value}{base : Heap}{x : Str}{st : Stmt}{N ps : List Str}{k : Nat}{g : PSt → XO Fb}
theorem IT(h:HsB K mg x st ps)(S:FnScope N ps (af st))
  (hbody:∀(f:Addr)(cdv:Value)(A:Mi)(outer:List QX)(s:MB)(H:Hp)(E:XK),Room k (A.deeper (Og x (af st) s.heap.objs.size f cdv))->SBs (cnX P w K mg base N x (af st) f cdv A outer s H E) 0 (ba st) g) :
  PFTX P w K mg base (k+1) x (pZ ps.length N.length g):=by
 obtain⟨f,fd,F,hm,hb⟩:=h;refine⟨f,fd,ps,okX F S (fun vs H Q E h=>h.1) (fun cdv A outer s H vs Q E hr h=>?_),hm,F.kp,hb,fun qs p h=>?_⟩
 ·obtain⟨hl,tb,qs,r,rp,e,k1,k2⟩:=h
  refine⟨_,hbody f cdv A outer s H E hr,_,_,pO tb rp,?_⟩;unfold pZ at e;split at e
  ·split at e
   ·rename_i u ρ hg
    rw[hg];cases e;exact k1 u rfl
   ·rename_i y ρ hg
    rw[hg];cases e;exact fun H' tb' C dx ex=>k2 y rfl H' C dx tb'.1 ex
   ·cases e
  ·cases e
 ·unfold pZ at h
  split at h
  ·rename_i hl;exact hl
  ·cases h
end
section
variable{X : Cx}{pins : List (Addr×Obj)}{σ : L2.St}{H : Hp}{s : MB}{M : SG}{A : Mi}{E : Value → MB → Prop}
theorem DD{j:Nat}{n:Str}{pos:O4}{Q:Unit->MB->Prop}(I:L2.Inv X pins σ H s)(hN:X.N.Nodup)(hj:X.N[j]?=some n)(hk:X.env.scope.names.lookup n=some .local)(h:∀s',L2.Inv X pins (σ.set j none) H s'->Q () s') :
  MK M A (do bindName X.env n .none;unbindBehindTheSuite X.env n pos) Q E s:=by
 obtain⟨m,hn,hl⟩:=id I.loc;have hcls:(X.env.scope.kind == .class || (X.env.scope.kind == .module && X.env.locals != X.env.globals))=false:=by rw[I.ok.kind];rfl
 refine wpAny_nameGoes_keeps hk hn hcls fun h' v hn' hs=>h _ ?_;obtain⟨oL,_,_,hoL,_⟩:=id hn;have lt:∀b o,X.s₀.heap.get? b=some o->b≠X.env.locals:=fun b o e=>MU (MF (MJ e) I.ok.above);refine⟨I.ok,I.os,I.bare,⟨fun b o e n hb hx=>(hs.2 b (lt b o e)).trans (I.base.keep b o e n hb hx),fun b o e n hb hx=>?_,I.base.free,fun b o e hx=>?_,I.base.tups,I.base.frzs,I.base.tbls⟩,⟨_,hn',fun i y v' e1 e2 e3=>?_⟩,fun y c e=>?_,I.free,I.freeC,fun p hp=>?_,fun b u e=>?_,by simpa using I.len⟩
 ·obtain⟨sl,e1⟩:=I.base.slot b o e n hb hx
  exact⟨sl,(hs.2 b (lt b o e)).trans e1⟩
 ·obtain⟨o',e1⟩:=I.base.there b o e hx
  exact⟨o',(hs.2 b (lt b o e)).trans e1⟩
 ·have hij:i≠j:=fun z=>by
   subst z;rw[Q3] at e2;split at e2
   ·split at e2 <;> cases e2
   ·rename_i hh;exact hh rfl
  rw[Qm (Nd hij)] at e2;obtain⟨u',r',q⟩:=hl i y v' e1 e2 e3;refine⟨u',r',?_⟩;have ny:y≠n:=fun e=>hij (oA hN e1 (e▸hj));rcases q with⟨k,e⟩|⟨k,c,e,z⟩
  ·exact .inl ⟨k,by simp[ny,e]⟩
  ·exact .inr ⟨k,c,e,z.sameBut hs (I.cne y c e)⟩
 ·obtain⟨w',z⟩:=I.cell y c e
  exact⟨w',z.sameBut hs (I.cne y c e)⟩
 ·obtain⟨e,n,ne,nf,d⟩:=I.pin p hp
  exact⟨(hs.2 p.1 ne).trans e,n,ne,nf,d⟩
 ·refine(I.hok b u e).stay (fun c w' hc q=>(hs.2 c ?_).trans q) (fun _ q=>q) fun _ _ q=>q
  rintro rfl;rcases hc with z | z
  ·rw[← z,I.free] at e;cases e
  ·rw[I.free] at z;cases z
end
section
variable{K : M9}{n : Nat}{Z : Zs}{B : Bs}{H : Hp}{σ : L2.St}{ρ : PSt}{j : Nat}
theorem StOk.setL{l:Sl}{v:Option V}(S:StOk K B H σ ρ)(hl:yA K H (some v) l)(h1:∀p,l≠.own p)(h2:∀t,l≠.tree t):StOk K B H (σ.set j v) (ρ.set j l):=by
 refine⟨by simp[S.len],S.same,S.kp,⟨fun i x e=>?_,S.vw.tb⟩,fun i q b e f=>?_,fun i k q q' b e1 e2 f1 f2=>?_,fun i t e=>?_⟩
 ·rcases aY e with⟨rfl,rfl,hl'⟩|⟨hi,e⟩
  ·rw[cM (by rw[← S.len];exact hl')]
   exact hl
  ·rw[aI hi]
   exact S.vw i x e
 ·rcases aY e with⟨_,z,_⟩|⟨hi,e⟩
  ·exact absurd z.symm (h1 q)
  ·rw[aI hi] at f
   exact S.fresh i q b e f
 ·rcases aY e1 with⟨_,z,_⟩|⟨hi,e1⟩
  ·exact absurd z.symm (h1 q)
  ·rcases aY e2 with⟨_,z,_⟩|⟨hk,e2⟩
   ·exact absurd z.symm (h1 q')
   ·rw[aI hi] at f1
    rw[aI hk] at f2;exact S.apart i k q q' b e1 e2 f1 f2
 ·rcases aY e with⟨_,z,_⟩|⟨hi,e⟩
  ·exact absurd z.symm (h2 t)
  ·obtain⟨a,r,g1,g2,g3⟩:=S.treed i t e
   exact⟨a,r,g1,by rw[aI hi];exact g2,g3⟩
theorem StB.setL{l:Sl}{v:Option V}(S:StB K n Z H σ ρ)(hl:yA K H (some v) l)(h1:∀p,l≠.own p:=by intro _ h;cases h)(h2:∀t,l≠.tree t:=by intro _ h;cases h):StB K n Z H (σ.set j v) (ρ.set j l):=by
 obtain⟨B,S,b⟩:=S;exact⟨B,S.setL hl h1 h2,b⟩
end
end PU
namespace PU
open PySem PySem.Spec PyProof.Rows L2
abbrev cxH(X:Cx)(a:Addr):Cx:={ X with A:=X.A.mark (some (.ref a)),calm:=false,xe:=fun _ _=>False }
theorem tm{X:Cx}{pins:List (Addr×Obj)}{σ:L2.St}{H:Hp}{s:MB}{a:Addr}(I:L2.Inv X pins σ H s):L2.Inv (cxH X a) pins σ H s:=by
 have o:=I.ok;exact⟨⟨o.mod,o.kind,o.glob,o.blt,o.above,o.inj,o.has,o.cab,fun z=>(by cases z),o.frames,o.stk,o.exf,o.bs,o.bsz,o.noex,o.exfs,o.funs,o.frf⟩,I.os,I.bare,I.base,I.loc,I.cell,I.free,I.freeC,I.pin,I.hok,I.len⟩
theorem uK{X:Cx}{pins:List (Addr×Obj)}{σ:L2.St}{H:Hp}{s:MB}{a:Addr}(ok:X.Ok)(I:L2.Inv (cxH X a) pins σ H s):L2.Inv X pins σ H s:=
 ⟨ok,I.os,I.bare,I.base,I.loc,I.cell,I.free,I.freeC,I.pin,I.hok,I.len⟩
section
variable{X : Cx}{CX : CXT}{k : Nat}{f : Addr}{fd : FuncData}{ps : List Str}{sp : Sp}{E : XK}{x : Str}{p pos : O4}{e : Expr}{es : List Expr}{t : TA}{pins : List (Addr×Obj)}{s : MB}{σ : L2.St}{H : Hp}{Q : VK}
theorem Hk(F:FnOk X.prog X.w X.K X.mg X.base CX k f fd ps sp)(hr:Room k X.A)(hg:Gl X x)(hm:X.mg x=some (.ref f))(hk:NO X.K (.ref f)=true)(hb:Binds X.K fd ps [])(hx:∀H s e s',L2.Inv X pins σ H s->CX X.stack H s E e s'->X.xe e s')
  (ha:PA X (e::es) t) (hdb:(x == ("__debug__":Str))=false) (he:MO (e::es) X.env=(false,NC e X.env)::MO es X.env) (hpl:(Nq pos (MO es X.env)).any (·.1)=false) (I:L2.Inv X pins σ H s) (h:t σ H fun vs H1=>sp vs H1 Q E) :
  MK (MV X.prog X.w) X.A (NC (.Call (.Name x p) (e::es) [] pos) X.env) (EP X pins σ Q) X.xe s:=by
 refine OB (jc I hg hm ?_ hdb);refine Qr (h₀:=X.base) I.ok.mod.kin hk (thn (ha pos pins s σ H _ I h) fun us s1 ⟨vs,H1,I1,r,q⟩=>⟨I1.kIn,?_⟩) he hpl;have hl:us.length=ps.length:=by rw[← r.length];exact F.len _ _ _ _ q
 have hb':=hb s1 us I1.kIn (by rw[N1];exact hl);rw[N1] at hb';refine Pf (PR (F.run X.A X.stack s1 H1 ⟨us,[]⟩ us vs Q E hr I1.env0 hb' r q) fun r s' hq=>?_);cases r with
 | error e=>exact hx H1 s1 e s' I1 hq
 | ok fl=>
  cases fl with
  | ret u=>exact I1.after hq
  | next=>exact MG hq
  | brk=>exact MG hq
  | cont=>exact MG hq
theorem PA.re{es:List Expr}{t:TA}{Y:Value->MB->Prop}(h:PA X es t)(hx:X.xe=fun _ _=>False):PA (X.wish Y) es t:=fun pos pins s σ H Q I hw=>
 N7 (h pos pins s σ H Q I.unwish hw) (fun _ _ ⟨v,H',I',r,q⟩=>⟨v,H',I'.wish _,r,q⟩) fun _ _ z=>by rw[hx] at z;exact MG z
end
variable[TW]
theorem LD{X:Cx}{pins:List (Addr×Obj)}{σ:L2.St}{H:Hp}{s:MB}{a T D:Addr}{dx:Option Addr}{M:SG}{E:Value->MB->Prop}{Q:Unit->MB->Prop}(o:Own X)(I:L2.Inv X pins σ H s)(fl:mW s.heap a T .none (.ref D) dx)(ap:Apart X H [a,T])(np:∀b∈[a,T],∀p∈X.pn++pins,p.1≠b)
  (k:∀s' T',L2.Inv X pins σ H s'->mW s'.heap a T' .none (.ref D) dx->Apart X H [a,T']->(∀b∈[a,T'],∀p∈X.pn++pins,p.1≠b)->Q () s') :
  MK M X.A (Qf (.ref a) X.env) (fun _ s₂=>MK M X.A (Rt (.ref a) none) Q E s₂) E s:=by
 refine BA (by rw[I.ok.frames,o.st]) (by have:=I.stack;rw[o.st] at this;exact this) o.fr (.inr ⟨T,.none,.inl rfl,rfl,fl⟩) fun g T' hT fl' st=>?_;have st':F3 (frs X.stack) [a,T] s.heap g:=by rw[o.st];exact st
 have I1:=jq I np st' ap
 have ap':Apart X H [a,T']/\∀b∈[a,T'],∀p∈X.pn++pins,p.1≠b:=by
  have hT':(X.s₀.heap.objs.size<=T'/\T'≠X.env.locals/\(∀x c,X.env.cells.lookup x=some c->c≠T')/\H T'=none)/\∀p∈X.pn++pins,p.1≠T':=by
   rcases hT with z | z
   ·exact⟨ap _ z,np _ z⟩
   ·exact⟨ic I z,fun p hp zz=>Ms _ (MF (MJ (zz▸(I.pin p hp).1)) z)⟩
  refine⟨fun b hb=>?_,fun b hb=>?_⟩
  ·rcases MH.mp hb with z | z
   ·subst z;exact ap _ (by simp)
   ·have:b=T':=by simpa using z
    subst this;exact hT'.1
  ·rcases MH.mp hb with z | z
   ·subst z;exact np _ (by simp)
   ·have:b=T':=by simpa using z
    subst this;exact hT'.2
 refine vM fl' fun g2 fl2 st2=>k _ T' (jq I1 ap'.2 ⟨st2.1,fun b ob nb hb=>?_⟩ ap'.1) fl2 ap'.1 ap'.2;obtain⟨z1,sl,z2⟩:=st2.2 b ob (fun z=>nb (by simp at z;simp[z])) hb;exact⟨fun _=>z1 (by simp),sl,z2⟩
theorem DC{X:Cx}{pins:List (Addr×Obj)}{σ:L2.St}{H:Hp}{s:MB}{a T D B:Addr}{dx:Option Addr}{E:Value->MB->Prop}{Q:Flow->MB->Prop}{cls n:Str}{np ph:O4}{b₀:Stmt}{suite:List Stmt}{rest:List ExceptHandler}{j:Nat}{W:L2.St->Hp->Prop}
  (hN:X.N.Nodup) (I:L2.Inv X pins σ H s) (fl:mW s.heap a T .none (.ref D) dx) (ap:Apart X H [a,T]) (npn:∀b∈[a,T],∀p∈X.pn++pins,p.1≠b)
  (hg:Gl X cls) (hm:X.mg cls=some (.ref B)) (hx:RN X.K (.ref D) (.ref B)=some true) (hd:(cls == ("__debug__":Str))=false) (hj:X.N[j]?=some n) (hk:X.env.scope.names.lookup n=some .local)
  (hs:∀s' ,L2.Inv (cxH X a) pins (σ.set j (some (.ref a))) (upd H a (XAt a (.ref D) dx)) s'->MK (MV X.prog X.w) (X.A.mark (some (.ref a))) (execs (b₀::suite) X.env) (SP (cxH X a) pins { nx:=W,rt:=fun _ _=>False }) (fun _ _=>False) s')
  (hq:∀σ' H' s',L2.Inv X pins (σ'.set j none) H' s'->W σ' H'->Q .next s') :
  MK (MV X.prog X.w) X.A (handleBy (.ref a) X.env (.ExceptHandler (some (.Name cls np)) (some n) (b₀::suite) ph::rest)) Q E s:=by
 refine wpAny_handleBy_cons (codeAny_handlers_test (jc (X:=cxH X a) (tm I) hg hm ?_ hd)) (by intro q;cases q);obtain⟨oe,vs,oT,ts,q1,q1',q1'',q2,q3,q4,q5,q6,q7⟩:=id fl
 have LT:PySem.W.Looks (MV X.prog X.w) s.heap (typeOf (.ref a)) (.ref D):=by
  rw[← q1'];exact(PySem.W.Looks.ld q1).andThen .now
 refine(PySem.W.exm_one I.kIn LT hx).here (codeAny_handlers_suite_as ?_);refine vM fl fun g fl2 st2=>?_
 have I1:L2.Inv X pins σ H { s with heap:=g }:=jq I npn ⟨st2.1,fun b ob nb hb=>by
  obtain⟨z1,sl,z2⟩:=st2.2 b ob (fun z=>nb (by simp at z;simp[z])) hb;exact⟨fun _=>z1 (by simp),sl,z2⟩⟩ ap
 obtain⟨oe2,vs2,oT2,ts2,r1,r1',r1'',r2,_⟩:=id fl2;have ha:=ap a (by simp);have I2:L2.Inv X pins σ (upd H a (XAt a (.ref D) dx)) { s with heap:=g }:=r8 I1 ha.2.2.2 ha.1 ha.2.1 ha.2.2.1 (npn a (by simp)) ⟨⟨oe2,vs2,r1,r1',r1'',r2⟩,⟨oe2,r1⟩,fun h1 h2 ⟨o,vs,z1,z2⟩ kk=>⟨o,vs,kk o z1,z2⟩⟩;refine kZ (X:=cxH X a) (tm I2) hN hj (.inl hk) (v:=.ref a) rfl (fun s3 I3=>?_) (.inr hk);refine N7 (hs s3 I3) (fun fl s4 z=>?_) fun _ _ z=>MG z;cases fl with
 | next=>
  obtain⟨σ',H',I4,w⟩:=z;exact DD (X:=X) (uK I.ok I4) hN hj hk fun s5 I5=>hq σ' H' s5 I5 w
 | ret v=>obtain⟨_,_,_,_,_,z⟩:=z;exact MG z
 | brk=>obtain⟨_,_,_,z⟩:=z;exact MG z
 | cont=>obtain⟨_,_,_,z⟩:=z;exact MG z
end PU
namespace PU
open PySem PySem.Spec PyProof.Rows L2
def EC(i j:Nat)(cs:List Str)(fs:PSt->R (List PV))(F:List PV->Option (Tr ⊕ PX))(gh:PSt->XO Fb):PSt->XO Fb:=fun ρ=>(XO.rd ρ (fs ρ)).bind fun ps ρ=>match F ps with
 | some (.inl t)=>.ok .next (ρ.set i (.val (trV t)))
 | some (.inr x)=>if x.cls∈cs then (match gh (ρ.set j (.exc x)) with
   | .ok .next ρ'=>.ok .next (ρ'.set j .no)
   | _=>.no) else .no
 | none=>.no
def Catch(K:M9)(mg:Str->Option Value)(cls:Str)(cs:List Str):Prop:=∃B,mg cls=some (.ref B)/\∀c∈cs,∀C,Ma K MM c=some (some (.ref C))->RN K (.ref C) (.ref B)=some true
variable[TW]
theorem FO{C:Cn}{n k:Nat}(i j:Nat){x g cls nm:Str}{e:Expr}{es:List Expr}{px pg pc pa np ph pos:O4}{b₀:Stmt}{suite:List Stmt}{cs:List Str}{fs:PSt->R (List PV)}{F:List PV->Option (Tr ⊕ PX)}{gh:PSt->XO Fb}
  (G:PFTX C.X.prog C.X.w C.X.K C.X.mg C.X.base k g F) {kr:Nat} (hr:Room kr C.X.A) (hN:C.X.N.Nodup) (ha:EA C (e::es) fs) (ct:Catch C.X.K C.X.mg cls cs) (hsu:∀a,SBs ⟨cxH C.X a,fun _ _=>False⟩ n (b₀::suite) gh)
  (own:Own C.X:=by exact⟨rfl,rfl,rfl⟩) (hxe:C.X.xe=(fun _ _=>False):=by rfl) (hdb:(g == ("__debug__":Str))=false:=by decide) (hdc:(cls == ("__debug__":Str))=false:=by decide) (he:MO (e::es) C.X.env=(false,NC e C.X.env)::MO es C.X.env:=by exact eX rfl) (hpl:(Nq pc (MO es C.X.env)).any (·.1)=false:=by exact o9 rfl) (hk:k<=kr:=by decide) (hg:Gl C.X g:=by exact rfl) (hgc:Gl C.X cls:=by exact rfl)
  (hs:Nk (.Call (.Name g pg) (e::es) [] pc) (some (.Name x px)) pa.line C.X.env=pure false:=by rfl) (hi:C.X.N[i]?=some x:=by rfl) (hx:Loc C.X.env.scope x:=by first | exact .inl rfl | exact .inr rfl) (hf:C.X.fn x=true\/C.X.env.scope.names.lookup x=some .local:=by first | exact .inl rfl | exact .inr rfl | assumption)
  (hj:C.X.N[j]?=some nm:=by rfl) (hjl:C.X.env.scope.names.lookup nm=some .local:=by rfl) :
  SB C n (.Try [.Assign [.Name x px] (.Call (.Name g pg) (e::es) [] pc) pa] [.ExceptHandler (some (.Name cls np)) (some nm) (b₀::suite) ph] [] [] pos) (EC i j cs fs F gh):=by
 replace hr:=hr.mono hk;intro pins s σ H D I ⟨ρ,Z,S,q⟩;obtain⟨f,fd,ps,a,b,c,d,l⟩:=G.ex;obtain⟨B,hB,hcat⟩:=ct;refine wpAny_Try_except (Pe (wpAny_Assign_Name ?_ hs))
 refine thn (Hk (p:=pg) (X:=C.X.wish (fun e' s₁=>MK (MV C.X.prog C.X.w) C.X.A (Qf e' C.X.env) (fun _ s₂=>MK (MV C.X.prog C.X.w) C.X.A (Rt e' none) (fun _ s₃=>MK (MV C.X.prog C.X.w) C.X.A (handleBy e' C.X.env [.ExceptHandler (some (.Name cls np)) (some nm) (b₀::suite) ph]) (SP C.X pins D) C.X.xe s₃) C.X.xe s₂) C.X.xe s₁)) (pins:=pins) (σ:=σ) (E:=fun cV dx H'=>∃y B',cV=.ref B'/\Same H H'/\ExP C.X.K H' B' dx y/\y.cls∈cs/\∃ρ',gh (ρ.set j (.exc y))=.ok .next ρ'/\Ew C n Z D .next (ρ'.set j .no))
  (Q:=fun v H'=>∃a l t,v=.ref a/\Same H H'/\(∀b∈a::l,H b=none)/\bu C.X.K H' a l t/\Ew C n Z D .next (ρ.set i (.val (trV t)))) a hr hg b c d (fun H1 s1 e' s' I1 hq=>?_) (PA.re ha hxe) hdb he hpl (I.wish _) ?_) fun u s1 ⟨v,H1,I1,r1,ad,ls,t,ev,sm,fr,ht,hend⟩=>?_
 ·obtain⟨H',ad,T,B0,dx,rfl,fl,os,bare,un,hok,apt,y,B',eB,sm,exp,hc,ρ',hgh,hend⟩:=hq
  cases eB;have J:L2.Inv C.X pins σ H' s':=I1.unwish.call' (ch:=[]) os un hok bare (fun b z=>absurd z (by simp))
  have ap:Apart C.X H' [ad,T]:=fun b hb=>by
   obtain⟨z1,z2⟩:=apt b hb;obtain⟨y1,y2,y3,_⟩:=ic I1.unwish z1;exact⟨y1,y2,y3,z2⟩
  have npn:∀b∈[ad,T],∀p∈C.X.pn++pins,p.1≠b:=fun b hb p hp zz=>by
   have:=(I1.pin p hp).1;exact Ms _ (MF (MJ (zz▸this)) (apt b hb).1)
  refine LD own J fl ap npn fun s3 T' J3 fl3 ap3 np3=>?_;refine DC (W:=fun σ' H2=>StB C.X.K n Z H2 σ' ρ') hN J3 fl3 ap3 np3 hgc hB (hcat _ hc _ exp.1) hdc hj hjl (fun s4 I4=>?_) fun σ' H2 s4 I4 w=>⟨_,H2,I4,hend _ _ (w.setL (l:=.no) trivial)⟩;refine hsu ad pins s4 _ _ _ I4 ⟨ρ.set j (.exc y),Z,((S.grow sm).grow (Same.new (ap3 ad (by simp)).2.2.2)).setL (l:=.exc y) ⟨ad,B0,dx,rfl,aA,exp.kp (Same.kp (Same.new (ap3 ad (by simp)).2.2.2))⟩,?_⟩;rw[hgh];exact fun σ' H2 w=>w
 ·refine⟨ρ,S.vw,(RX.rd S q.bind).imp fun qs _ q1 vs H1 s1 r1=>?_⟩
  cases hF:F qs with
  | none=>rw[hF] at q1;exact MG q1
  | some r=>
   rw[hF] at q1;refine⟨by rw[← r1.length];exact l qs _ hF,s1.tabs S.vw.tb,qs,r,r1,hF,fun t et a ls H' s' fr ht=>?_,fun y ey H' B' dx s' exp=>?_⟩
   ·subst et
    exact⟨a,ls,t,rfl,s1.trans s',fun b hb=>s1.free (fr b hb),ht,q1⟩
   ·subst ey
    have q1:RX C Z (if y.cls∈cs then (match gh (ρ.set j (.exc y)) with | .ok .next ρ'=>.ok .next (ρ'.set j .no) | _=>.no) else .no) (Ew C n Z D):=q1;split at q1
    ·rename_i hc
     split at q1
     ·rename_i ρ' hgh
      exact⟨y,B',rfl,s1.trans s',exp,hc,ρ',hgh,q1⟩
     ·exact MG q1
    ·exact MG q1
 ·subst ev
  obtain⟨H2,I2,rp,oth,kp,fz⟩:=L2.Inv.frzT I1.unwish ht
  have sm2:Same H H2:=⟨fun b o e n=>by
   have hb:b ∉ ad::ls:=fun z=>by rw[fr b z] at e;cases e
   rw[oth b hb];exact sm.at_ b o e n,fun b ps e=>by
   have hb:b ∉ ad::ls:=fun z=>by rw[fr b z] at e;cases e
   obtain⟨p1,e1,k1⟩:=sm.tb b ps e;exact⟨p1,by rw[oth b hb];exact e1,fun t=>(k1 t).kp kp⟩⟩
  exact kZ I2 hN hi hx r1 (fun s2 I3=>OV (OV ⟨_,H2,I3,hend _ _ ((S.grow sm2).setL (l:=.val (trV t)) ⟨_,rfl,rp⟩)⟩)) hf
end PU
namespace PU
open PySem PySem.Spec PyProof.Rows L2
theorem xO:ml "NoHouse"="row":=by decide
def AX(K:M9)(mg:Str->Option Value)(cls qual:Str)(st:Stmt):Prop:=∃D,XHas K mg cls qual (ml cls) st D
def IsO(K:M9)(mg:Str->Option Value)(D:Str)(tab:Str->Option Bool):Prop:=∃B,mg D=some (.ref B)/\XIs K tab (.ref B)
noncomputable def gI(c:Str)(b:Bool):Str->Option Bool:=fun x=>if x=c then some b else none
section
variable{K : M9}{mg : Str → Option Value}{h : Heap}{C C0 B f : Addr}{c d : Str}{b : Bool}{cV : Value}
theorem xis1(e1:Ma K MM c=some (some (.ref C)))(ft:XFit K C)(kt:QR K (.ref C) cV=some b):XIs K (gI c b) cV:=fun c' b' e=>by
 unfold gI at e;split at e
 ·rename_i z
  subst z;cases e;exact⟨C,e1,ft,kt⟩
 ·cases e
theorem isO1(X:K.In h)(G:h.Ns MM mg)(e0:Ma K MM d=some (some (.ref B)))(e1:Ma K MM c=some (some (.ref C)))(ft:XFit K C)(kt:QR K (.ref C) (.ref B)=some b):IsO K mg d (gI c b):=
 ⟨B,O0 X G e0,xis1 e1 ft kt⟩
theorem catch1(X:K.In h)(G:h.Ns MM mg)(e0:Ma K MM d=some (some (.ref B)))(e1:Ma K MM c=some (some (.ref C)))(kt:RN K (.ref C) (.ref B)=some true):Catch K mg d [c]:=
 ⟨B,O0 X G e0,fun c' hc C' e=>by
  have:c'=c:=by simpa using hc
  subst this;rw[e1] at e;cases e;exact kt⟩
theorem xhas_mk {st:Stmt} {od an:Option Addr} {kV doc pm cdv ct:Value} {osl:Array (Option Value)} {cd:ClassData} (X:K.In h) (G:h.Ns MM mg) (e1:Ma K MM "NoHouse"=some (some (.ref C))) (e4:Ma K MM "MenuError"=some (some (.ref C0))) (e0:P7 K (.ref C) "__init__"=some (some (.ref f))) (e2:NO K (.ref C)=true) (e3:Ey K C (some f)=true)
  (e5:PySem.W.readsIn K C0 (.type "type")=true) (e6:PySem.W.findCls K (.ref C0) (.type "type") "__init__"=some (.val (.builtin "ValueError.__init__"))) (e7:Sy K (.ref C0) "__getattribute__"=some (some (.builtin "type.__getattribute__"))) (e8:PySem.W.clsIn K C=some cd) (e9:cd.hasDict=true) (e10:cd.mro=.ref C::.ref C0::bmV)
  (e11:P7 K (.ref C) "__setattr__"=some (some (.builtin "object.__setattr__"))) (e12:P7 K (.ref C) "row"=some none) (e13:K.lookup f=some ⟨.type "function",od,.func (NJ "__init__" "NoHouse.__init__" (cR st) (ba st) (af st) .none kV doc pm an cdv ct),osl⟩) (e14:OH K cdv "NoHouse.__init__"=true):AX K mg "NoHouse" "NoHouse.__init__" st:=
 ⟨C,O0 X G e1,e1,e2,f,C0,od,kV,doc,pm,an,cdv,ct,osl,e3,⟨O0 X G e4,⟨_,e5,e6⟩,e7,⟨cd,e8,e9,e10⟩,e11,by rw[xO];exact e12⟩,e13,e14⟩
theorem xfitN_mk (e1:Ma K MM "NoHouse"=some (some (.ref C))) (ft:XFit K C) (e12:P7 K (.ref C) "row"=some none):AY K "NoHouse":=⟨C,e1,ft,by rw[xO];exact e12⟩
end
noncomputable def DF:PV->PV->Option PV
 | .str x,.int n=>if 2<=n/\n<=1000/\0<x.length/\x.length<=1000 then some (.str ⟨(NS n.toNat x.cps).foldl (·++·) #[]⟩) else none
 | _,_=>none
theorem CL{n:Nat}{c:Array Nat}:∀(acc:Array Nat),((NS n c).foldl (·++·) acc).size=acc.size+n * c.size:=by
 induction n with
 | zero=>intro acc;simp
 | succ n ih=>intro acc;rw[List.replicate_succ,List.foldl_cons,ih,Array.size_append,Nat.succ_mul];omega
variable[TW]
theorem Gg{X:Cx}:OpR X (Ow .Mult) (rP X.K DF):=by
 intro pins s σ H x y v u Q I rx ry ⟨p,q,z,hp,hq,e,k⟩;unfold DF at e;split at e
 ·rename_i t n
  split at e
  ·rename_i hc
   cases e;cases (show x=.str t from hp);cases (show y=.int n from hq);obtain⟨tk,rfl⟩:=rx;obtain⟨tk',rfl⟩:=ry
   have hn:(n == 1 || t.length == 0)=false:=by
    rw[T7];exact⟨beq_eq_false_iff_ne.mpr (by omega),beq_eq_false_iff_ne.mpr (by omega)⟩
   have hz:t.length * n.toNat<=1000000:=Mm (Nat.mul_le_mul hc.2.2.2 (show n.toNat<=1000 by omega)) (by decide);refine PySem.P.mul_str ?_ (fun _ _=>?_) (fun _ _=>?_) ?_
   ·rw[decide_eq_false (by omega),decide_eq_false (by omega)];rfl
   ·have:(t.length:Int)<=1000:=by omega
    have h2:(1000:Int)<=(2 ^ 63-1) / n:=by
     rw[Int.le_ediv_iff_mul_le (by omega)];have:1000 * n<=1000 * 1000:=by omega
     omega
    omega
   ·unfold Builtin.Str.tooLong
    exact decide_eq_false (by rw[My];omega)
   ·rw[if_neg (by omega),if_neg (by rw[hn];decide)]
    refine⟨?_,.str _,H,I.tok _,⟨_,rfl⟩,k _ H (Same.refl H) rfl⟩;show Array.size _<=_;rw[CL,My,Nat.mul_comm];have hz:t.cps.size * n.toNat<=1000000:=hz;simp only[Mj,OD];omega
  ·cases e
 ·cases e
section
variable{C : Cn}{pos p : O4}{x : Str}{k : Nat}{F : List PV → Option PV}
theorem AC (G:PF C.X.prog C.X.w C.X.K C.X.mg C.X.base k x F) (hr:Room k C.X.A) (hg:Gl C.X x) (hdb:(x == ("__debug__":Str))=false:=by decide):EV C (.Call (.Name x p) [] [] pos) (bq aU F):=by
 obtain⟨f,fd,ps,a,b,c,d,l⟩:=G.ex;intro pins s σ H Q I ⟨ρ,vw,q⟩;obtain⟨z,ez,kq⟩:=RQ.ofO (show RQ C H (R.ofO (F [])) _ from q);refine zN (dvs:=[]) (ds:=[]) (E:=E0) a hr hg b c d .nil D5 hdb pins s σ H Q I ⟨l [] z ez,vw.tb,[],z,rfl,ez,fun v H' s' r'=>kq v H' s' r'⟩
end
section
variable{C : Cn}{pos p1 p2 p : O4}{x : Str}
theorem jw{n k:Nat}{cls qual:Str}{st:Stmt}{e:Expr}{f:PSt->R PV}{np cpos pos:O4}(h:AX C.X.K C.X.mg cls qual st)(nd:Er qual (ml cls) st)(hT:Thr C)(hr:Room (k+2) C.X.A)(he:EV C e f)
  (hg:Gl C.X cls:=by exact rfl) (hd:(cls == ("__debug__":Str))=false:=by decide) (hst:MO [e] C.X.env=(false,NC e C.X.env)::MO [] C.X.env:=by rfl):SB C n (.Raise (some (.Call (.Name cls np) [e] [] cpos)) none pos) (ky cls f):=by
 obtain⟨D,h⟩:=h;exact zm h nd hT hr he hg hd hst
theorem mn (i:Nat) {tab:Str->Option Bool} {D:Str} (h:IsO C.X.K C.X.mg D tab) (hm:C.X.mg "isinstance"=none) (hgD:Gl C.X D:=by exact rfl) (hdD:(D == ("__debug__":Str))=false:=by decide) (hN:C.X.N[i]?=some x:=by rfl) (hv:Vis C.X.env.scope x:=by first | exact .inl rfl | exact .inr (.inl rfl) | exact .inr (.inr rfl))
  (hg:Gl C.X "isinstance":=by exact rfl) (hd:(x == ("__debug__":Str))=false:=by decide) (hcd:(x == ("__classdict__":Str))=false:=by decide):EV C (.Call (.Name "isinstance" p) [.Name x p1,.Name D p2] [] pos) (mQ i tab):=by
 obtain⟨B,h1,h2⟩:=h;exact BN i h2 (wA (v:=.ref B) hgD h1 rfl hdD) (fun u h=>h) hm hN hv hg hd hcd
theorem H9 (i:Nat) {tab:Str->Option Bool} {D:Str} {cs:String} (h:XIs C.X.K tab (.type cs)) (hm2:C.X.mg D=none) (hb2:Nv D=some (.type cs)) (hm:C.X.mg "isinstance"=none) (hgD:Gl C.X D:=by exact rfl) (hnD:D≠"__name__":=by decide) (hdD:(D == ("__debug__":Str))=false:=by decide) (hN:C.X.N[i]?=some x:=by rfl) (hv:Vis C.X.env.scope x:=by first | exact .inl rfl | exact .inr (.inl rfl) | exact .inr (.inr rfl))
  (hg:Gl C.X "isinstance":=by exact rfl) (hd:(x == ("__debug__":Str))=false:=by decide) (hcd:(x == ("__classdict__":Str))=false:=by decide):EV C (.Call (.Name "isinstance" p) [.Name x p1,.Name D p2] [] pos) (mQ i tab):=
 BN i h (wC (v:=.ty cs) hgD hm2 hb2 rfl hnD hdD) (fun u h=>h) hm hN hv hg hd hcd
end
end PU
namespace K03
open PySem L2 PU
abbrev tw(w:Me):TW:={ w:=w }
noncomputable def c_BENEATH:PV:=(.dct [(.inr "menu"),(.inr "names"),(.inr "hours")] [(.str "key"),(.str "name"),(.str "from")])
noncomputable def c_FIELDS:PV:=(.dct [(.inr "first"),(.inr "letters"),(.inr "menu"),(.inr "key"),(.inr "names"),(.inr "name"),(.inr "hours"),(.inr "from"),(.inr "hand"),(.inr "end")] [(.tup [(.str "name")]),(.tup [(.str "letters key"),(.str "letters")]),(.tup [(.str "name"),(.str "many"),(.str "name"),(.str "many"),(.str "name"),(.str "text")]),(.tup [(.str "key"),(.str "target")]),(.tup [(.str "name"),(.str "many"),(.str "name"),(.str "many"),(.str "name"),(.str "text")]),(.tup [(.str "word"),(.str "name")]),(.tup [(.str "name"),(.str "name")]),(.tup [(.str "from"),(.str "till"),(.str "name")]),(.tup [(.str "name"),(.str "text")]),(.tup [(.str "name"),(.str "text")])])
def c_FIGURES:PV:=(.str "0123456789")
def c_KEYS:PV:=(.str "0123456789*#")
def c_MOST_BENEATH:PV:=(.int 12)
def c_MOST_ROOMS:PV:=(.int 12)
def c_PER_CENT:PV:=(.int 37)
noncomputable def c_ROOM_KINDS:PV:=(.tup [(.str "menu"),(.str "names"),(.str "hours"),(.str "hand"),(.str "end")])
def c_SMALL_LETTERS:PV:=(.str "abcdefghijklmnopqrstuvwxyz")
def fZ:PSt->R PV:=(au (ah 0) (kP c_SMALL_LETTERS) gIn)
def eF:PSt->R Fl:=(cA (uU (kH (kI 1) (un1 (ah 0) eP) (ah 1) gLe gLe) (un1 (gL (itF (ah 0)) (aL 0) lu fZ 1 []) DJ)))
def br:List PV->Option PV:=iI 2 2 eF
def jJ:PSt->R Fl:=(cA (uU (bq (ae (ah 0) (ae (kI 8) aU)) br) (au (ah 0) (kS "back") gNe)))
def il:List PV->Option PV:=iI 1 1 jJ
def mi:PSt->R Fl:=(cA (bq (ae (ah 0) (ae (kI 12) aU)) br))
def jN:List PV->Option PV:=iI 1 1 mi
def jK:PSt->R Fl:=(cA (uU (au (un1 (ah 0) eP) (kI 1) gEq) (au (ah 0) (kP c_KEYS) gIn)))
def jO:List PV->Option PV:=iI 1 1 jK
def cI:PSt->R Fl:=(cA (uU (kH (kS " ") (ah 0) (kS "~") gLe gLe) (au (un1 (ah 0) HZ) (kP c_PER_CENT) gNe)))
def dA:List PV->Option PV:=iI 1 1 cI
def iq:PSt->R PV:=(bq (ae (ah 0) aU) dA)
def gj:PSt->R Fl:=(cA (uU (kH (kI 1) (un1 (ah 0) eP) (kI 80) gLe gLe) (un1 (gL (itF (ah 0)) (aL 0) lu iq 1 []) DJ)))
def iH:List PV->Option PV:=iI 1 1 gj
def dY:PSt->R PV:=(au (ah 0) (kP c_FIGURES) gIn)
def da:PSt->R Fl:=(bY (ifF (orB (bX (au (ah 0) (kS "") gEq)) (lO (bX (un1 (gL (itF (ah 0)) (aL 0) lu dY 1 []) DJ)))) (cA (kB false)) bK) (cA (orV (au (ah 0) (kS "0") gEq) (au (au (ah 0) (kI 0) gIx) (kS "0") gNe))))
def fK:List PV->Option PV:=iI 1 1 da
def bI:PSt->R Fl:=(bY (ifF (orB (lO (bX (bq (ae (ah 0) aU) fK))) (bX (au (un1 (ah 0) eP) (un1 (un1 (ah 2) BK) eP) gGt))) (cA kN) bK) (bY (dF 3 (un1 (ah 0) DI)) (cA (ifV (bX (kH (ah 1) (ah 3) (ah 2) gLe gLe)) (ah 3) kN))))
def b8:List PV->Option PV:=iI 3 4 bI
def fY:PSt->R Fl:=(bY (ifF (bX (au (au (ah 0) (kI 0) gIx) (kS "hours") gEq)) (cA (au (ah 0) (kI 1) gIx)) bK) (cA (ifV (bX (au (au (ah 0) (kI 0) gIx) (kP c_BENEATH) gIn)) (au (ah 0) (kI 2) gIx) (kL aU))))
def dW:List PV->Option PV:=iI 1 1 fY
def aF:PSt->R Fl:=(bY (dF 3 (ifV (bX (au (ah 1) (un1 (ah 0) eP) gLt)) (au (ah 0) (ah 1) gIx) (kS ""))) (ifF (BX (bX (ie (ah 2) (kS "names ") km)) (lO (bX (ie (ah 3) (kS "name ") km)))) (cA (ah 1)) bK))
def dS:PSt->R Fl:=(bY (yP (jR (ah 0)) (ji 2 (bg (aL 1) (bg (aL 2) jj))) aF) (cA (kI 0)))
def dU:List PV->Option PV:=iI 1 4 dS
def ig:PSt->R Fl:=(bY (ifF (bX (au (ah 0) (kS "name") gEq)) (cA (bq (ae (ah 1) aU) il)) bK) (bY (ifF (bX (au (ah 0) (kS "target") gEq)) (cA (orV (bq (ae (ah 1) aU) il) (au (ah 1) (kS "back") gEq))) bK) (bY (ifF (bX (au (ah 0) (kS "word") gEq)) (cA (bq (ae (ah 1) aU) jN)) bK) (bY (ifF (bX (au (ah 0) (kS "key") gEq)) (cA (bq (ae (ah 1) aU) jO)) bK) (bY (ifF (bX (au (ah 0) (kS "letters key") gEq)) (cA (uU (bq (ae (ah 1) aU) jO) (au (ah 1) (kS "#") gNe))) bK) (bY (ifF (bX (au (ah 0) (kS "letters") gEq)) (cA (bq (ae (ah 1) (ae (kI 26) aU)) br)) bK) (cA (bq (ae (ah 1) aU) iH))))))))
def tF:List PV->Option PV:=iI 2 2 ig
def cN:PSt->R Fl:=(bY (ifF (bX (au (ah 0) (kS "many") gEq)) (cA (bq (ae (ah 1) (ae (kI 1) (ae (kI 9) aU))) b8)) bK) (bY (ifF (bX (au (ah 0) (kS "from") gEq)) (cA (bq (ae (ah 1) (ae (kI 0) (ae (kI 23) aU))) b8)) bK) (bY (ifF (bX (au (ah 0) (kS "till") gEq)) (cA (bq (ae (ah 1) (ae (kI 1) (ae (kI 24) aU))) b8)) bK) (cA (ifV (bX (bq (ae (ah 0) (ae (ah 1) aU)) tF)) (ah 1) kN)))))
def eS:List PV->Option PV:=iI 2 2 cN
def dX:PSt->R PV:=(bq (ae (ah 0) (ae (ah 1) aU)) eS)
def d0:PSt->R Fl:=(bY (ifF (bX (au (ah 0) (kP c_FIELDS) kE)) (cA kN) bK) (bY (dF 2 (au (kP c_FIELDS) (ah 0) gIx)) (bY (dF 3 (fH (A2 (ah 1) (kS " ") (un1 (ah 2) eP) oR) (jg (kI 1)) gi)) (bY (ifF (bX (au (un1 (ah 3) eP) (un1 (ah 2) eP) gLt)) (cA kN) bK) (bY (dF 4 (gL (yV (ah 2) (ah 3)) (ji 2 (bg (aL 0) (bg (aL 1) jj))) lu dX 2 [])) (cA (ifV (bX (au kN (ah 4) gIn)) kN (ah 4))))))))
def eI:List PV->Option PV:=iI 2 5 d0
def fu:PSt->R Fl:=(bY (ifF (bX (au (au (ah 0) (kI 0) gIx) (kS "hours") gEq)) (cA (kL (ae (au (ah 0) (kI 0) gIx) (ae (ah 1) (ae (au (ah 0) (kI 2) gIx) aU))))) bK) (cA (kL (ae (au (ah 0) (kI 0) gIx) (ae (au (ah 0) (kI 1) gIx) (ae (ah 1) (ae (au (ah 0) (kI 3) gIx) (ae (au (ah 0) (kI 4) gIx) aU))))))))
def dM:List PV->Option PV:=iI 2 2 fu
def cH:PSt->R Fl:=(bY (ifF (bX (au (ah 0) (kS "from") gEq)) (cA (au (au (ah 2) (kI 0) gIx) (au (ah 2) (kI 1) gIx) gLt)) bK) (bY (ifF (lO (bX (ah 1))) (cA (kB true)) bK) (bY (ifF (bX (au (ah 0) (kS "name") gEq)) (cA (au (au (au (ah 1) (un1 (kI 1) GU) gIx) (kI 0) gIx) (au (ah 2) (kI 0) gIx) gLt)) bK) (cA (au (ie (kP c_KEYS) (au (au (ah 1) (un1 (kI 1) GU) gIx) (kI 0) gIx) nR) (ie (kP c_KEYS) (au (ah 2) (kI 0) gIx) nR) gLt)))))
def bj:List PV->Option PV:=iI 3 3 cH
def bN:PSt->XO Fb:=(gM (cU (ifF (lO (bX (yN 0))) (cA (kB false)) bK)) (gM (cU (dF 3 (au (un1 (yN 0) qG) (un1 (kI 1) GU) gIx))) (gM (cU (dF 4 (au (yN 0) (ah 3) gIx))) (gM (cU (ifF (bX (au (A1 (kP c_BENEATH) (au (ah 4) (kI 0) gIx) F2) (ah 1) gNe)) (cA (kB false)) bK)) (gM (cU (dF 5 (bq (ae (ah 4) aU) dW))) (gM (cU (ifF (orB (bX (au (un1 (ah 5) eP) (kP c_MOST_BENEATH) gEq)) (lO (bX (bq (ae (ah 1) (ae (ah 5) (ae (ah 2) aU))) bj)))) (cA (kB false)) bK)) (gM (vE (.whole 0) (ah 3) (bq (ae (ah 4) (ae (au (ah 5) (kL (ae (un1 (ah 2) nQ) aU)) bC) aU)) dM)) (cU (cA (kB true))))))))))
def bO:Tr->List PV->Option (PV×Tr):=yH 3 6 bN
def cX:PSt->R PV:=(ah 1)
def cW:PSt->R PV:=(au (ie (ah 1) (ah 0) qH) (kI 1) gGt)
def cv:PSt->XO Fb:=(gM (ifB (A5 0 (orB (bX (au (ah 0) (kS "rooms") gIx)) (lO (bX (bq (ae (kS "letters") (ae (au (ah 0) (kS "letters") gIx) (ae (ah 1) aU))) bj))))) (cU (cA (kB false))) lU) (gM (cU (dF 2 (au (ie (kS "") (gL (itL (xQ 0 (.inr "letters"))) (ji 2 (bg (aL 0) (bg (aL 1) jj))) lu cX 2 []) mj) (au (ah 1) (kI 1) gIx) bC))) (gM (cU (ifF (bX (un1 (gL (itF (au (ah 1) (kI 1) gIx)) (aL 0) lu cW 1 [2]) GW)) (cA (kB false)) bK)) (gM (Ht (.fld 0 (.inr "letters")) (kL (ae (au (ah 1) (kI 0) gIx) (ae (au (ah 1) (kI 1) gIx) aU)))) (cU (cA (kB true)))))))
def cw:Tr->List PV->Option (PV×Tr):=yH 2 3 cv
def fA:PSt->R Fl:=(bY (ifF (bX (au (ah 0) (kS "hours") gEq)) (cA (kL (ae (ah 0) (ae (kL aU) (ae (au (ah 1) (kI 1) gIx) aU))))) bK) (bY (ifF (bX (au (ah 0) (kP c_BENEATH) gIn)) (cA (kL (ae (ah 0) (ae (au (ah 1) (kI 5) gIx) (ae (kL aU) (ae (kL (ae (au (ah 1) (kI 1) gIx) (ae (au (ah 1) (kI 2) gIx) aU))) (ae (kL (ae (au (ah 1) (kI 3) gIx) (ae (au (ah 1) (kI 4) gIx) aU))) aU))))))) bK) (cA (kL (ae (ah 0) (ae (au (ah 1) (kI 1) gIx) aU))))))
def ck:List PV->Option PV:=iI 2 2 fA
def fw:PSt->XO Fb:=(gM (cU (ifF (orB (bX (au (un1 (yN 0) eP) (kP c_MOST_ROOMS) gEq)) (bX (au (au (ah 2) (kI 0) gIx) (yN 0) gIn))) (cA (kB false)) bK)) (gM (vE (.whole 0) (au (ah 2) (kI 0) gIx) (bq (ae (ah 1) (ae (ah 2) aU)) ck)) (cU (cA (kB true)))))
def dN:Tr->List PV->Option (PV×Tr):=yH 3 3 fw
def bU:PSt->XO Fb:=(gM (cU (dF 2 (au (ie (ah 1) (kS " ") xI) (kI 0) gIx))) (gM (cU (dF 3 (bq (ae (ah 2) (ae (ah 1) aU)) eI))) (gM (cU (ifF (orB (bX (au (ah 3) kN DH)) (bX (au (au (ah 2) (kS "first") gEq) (au (xQ 0 (.inr "first")) (kS "") gEq) gNe))) (cA (kB false)) bK)) (gM (ifB (oI (bX (au (ah 2) (kS "first") gEq))) (gM (xM 0 (.inr "first") (au (ah 3) (kI 0) gIx)) (cU (cA (kB true)))) lU) (gM (ifB (oI (bX (au (ah 2) (kS "letters") gEq))) (EF (qR (.whole 0) (ae (ah 3) aU) cw)) lU) (gM (ifB (oI (bX (au (ah 2) (kP c_ROOM_KINDS) gIn))) (EF (qR (.fld 0 (.inr "rooms")) (ae (ah 2) (ae (ah 3) aU)) dN)) lU) (EF (qR (.fld 0 (.inr "rooms")) (ae (ah 2) (ae (ah 3) aU)) bO))))))))
def de:Tr->List PV->Option (PV×Tr):=yH 2 4 bU
def b7:PSt->XO Fb:=(ifB (EL (HW (qR (.whole 2) (ae (ah 4) aU) de))) (ky "NoHouse" (ah 3)) lU)
def cG:PSt->XO Fb:=(gM (ifB (EL (oI (bX (un1 (ah 0) (vf "str"))))) (ky "NoHouse" (kI 1)) lU) (gM (cU (dF 1 (ie (ah 0) (kS "\n") jL))) (gM (Cm 2 (uD (nX (.inr "first") (kS "") (iP (.inr "letters") (gp aU) (iP (.inr "rooms") newD ER))))) (gM (JL (jR (ah 1)) (ji 2 (bg (aL 3) (bg (aL 4) jj))) b7) (gM (ifB (EL (oI (bX (xQ 2 (.inr "rooms"))))) (ky "NoHouse" (au (un1 (ah 1) eP) (kI 1) bC)) lU) (gM (cU (dF 5 (bq (ae (ah 1) aU) dU))) (gM (ifB (oI (bX (au (ah 5) (kI 0) gGt))) (ky "NoHouse" (ah 5)) lU) (vV 2))))))))
def bH:List PV->Option (Tr ⊕ PX):=pZ 1 6 cG
def eQ:PSt->R Fl:=(bY (ifF (bX (au (ah 1) (un1 (ah 0) eP) gLt)) (cA (au (ah 0) (ah 1) gIx)) bK) (cA (kI 0)))
def b9:List PV->Option PV:=iI 2 2 eQ
def je:PSt->R Fl:=(cA (au (au (au (ah 0) (kI 2147483647) oU) (ah 1) F1) (kI 2147483647) oU))
def dO:List PV->Option PV:=iI 2 2 je
def eU:PSt->R Fl:=(bY (dF 9 (au (ah 6) (un1 (au (ah 8) (ah 4) gEq) I8) F1)) (dF 7 (au (ah 7) (au (ah 2) (au (au (au (ah 0) (au (ah 8) (kI 2) bC) yO) (ah 9) bC) (kI 24) oU) gIx) bC)))
def eT:PSt->R Fl:=(bY (dF 7 (kS "")) (bY (yP (FU (ah 3)) (aL 8) eU) (BW 5 (ah 7))))
def jd:PSt->R Fl:=(bY (dF 2 (kS "acdefghijlmnopqrstuvwxyz")) (bY (dF 3 (au (kI 1) (au (ah 0) (kI 8) oU) bC)) (bY (dF 4 (au (au (ah 0) (kI 8) yO) (ah 3) oU)) (bY (EH 5 (gp aU)) (bY (yP (FU (ah 1)) (aL 6) eT) (GY 5 (cA (ah 5))))))))
def fC:List PV->Option PV:=iI 2 10 jd
def fM:PSt->R PV:=(au (au (au (kS "key ") (ah 0) bC) (kS " ") bC) (ah 1) bC)
def eV:PSt->R Fl:=(bY (dF 2 (au (gp (ae (kS "menu") (ae (kS "names") (ae (kS "hours") (ae (kS "hand") aU))))) (au (ah 1) (kI 4) oU) gIx)) (bY (dF 3 (au (au (au (au (kS " 1 ") (ah 0) bC) (kS " ") bC) (un1 (au (kI 1) (au (au (ah 1) (kI 4) yO) (kI 9) oU) bC) BK) bC) (kS " a So?") bC)) (bY (ifF (bX (au (ah 2) (kS "menu") gEq)) (bY (dF 4 (gL (itF (gp (ae (kL (ae (kS "0") (ae (kS "back") aU))) (ae (kL (ae (kS "7") (ae (ah 0) aU))) (ae (kL (ae (kS "#") (ae (kS "a") aU))) aU))))) (ji 2 (bg (aL 0) (bg (aL 1) jj))) lu fM 2 [])) (cA (au (gp (ae (au (au (kS "menu ") (ah 0) bC) (ah 3) bC) aU)) (fH (ah 4) gi (jg (au (kI 1) (au (au (ah 1) (kI 16) yO) (kI 3) oU) bC))) bC))) bK) (bY (ifF (bX (au (ah 2) (kS "names") gEq)) (cA (au (gp (ae (au (au (kS "names ") (ah 0) bC) (ah 3) bC) aU)) (fH (gp (ae (kS "name ab a") (ae (au (kS "name abc ") (ah 0) bC) aU))) gi (jg (au (kI 1) (au (au (ah 1) (kI 16) yO) (kI 2) oU) bC))) bC)) bK) (bY (ifF (bX (au (ah 2) (kS "hours") gEq)) (cA (gp (ae (au (au (kS "hours ") (ah 0) bC) (kS " a") bC) (ae (au (kS "from 0 24 ") (ah 0) bC) aU)))) bK) (cA (gp (ae (au (au (kS "hand ") (ah 0) bC) (kS " So. ") bC) aU))))))))
def iG:List PV->Option PV:=iI 2 5 eV
def jI:PSt->R Fl:=(bY (dF 0 (gp (ae (kS "") (ae (kS " ") (ae (kS "door a b") (ae (kS "first a") (ae (kS "first") (ae (kS "letters # ab") (ae (kS "letters 2") (ae (kS "letters 2 aB") (ae (kS "letters 12 ab") aU))))))))))) (bY (dF 0 (au (ah 0) (gp (ae (kS "letters  ab") (ae (kS "menu zz 1 a 1 a") (ae (kS "menu zz 1 a 1 a ") (ae (kS "menu zz 0 a 1 a t") (ae (kS "menu zz 10 a 1 a t") aU)))))) bC)) (bY (dF 0 (au (ah 0) (gp (ae (kS "menu zz 1 a 01 a t") (ae (kS "menu zz 1 back 1 a t") (ae (kS "menu zz 1 a 1 A t") (ae (kS "menu back 1 a 1 a t") aU))))) bC)) (bY (dF 0 (au (ah 0) (gp (ae (kS "menu Z 1 a 1 a t") (ae (kS "menu zzzzzzzzz 1 a 1 a t") (ae (kS "names zz 1 a 1 a t\tu") (ae (kS "names zz a 1 1 a t") aU))))) bC)) (bY (dF 0 (au (ah 0) (gp (ae (kS "names  1 a 1 a t") (ae (kS "hours zz") (ae (kS "hours zz a b") (ae (kS "hours zz back") (ae (kS "hours zz A") (ae (kS "hand zz") (ae (kS "hand zz ") aU)))))))) bC)) (bY (dF 0 (au (ah 0) (gp (ae (kS "hand  t") (ae (kS "hand Zz t") (ae (kS "end zz") (ae (kS "end back t") (ae (au (kS "end zz ") (au (kS "t") (kI 81) DF) bC) (ae (kS "end zz \t") (ae (kS "End zz t") aU)))))))) bC)) (bY (dF 0 (au (ah 0) (gp (ae (kS " end zz t") (ae (kS "key") (ae (kS "key 1 A") (ae (kS "key a a") (ae (kS "key 10 a") (ae (kS "key 1 a ") (ae (kS "key 1  a") (ae (kS "name ab") (ae (kS "name Ab a") aU)))))))))) bC)) (bY (dF 0 (au (ah 0) (gp (ae (kS "name ab back") (ae (kS "name abcdefghijklm a") (ae (kS "name  a") (ae (kS "from 1 2") (ae (kS "from 2 2 a") (ae (kS "from 3 2 a") aU))))))) bC)) (bY (dF 0 (au (ah 0) (gp (ae (kS "from 1 25 a") (ae (kS "from 24 25 a") (ae (kS "from 01 2 a") (ae (kS "from -1 2 a") (ae (kS "from 1 2 back") (ae (kS "from 1 2 a b") aU))))))) bC)) (cA (au (ah 0) (gp (ae (kS "from a 2 a") (ae (kS "Key 1 a") (ae (kS "hand zz t\tu") (ae (kS "wait 1 a") aU))))) bC)))))))))))
def eR:List PV->Option PV:=iI 0 1 jI
def iD:PSt->XO Fb:=(gM (cU (dF 1 kN)) (gM (EC 1 2 ["NoHouse"] (ae (ah 0) aU) bH (gM (cU (dF 3 (gp (ae (mQ 2 (gI "NoHouse" false)) (ae (mQ 2 (gI "NoHouse" false)) (ae (mQ 2 (gI "NoHouse" false)) (ae (mQ 2 (gI "NoHouse" false)) aU))))))) (gM (cU (dF 3 (au (ah 3) (gp (ae (mQ 2 (gI "NoHouse" false)) (ae (mQ 2 (gI "NoHouse" false)) aU))) bC))) (cU (dF 1 (kL (ae (kS "refused") (ae (vj 2 ["NoHouse"] "row") (ae (uU (mQ 2 (gI "NoHouse" true)) (uU (mQ 2 (gI "NoHouse" true)) (au (kB true) (ah 3) kE))) aU))))))))) (cU (cA (ah 1)))))
def bV:List PV->Option PV:=CG 1 4 iD
def gF:PSt->R Fl:=(bY (dF 2 (bq (ae (ie (kS "\n") (ah 0) mj) aU) bV)) (bY (ifF (orB (lO (bX (un1 (ah 2) (vf "tuple")))) (bX (un1 (au (ah 2) (kI 1) gIx) (vf "bool")))) (cA (kB false)) bK) (cA (au (ah 2) (kL (ae (kS "refused") (ae (ah 1) (ae (kB true) aU)))) gEq))))
def ar:List PV->Option PV:=iI 2 3 gF
def dD:PSt->R Fl:=(dF 7 (au (ah 7) (kI 1) bC))
def gG:PSt->R Fl:=(bY (dF 3 (au (kI 1) (au (ah 2) (un1 (ah 0) eP) oU) bC)) (bY (dF 4 (bq aU eR)) (bY (ifF (lO (bX (bq (ae (au (au (fH (ah 0) gi (jg (ah 3))) (gp (ae (au (ah 4) (au (au (ah 2) (kI 64) yO) (un1 (ah 4) eP) oU) gIx) aU)) bC) (fH (ah 0) (jg (ah 3)) gi) bC) (ae (au (ah 3) (kI 1) bC) aU)) ar))) (cA (kB false)) bK) (bY (dF 5 (gp (ae (kS "") (ae (kS "First a") (ae (kS "first") (ae (kS "first A") (ae (kS "first a b") (ae (kS " first a") (ae (kS "first back") (ae (kS "letters 2 abc") (ae (kS "hand a t") aU))))))))))) (bY (ifF (orB (lO (bX (bq (ae (au (gp (ae (au (ah 5) (au (au (ah 2) (kI 8) yO) (kI 9) oU) gIx) aU)) (fH (ah 0) (jg (kI 1)) gi) bC) (ae (kI 1) aU)) ar))) (lO (bX (bq (ae (au (ah 0) (gp (ae (kS "") aU)) bC) (ae (au (un1 (ah 0) eP) (kI 1) bC) aU)) ar)))) (cA (kB false)) bK) (bY (dF 6 (au (ah 1) (au (ah 2) (un1 (ah 1) eP) oU) gIx)) (bY (ifF (lO (bX (bq (ae (au (ah 0) (gp (ae (au (ah 0) (ah 6) gIx) aU)) bC) (ae (au (un1 (ah 0) eP) (kI 1) bC) aU)) ar))) (cA (kB false)) bK) (bY (dF 7 (au (ah 6) (kI 1) bC)) (bY (whS 300 (BX (bX (au (ah 7) (un1 (ah 0) eP) gLt)) (bX (au (au (ie (au (ah 0) (ah 7) gIx) (kS " ") jL) (kI 0) gIx) (kS "name") gEq))) dD) (bY (ifF (BX (bX (au (au (ie (au (ah 0) (ah 6) gIx) (kS " ") jL) (kI 0) gIx) (kS "names") gEq)) (lO (bX (bq (ae (au (fH (ah 0) gi (jg (au (ah 6) (kI 1) bC))) (fH (ah 0) (jg (ah 7)) gi) bC) (ae (au (ah 6) (kI 1) bC) aU)) ar)))) (cA (kB false)) bK) (cA (kB true))))))))))))
def fD:List PV->Option PV:=iI 3 8 gG
def mF:PSt->R Fl:=(bY (BW 4 (un1 (ah 3) eP)) (dF 3 (au (ah 3) (bq (ae (au (ah 1) (ah 6) gIx) (ae (bq (ae (au (ah 7) (ah 6) bC) (ae (kI 48271) aU)) dO) aU)) iG) bC)))
def mE:PSt->R Fl:=(GY 4 (ifF (lO (bX (bq (ae (ah 3) (ae (ah 4) (ae (bq (ae (au (ah 7) (ah 6) bC) (ae (kI 69621) aU)) dO) aU))) fD))) (cA (kB false)) bK))
def mD:PSt->R Fl:=(ifF (bX (au (bq (ae (ah 9) aU) bV) (kL (ae (kS "refused") (ae (kI 1) (ae (kB true) aU)))) gNe)) (cA (kB false)) bK)
def xH:PSt->R Fl:=(bY (dF 1 (bq (ae (bq (ae (bq (ae (ah 0) (ae (kI 0) aU)) b9) (ae (kI 16807) aU)) dO) (ae (kI 13) aU)) fC)) (bY (dF 2 (fH (gp (ae (kS "first a") (ae (kS "letters 0 zq") (ae (kS "letters 2 abc") (ae (kS "letters * y") aU))))) gi (jg (au (kI 1) (au (bq (ae (ah 0) (ae (kI 1) aU)) b9) (kI 4) oU) bC)))) (bY (dF 3 (un1 (ah 2) qG)) (bY (EH 4 (gp aU)) (bY (dF 5 (au (gp (ae (bq (ae (ah 0) (ae (kI 2) aU)) b9) (ae (bq (ae (ah 0) (ae (kI 3) aU)) b9) aU))) (fH (ah 0) (jg (kI 4)) (jg (kI 14))) bC)) (bY (yP (yb (ah 5)) (ji 2 (bg (aL 6) (bg (aL 7) jj))) mF) (bY (dF 8 (bq (ae (ie (kS "\n") (ah 3) mj) aU) bV)) (bY (ifF (orB (lO (bX (un1 (ah 8) (vf "dict")))) (bX (au (un1 (au (ah 8) (kS "rooms") gIx) eP) (un1 (ah 5) eP) gNe))) (cA (kB false)) bK) (bY (ifF (lO (bX (bq (ae (ah 2) (ae (au (un1 (ah 2) eP) (kI 1) bC) aU)) ar))) (cA (kB false)) bK) (bY (ifF (BX (bX (au (un1 (ah 5) eP) (kI 12) gEq)) (lO (bX (bq (ae (au (ah 3) (gp (ae (au (au (kS "hand ") (au (ah 1) (kI 12) gIx) bC) (kS " t") bC) aU)) bC) (ae (au (un1 (ah 3) eP) (kI 1) bC) aU)) ar)))) (cA (kB false)) bK) (bY (yP (yb (fH (ah 5) gi (jg (kI 5)))) (ji 2 (bg (aL 6) (bg (aL 7) jj))) mE) (bY (yP (itF (gp (ae kN (ae (ah 3) (ae (kI 5) aU))))) (aL 9) mD) (cA (au (bq (ae (kS "") aU) bV) (kL (ae (kS "refused") (ae (kI 1) (ae (kB true) aU)))) gEq))))))))))))))
def xT:List PV->Option PV:=iI 1 10 xH
end K03
namespace PU
open PySem L2
noncomputable def xc(ρ:PSt):R Fl->XO Fb
 | .ok (.next ρ')=>.ok .next ρ'
 | .ok (.brk ρ')=>.ok .brk ρ'
 | .ok (.cont ρ')=>.ok .cont ρ'
 | .ok (.ret p)=>.ok (.ret p) ρ
 | .er x=>.thr x ρ
 | .no=>.no
noncomputable def rf(g':PSt->XO Fb):XO Fb->XO Fb
 | .ok .next ρ=>g' ρ
 | .ok fl ρ=>.ok fl ρ
 | .thr x ρ=>.thr x ρ
 | .no=>.no
noncomputable def Fc(g g':PSt->XO Fb):XO Bool->XO Fb
 | .ok true ρ=>g ρ
 | .ok false ρ=>g' ρ
 | .thr x ρ=>.thr x ρ
 | .no=>.no
noncomputable def yY{α β:Type}(f:α->β):XO α->XO β
 | .ok a ρ=>.ok (f a) ρ
 | .thr x ρ=>.thr x ρ
 | .no=>.no
noncomputable def Ca:XO PV->XO Bool
 | .ok (.bl b) ρ=>.ok b ρ
 | .ok _ _=>.no
 | .thr x ρ=>.thr x ρ
 | .no=>.no
section
variable{α β : Type}{ρ ρ' : PSt}{g g' : PSt → XO Fb}{t : PSt → XO Bool}{f : PSt → XO PV}{i : Nat}
@[simp] theorem Ds:xc ρ (.ok (.next ρ'))=.ok .next ρ':=by unfold xc;exact Mh _
@[simp] theorem EY(p:PV):xc ρ (.ok (.ret p))=.ok (.ret p) ρ:=by unfold xc;exact Mh _
@[simp] theorem vo{h:PSt->R Fl}:cU h ρ=xc ρ (h ρ):=by
 unfold cU;cases h ρ with
 | ok fl=>cases fl <;> rfl
 | er x=>rfl
 | no=>rfl
@[simp] theorem M4(a:α):XO.rd ρ (.ok a)=.ok a ρ:=by unfold XO.rd;exact Mh _
@[simp] theorem Ij{h:PSt->R α}:oI h ρ=XO.rd ρ (h ρ):=by unfold oI;exact Mh _
@[simp] theorem Dq:rf g' (.ok .next ρ)=g' ρ:=by unfold rf;exact Mh _
@[simp] theorem EU(p:PV):rf g' (.ok (.ret p) ρ)=.ok (.ret p) ρ:=by unfold rf;exact Mh _
@[simp] theorem B9:gM g g' ρ=rf g' (g ρ):=by
 unfold gM;cases g ρ with
 | ok fl ρ=>cases fl <;> rfl
 | thr x ρ=>rfl
 | no=>rfl
@[simp] theorem Ig:lU ρ=.ok .next ρ:=by unfold lU;exact Mh _
@[simp] theorem Dr:Fc g g' (.ok true ρ)=g ρ:=by unfold Fc;exact Mh _
@[simp] theorem Jv:Fc g g' (.ok false ρ)=g' ρ:=by unfold Fc;exact Mh _
@[simp] theorem Fh:ifB t g g' ρ=Fc g g' (t ρ):=by
 unfold ifB;cases t ρ with
 | ok b ρ=>cases b <;> rfl
 | thr x ρ=>rfl
 | no=>rfl
@[simp] theorem GH(h:α->β)(a:α):yY h (.ok a ρ)=.ok (h a) ρ:=by unfold yY;exact Mh _
@[simp] theorem K8:EF f ρ=yY Fb.ret (f ρ):=by unfold EF;cases f ρ <;> rfl
@[simp] theorem Ba:EL t ρ=yY not (t ρ):=by unfold EL;cases t ρ <;> rfl
@[simp] theorem GG(b:Bool):Ca (.ok (.bl b) ρ)=.ok b ρ:=by unfold Ca;exact Mh _
@[simp] theorem B8:HW f ρ=Ca (f ρ):=by
 unfold HW;cases f ρ with
 | ok p ρ=>cases p <;> rfl
 | thr x ρ=>rfl
 | no=>rfl
end
end PU
section
namespace PU
open PySem L2
theorem aR{m n:Nat}{g:PSt->R Fl}{ps:List PV}{p:PV}(hl:ps.length=m)(h:g (PU.start n ps)=.ok (.ret p)):iI m n g ps=some p:=by
 unfold iI;rw[if_pos hl,h]
theorem AU{α:Type}{xs:List α}{i:Int}(d:α)(h0:0<=i)(h1:i<xs.length):atI xs i=some (xs.getD i.toNat d):=by
 have h2:i.toNat<xs.length:=by omega
 exact bR (n:=i.toNat) (by omega) (by simp[h2])
def mkS(l:List Nat):Str:=⟨l.toArray⟩
theorem cQ(a b:List Nat):mkS a++mkS b=mkS (a++b):=by
 show Str.mk (a.toArray++b.toArray)=_;simp[mkS]
@[simp] theorem Jn(a:List Nat):(mkS a).length=a.length:=by simp[mkS,Of]
@[simp] theorem aV(a:List Nat):(mkS a).cps.toList=a:=by simp[mkS]
theorem Dk(c:Nat):(⟨#[c]⟩:Str)=mkS [c]:=rfl
theorem pk:("":Str)=mkS []:=by decide +kernel
theorem Av{l:List Nat}{i:Nat}(h:i<l.length):l.getD i 0∈l:=by
 rw[NA,Ml h];exact O6 h
theorem uV(xs:List Str):kK (xs.map .str)=some xs:=by
 induction xs with
 | nil=>rfl
 | cons x r ih=>simp[kK,ih]
theorem Bb{s:Str}{xs:List Str}(h:(xs.map (·.length)).sum+xs.length * s.length<=16777216):mj (.str s) (.lst (xs.map .str))=some (.str (P5 s xs)):=by
 show (kK (xs.map PV.str)).bind (fun ys=>if (ys.map (·.length)).sum+ys.length * s.length<=16777216 then some (PV.str (Txt.join s ys)) else none)=_;rw[uV,Oa,if_pos h,Ae]
theorem FJ{α:Type}{l:List α}{f:α->Nat}{b:Nat}(h:∀x∈l,f x<=b):(l.map f).sum<=l.length * b:=by
 induction l with
 | nil=>simp
 | cons x r ih=>
  have h1:=h x (Mb ..);have h2:=ih fun y hy=>h y (MY _ hy);simp only[MN,SN,MI,Nat.succ_mul];omega
end PU
namespace MT
open PySem L2 PU
inductive Room where
 | menu (text:Str) (keys:List (Str×Str)) (wrong waits:Int×Str)
 | names (text:Str) (words:List (Str×Str)) (wrong waits:Int×Str)
 | hours (spans:List (Int×Int×Str)) (last:Str)
 | hand (text:Str)
 | fin (text:Str)
structure House where
 first:Str
 letters:List (Str×Str)
 rooms:List (Str×Room)
def pv2(p:Str×Str):PV:=.tup [.str p.1,.str p.2]
def pvI(p:Int×Str):PV:=.tup [.int p.1,.str p.2]
noncomputable def pv3(p:Int×Int×Str):PV:=.tup [.int p.1,.int p.2.1,.str p.2.2]
def Room.pv:Room->PV
 | .menu t ks wr wa=>.tup [.str "menu",.str t,.tup (ks.map pv2),pvI wr,pvI wa]
 | .names t ks wr wa=>.tup [.str "names",.str t,.tup (ks.map pv2),pvI wr,pvI wa]
 | .hours sp l=>.tup [.str "hours",.tup (sp.map pv3),.str l]
 | .hand t=>.tup [.str "hand",.str t]
 | .fin t=>.tup [.str "end",.str t]
def aC(rs:List (Str×Room)):PV:=.dct (rs.map fun r=>.inr r.1) (rs.map fun r=>r.2.pv)
def House.pv (h:House):PV:=.dct [.inr "first",.inr "letters",.inr "rooms"] [.str h.first,.lst (h.letters.map pv2),aC h.rooms]
def num(i:Int):Str:=Qd i
abbrev sp:Str:=" "
noncomputable def BD(kind name:Str)(wr wa:Int×Str)(t:Str):Str:=kind++(sp++(name++(sp++(num wr.1++(sp++(wr.2++(sp++(num wa.1++(sp++(wa.2++(sp++t)))))))))))
def EE(a b c:Str):Str:=a++(sp++(b++(sp++c)))
def Le(a b c d:Str):Str:=a++(sp++(b++(sp++(c++(sp++d)))))
def zp(name:Str):Room->List Str
 | .menu t ks wr wa=>BD "menu" name wr wa t::ks.map fun k=>EE "key" k.1 k.2
 | .names t ks wr wa=>BD "names" name wr wa t::ks.map fun k=>EE "name" k.1 k.2
 | .hours sp l=>EE "hours" name l::sp.map fun s=>Le "from" (num s.1) (num s.2.1) s.2.2
 | .hand t=>[EE "hand" name t]
 | .fin t=>[EE "end" name t]
def House.rows (h:House):List Str:=("first"++(sp++h.first):Str)::(h.letters.map (fun l=>EE "letters" l.1 l.2)++h.rooms.flatMap fun r=>zp r.1 r.2)
def House.text (h:House):Str:=P5 "\n" h.rows
end MT
end
namespace PU
open PySem L2
def chZ(fc:PSt->R PV)(g':PV->PV->Option PV)(ρ:PSt)(q:PV):PV->R PV
 | .bl true=>iR (opP g' q) (fc ρ)
 | .bl false=>.ok (.bl false)
 | _=>.no
def chQ(fc:PSt->R PV)(g g':PV->PV->Option PV)(ρ:PSt)(p q:PV):R PV:=iR (chZ fc g' ρ q) (R.ofO (g p q))
@[simp] theorem Jy(fc:PSt->R PV)(g':PV->PV->Option PV)(ρ:PSt)(q:PV):chZ fc g' ρ q (.bl true)=iR (opP g' q) (fc ρ):=by unfold chZ;exact Mh _
@[simp] theorem Ly(fc:PSt->R PV)(g':PV->PV->Option PV)(ρ:PSt)(q:PV):chZ fc g' ρ q (.bl false)=.ok (.bl false):=by unfold chZ;exact Mh _
@[simp] theorem Jz(fc:PSt->R PV)(g g':PV->PV->Option PV)(ρ:PSt)(p q:PV):chQ fc g g' ρ p q=iR (chZ fc g' ρ q) (R.ofO (g p q)):=by unfold chQ;exact Mh _
@[simp] theorem HF{fa fb fc:PSt->R PV}{g g':PV->PV->Option PV}{ρ:PSt}:kH fa fb fc g g' ρ=yF (chQ fc g g' ρ) (fa ρ) (fb ρ):=by
 unfold kH;cases fa ρ with
 | ok p=>
  cases fb ρ with
  | ok q=>
   simp only[R.ok_bind,GI,Jz];cases g p q with
   | none=>rfl
   | some z=>
    simp only[R.ofO_some,R.ok_bind,rW];cases z with
    | bl b=>
     cases b with
     | true=>
      rw[Jy];cases fc ρ <;> rfl
     | false=>rfl
    | _=>rfl
  | _=>rfl
 | _=>cases fb ρ <;> rfl
theorem sV(ps:List PV)(i:Nat):(r9 ps)[i]?=ps[i]?.map fun p=>[.int i,p]:=by
 unfold r9;rw[PL]
 by_cases h:i<ps.length
 ·rw[Os h,Ml h]
  rfl
 ·rw[Nl (by simpa using h),Nl (l:=ps) (by omega)]
  rfl
theorem kG{α:Type}{enc:α->PV}{h:Tgt}{t:PSt->R Bool}{fe:PSt->R PV}{ρ:PSt}(P:α->Bool)(F:α->PV):∀(xs:List α),
  (∀x∈xs,∃ρ1,h (enc x) ρ=some ρ1/\t ρ1=.ok (P x)/\(P x=true->fe ρ1=.ok (F x)))->dj h t fe ρ (xs.map enc)=.ok ((xs.filter P).map F)
 | [],_=>rfl
 | x::xs,hs=>by
  obtain⟨ρ1,e1,e2,e3⟩:=hs x (Mb ..);have ih:=kG P F xs fun y hy=>hs y (MY _ hy);rw[MN];unfold dj;rw[e1];simp only[R.ofO_some,R.ok_bind,e2];cases hp:P x with
  | true=>
   rw[if_pos rfl,e3 hp,List.filter_cons_of_pos hp,MN];simp only[R.ok_bind,ih]
  | false=>
   rw[if_neg ML,List.filter_cons_of_neg (by rw[hp];exact ML)];exact ih
@[simp] theorem KL{n:Nat}{t:PSt->R Bool}{g:PSt->R Fl}{ρ:PSt}:whS n t g ρ=whF t g n ρ:=by unfold whS;exact Mh _
def mdK(fe:PSt->R PV)(g:PV->PV->Option PV)(ρ:PSt)(p:PV):R PV:=if Am p=true then iR (opP g p) (fe ρ) else .no
@[simp] theorem Lv(fe:PSt->R PV)(g:PV->PV->Option PV)(ρ:PSt)(ks:List Key)(ps:List PV):mdK fe g ρ (.dct ks ps)=iR (opP g (.dct ks ps)) (fe ρ):=by unfold mdK;exact if_pos rfl
@[simp] theorem Ih{fo fe:PSt->R PV}{g:PV->PV->Option PV}{ρ:PSt}:A1 fo fe g ρ=iR (mdK fe g ρ) (fo ρ):=by
 unfold A1;cases fo ρ with
 | ok p=>
  rw[R.ok_bind,rW];unfold mdK
  split
  ·cases fe ρ <;> rfl
  ·rfl
 | _=>rfl
end PU
namespace WO
open PySem L2 PU MT
def sg(c:Nat):PV:=.str ⟨#[c]⟩
theorem zk(l:List Nat):gQ (mkS l)=l.map sg:=by unfold gQ sg;rw[aV]
theorem it_mk(l:List Nat):kU (.str (mkS l))=some (l.map sg):=by rw[← zk];unfold kU;exact Mh _
theorem in_one(c:Nat)(l:List Nat):gIn (sg c) (.str (mkS l))=some (.bl (decide (c∈l))):=by
 show some (PV.bl (inS ⟨#[c]⟩ (mkS l)))=_;have e:=PySem.StrLaws.found_one (mkS l) c;rw[aV] at e;unfold inS;rw[e]
theorem in_list_comp{α:Type}{enc:α->PV}{h:Tgt}{fe:PSt->R PV}{ρ:PSt}(F:α->PV)(xs:List α)
  (hs:∀x∈xs,∃ρ1,h (enc x) ρ=some ρ1/\fe ρ1=.ok (F x)):dj h lu fe ρ (xs.map enc)=.ok (xs.map F):=by
 have e:=kG (t:=lu) (fun _=>true) F xs fun x hx=>by
  obtain⟨ρ1,a,b⟩:=hs x hx;exact⟨ρ1,a,Ff,fun _=>b⟩
 rw[List.filter_eq_self.mpr (fun _ _=>rfl)] at e;exact e
end WO
namespace FA
open PySem L2 PU MT
@[simp] theorem vb:(M8 "first"=M8 "letters")=False:=by decide +kernel
@[simp] theorem yI:(M8 "first"=M8 "rooms")=False:=by decide +kernel
@[simp] theorem va:(M8 "letters"=M8 "rooms")=False:=by decide +kernel
noncomputable def holds(hour:Int)(s:Int×Int×Str):Bool:=decide (s.1<=hour) && decide (hour<s.2.1)
abbrev su:=List (Str×Room)
noncomputable def lookR(rs:su)(n:Str):Option Room:=(rs.find? fun r=>decide (r.1=n)).map (·.2)
def names(rs:su):List Str:=rs.map (·.1)
theorem nB(n:Str):∀rs:su,fV (rs.map fun r=>.inr r.1) (rs.map fun r=>r.2.pv) (.inr n)=(lookR rs n).map Room.pv
 | []=>rfl
 | r::rs=>by
  have ih:=nB n rs;unfold lookR at ih ⊢
  by_cases h:r.1=n
  ·simp[h]
  ·simp only[MN,vz]
   rw[if_neg (by simpa using h),List.find?_cons_of_neg (by simpa using h)];exact ih
theorem ix_rooms(rs:su)(n:Str):gIx (aC rs) (.str n)=(lookR rs n).map Room.pv:=nB n rs
theorem qX(n:Str):∀rs:su,((rs.map fun r=>(NQ r.1:Key)).any fun j=>decide (j=.inr n))=decide (n∈names rs)
 | []=>by simp[names]
 | r::rs=>by
  have ih:=qX n rs;simp only[MN,OG,ih];have e:names (r::rs)=r.1::names rs:=rfl;rw[e]
  by_cases h:r.1=n
  ·have a:decide (n∈r.1::names rs)=true:=decide_eq_true (by rw[h];exact Mb ..)
   rw[a,decide_eq_true (by rw[h]),Bool.true_or]
  ·have a:decide (n∈r.1::names rs)=decide (n∈names rs):=decide_eq_decide.mpr ⟨fun m=>(MH.mp m).resolve_left fun e=>h e.symm,fun m=>MY _ m⟩
   rw[a,decide_eq_false (by simpa using h),SR]
theorem in_rooms(rs:su)(n:Str):gIn (.str n) (aC rs)=some (.bl (decide (n∈names rs))):=by
 have e:gIn (.str n) (aC rs)=some (.bl ((rs.map fun r=>(NQ r.1:Key)).any fun j=>decide (j=.inr n))):=rfl;rw[e,qX]
theorem len_rooms(rs:su):eP (aC rs)=some (.int rs.length):=by
 have e:eP (aC rs)=some (.int (rs.map fun r=>(NQ r.1:Key)).length):=rfl;rw[e,MC]
end FA
namespace FA
open PySem L2 PU MT
theorem join_le (xs:List Str) (b:Nat) (h:∀x∈xs,x.length<=b) (hb:xs.length * b<=16777216):mj (.str "") (.lst (xs.map .str))=some (.str (P5 "" xs)):=by
 apply Bb;have e:("":Str).length=0:=by decide +kernel
 rw[e,Nat.mul_zero,Nat.add_zero];exact Mm (FJ h) hb
end FA
namespace MT
open PySem L2 PU
mutual
noncomputable def flat:PV->Bool
 | .tup ps=>xR ps
 | .lst ps=>xR ps
 | .dct _ _=>false
 | .dtt _ _=>false
 | .fn _ _=>false
 | _=>true
noncomputable def xR:List PV->Bool
 | []=>true
 | p::ps=>flat p && xR ps
end
mutual
theorem zI:∀(p:PV),flat p=true->cn p p=some true
 | .non,_=>by simp[cn]
 | .bl _,_=>by simp[cn]
 | .int _,_=>by simp[cn]
 | .str _,_=>by simp[cn]
 | .tup ps,h=>by
  simp only[cn];exact lL ps (by simpa [flat] using h)
 | .lst ps,h=>by
  simp only[cn];exact lL ps (by simpa [flat] using h)
 | .dct _ _,h=>by simp[flat] at h
 | .dtt _ _,h=>by simp[flat] at h
 | .fn _ _,h=>by simp[flat] at h
theorem lL:∀(ps:List PV),xR ps=true->eN ps ps=some true
 | [],_=>by simp[eN]
 | p::ps,h=>by
  simp only[xR,Mk] at h;simp only[eN,zI p h.1,lL ps h.2,Oa,Bool.and_self]
end
noncomputable def EG(rs:List (Str×Room))(k:Str)(r:Room):List (Str×Room):=if k∈rs.map (·.1) then rs.map (fun x=>if x.1=k then (x.1,r) else x) else rs++[(k,r)]
theorem wd(rs:List (Str×Room))(k:Str)(r:Room):CS (rs.map fun r=>.inr r.1) (rs.map fun r=>r.2.pv) (.inr k) r.pv=aC (EG rs k r):=by
 unfold CS EG
 by_cases h:k∈rs.map (·.1)
 ·rw[if_pos h,if_pos (by
   obtain⟨x,hx,e⟩:=Mr.mp h;rw[QF];exact⟨.inr x.1,Mr.mpr ⟨x,hx,rfl⟩,by simp[e]⟩)]
  have e1:(rs.map fun x=>if x.1=k then (x.1,r) else x).map (fun r=>(NQ r.1:Key))=rs.map fun r=>.inr r.1:=by
   rw[Mt];apply Oq;intro x _;simp only[Tu]
   split <;> rfl
  have e2:vW (rs.map fun r=>.inr r.1) (rs.map fun r=>r.2.pv) (.inr k) r.pv=(rs.map fun x=>if x.1=k then (x.1,r) else x).map fun r=>r.2.pv:=by
   unfold vW;clear h e1
   induction rs with
   | nil=>rfl
   | cons x rs ih=>
    simp only[MN,QM,ih,Sum.inr.injEq]
    congr 1
    split <;> rfl
  unfold aC;rw[e1,e2]
 ·rw[if_neg h,if_neg (by
   rw[QF];rintro⟨j,hj,e⟩;obtain⟨x,hx,rfl⟩:=Mr.mp hj;exact h (Mr.mpr ⟨x,hx,by simpa using e⟩))]
  unfold aC;simp
end MT
namespace NM
open PySem L2 PU MT
noncomputable def c24:List Nat:=[97,99,100,101,102,103,104,105,106,108,109,110,111,112,113,114,115,116,117,118,119,120,121,122]
theorem Hm:("acdefghijlmnopqrstuvwxyz":Str)=mkS c24:=by decide +kernel
def eD(n:Int):Nat:=(1+n % 8).toNat
def vc(n:Int):Int:=n / 8 % (1+n % 8)
def kC(n:Int)(t k:Nat):Nat:=c24.getD ((n / ((k:Int)+2)+(t:Int) * (if (k:Int)=vc n then 1 else 0)) % 24).toNat 0
def cx(n:Int)(t i:Nat):List Nat:=(Mz i).map (kC n t)
def nm(n:Int)(t:Nat):Str:=mkS (cx n t (eD n))
theorem qo(n:Int):1<=eD n/\eD n<=8:=by unfold eD;omega
theorem qp(n:Int)(t i:Nat):cx n t (i+1)=cx n t i++[kC n t i]:=by simp[cx,List.range_succ]
theorem AR:∀i:Fin 24,∀j:Fin 24,c24.getD i.1 0=c24.getD j.1 0->i.1=j.1:=by decide +kernel
theorem Ef(i j:Nat)(hi:i<24)(hj:j<24)(e:c24.getD i 0=c24.getD j 0):i=j:=AR ⟨i,hi⟩ ⟨j,hj⟩ e
theorem Gq(n:Int)(i j:Nat)(hi:i<24)(hj:j<24)(e:nm n i=nm n j):i=j:=by
 unfold nm at e
 have e:cx n i (eD n)=cx n j (eD n):=by
  have:=congrArg (fun s:Str=>s.cps.toList) e;simpa using this
 have ha:0<=vc n/\vc n<1+n % 8:=by
  unfold vc;exact⟨Qc _ (by omega),R7 _ (by omega)⟩
 have hs:(vc n).toNat<eD n:=by unfold eD;omega
 have e2:=congrArg (fun l:List Nat=>l[(vc n).toNat]?) e;simp only[cx,MS,Os hs,Ts] at e2;have e3:kC n i (vc n).toNat=kC n j (vc n).toNat:=N6 e2;unfold kC at e3;have hc:((vc n).toNat:Int)=vc n:=by omega
 rw[if_pos hc] at e3;have e4:=Ef _ _ (by omega) (by omega) e3;omega
end NM
section
namespace PU
open PySem L2
@[simp] theorem Fq(ps:List PV)(lo hi:Option Int):LA (.lst ps) lo hi=some (.lst (jf ps lo hi)):=rfl
end PU
namespace NM
open PySem L2 PU MT
theorem cut_to{α:Type}(xs:List α)(n:Nat)(h:n<=xs.length):jf xs none (some (n:Int))=xs.take n:=by
 have e:HT.sIx xs.length xs.length (some (n:Int))=n:=by
  simp only[HT.sIx];rw[if_neg (by omega)];omega
 unfold jf;rw[e];show (xs.drop 0).take (n-0)=_;rfl
theorem Ee:∀c∈c24,c≠98/\c≠107:=by decide +kernel
theorem Gp (n:Int) (t:Nat):nm n t≠"back"/\nm n t≠"bk":=by
 have h:∀c∈cx n t (eD n),c≠98:=fun c hc=>by
  unfold cx at hc;obtain⟨k,_,rfl⟩:=Mr.mp hc;unfold kC;refine(Ee _ (Av ?_)).1;show _<24;omega
 have e1:("back":Str)=mkS [98,97,99,107]:=by decide +kernel
 have e2:("bk":Str)=mkS [98,107]:=by decide +kernel
 constructor
 ·intro e
  rw[e1] at e;have e:=congrArg (fun s:Str=>s.cps.toList) e;simp only[nm,aV] at e;exact h 98 (by rw[e];simp) rfl
 ·intro e
  rw[e2] at e;have e:=congrArg (fun s:Str=>s.cps.toList) e;simp only[nm,aV] at e;exact h 98 (by rw[e];simp) rfl
end NM
end
section
namespace PU
open PySem L2 MT
@[simp] theorem qJ{α:Type}(f:α->Str)(l:List α):(l.map fun x=>PV.str (f x)).all ik=true:=by induction l <;> simp_all [ik]
end PU
namespace BG
open PySem L2 PU MT
abbrev W:=List Nat
def pre(p c:W):Bool:=p.isPrefixOf c
def many(cs:List W)(p:W):Nat:=(cs.filter (pre p)).length
noncomputable def own(cs:List W)(c:W):W:=match (Mz (c.length-1)).find? (fun i=>decide (many cs (c.take (i+1))=1)) with
 | some i=>c.take (i+1)
 | none=>c
def Code(c:W):Prop:=∃x:W,c=x++[35]/\35 ∉ x
end BG
end
namespace PU
open PySem L2 MT
def C9:PV->PV->R (List PV)
 | .tup ps,.lst qs=>if (ps.all ik || qs.all ik)=true then .ok ((uZ ps qs).map .tup) else .no
 | _,_=>.no
@[simp] theorem Dp(ps qs:List PV)(h:(ps.all ik || qs.all ik)=true):C9 (.tup ps) (.lst qs)=.ok ((uZ ps qs).map .tup):=by unfold C9;exact if_pos h
@[simp] theorem Ic{f g:PSt->R PV}{ρ:PSt}:yV f g ρ=yF C9 (f ρ) (g ρ):=by
 unfold yV;cases f ρ with
 | ok p=>
  cases g ρ with
  | ok q=>rw[R.ok_bind,R.ok_bind,GI];cases p <;> cases q <;> rfl
  | er x=>rfl
  | no=>rfl
 | er x=>rfl
 | no=>rfl
def Gu(fe fd:PSt->R PV)(g:PV->PV->PV->Option PV)(ρ:PSt)(p:PV):R PV:=if rY p=true then yF (fun q y=>R.ofO (g p q y)) (fe ρ) (fd ρ) else .no
@[simp] theorem Kv(fe fd:PSt->R PV)(g:PV->PV->PV->Option PV)(ρ:PSt)(x:Str):Gu fe fd g ρ (.str x)=yF (fun q y=>R.ofO (g (.str x) q y)) (fe ρ) (fd ρ):=by unfold Gu;exact if_pos rfl
@[simp] theorem Ii{fo fe fd:PSt->R PV}{g:PV->PV->PV->Option PV}{ρ:PSt}:A2 fo fe fd g ρ=iR (Gu fe fd g ρ) (fo ρ):=by
 unfold A2;cases fo ρ with
 | ok p=>
  show (if rY p=true then _ else _)=Gu fe fd g ρ p;unfold Gu
  split
  ·cases fe ρ with
   | ok a=>cases fd ρ <;> rfl
   | er x=>rfl
   | no=>rfl
  ·rfl
 | er x=>rfl
 | no=>rfl
def Gv(fe:PSt->R PV)(g:PV->PV->Option PV)(ρ:PSt)(p:PV):R PV:=if rY p=true then iR (opP g p) (fe ρ) else .no
@[simp] theorem Kw(fe:PSt->R PV)(g:PV->PV->Option PV)(ρ:PSt)(x:Str):Gv fe g ρ (.str x)=iR (opP g (.str x)) (fe ρ):=by unfold Gv;exact if_pos rfl
@[simp] theorem HE{fo fe:PSt->R PV}{g:PV->PV->Option PV}{ρ:PSt}:ie fo fe g ρ=iR (Gv fe g ρ) (fo ρ):=by
 unfold ie;cases fo ρ with
 | ok p=>
  show (if rY p=true then _ else _)=Gv fe g ρ p;unfold Gv
  split
  ·cases fe ρ <;> rfl
  ·rfl
 | er x=>rfl
 | no=>rfl
end PU
namespace TX
open PySem PySem.Builtin PySem.Builtin.Str
noncomputable def pos(c:Nat):Nat->List Nat->List Nat
 | _,[]=>[]
 | i,y::r=>if y=c then i::pos c (i+1) r else pos c (i+1) r
noncomputable def spl(c:Nat):Nat->List Nat->List (List Nat)
 | 0,x=>[x]
 | k+1,x=>match x.dropWhile (· != c) with
  | []=>[x]
  | _::r=>x.takeWhile (· != c)::spl c k r
theorem wK(x:Str)(c i:Nat):(i+(⟨#[c]⟩:Str).length<=x.length/\subAt x ⟨#[c]⟩ i=true) ↔ x.cps.toList[i]?=some c:=StrLaws.subAt_one x c i
theorem oq(x:Str)(c limit:Nat):∀(l:List Nat)(i:Nat)(f:Array Nat)(free:Nat),free<=i->(∀j,x.cps.toList[i+j]?=l[j]?)->f.size<=limit->
  (forIn (T6 i (l.length+1)) (f,free) (PY x ⟨#[c]⟩ x.length limit)).run.fst.toList=f.toList++(pos c i l).take (limit-f.size)
 | [],i,f,free,hf,hl,hs=>by
  have h0:x.cps.toList[i]?=none:=by simpa using hl 0
  have hn:¬ (((f.size<limit/\free<=i)/\i+(⟨#[c]⟩:Str).length<=x.length)/\subAt x ⟨#[c]⟩ i=true):=fun z=>by
   rw[(wK x c i).mp ⟨z.1.2,z.2⟩] at h0;cases h0
  simp[PY,pos,hn,PP]
 | y::r,i,f,free,hf,hl,hs=>by
  have h0:x.cps.toList[i]?=some y:=by simpa using hl 0
  have hr:∀j,x.cps.toList[i+1+j]?=r[j]?:=fun j=>by
   have:=hl (j+1);rw[Mg] at this;rw[← this]
   congr 1
   omega
  rw[MI,PP,QW]
  by_cases hy:y=c
  ·subst hy
   obtain⟨h1,h2⟩:=(wK x y i).mpr h0
   by_cases hz:f.size<limit
   ·have e:PY x ⟨#[y]⟩ x.length limit i (f,free)=pure (.yield (f.push i,i+1)):=if_pos ⟨⟨⟨hz,hf⟩,h1⟩,h2⟩
    have ih:=oq x y limit r (i+1) (f.push i) (i+1) (MX _) hr (by rw[Array.size_push];omega);rw[e];simp only[pure_bind];rw[ih,pos,if_pos rfl,Array.size_push,Array.toList_push];have:limit-f.size=(limit-(f.size+1))+1:=by omega
    rw[this,TL];simp
   ·have hn:¬ (((f.size<limit/\free<=i)/\i+(⟨#[y]⟩:Str).length<=x.length)/\subAt x ⟨#[y]⟩ i=true):=fun z=>hz z.1.1.1
    have e:PY x ⟨#[y]⟩ x.length limit i (f,free)=pure (.yield (f,free)):=if_neg hn;have ih:=oq x y limit r (i+1) f free (by omega) hr hs;rw[e];simp only[pure_bind];rw[ih];have:limit-f.size=0:=by omega
    rw[this];simp
  ·have hn:¬ (((f.size<limit/\free<=i)/\i+(⟨#[c]⟩:Str).length<=x.length)/\subAt x ⟨#[c]⟩ i=true):=fun z=>by
    rw[(wK x c i).mp ⟨z.1.2,z.2⟩] at h0;cases h0;exact hy rfl
   have e:PY x ⟨#[c]⟩ x.length limit i (f,free)=pure (.yield (f,free)):=if_neg hn;have ih:=oq x c limit r (i+1) f free (by omega) hr hs;rw[e];simp only[pure_bind];rw[ih,pos,if_neg hy]
theorem occ_pos(x:Str)(c limit:Nat):occurrences x ⟨#[c]⟩ 0 x.length limit=(pos c 0 x.cps.toList).take limit:=by
 rw[StrLaws.occ_eq];have:=oq x c limit x.cps.toList 0 #[] 0 (MX _) (fun j=>by rw[QS]) (O5 _);have hl:x.cps.toList.length=x.length:=by simp[Of]
 rw[hl] at this;simpa using this
abbrev mk(l:List Nat):Str:=⟨l.toArray⟩
theorem wu(c:Nat):∀(l:List Nat)(a:Nat),pos c a l=match l.dropWhile (· != c) with
  | []=>[]
  | _::r=>(a+(l.takeWhile (· != c)).length)::pos c (a+(l.takeWhile (· != c)).length+1) r
 | [],_=>rfl
 | y::l,a=>by
  by_cases h:y=c
  ·subst h
   simp[pos]
  ·have ih:=wu c l (a+1)
   have hb:(y != c)=true:=by simpa using h
   rw[pos,if_neg h,ih,List.dropWhile_cons_of_pos (p:=fun x=>x != c) hb,List.takeWhile_cons_of_pos (p:=fun x=>x != c) hb];cases l.dropWhile (· != c) with
   | nil=>rfl
   | cons z r=>
    show (a+1+_)::pos c (a+1+_+1) r=(a+_)::pos c (a+_+1) r;rw[MI,show a+1+(List.takeWhile (· != c) l).length=a+((List.takeWhile (· != c) l).length+1) by omega]
theorem pL(x:Str)(a b:Nat)(l:List Nat)(h:(x.cps.toList.drop a).take (b-a)=l):strSub x a b=mk l:=by
 have:=StrLaws.strSub_toList x a b;rw[h] at this;exact Str.ext' (by rw[← this])
theorem jA(x:Str)(c:Nat):∀(k a:Nat)(l:List Nat),x.cps.toList.drop a=l->T3 x 1 a ((pos c a l).take k)=(spl c k l).map mk
 | 0,a,l,h=>by
  show [strSub x a x.length]=[mk l];rw[pL x a x.length l];rw[h,Ni];have:=congrArg Np h;rw[NI] at this;have e:x.cps.toList.length=x.length:=by simp[Of]
  omega
 | k+1,a,l,h=>by
  rw[wu];have e:x.cps.toList.length=x.length:=by simp[Of]
  have hl:=congrArg Np h;rw[NI] at hl;have ht:=PJ (p:=(· != c)) (l:=l);unfold spl;cases hd:l.dropWhile (· != c) with
  | nil=>
   show [strSub x a x.length]=[mk l];rw[pL x a x.length l];rw[h,Ni (by omega)]
  | cons z r=>
   rw[hd] at ht;show strSub x a (a+_)::T3 x 1 (a+_+1) ((pos c (a+_+1) r).take k)=mk _::(spl c k r).map mk;clear hd;generalize l.takeWhile (· != c)=tw at ht ⊢
   have h2:x.cps.toList.drop (a+tw.length+1)=r:=by
    rw[OS,← Pr,h,← ht,RJ];simp
   rw[jA x c k _ r h2]
   congr 1
   refine pL x a _ _ ?_;rw[h,QI,← ht];simp
theorem tf{c:Nat}(h:c<256)(x:Str):decide (NU x<NU (⟨#[c]⟩:Str))=false:=by
 have h1:NU (⟨#[c]⟩:Str)=1:=by
  unfold NU;rw[if_pos (by simpa using h)]
 rw[h1];unfold NU;refine decide_eq_false ?_
 split
 ·omega
 ·split <;> omega
theorem mk_list(x:Str):mk x.cps.toList=x:=Str.ext' (by simp)
theorem oa{c:Nat}{x:Str}{k:Nat}(h:(pos c 0 x.cps.toList).take k=[]):(spl c k x.cps.toList).map mk=[x]:=by
 have:=jA x c k 0 x.cps.toList rfl;rw[h] at this;rw[← this];show [strSub x 0 x.length]=[x];rw[StrLaws.sub_whole]
theorem splitMax_eq{c:Nat}(h:c<256)(x:Str)(k:Nat):Txt.splitMax x ⟨#[c]⟩ (k:Int)=(spl c k x.cps.toList).map mk:=by
 have e:Sa x (k:Int)=k:=by
  unfold Sa;rw[if_neg (by omega)];simp
 unfold Txt.splitMax;rw[tf h,Pb,e,occ_pos]
 split
 ·rename_i hl
  have hl:x.length<1:=of_decide_eq_true hl;have hx:x.cps.toList=[]:=Nb (by simp[Of] at hl ⊢;omega);exact(oa (by rw[hx];simp[pos])).symm
 ·split
  ·rename_i he
   exact(oa (by simpa using he)).symm
  ·rw[Rn]
   exact jA x c k 0 x.cps.toList rfl
theorem split_eq{c:Nat}(h:c<256)(x:Str):Txt.split x ⟨#[c]⟩=(spl c (x.length+1) x.cps.toList).map mk:=by
 unfold Txt.split;rw[tf h,Pb,occ_pos]
 split
 ·rename_i hl
  have hl:x.length<1:=of_decide_eq_true hl;have hx:x.cps.toList=[]:=Nb (by simp[Of] at hl ⊢;omega);exact(oa (by rw[hx];simp[pos])).symm
 ·split
  ·rename_i he
   exact(oa (by simpa using he)).symm
  ·rw[Rn]
   exact jA x c _ 0 x.cps.toList rfl
theorem part_eq(c:Nat)(x:Str):(Txt.partition x ⟨#[c]⟩).1=mk (x.cps.toList.takeWhile (· != c))/\(Txt.partition x ⟨#[c]⟩).2.2=mk ((x.cps.toList.dropWhile (· != c)).drop 1):=by
 have e:x.cps.toList.length=x.length:=by simp[Of]
 have ht:=PJ (p:=(· != c)) (l:=x.cps.toList);unfold Txt.partition;rw[occ_pos,wu];cases hd:x.cps.toList.dropWhile (· != c) with
 | nil=>
  rw[hd,N1] at ht;exact⟨by rw[ht];exact(mk_list x).symm,rfl⟩
 | cons z r=>
  rw[hd] at ht;have hl:=congrArg Np ht;generalize x.cps.toList.takeWhile (· != c)=tw at ht hl ⊢;rw[MW,MI] at hl;refine⟨pL x 0 _ _ ?_,pL x _ _ _ ?_⟩
  ·rw[← ht];simp
  ·rw[← ht,RJ]
   show List.take _ _=r;simp only[QS];rw[List.drop_eq_nil_of_le (by show tw.length<=tw.length+1;omega),RY,show tw.length+(⟨#[c]⟩:Str).length-tw.length=1 by show tw.length+1-tw.length=1;omega,List.drop_succ_cons,List.drop_zero];refine Ni ?_;show r.length<=x.length-(tw.length+1);omega
noncomputable def glue(c:Nat):List (List Nat)->List Nat->List Nat
 | [],t=>t
 | w::ws,t=>w++c::glue c ws t
theorem drop_free{c:Nat}{w:List Nat}(h:c ∉ w)(r:List Nat):(w++c::r).dropWhile (· != c)=c::r/\(w++c::r).takeWhile (· != c)=w:=by
 have hw:∀y∈w,(y != c)=true:=fun y hy=>by
  have:y≠c:=fun z=>h (z▸hy);simpa using this
 constructor
 ·rw[RZ hw];simp
 ·rw[List.takeWhile_append_of_pos hw];simp
theorem spl_glue{c:Nat}(t:List Nat):∀ws:List (List Nat),(∀w∈ws,c ∉ w)->spl c ws.length (glue c ws t)=ws++[t]
 | [],_=>rfl
 | w::ws,h=>by
  obtain⟨h1,h2⟩:=drop_free (h w (by simp)) (glue c ws t);show spl c (ws.length+1) (w++c::glue c ws t)=_;unfold spl;rw[h1,h2];show w::spl c ws.length (glue c ws t)=w::(ws++[t]);rw[spl_glue t ws fun w' hw=>h w' (by simp[hw])]
theorem spl_more{c:Nat}{t:List Nat}(ht:c ∉ t):∀(ws:List (List Nat))(k:Nat),ws.length<=k->(∀w∈ws,c ∉ w)->spl c k (glue c ws t)=ws++[t]
 | [],0,_,_=>rfl
 | [],k+1,_,_=>by
  show spl c (k+1) t=[t];unfold spl
  have hw:∀y∈t,(y != c)=true:=fun y hy=>by
   have:y≠c:=fun z=>ht (z▸hy);simpa using this
  have:=RZ (l₂:=[]) hw;rw[N1] at this;rw[this];rfl
 | w::ws,0,hk,_=>by simp at hk
 | w::ws,k+1,hk,h=>by
  obtain⟨h1,h2⟩:=drop_free (h w (by simp)) (glue c ws t);show spl c (k+1) (w++c::glue c ws t)=_;unfold spl;rw[h1,h2];show w::spl c k (glue c ws t)=w::(ws++[t]);rw[spl_more ht ws k (by simpa using hk) fun w' hw=>h w' (by simp[hw])]
end TX
namespace K03
open PySem L2 PU MT
abbrev sgn(c:Nat):PV:=.str ⟨#[c]⟩
noncomputable def dJ(m:Nat)(x:List Nat):Bool:=decide (1<=x.length) && decide (x.length<=m) && x.all fun c=>decide (97<=c) && decide (c<=122)
theorem cF(x:List Nat):(mkS x).length=x.length:=by simp[mkS,Of]
theorem gd{x:List Nat}(h:x.length<=16777216):eP (.str (mkS x))=some (.int x.length):=by rw[jm (by rw[cF];exact h),cF]
theorem yx{α:Type}(p:α->Bool):∀xs:List α,DJ (.lst (xs.map fun x=>.bl (p x)))=some (.bl (xs.all p)):=fun xs=>by
 have:∀l:List α,mI (l.map fun x=>.bl (p x))=some (l.map p):=by
  intro l
  induction l with
  | nil=>rfl
  | cons a l ih=>show ((mI (l.map fun x=>.bl (p x))).map (p a::·))=_;rw[ih];rfl
 show ((mI _).bind fun bs=>some (PV.bl (bs.all id)))=_;rw[this];simp[Sf,OA]
theorem Hu{α:Type}(p:α->Bool):∀xs:List α,GW (.lst (xs.map fun x=>.bl (p x)))=some (.bl (xs.any p)):=fun xs=>by
 have:∀l:List α,mI (l.map fun x=>.bl (p x))=some (l.map p):=by
  intro l
  induction l with
  | nil=>rfl
  | cons a l ih=>show ((mI (l.map fun x=>.bl (p x))).map (p a::·))=_;rw[ih];rfl
 show ((mI _).bind fun bs=>some (PV.bl (bs.any id)))=_;rw[this];simp[Pm,OA]
noncomputable def vd:List Nat:=[97,98,99,100,101,102,103,104,105,106,107,108,109,110,111,112,113,114,115,116,117,118,119,120,121,122]
theorem zj:(M8 "abcdefghijklmnopqrstuvwxyz")=mkS vd:=by decide +kernel
theorem Gx(c:Nat):decide (c∈vd)=(decide (97<=c) && decide (c<=122)):=by
 by_cases h:97<=c/\c<=122
 ·have:c∈vd:=by
   obtain⟨h1,h2⟩:=h;have:c=97\/c=98\/c=99\/c=100\/c=101\/c=102\/c=103\/c=104\/c=105\/c=106\/c=107\/c=108\/c=109\/c=110\/c=111\/c=112\/c=113\/c=114\/c=115\/c=116\/c=117\/c=118\/c=119\/c=120\/c=121\/c=122:=by omega
   simp only[vd,MH,Mf,or_false];exact this
  rw[decide_eq_true this,decide_eq_true h.1,decide_eq_true h.2];rfl
 ·have:c ∉ vd:=fun m=>h (by
   have:∀d∈vd,97<=d/\d<=122:=by decide
   exact this c m)
  rw[decide_eq_false this]
  symm
  rw[Bool.and_eq_false_iff]
  by_cases h1:97<=c
  ·exact .inr (decide_eq_false fun z=>h ⟨h1,z⟩)
  ·exact .inl (decide_eq_false h1)
theorem m5(x:List Nat)(m:Nat)(hx:x.length<=16777216):br [.str (mkS x),.int m]=some (.bl (dJ m x)):=by
 refine aR rfl ?_;have e1:kU (.str (mkS x))=some (x.map sgn):=WO.it_mk x
 have e2:∀ρ:PSt,dj (aL 0) lu fZ (.no::ρ) (x.map sgn)=.ok (x.map fun c=>.bl (decide (c∈vd))):=fun ρ=>WO.in_list_comp _ x fun c _=>⟨.val (sgn c)::ρ,rfl,by
  have:=WO.in_one c vd;simp[fZ,c_SMALL_LETTERS,zj];rw[show gIn (.str ⟨#[c]⟩) (.str (mkS vd))=_ from this];rfl⟩
 have e3:=yx (fun c=>decide (c∈vd)) x;have e4:(x.map fun c=>PV.bl (decide (c∈vd))).length<=16777216:=by simpa using hx
 have e5:(x.all fun c=>decide (c∈vd))=x.all fun c=>decide (97<=c) && decide (c<=122):=by congr 1;funext c;exact Gx c
 unfold dJ
 by_cases h1:1<=x.length
 ·have i1:decide ((1:Int)<=(x.length:Int))=true:=decide_eq_true (by omega)
  by_cases h2:x.length<=m
  ·have i2:decide ((x.length:Int)<=(m:Int))=true:=decide_eq_true (by omega)
   simp only[decide_eq_true h1,decide_eq_true h2,P4];simp[eF,PU.start,gd hx,i1,h2,e1,e2,e3,e5,hx,gO]
  ·have i2:decide ((x.length:Int)<=(m:Int))=false:=decide_eq_false (by omega)
   simp only[decide_eq_true h1,decide_eq_false h2,P4,Oe];simp[eF,PU.start,gd hx,i1,h2]
 ·have i1:decide ((1:Int)<=(x.length:Int))=false:=decide_eq_false (by omega)
  simp only[decide_eq_false h1,Oe];simp[eF,PU.start,gd hx,i1]
theorem kD{x y:List Nat}:(mkS x=mkS y)=(x=y):=by
 refine propext ⟨fun h=>?_,fun h=>by rw[h]⟩;have:=congrArg (fun s:Str=>s.cps.toList) h;simpa using this
def gN(x:List Nat):Bool:=dJ 8 x && !decide (x=[98,97,99,107])
theorem pA:M8 "back"=mkS [98,97,99,107]:=by decide +kernel
theorem GT(x:List Nat)(hx:x.length<=16777216):il [.str (mkS x)]=some (.bl (gN x)):=by
 refine aR rfl ?_;have e:br [.str (mkS x),.int 8]=_:=m5 x 8 hx;unfold gN;cases h:dJ 8 x with
 | true=>rw[h] at e;simp[jJ,PU.start,e,pA,kD]
 | false=>rw[h] at e;simp[jJ,PU.start,e]
theorem GS(x:List Nat)(hx:x.length<=16777216):jN [.str (mkS x)]=some (.bl (dJ 12 x)):=by
 refine aR rfl ?_;have e:br [.str (mkS x),.int 12]=_:=m5 x 12 hx;simp[mi,PU.start,e]
def gK:List Nat:=[48,49,50,51,52,53,54,55,56,57,42,35]
theorem xk:M8 "0123456789*#"=mkS gK:=by decide +kernel
def ma:List Nat->Bool
 | [c]=>decide (c∈gK)
 | _=>false
theorem JC(x:List Nat)(hx:x.length<=16777216):jO [.str (mkS x)]=some (.bl (ma x)):=by
 refine aR rfl ?_
 match x,hx with
 | [],hx=>simp[jK,PU.start,gd hx,ma]
 | [c],hx=>
  have e:gIn (.str (mkS [c])) (.str (mkS gK))=_:=WO.in_one c gK;simp[jK,PU.start,gd hx,ma,c_KEYS,xk,e]
 | c::d::r,hx=>
  have h:¬ ((r.length:Int)+1+1=1):=by omega
  simp[jK,PU.start,gd hx,ma,h]
noncomputable def EZ(c:Nat):Bool:=decide (32<=c) && decide (c<=126) && !decide (c=37)
theorem Bw(a b:Nat):decide (([a]:List Nat)<[b])=decide (a<b):=by rw[StrLaws.lt_cons_cons,StrLaws.lt_nil_nil,OJ,Pb]
theorem rZ(c:Nat):dA [sgn c]=some (.bl (EZ c)):=by
 refine aR rfl ?_
 have b1:gLe (.str " ") (sgn c)=some (.bl (decide (32<=c))):=by
  show some (PV.bl (!decide (([c]:List Nat)<(M8 " ").cps.toList)))=_;rw[show (M8 " ").cps.toList=[32] by decide +kernel];rw[Bw]
  congr 2
  by_cases h:32<=c
  ·rw[decide_eq_true h,decide_eq_false (by omega)];rfl
  ·rw[decide_eq_false h,decide_eq_true (by omega)];rfl
 have b2:gLe (sgn c) (.str "~")=some (.bl (decide (c<=126))):=by
  show some (PV.bl (!decide ((M8 "~").cps.toList<([c]:List Nat))))=_;rw[show (M8 "~").cps.toList=[126] by decide +kernel];rw[Bw]
  congr 2
  by_cases h:c<=126
  ·rw[decide_eq_true h,decide_eq_false (by omega)];rfl
  ·rw[decide_eq_false h,decide_eq_true (by omega)];rfl
 have b3:HZ (sgn c)=some (.int c):=rfl;have b4:((c:Int)=37)=(c=37):=propext ⟨fun h=>by omega,fun h=>by omega⟩;unfold EZ;cases h1:decide (32<=c) with
 | false=>rw[h1] at b1;simp[cI,PU.start,b1]
 | true=>
  rw[h1] at b1;cases h2:decide (c<=126) with
  | false=>rw[h2] at b2;simp[cI,PU.start,b1,b2]
  | true=>rw[h2] at b2;simp[cI,PU.start,b1,b2,b3,c_PER_CENT,b4]
noncomputable def m4(x:List Nat):Bool:=decide (1<=x.length) && decide (x.length<=80) && x.all EZ
theorem Dy(x:List Nat)(hx:x.length<=16777216):iH [.str (mkS x)]=some (.bl (m4 x)):=by
 refine aR rfl ?_;have e1:kU (.str (mkS x))=some (x.map sgn):=WO.it_mk x;have e2:∀ρ:PSt,dj (aL 0) lu iq (.no::ρ) (x.map sgn)=.ok (x.map fun c=>.bl (EZ c)):=fun ρ=>WO.in_list_comp _ x fun c _=>⟨.val (sgn c)::ρ,rfl,by simp[iq,rZ c]⟩;have e3:=yx EZ x;unfold m4
 by_cases h1:1<=x.length
 ·have i1:decide ((1:Int)<=(x.length:Int))=true:=decide_eq_true (by omega)
  by_cases h2:x.length<=80
  ·have i2:decide ((x.length:Int)<=80)=true:=decide_eq_true (by omega)
   simp only[decide_eq_true h1,decide_eq_true h2,P4];simp[gj,PU.start,gd hx,i1,i2,e1,e2,e3,hx,gO]
  ·have i2:decide ((x.length:Int)<=80)=false:=decide_eq_false (by omega)
   simp only[decide_eq_true h1,decide_eq_false h2,P4,Oe];simp[gj,PU.start,gd hx,i1,i2]
 ·have i1:decide ((1:Int)<=(x.length:Int))=false:=decide_eq_false (by omega)
  simp only[decide_eq_false h1,Oe];simp[gj,PU.start,gd hx,i1]
def mr:List Nat:=[48,49,50,51,52,53,54,55,56,57]
theorem DR:M8 "0123456789"=mkS mr:=by decide +kernel
theorem Dl{c:Nat}:c∈mr ↔ 48<=c/\c<=57:=by
 constructor
 ·intro h
  have:∀d∈mr,48<=d/\d<=57:=by decide
  exact this c h
 ·intro ⟨h1,h2⟩
  have:c=48\/c=49\/c=50\/c=51\/c=52\/c=53\/c=54\/c=55\/c=56\/c=57:=by omega
  simp only[mr,MH,Mf,or_false];exact this
noncomputable def s9(x:List Nat):Bool:=!x.isEmpty && (x.all fun c=>decide (c∈mr)) && (decide (x=[48]) || !decide (x.head?=some 48))
theorem jS:M8 ""=mkS []:=by decide +kernel
theorem qk:M8 "0"=mkS [48]:=by decide +kernel
theorem xy(x:List Nat)(hx:x.length<=16777216):fK [.str (mkS x)]=some (.bl (s9 x)):=by
 refine aR rfl ?_;have e1:kU (.str (mkS x))=some (x.map sgn):=WO.it_mk x
 have e2:∀ρ:PSt,dj (aL 0) lu dY (.no::ρ) (x.map sgn)=.ok (x.map fun c=>.bl (decide (c∈mr))):=fun ρ=>WO.in_list_comp _ x fun c _=>⟨.val (sgn c)::ρ,rfl,by
  have:=WO.in_one c mr;simp[dY,c_FIGURES,DR];rw[show gIn (.str ⟨#[c]⟩) (.str (mkS mr))=_ from this];rfl⟩
 have e3:=yx (fun c=>decide (c∈mr)) x
 have ec:∀ρ:PSt,un1 (gL (itF (ah 0)) (aL 0) lu dY 1 []) DJ (.val (.str (mkS x))::ρ)=.ok (.bl (x.all fun c=>decide (c∈mr))):=fun ρ=>by
  simp[e1,e2,e3,gO,hx]
 clear e1 e2 e3;unfold s9;cases x with
 | nil=>simp[da,PU.start,jS,kD]
 | cons c r=>
  have e4:gIx (.str (mkS (c::r))) (.int 0)=some (sgn c):=sy (by rw[cF];exact hx) (by rw[aV];exact bR (i:=0) rfl rfl);have e5:(⟨#[c]⟩:Str)=mkS [c]:=rfl;cases ha:((c::r).all fun c=>decide (c∈mr)) with
  | false=>
   rw[ha] at ec;simp[-vk,da,PU.start,jS,kD,ec]
  | true=>
   rw[ha] at ec;cases h0:decide (c::r=[48]) with
   | true=>
    have h1:c=48/\r=[]:=by simpa using of_decide_eq_true h0
    obtain⟨rfl,rfl⟩:=h1;simp[-vk,da,PU.start,jS,qk,kD,ec]
   | false=>
    have h1:¬ (c=48/\r=[]):=by simpa using of_decide_eq_false h0
    simp[-vk,da,PU.start,jS,qk,kD,ec,e4,e5,h1]
open PySem.NumText in
def nw(lo hi L:Nat)(x:List Nat):PV:=if s9 x=true/\x.length<=L then (if lo<=digitsVal x/\digitsVal x<=hi then .int (digitsVal x) else .non) else .non
open PySem.NumText in
theorem i9(x:List Nat)(lo hi L:Nat)(t:Str)(hx:x.length<=16777216)(h1:BK (.int hi)=some (.str t))(h2:eP (.str t)=some (.int L))(h3:L<=600):b8 [.str (mkS x),.int lo,.int hi]=some (nw lo hi L x):=by
 refine aR rfl ?_;have e:=xy x hx;unfold nw;cases hf:s9 x with
 | false=>
  rw[hf] at e;simp[bI,PU.start,e]
 | true=>
  rw[hf] at e
  by_cases hl:x.length<=L
  ·have g1:¬ ((L:Int)<(x.length:Int)):=by omega
   have hd:AllDigits x:=by
    have hf:=hf;unfold s9 at hf;simp only[Mk] at hf;intro c hc;exact Dl.mp (of_decide_eq_true (NY.mp hf.1.2 c hc))
   have hne:x≠[]:=fun z=>by subst z;cases hf
   have ei:DI (.str (mkS x))=some (.int (digitsVal x:Nat)):=by
    show (if (mkS x).length<=640 then (Rc (mkS x)).map PV.int else none)=_;rw[if_pos (by rw[cF];omega),intText_digits (x:=mkS x) (by rw[aV];exact hd) (by rw[aV];exact hne) (by rw[cF];omega),aV];rfl
   rw[if_pos ⟨rfl,hl⟩]
   by_cases a1:lo<=digitsVal x
   ·have i1:decide ((lo:Int)<=(digitsVal x:Int))=true:=decide_eq_true (by omega)
    by_cases a2:digitsVal x<=hi
    ·have i2:decide ((digitsVal x:Int)<=(hi:Int))=true:=decide_eq_true (by omega)
     simp[bI,PU.start,e,gd hx,h1,h2,Pz.mpr hl,ei,a1,a2]
    ·simp[bI,PU.start,e,gd hx,h1,h2,Pz.mpr hl,ei,a1,a2]
   ·simp[bI,PU.start,e,gd hx,h1,h2,Pz.mpr hl,ei,a1]
  ·rw[if_neg fun z=>hl z.2]
   simp[bI,PU.start,e,gd hx,h1,h2,Nat.lt_of_not_le hl]
inductive Fd where
 | name | target | word | key | lkey | letters | text | many | from_ | till
deriving DecidableEq
def Fd.s:Fd->Str
 | .name=>"name" | .target=>"target" | .word=>"word" | .key=>"key" | .lkey=>"letters key" | .letters=>"letters" | .text=>"text" | .many=>"many" | .from_=>"from" | .till=>"till"
noncomputable def okB(b:Bool)(x:List Nat):PV:=if b=true then .str (mkS x) else .non
def fv:Fd->List Nat->PV
 | .name,x=>okB (gN x) x
 | .target,x=>okB (gN x || decide (x=[98,97,99,107])) x
 | .word,x=>okB (dJ 12 x) x
 | .key,x=>okB (ma x) x
 | .lkey,x=>okB (ma x && !decide (x=[35])) x
 | .letters,x=>okB (dJ 26 x) x
 | .text,x=>okB (m4 x) x
 | .many,x=>nw 1 9 1 x
 | .from_,x=>nw 0 23 2 x
 | .till,x=>nw 1 24 2 x
theorem AA(f t:Fd):(f.s=t.s)=(f=t):=by
 refine propext ⟨fun h=>?_,fun h=>by rw[h]⟩;have:∀f t:Fd,decide (f.s=t.s)=true->f=t:=by intro f t;cases f <;> cases t <;> decide +kernel
 exact this f t (decide_eq_true h)
theorem oX (f:Fd):(f.s=M8 "many")=(f=.many):=AA f .many
theorem oZ (f:Fd):(f.s=M8 "from")=(f=.from_):=AA f .from_
theorem xS (f:Fd):(f.s=M8 "till")=(f=.till):=AA f .till
theorem gH (f:Fd):(f.s=M8 "name")=(f=.name):=AA f .name
theorem eG (f:Fd):(f.s=M8 "target")=(f=.target):=AA f .target
theorem ko (f:Fd):(f.s=M8 "word")=(f=.word):=AA f .word
theorem qK (f:Fd):(f.s=M8 "key")=(f=.key):=AA f .key
theorem oY (f:Fd):(f.s=M8 "letters key")=(f=.lkey):=AA f .lkey
theorem nV (f:Fd):(f.s=M8 "letters")=(f=.letters):=AA f .letters
def fB(f:Fd)(x:List Nat):Bool:=match f with
 | .name=>gN x
 | .target=>gN x || decide (x=[98,97,99,107])
 | .word=>dJ 12 x
 | .key=>ma x
 | .lkey=>ma x && !decide (x=[35])
 | .letters=>dJ 26 x
 | _=>m4 x
theorem fits(f:Fd)(x:List Nat)(hx:x.length<=16777216)(h:f≠.many/\f≠.from_/\f≠.till):tF [.str f.s,.str (mkS x)]=some (.bl (fB f x)):=by
 refine aR rfl ?_;have hb:M8 "#"=mkS [35]:=by decide +kernel
 have e26:br [.str (mkS x),.int 26]=_:=m5 x 26 hx;have e1:=GT x hx;have e2:=GS x hx;have e3:=JC x hx;have e4:=Dy x hx;cases f with
 | many=>exact absurd rfl h.1
 | from_=>exact absurd rfl h.2.1
 | till=>exact absurd rfl h.2.2
 | name=>simp[ig,fB,PU.start,gH,e1]
 | target=>
  cases hn:gN x with
  | true=>rw[hn] at e1;simp[ig,fB,PU.start,gH,eG,e1,hn]
  | false=>rw[hn] at e1;simp[ig,fB,PU.start,gH,eG,e1,pA,kD,hn]
 | word=>simp[ig,fB,PU.start,gH,eG,ko,e2]
 | key=>simp[ig,fB,PU.start,gH,eG,ko,qK,e3]
 | lkey=>
  cases hn:ma x with
  | true=>rw[hn] at e3;simp[ig,fB,PU.start,gH,eG,ko,qK,oY,e3,hb,kD,hn]
  | false=>rw[hn] at e3;simp[ig,fB,PU.start,gH,eG,ko,qK,oY,e3,hn]
 | letters=>simp[ig,fB,PU.start,gH,eG,ko,qK,oY,nV,e26]
 | text=>simp[ig,fB,PU.start,gH,eG,ko,qK,oY,nV,e4]
theorem uN(f:Fd)(x:List Nat)(hx:x.length<=16777216):eS [.str f.s,.str (mkS x)]=some (fv f x):=by
 refine aR rfl ?_;have e1:b8 [.str (mkS x),.int 1,.int 9]=_:=i9 x 1 9 1 (Qd (9:Int)) hx rfl (by rw[jm (by decide +kernel)];exact congrArg (fun n:Nat=>some (PV.int n)) (by decide +kernel)) (by decide);have e2:b8 [.str (mkS x),.int 0,.int 23]=_:=i9 x 0 23 2 (Qd (23:Int)) hx rfl (by rw[jm (by decide +kernel)];exact congrArg (fun n:Nat=>some (PV.int n)) (by decide +kernel)) (by decide);have e3:b8 [.str (mkS x),.int 1,.int 24]=_:=i9 x 1 24 2 (Qd (24:Int)) hx rfl (by rw[jm (by decide +kernel)];exact congrArg (fun n:Nat=>some (PV.int n)) (by decide +kernel)) (by decide)
 by_cases a1:f=.many
 ·subst a1;simp[cN,PU.start,oX,e1,fv]
 by_cases a2:f=.from_
 ·subst a2;simp[cN,PU.start,oX,oZ,e2,fv]
 by_cases a3:f=.till
 ·subst a3;simp[cN,PU.start,oX,oZ,xS,e3,fv]
 have ef:=fits f x hx ⟨a1,a2,a3⟩;generalize hb:fB f x=b at ef
 have hv:fv f x=okB b x:=by
  cases f <;> first | (rw[← hb];rfl) | exact absurd rfl a1 | exact absurd rfl a2 | exact absurd rfl a3
 rw[hv];cases b <;> simp[cN,PU.start,oX,oZ,xS,a1,a2,a3,ef,okB]
inductive Kd where
 | first | letters | menu | key | names | name | hours | from_ | hand | fin
deriving DecidableEq
noncomputable def Kd.c:Kd->List Nat
 | .first=>[102,105,114,115,116] | .letters=>[108,101,116,116,101,114,115] | .menu=>[109,101,110,117] | .key=>[107,101,121] | .names=>[110,97,109,101,115]
 | .name=>[110,97,109,101] | .hours=>[104,111,117,114,115] | .from_=>[102,114,111,109] | .hand=>[104,97,110,100] | .fin=>[101,110,100]
noncomputable def Kd.s:Kd->Str
 | .first=>"first" | .letters=>"letters" | .menu=>"menu" | .key=>"key" | .names=>"names" | .name=>"name" | .hours=>"hours" | .from_=>"from" | .hand=>"hand" | .fin=>"end"
def Kd.fs:Kd->List Fd
 | .first=>[.name] | .letters=>[.lkey,.letters] | .menu=>[.name,.many,.name,.many,.name,.text] | .key=>[.key,.target] | .names=>[.name,.many,.name,.many,.name,.text]
 | .name=>[.word,.name] | .hours=>[.name,.name] | .from_=>[.from_,.till,.name] | .hand=>[.name,.text] | .fin=>[.name,.text]
theorem xp(k:Kd):k.s=mkS k.c:=by cases k <;> decide +kernel
theorem xr(k:Kd):32 ∉ k.c:=by cases k <;> decide
def fvs(fs:List Fd)(xs:List (List Nat)):List PV:=List.zipWith fv fs xs
def kj:PV->Bool
 | .non=>true
 | _=>false
def rv(k:Kd)(x:List Nat):PV:=if ((TX.spl 32 k.fs.length x).drop 1).length<k.fs.length then .non else if (fvs k.fs ((TX.spl 32 k.fs.length x).drop 1)).any kj=true then .non else .lst (fvs k.fs ((TX.spl 32 k.fs.length x).drop 1))
theorem JH(f:Fd)(x:List Nat):mR (fv f x)=true:=by
 have h1:∀b,mR (okB b x)=true:=fun b=>by unfold okB;split <;> rfl
 have h2:∀a b c,mR (nw a b c x)=true:=fun a b c=>by unfold nw;split <;> (try split) <;> rfl
 cases f <;> first | exact h1 _ | exact h2 _ _ _
theorem Gn:∀vs:List PV,(∀v∈vs,mR v=true)->gIn .non (.lst vs)=some (.bl (vs.any kj)):=fun vs h=>by
 show (if mR PV.non=true/\vs.all mR=true then some (PV.bl (inV (scV .non) (vs.map scV))) else none)=_;rw[if_pos ⟨rfl,NY.mpr h⟩]
 congr 2
 induction vs with
 | nil=>rfl
 | cons v vs ih=>
  have:=ih fun v hv=>h v (MY _ hv);have hv:=h v Mb
  have go:∀v:PV,inV (scV .non) [scV v]=kj v->inV (scV .non) ((v::vs).map scV)=(v::vs).any kj:=fun v e=>by
   rw[OG,← this,← e,MN];simp[inV]
  cases v with
  | non=>exact go _ rfl
  | bl b=>exact go _ rfl
  | int i=>exact go _ rfl
  | str x=>exact go _ rfl
  | _=>cases hv
theorem og(c:Nat):∀(k:Nat)(l:List Nat),(TX.spl c k l).length<=k+1
 | 0,l=>by simp[TX.spl]
 | k+1,l=>by
  unfold TX.spl
  split
  ·simp
  ·have:=og c k ‹_›
   simp;omega
theorem sF(c:Nat):∀(k:Nat)(l:List Nat),∀y∈TX.spl c k l,y.length<=l.length
 | 0,l=>by simp[TX.spl]
 | k+1,l=>by
  unfold TX.spl
  split
  ·simp
  ·rename_i d r e
   intro y hy;rcases MH.mp hy with rfl | hy
   ·exact(List.takeWhile_sublist _).length_le
   ·have h1:=sF c k r y hy
    have h2:(l.dropWhile (· != c)).length<=l.length:=(List.dropWhile_sublist _).length_le;rw[e] at h2;simp at h2;omega
theorem zi:M8 " "=(⟨#[32]⟩:Str):=by decide +kernel
theorem FL (x:List Nat) (n:Nat) (hx:x.length<=16777216) (hn:n<=100):oR (.str (mkS x)) (.str " ") (.int n)=some (.lst ((TX.spl 32 n x).map fun y=>.str (mkS y))):=by
 have e:=TX.splitMax_eq (c:=32) (by decide) (mkS x) n;rw[aV] at e;show (if _/\_/\_/\(Txt.splitMax (mkS x) (M8 " ") n).length<=16777216 then some (PV.lst ((Txt.splitMax (mkS x) (M8 " ") n).map .str)) else none)=_;rw[zi,e];have hl:=og 32 n x;rw[if_pos ⟨by decide +kernel,by rw[cF];exact hx,by omega,by rw[MC];omega⟩,Mt];rfl
theorem Ju(k:Kd):kE (.str k.s) c_FIELDS=some (.bl false):=by cases k <;> rfl
theorem Jt(k:Kd):gIx c_FIELDS (.str k.s)=some (.tup (k.fs.map fun f=>.str f.s)):=by cases k <;> rfl
theorem F7(fs:List Fd)(ps:List (List Nat)):(uZ (fs.map fun f=>.str f.s) (ps.map fun y=>.str (mkS y))).map PV.tup=(fs.zip ps).map fun q=>.tup [.str q.1.s,.str (mkS q.2)]:=by
 unfold uZ;rw[List.zipWith_map,List.zip,QD,QD]
theorem DP(fs:List Fd)(q:Bool):((fs.map fun f=>PV.str f.s).all ik || q)=true:=by rw[qJ];rfl
theorem q9(k:Kd)(x:List Nat)(hx:x.length<=16777216):eI [.str k.s,.str (mkS x)]=some (rv k x):=by
 refine aR rfl ?_;have hf:k.fs.length<=6:=by cases k <;> decide
 have e1:=Ju k;have e2:=Jt k;have e3:=FL x k.fs.length hx (by omega);have e4:eP (.tup (k.fs.map fun f=>.str f.s))=some (.int k.fs.length):=by show some (PV.int (k.fs.map fun f=>PV.str f.s).length)=_;rw[MC]
 have hs:=sF 32 k.fs.length x;have hl:=og 32 k.fs.length x
 have e5:jf ((TX.spl 32 k.fs.length x).map fun y=>PV.str (mkS y)) (some 1) none=((TX.spl 32 k.fs.length x).drop 1).map fun y=>.str (mkS y):=by
  unfold jf;generalize TX.spl 32 k.fs.length x=l;cases l with
  | nil=>rfl
  | cons a l=>simp[HT.sIx];exact Ni (by simp)
 unfold rv;generalize hps:(TX.spl 32 k.fs.length x).drop 1=ps at *;have hs:∀y∈ps,y.length<=16777216:=fun y hy=>Mm (hs y (Qk (hps▸hy))) hx;have hl:ps.length<=k.fs.length:=by rw[← hps,NI];omega
 have e6:dj (ji 2 (bg (aL 0) (bg (aL 1) jj))) lu dX [.no,.no] ((uZ (k.fs.map fun f=>.str f.s) (ps.map fun y=>.str (mkS y))).map PV.tup)=.ok (fvs k.fs ps):=by
  rw[F7]
  have:=WO.in_list_comp (enc:=fun q:Fd×List Nat=>PV.tup [.str q.1.s,.str (mkS q.2)]) (h:=ji 2 (bg (aL 0) (bg (aL 1) jj))) (fe:=dX) (ρ:=[.no,.no]) (fun q=>fv q.1 q.2) (k.fs.zip ps) fun q hq=>⟨[.val (.str q.1.s),.val (.str (mkS q.2))],rfl,by
   have:=uN q.1 q.2 (hs _ (QV hq).2);simp[dX,this]⟩
  rw[this];unfold fvs;rw[List.zip,QD]
 have e7:=Gn (fvs k.fs ps) fun v hv=>by
  unfold fvs at hv;rw[show List.zipWith fv k.fs ps=(k.fs.zip ps).map fun q=>fv q.1 q.2 by rw[List.zip,QD]] at hv;obtain⟨q,_,rfl⟩:=Mr.mp hv;exact JH _ _
 have e8:(fvs k.fs ps).length<=16777216:=by unfold fvs;rw[Qt];omega
 have e9:=DP k.fs ((ps.map fun y=>PV.str (mkS y)).all ik);have eb:=Dp _ _ e9;have ea:(uZ (k.fs.map fun f=>.str f.s) (ps.map fun y=>.str (mkS y))).length<=16777216:=by unfold uZ;rw[Qt,MC];omega
 by_cases h1:ps.length<k.fs.length
 ·rw[if_pos h1]
  simp[d0,PU.start,e1,e2,e3,e4,e5,h1]
 ·rw[if_neg h1]
  cases h2:(fvs k.fs ps).any kj with
  | true=>rw[h2] at e7;simp[d0,PU.start,e1,e2,e3,e4,e5,h1,e6,e7,e8,eb,ea,gO]
  | false=>rw[h2] at e7;simp[d0,PU.start,e1,e2,e3,e4,e5,h1,e6,e7,e8,eb,ea,gO]
def KyS(s:Str):Prop:=∃c∈gK,s=mkS [c]
def kix(s:Str):Nat:=(TX.pos (s.cps.toList.headD 0) 0 gK).headD 0
theorem xv{s:Str}(h:KyS s):nR c_KEYS (.str s)=some (.int (kix s)):=by
 obtain⟨c,hc,rfl⟩:=h;have e:=TX.occ_pos (mkS gK) c 1
 show (match Md (M8 "0123456789*#") (mkS [c]) 0 (M8 "0123456789*#").length 1 with
  | i::_=>some (PV.int i)
  | []=>none)=_
 rw[xk,show mkS [c]=(⟨#[c]⟩:Str) from rfl,e,aV];unfold kix;have:(⟨#[c]⟩:Str).cps.toList.headD 0=c:=rfl;rw[this];have:∀c∈gK,TX.pos c 0 gK≠[]:=by decide
 have h:=this c hc;generalize TX.pos c 0 gK=l at h;cases l with
 | nil=>exact absurd rfl h
 | cons a l=>rfl
def uo(xs:List (Str×Str))(k:Str):Bool:=match xs.getLast? with
 | none=>true
 | some z=>decide (kix z.1<kix k)
noncomputable def zv(xs:List (Str×Str))(w:Str):Bool:=match xs.getLast? with
 | none=>true
 | some z=>decide (z.1.cps.toList<w.cps.toList)
theorem Di:GU (.int 1)=some (.int (-1)):=rfl
theorem lZ{α:Type}(xs:List α):xs=[]\/∃ys z,xs=ys++[z]:=by
 rcases List.eq_nil_or_concat xs with h | ⟨ys,z,h⟩
 ·exact .inl h
 ·exact .inr ⟨ys,z,by simpa using h⟩
theorem sM (kd:Str) (hkd:kd="letters"\/kd="key") (xs:List (Str×Str)) (H:PV) (hH:H=.lst (xs.map pv2)\/H=.tup (xs.map pv2)) (k:Str) (v:PV) (hx:∀z∈xs,KyS z.1) (hk:KyS k):bj [.str kd,H,.lst [.str k,v]]=some (.bl (uo xs k)):=by
 refine aR rfl ?_;have a1:kd≠M8 "from":=by rcases hkd with rfl | rfl <;> decide +kernel
 have a2:kd≠M8 "name":=by rcases hkd with rfl | rfl <;> decide +kernel
 have b0:∀a b:PV,atI [a,b] 0=some a:=fun a b=>bR (n:=0) rfl rfl;rcases lZ xs with rfl | ⟨ys,z,rfl⟩
 ·rcases hH with rfl | rfl <;> simp[cH,PU.start,a1,uo,kM]
 ·have e1:atI ((ys++[z]).map pv2) (-1)=some (pv2 z):=by rw[Mp];exact pB _ _
  have e2:=xv (hx z (by simp));have e3:=xv hk;have e4:uo (ys++[z]) k=decide (kix z.1<kix k):=by unfold uo;rw[Od]
  have e5:((kix z.1:Int)<(kix k:Int))=(kix z.1<kix k):=propext ⟨fun h=>by omega,fun h=>by omega⟩;have e6:kM (.lst ((ys++[z]).map pv2))=some true:=by simp[kM]
  have e7:kM (.tup ((ys++[z]).map pv2))=some true:=by simp[kM]
  have e8:c_KEYS=.str (M8 "0123456789*#"):=rfl;rw[e8] at e2 e3;rw[e4];generalize (ys++[z]).map pv2=l at *;rcases hH with rfl | rfl
  ·simp[cH,PU.start,a1,a2,e1,e2,e3,e5,e6,Di,pv2,e8]
  ·simp[cH,PU.start,a1,a2,e1,e2,e3,e5,e7,Di,pv2,e8]
theorem zr (xs:List (Str×Str)) (w:Str) (v:PV):bj [.str "name",.tup (xs.map pv2),.lst [.str w,v]]=some (.bl (zv xs w)):=by
 refine aR rfl ?_;have a1:M8 "name"≠M8 "from":=by decide +kernel
 rcases lZ xs with rfl | ⟨ys,z,rfl⟩
 ·simp[cH,PU.start,a1,zv,kM]
 ·have e1:atI ((ys++[z]).map pv2) (-1)=some (pv2 z):=by rw[Mp];exact pB _ _
  have e4:zv (ys++[z]) w=decide (z.1.cps.toList<w.cps.toList):=by unfold zv;rw[Od]
  have e7:kM (.tup ((ys++[z]).map pv2))=some true:=by simp[kM]
  have e9:gLt (.str z.1) (.str w)=some (.bl (decide (z.1.cps.toList<w.cps.toList))):=rfl;rw[e4];generalize (ys++[z]).map pv2=l at *;simp[cH,PU.start,a1,e1,e7,Di,pv2,e9]
theorem zt (H v:PV) (a b:Int):bj [.str "from",H,.lst [.int a,.int b,v]]=some (.bl (decide (a<b))):=by
 refine aR rfl ?_;simp[cH,PU.start]
noncomputable def Room.kd:Room->Kd
 | .menu ..=>.menu | .names ..=>.names | .hours ..=>.hours | .hand _=>.hand | .fin _=>.fin
def aW:Room->List PV
 | .menu _ ks _ _=>ks.map pv2 | .names _ ks _ _=>ks.map pv2 | .hours sp _=>sp.map pv3 | _=>[]
theorem DA(r:Room):dW [r.pv]=some (.tup (aW r)):=by
 refine aR rfl ?_;have n1:M8 "menu"≠M8 "hours":=by decide +kernel
 have n2:M8 "names"≠M8 "hours":=by decide +kernel
 have n3:M8 "hand"≠M8 "hours":=by decide +kernel
 have n4:M8 "end"≠M8 "hours":=by decide +kernel
 have i1:gIn (.str "menu") c_BENEATH=some (.bl true):=rfl;have i2:gIn (.str "names") c_BENEATH=some (.bl true):=rfl;have i3:gIn (.str "hand") c_BENEATH=some (.bl false):=rfl;have i4:gIn (.str "end") c_BENEATH=some (.bl false):=rfl;cases r <;> simp[fY,PU.start,Room.pv,aW,n1,n2,n3,n4,i1,i2,i3,i4]
noncomputable def gq:Room->List PV->PV
 | .menu t _ a b,h=>.tup [.str "menu",.str t,.tup h,pvI a,pvI b]
 | .names t _ a b,h=>.tup [.str "names",.str t,.tup h,pvI a,pvI b]
 | .hours _ l,h=>.tup [.str "hours",.tup h,.str l]
 | _,_=>.non
theorem rA(r:Room)(h:List PV)(hr:(∀t,r≠.hand t)/\∀t,r≠.fin t):dM [r.pv,.tup h]=some (gq r h):=by
 refine aR rfl ?_;have n1:M8 "menu"≠M8 "hours":=by decide +kernel
 have n2:M8 "names"≠M8 "hours":=by decide +kernel
 have a3:∀a b c d e:PV,atI [a,b,c,d,e] 3=some d:=fun _ _ _ _ _=>bR (n:=3) rfl rfl;have a4:∀a b c d e:PV,atI [a,b,c,d,e] 4=some e:=fun _ _ _ _ _=>bR (n:=4) rfl rfl;cases r with
 | hand t=>exact absurd rfl (hr.1 t)
 | fin t=>exact absurd rfl (hr.2 t)
 | menu t ks a b=>simp[fu,PU.start,Room.pv,gq,n1,a3,a4]
 | names t ks a b=>simp[fu,PU.start,Room.pv,gq,n2,a3,a4]
 | hours sp l=>simp[fu,PU.start,Room.pv,gq]
theorem tU(k:Kd)(hk:k=.menu\/k=.names)(n an bn t:Str)(a b:Int):ck [.str k.s,.lst [.str n,.int a,.str an,.int b,.str bn,.str t]]=some (.tup [.str k.s,.str t,.tup [],pvI (a,an),pvI (b,bn)]):=by
 refine aR rfl ?_;have n1:M8 "menu"≠M8 "hours":=by decide +kernel
 have n2:M8 "names"≠M8 "hours":=by decide +kernel
 have i1:gIn (.str "menu") c_BENEATH=some (.bl true):=rfl;have i2:gIn (.str "names") c_BENEATH=some (.bl true):=rfl;have a3:∀a b c d e f:PV,atI [a,b,c,d,e,f] 3=some d:=fun _ _ _ _ _ _=>bR (n:=3) rfl rfl;have a4:∀a b c d e f:PV,atI [a,b,c,d,e,f] 4=some e:=fun _ _ _ _ _ _=>bR (n:=4) rfl rfl;have a5:∀a b c d e f:PV,atI [a,b,c,d,e,f] 5=some f:=fun _ _ _ _ _ _=>bR (n:=5) rfl rfl;rcases hk with rfl | rfl <;> simp[fA,PU.start,Kd.s,n1,n2,i1,i2,a3,a4,a5,pvI]
theorem uT(n t:Str):ck [.str Kd.hours.s,.lst [.str n,.str t]]=some (Room.pv (.hours [] t)):=by
 refine aR rfl ?_;simp[fA,PU.start,Kd.s,Room.pv]
theorem tW(k:Kd)(hk:k=.hand\/k=.fin)(n t:Str):ck [.str k.s,.lst [.str n,.str t]]=some (.tup [.str k.s,.str t]):=by
 refine aR rfl ?_;have n3:M8 "hand"≠M8 "hours":=by decide +kernel
 have n4:M8 "end"≠M8 "hours":=by decide +kernel
 have i3:gIn (.str "hand") c_BENEATH=some (.bl false):=rfl;have i4:gIn (.str "end") c_BENEATH=some (.bl false):=rfl;rcases hk with rfl | rfl <;> simp[fA,PU.start,Kd.s,n3,n4,i3,i4]
theorem bp{m n:Nat}{g:PSt->XO Fb}{t t':Tr}{qs:List PV}{p:PV}{ρ:PSt}(hm:qs.length+1=m)(e:g (.tree t::PU.start (n-1) qs)=.ok (.ret p) (.tree t'::ρ)):yH m n g t qs=some (p,t'):=by
 unfold yH;rw[if_pos hm,e];rfl
@[simp] theorem Ik{p:PV}{ρ:PSt}:yN 0 (.tree (.leaf p)::ρ)=.ok p:=by unfold yN;exact Mh _
theorem vm{ks:List Key}{ps:List PV}{ρ:PSt}{fk fv:PSt->R PV}{p x:PV}{k:Key}(e1:fv (.tree (.leaf (.dct ks ps))::ρ)=.ok p)(e2:fk (.tree (.leaf (.dct ks ps))::ρ)=.ok x)(e3:lA x=some k)(hl:ks.length<16777216) :
  vE (.whole 0) fk fv (.tree (.leaf (.dct ks ps))::ρ)=.ok .next (.tree (.leaf (CS ks ps k p))::ρ):=by
 show (XO.rd _ (fv _)).bind _=_;rw[e1];show (XO.rd _ (fk _)).bind _=_;rw[e2]
 show (match lA x with
  | none=>_
  | some k=>_)=_
 rw[e3];show (if ks.length<16777216 then _ else _)=_;rw[if_pos hl];rfl
def aw (h:House):Tr:=.node [.inr "first",.inr "letters",.inr "rooms"] [.val (.str h.first),.own (.lst (h.letters.map pv2)),.own (aC h.rooms)]
theorem zC(rs:List (Str×Room))(n:Str)(r:Room)(h:n ∉ FA.names rs):EG rs n r=rs++[(n,r)]:=by unfold EG;exact if_neg h
theorem we(ys:List (Str×Room))(n:Str)(r r':Room)(h:n ∉ FA.names ys):EG (ys++[(n,r)]) n r'=ys++[(n,r')]:=by
 unfold EG;rw[if_pos (by simp),Mp]
 congr 1
 ·conv=>rhs;rw[← List.map_id ys]
  apply Oq;intro x hx;rw[if_neg fun e=>h (by rw[← e];exact Oo hx)];rfl
 ·simp
theorem wY(ys:List (Str×Room))(n:Str)(r:Room)(h:n ∉ FA.names ys):FA.lookR (ys++[(n,r)]) n=some r:=by
 unfold FA.lookR;rw[List.find?_append]
 have:ys.find? (fun r=>decide (r.1=n))=none:=List.find?_eq_none.mpr fun x hx=>by
  have:x.1≠n:=fun e=>h (by rw[← e];exact Oo hx);simpa using this
 rw[this];simp
theorem take_room(rs:List (Str×Room))(k:Kd)(n:Str)(vs:List PV)(room:Room)(hv:atI vs 0=some (.str n))(hb:ck [.str k.s,.lst vs]=some room.pv)(hl:rs.length<=1000000) :
  dN (.leaf (aC rs)) [.str k.s,.lst vs]=some (if rs.length=12\/n∈FA.names rs then (.bl false,.leaf (aC rs)) else (.bl true,.leaf (aC (rs++[(n,room)])))):=by
 have e1:eP (aC rs)=some (.int rs.length):=FA.len_rooms rs;have e2:=FA.in_rooms rs n;have e3:((rs.length:Int)=12)=(rs.length=12):=propext ⟨fun h=>by omega,fun h=>by omega⟩
 by_cases h1:rs.length=12
 ·rw[if_pos (.inl h1)]
  refine bp rfl (ρ:=[.val (.str k.s),.val (.lst vs)]) ?_;simp[fw,PU.start,e1,c_MOST_ROOMS,e3,h1]
 ·by_cases h2:n∈FA.names rs
  ·rw[if_pos (.inr h2)]
   rw[decide_eq_true h2] at e2;refine bp rfl (ρ:=[.val (.str k.s),.val (.lst vs)]) ?_;simp[fw,PU.start,e1,c_MOST_ROOMS,e3,h1,hv,e2]
  ·rw[if_neg fun z=>z.elim h1 h2]
   rw[decide_eq_false h2] at e2;refine bp rfl (ρ:=[.val (.str k.s),.val (.lst vs)]) ?_
   have e4:=vm (ks:=rs.map fun r=>.inr r.1) (ps:=rs.map fun r=>r.2.pv) (ρ:=[.val (.str k.s),.val (.lst vs)]) (fk:=au (ah 2) (kI 0) gIx) (fv:=bq (ae (ah 1) (ae (ah 2) aU)) ck) (p:=room.pv) (x:=.str n) (k:=.inr n)
    (by simp[hb]) (by simp[hv]) rfl (by rw[MC];omega)
   rw[wd,zC rs n room h2] at e4;have e5:aC rs=.dct (rs.map fun r=>.inr r.1) (rs.map fun r=>r.2.pv):=rfl;rw[← e5] at e4;simp[fw,PU.start,e1,c_MOST_ROOMS,e3,h1,hv,e2,e4]
inductive Bn where
 | key (k t:Str) | name (w t:Str) | span (a b:Int) (t:Str)
noncomputable def Bn.kd:Bn->Kd
 | .key ..=>.key | .name ..=>.name | .span ..=>.from_
noncomputable def Bn.vals:Bn->List PV
 | .key k t=>[.str k,.str t] | .name w t=>[.str w,.str t] | .span a b t=>[.int a,.int b,.str t]
noncomputable def pE:Room->Bn->Option Room
 | .menu t ks a b,.key k g=>if ks.length≠12/\uo ks k=true then some (.menu t (ks++[(k,g)]) a b) else none
 | .names t ks a b,.name w g=>if ks.length≠12/\zv ks w=true then some (.names t (ks++[(w,g)]) a b) else none
 | .hours sp l,.span a b g=>if sp.length≠12/\a<b then some (.hours (sp++[(a,b,g)]) l) else none
 | _,_=>none
def uY:Room->Prop
 | .menu _ ks _ _=>ks.length<=1000000/\∀k∈ks,KyS k.1
 | .names _ ks _ _=>ks.length<=1000000
 | .hours sp _=>sp.length<=1000000
 | _=>True
def BnI:Bn->Prop
 | .key k _=>KyS k
 | _=>True
noncomputable def ben:Room->Option Kd
 | .menu ..=>some .key | .names ..=>some .name | .hours ..=>some .from_ | _=>none
def Kq:Option Kd->PV
 | some k=>.str k.s
 | none=>.non
theorem GF(f t:Kd):(f.s=t.s)=(f=t):=by
 refine propext ⟨fun h=>?_,fun h=>by rw[h]⟩;have:∀f t:Kd,decide (f.s=t.s)=true->f=t:=by intro f t;cases f <;> cases t <;> decide +kernel
 exact this f t (decide_eq_true h)
theorem Eh(r:Room):∃s,r.pv=.tup (.str s::(match r.pv with | .tup l=>l.drop 1 | _=>[]))/\F2 c_BENEATH (.str s)=some (Kq (ben r)):=by
 cases r <;> exact⟨_,rfl,rfl⟩
theorem Gs(o:Option Kd)(k:Kd):gNe (Kq o) (.str k.s)=some (.bl (!decide (o=some k))):=by
 cases o with
 | none=>rfl
 | some j=>
  show gNe (.str j.s) (.str k.s)=_;rw[z6]
  congr 3
  have e:=GF j k
  by_cases h:j=k
  ·subst h;simp
  ·rw[decide_eq_false (by rw[e];exact h),decide_eq_false (by simpa using h)]
theorem Aq(r:Room):eP (.tup (aW r))=some (.int (aW r).length):=rfl
theorem AW(r:Room)(x:Bn)(h:ben r≠some x.kd):pE r x=none:=by
 cases r <;> cases x <;> first | rfl | exact absurd rfl h
theorem AS(r:Room){s:Str}{l:List PV}(h:r.pv=.tup (.str s::l)):gIx r.pv (.int 0)=some (.str s):=by
 rw[h];exact bR (n:=0) rfl rfl
theorem zu(r:Room)(x:Bn)(hr:uY r)(hx:BnI x)(h:ben r=some x.kd)(hl:(aW r).length≠12) :
  (bj [.str x.kd.s,.tup (aW r),.lst x.vals]=some (.bl true)/\∃r',pE r x=some r'/\dM [r.pv,.tup (aW r++[.tup x.vals])]=some r'.pv/\(aW r).length+1<=16777216) ∨
  (bj [.str x.kd.s,.tup (aW r),.lst x.vals]=some (.bl false)/\pE r x=none):=by
 cases r with
 | hand t=>cases x <;> cases h
 | fin t=>cases x <;> cases h
 | menu t ks a b=>
  cases x with
  | name w g=>cases h
  | span c d g=>cases h
  | key k g=>
   have e:=sM "key" (.inr rfl) ks (.tup (ks.map pv2)) (.inr rfl) k (.str g) hr.2 hx;have hl:ks.length≠12:=by simpa [aW] using hl
   cases hk:uo ks k with
   | true=>
    rw[hk] at e;refine .inl ⟨e,_,if_pos ⟨hl,hk⟩,?_,by have:=hr.1;simp[aW];omega⟩;rw[rA (.menu t ks a b) _ ⟨fun _ z=>(by cases z),fun _ z=>(by cases z)⟩];simp[gq,aW,Room.pv,pv2,Bn.vals]
   | false=>
    rw[hk] at e;exact .inr ⟨e,if_neg fun z=>by rw[hk] at z;cases z.2⟩
 | names t ks a b=>
  cases x with
  | key w g=>cases h
  | span c d g=>cases h
  | name k g=>
   have e:=zr ks k (.str g);have hl:ks.length≠12:=by simpa [aW] using hl
   cases hk:zv ks k with
   | true=>
    rw[hk] at e;refine .inl ⟨e,_,if_pos ⟨hl,hk⟩,?_,by have:ks.length<=1000000:=hr;simp[aW];omega⟩;rw[rA (.names t ks a b) _ ⟨fun _ z=>(by cases z),fun _ z=>(by cases z)⟩];simp[gq,aW,Room.pv,pv2,Bn.vals]
   | false=>
    rw[hk] at e;exact .inr ⟨e,if_neg fun z=>by rw[hk] at z;cases z.2⟩
 | hours sp l=>
  cases x with
  | key w g=>cases h
  | name c g=>cases h
  | span c d g=>
   have e:=zt (.tup (sp.map pv3)) (.str g) c d;have hl:sp.length≠12:=by simpa [aW] using hl
   by_cases hk:c<d
   ·rw[decide_eq_true hk] at e
    refine .inl ⟨e,_,if_pos ⟨hl,hk⟩,?_,by have:sp.length<=1000000:=hr;simp[aW];omega⟩;rw[rA (.hours sp l) _ ⟨fun _ z=>(by cases z),fun _ z=>(by cases z)⟩];simp[gq,aW,Room.pv,pv3,Bn.vals]
   ·rw[decide_eq_false hk] at e
    exact .inr ⟨e,if_neg fun z=>hk z.2⟩
theorem yy(r:Room)(x:Bn)(h:(aW r).length=12):pE r x=none:=by
 have hm:∀{α β:Type}{f:α->β}{l:List α},(l.map f).length=12->l.length=12:=fun h=>by rwa [MC] at h
 cases r <;> cases x <;> first | rfl | exact if_neg fun z=>z.1 (hm h)
theorem vG(x:Bn):bO (.leaf (aC [])) [.str x.kd.s,.lst x.vals]=some (.bl false,.leaf (aC [])):=by
 refine bp rfl (ρ:=[.val (.str x.kd.s),.val (.lst x.vals),.no,.no,.no]) ?_;have e1:kM (aC [])=some false:=rfl;simp[bN,PU.start,e1]
theorem take_beneath(ys:List (Str×Room))(n:Str)(r:Room)(x:Bn)(hn:n ∉ FA.names ys)(hy:ys.length<=1000000)(hr:uY r)(hx:BnI x) :
  bO (.leaf (aC (ys++[(n,r)]))) [.str x.kd.s,.lst x.vals]=some (match pE r x with
   | some r'=>(.bl true,.leaf (aC (ys++[(n,r')])))
   | none=>(.bl false,.leaf (aC (ys++[(n,r)])))):=by
 have e1:kM (aC (ys++[(n,r)]))=some true:=by simp[aC,kM]
 have e2:qG (aC (ys++[(n,r)]))=some (.lst ((ys.map fun r=>PV.str r.1)++[.str n])):=by
  show some (PV.lst (((ys++[(n,r)]).map fun r=>(NQ r.1:Key)).map Ad))=_;simp[Ad,OA]
 have e3:atI ((ys.map fun r=>PV.str r.1)++[PV.str n]) (-1)=some (.str n):=pB _ _;have e4:gIx (aC (ys++[(n,r)])) (.str n)=some r.pv:=by rw[FA.ix_rooms,wY ys n r hn];rfl
 obtain⟨s,es,e5⟩:=Eh r;have e6:=AS r es;have e7:=Gs (ben r) x.kd;have e8:=DA r;have e9:Am c_BENEATH=true:=rfl;have ea:∀fe (g:PV->PV->Option PV) ρ,mdK fe g ρ c_BENEATH=iR (opP g c_BENEATH) (fe ρ):=fun fe g ρ=>by unfold c_BENEATH;simp
 have eb:=Aq r;have ec:(((aW r).length:Int)=12)=((aW r).length=12):=propext ⟨fun h=>by omega,fun h=>by omega⟩;have ed:nQ (.lst x.vals)=some (.tup x.vals):=rfl;have hz:x.vals.length<=3:=by cases x <;> simp[Bn.vals]
 generalize hR:aC (ys++[(n,r)])=R at *
 by_cases h1:ben r=some x.kd
 ·rw[decide_eq_true h1] at e7
  by_cases h2:(aW r).length=12
  ·rw[yy r x h2]
   refine bp rfl (ρ:=[.val (.str x.kd.s),.val (.lst x.vals),.val (.str n),.val r.pv,.val (.tup (aW r))]) ?_;simp[bN,PU.start,e1,e2,e3,e4,Di,e5,e6,e7,e8,ea,eb,ec,h2,c_MOST_BENEATH]
  ·rcases zu r x hr hx h1 h2 with⟨f1,r',f2,f3,f4⟩|⟨f1,f2⟩
   ·rw[f2]
    refine bp rfl (ρ:=[.val (.str x.kd.s),.val (.lst x.vals),.val (.str n),.val r.pv,.val (.tup (aW r))]) ?_
    have g1:=vm (ks:=(ys++[(n,r)]).map fun r=>.inr r.1) (ps:=(ys++[(n,r)]).map fun r=>r.2.pv) (ρ:=[.val (.str x.kd.s),.val (.lst x.vals),.val (.str n),.val r.pv,.val (.tup (aW r))]) (fk:=ah 3)
     (fv:=bq (ae (ah 4) (ae (au (ah 5) (kL (ae (un1 (ah 2) nQ) aU)) bC) aU)) dM) (p:=r'.pv) (x:=.str n) (k:=.inr n) (by simp[ed,f3,f4]) (by simp) rfl (by rw[MC,MW];simp;omega)
    rw[wd,we ys n r r' hn] at g1;have g2:R=.dct ((ys++[(n,r)]).map fun r=>.inr r.1) ((ys++[(n,r)]).map fun r=>r.2.pv):=hR.symm;rw[← g2] at g1;simp[bN,PU.start,e1,e2,e3,e4,Di,e5,e6,e7,e8,ea,eb,ec,h2,c_MOST_BENEATH,f1,g1]
   ·rw[f2]
    refine bp rfl (ρ:=[.val (.str x.kd.s),.val (.lst x.vals),.val (.str n),.val r.pv,.val (.tup (aW r))]) ?_;simp[bN,PU.start,e1,e2,e3,e4,Di,e5,e6,e7,e8,ea,eb,ec,h2,c_MOST_BENEATH,f1]
 ·rw[decide_eq_false h1] at e7
  rw[AW r x h1];refine bp rfl (ρ:=[.val (.str x.kd.s),.val (.lst x.vals),.val (.str n),.val r.pv,.no]) ?_;simp[bN,PU.start,e1,e2,e3,e4,Di,e5,e6,e7,ea]
theorem rF(c:Nat):∀(l:List Nat)(i:Nat),(TX.pos c i l).length=l.count c
 | [],_=>rfl
 | y::r,i=>by
  unfold TX.pos;rw[List.count_cons]
  by_cases h:y=c
  ·rw[if_pos h,MI,rF c r,if_pos (by simp[h])]
  ·rw[if_neg h,rF c r,if_neg (by simpa using h),Nat.add_zero]
theorem AN(l:List Nat)(c:Nat):qH (.str (mkS l)) (sgn c)=some (.int (l.count c)):=by
 show some (PV.int (((Md (mkS l) ⟨#[c]⟩ 0 (mkS l).length ((mkS l).length+1)).length:Nat):Int))=_;rw[TX.occ_pos,aV,Mn,rF,cF,Nat.min_eq_right (Nat.le_succ_of_le List.count_le_length)]
noncomputable def bP(ls:List (Str×Str)):List Nat:=ls.flatMap fun l=>l.2.cps.toList
theorem dy(s:Str):s=mkS s.cps.toList:=(TX.mk_list s).symm
theorem nJ:∀ls:List (Str×Str),P5 "" (ls.map (·.2))=mkS (bP ls)
 | []=>by
  show P5 "" []=mkS [];rw[← pk];rfl
 | [a]=>by
  show a.2=mkS (a.2.cps.toList++[]);rw[N1];exact dy _
 | a::b::r=>by
  have ih:=nJ (b::r);have e:P5 "" ((a::b::r).map (·.2))=a.2++""++P5 "" ((b::r).map (·.2)):=rfl;have e2:bP (a::b::r)=a.2.cps.toList++bP (b::r):=rfl;rw[e,ih,e2,dy a.2,pk,cQ,cQ,N1,aV]
def dbl(ls:List (Str×Str))(l:List Nat):Bool:=l.any fun c=>decide (1<(bP ls++l).count c)
noncomputable def uX(h:House)(k:Str)(l:List Nat):Option House:=if h.rooms=[]/\uo h.letters k=true/\dbl h.letters l=false then some { h with letters:=h.letters++[(k,mkS l)] } else none
theorem o5(h:House):trV (aw h)=h.pv:=rfl
theorem DN (h:House) (ρ:PSt):xQ 0 (.inr "letters") (.tree (aw h)::ρ)=.ok (.lst (h.letters.map pv2)):=by
 show (match eE [.inr "first",.inr "letters",.inr "rooms"] [.val (.str h.first),.own (.lst (h.letters.map pv2)),.own (aC h.rooms)] (.inr "letters") with
  | some (.val p)=>R.ok p
  | some (.own p)=>.ok p
  | none=>.no)=_
 simp[eE]
theorem Cw (h:House) (ρ:PSt):vN (.fld 0 (.inr "letters")) (.tree (aw h)::ρ)=some (.leaf (.lst (h.letters.map pv2))):=by
 show (match eE [.inr "first",.inr "letters",.inr "rooms"] [.val (.str h.first),.own (.lst (h.letters.map pv2)),.own (aC h.rooms)] (.inr "letters") with
  | some (.own p)=>some (Tr.leaf p)
  | _=>none)=_
 simp[eE]
theorem CQ (h:House) (ρ:PSt) (ls:List (Str×Str)):hV (.fld 0 (.inr "letters")) (.leaf (.lst (ls.map pv2))) (.tree (aw h)::ρ)=some (.tree (aw { h with letters:=ls })::ρ):=by
 show some (List.set (.tree (aw h)::ρ) 0 (.tree (.node [.inr "first",.inr "letters",.inr "rooms"] (mO [.inr "first",.inr "letters",.inr "rooms"] [.val (.str h.first),.own (.lst (h.letters.map pv2)),.own (aC h.rooms)] (.inr "letters") (.own (.lst (ls.map pv2)))))))=_;simp[mO,aw]
theorem Ir{s:Sel}{f:PSt->R PV}{ρ ρ':PSt}{ps:List PV}{p:PV}(e1:vN s ρ=some (.leaf (.lst ps)))(e2:f ρ=.ok p)(e3:ps.length<16777216)(e4:hV s (.leaf (.lst (ps++[p]))) ρ=some ρ'):Ht s f ρ=.ok .next ρ':=by
 unfold Ht;rw[e1];show (XO.rd ρ (f ρ)).bind _=_;rw[e2];show (if ps.length<16777216 then _ else _)=_;rw[if_pos e3,e4]
theorem ri{α:Type}{f:PSt->R α}{t:Tr}{ρ:PSt}{a:α}(e:f (.val (trV t)::ρ)=.ok a):A5 0 f (.tree t::ρ)=.ok a (.tree t::ρ):=by
 show XO.rd _ (zW (f _))=_;rw[show ((Sl.tree t::ρ).set 0 (.val (trV t)))=.val (trV t)::ρ from rfl,e];rfl
theorem take_letters(h:House)(k:Str)(l:List Nat)(hk:KyS k)(hl:l.length<=100)(hL:h.letters.length<=100000)(hc:∀z∈h.letters,KyS z.1/\z.2.length<=100) :
  cw (aw h) [.lst [.str k,.str (mkS l)]]=some (match uX h k l with
   | some h'=>(.bl true,aw h')
   | none=>(.bl false,aw h)):=by
 have b1:∀a b:PV,atI [a,b] 1=some b:=fun a b=>bR (n:=1) rfl rfl;have r1:gIx h.pv (.str "rooms")=some (aC h.rooms):=by simp[House.pv,vz]
 have r2:gIx h.pv (.str "letters")=some (.lst (h.letters.map pv2)):=by simp[House.pv,vz]
 have r3:kM (aC h.rooms)=some (!h.rooms.isEmpty):=by
  show some (!(h.rooms.map fun r=>(NQ r.1:Key)).isEmpty)=_;cases h.rooms <;> rfl
 have e1:=sM "letters" (.inl rfl) h.letters (.lst (h.letters.map pv2)) (.inl rfl) k (.str (mkS l)) (fun z hz=>(hc z hz).1) hk
 by_cases h1:h.rooms=[]
 ·have r3:kM (aC h.rooms)=some false:=by rw[r3,h1];rfl
  cases h2:uo h.letters k with
  | false=>
   rw[h2] at e1;have:uX h k l=none:=if_neg fun z=>by rw[h2] at z;cases z.2.1
   rw[this];refine bp rfl (ρ:=[.val (.lst [.str k,.str (mkS l)]),.no]) ?_;have:=ri (t:=aw h) (ρ:=[.val (.lst [.str k,.str (mkS l)]),.no]) (f:=orB (bX (au (ah 0) (kS "rooms") gIx)) (lO (bX (bq (ae (kS "letters") (ae (au (ah 0) (kS "letters") gIx) (ae (ah 1) aU))) bj)))) (a:=true) (by rw[o5];simp[r1,r2,r3,e1]);simp[cv,PU.start,this]
  | true=>
   rw[h2] at e1;have c1:=ri (t:=aw h) (ρ:=[.val (.lst [.str k,.str (mkS l)]),.no]) (f:=orB (bX (au (ah 0) (kS "rooms") gIx)) (lO (bX (bq (ae (kS "letters") (ae (au (ah 0) (kS "letters") gIx) (ae (ah 1) aU))) bj)))) (a:=false) (by rw[o5];simp[r1,r2,r3,e1])
   have c2:∀ρ:PSt,dj (ji 2 (bg (aL 0) (bg (aL 1) jj))) lu cX (.no::.no::ρ) (h.letters.map pv2)=.ok (h.letters.map fun l=>.str l.2):=fun ρ=>
    WO.in_list_comp (fun l:Str×Str=>PV.str l.2) h.letters fun x _=>⟨.val (.str x.1)::.val (.str x.2)::ρ,rfl,by simp[cX]⟩
   have c3:=FA.join_le (h.letters.map (·.2)) 100 (fun x hx=>by
    obtain⟨z,hz,rfl⟩:=Mr.mp hx;exact(hc z hz).2) (by rw[MC];omega)
   rw[nJ,Mt] at c3;have c3:mj (.str "") (.lst (h.letters.map fun l=>.str l.2))=some (.str (mkS (bP h.letters))):=c3
   have c4:(mkS (bP h.letters)).length<=10000000:=by
    rw[cF];unfold bP;rw[List.length_flatMap]
    have:∀ls:List (Str×Str),(∀z∈ls,z.2.length<=100)->(ls.map fun l=>l.2.cps.toList.length).sum<=ls.length * 100:=fun ls hz=>by
     induction ls with
     | nil=>simp
     | cons a ls ih=>
      have h1:=ih fun z hm=>hz z (MY _ hm);have h2:a.2.cps.toList.length<=100:=by have:=hz a Mb;simpa [Of] using this
      simp only[MN,SN,MI];omega
    have:=this h.letters fun z hz=>(hc z hz).2;omega
   have c5:bC (.str (mkS (bP h.letters))) (.str (mkS l))=some (.str (mkS (bP h.letters++l))):=by
    rw[aQ (by rw[cF l];omega),cQ]
   have c6:kU (.str (mkS l))=some (l.map sgn):=WO.it_mk l
   have c7:∀ρ:PSt,dj (aL 0) lu cW (.no::.val (.str (mkS (bP h.letters++l)))::ρ) (l.map sgn)=.ok (l.map fun c=>.bl (decide (1<(bP h.letters++l).count c))):=fun ρ=>
    WO.in_list_comp (fun c=>PV.bl (decide (1<(bP h.letters++l).count c))) l fun c _=>⟨.val (sgn c)::.val (.str (mkS (bP h.letters++l)))::ρ,rfl,by
     have:=AN (bP h.letters++l) c;generalize bP h.letters++l=q at *
     have g:gGt (.int (q.count c:Nat)) (.int 1)=some (.bl (decide (1<q.count c))):=by
      show some (PV.bl (decide ((1:Int)<(q.count c:Nat))))=_
      congr 2
      exact decide_eq_decide.mpr ⟨fun z=>by omega,fun z=>by omega⟩
     simp[cW,this,g]⟩
   have c8:=Hu (fun c=>decide (1<(bP h.letters++l).count c)) l;have c9:h.letters.length<=16777216:=by omega
   have ca:l.length<=16777216:=by omega
   have cb:=DN h;have cc:xw (.lst (h.letters.map pv2))=some (h.letters.map pv2):=rfl
   have st1:cU (dF 2 (au (ie (kS "") (gL (itL (xQ 0 (.inr "letters"))) (ji 2 (bg (aL 0) (bg (aL 1) jj))) lu cX 2 []) mj) (au (ah 1) (kI 1) gIx) bC)) (.tree (aw h)::[.val (.lst [.str k,.str (mkS l)]),.no]) =
     .ok .next (.tree (aw h)::[.val (.lst [.str k,.str (mkS l)]),.val (.str (mkS (bP h.letters++l)))]):=by
    have i1:itL (xQ 0 (.inr "letters")) (.tree (aw h)::[.val (.lst [.str k,.str (mkS l)]),.no])=.ok (h.letters.map pv2):=by
     show (xQ 0 (.inr "letters") _ >>= _)=_;rw[cb];rfl
    simp[i1,gO,c2,c3,c5,b1,c9]
   have st2:(un1 (gL (itF (au (ah 1) (kI 1) gIx)) (aL 0) lu cW 1 [2]) GW) (.tree (aw h)::[.val (.lst [.str k,.str (mkS l)]),.val (.str (mkS (bP h.letters++l)))])=.ok (.bl (dbl h.letters l)):=by
    simp[-List.count_append,b1,c6,gO,c7,c8,ca,dbl]
   cases h3:dbl h.letters l with
   | true=>
    rw[h3] at st2;have:uX h k l=none:=if_neg fun z=>by rw[h3] at z;cases z.2.2
    rw[this];refine bp rfl (ρ:=[.val (.lst [.str k,.str (mkS l)]),.val (.str (mkS (bP h.letters++l)))]) ?_;simp only[cv,PU.start,B9];simp[-vo,c1,st1];simp[-vk,st2]
   | false=>
    rw[h3] at st2;have:uX h k l=some { h with letters:=h.letters++[(k,mkS l)] }:=if_pos ⟨h1,h2,h3⟩;rw[this];refine bp rfl (ρ:=[.val (.lst [.str k,.str (mkS l)]),.val (.str (mkS (bP h.letters++l)))]) ?_
    have ap:=Ir (s:=.fld 0 (.inr "letters")) (f:=kL (ae (au (ah 1) (kI 0) gIx) (ae (au (ah 1) (kI 1) gIx) aU))) (ρ:=.tree (aw h)::[.val (.lst [.str k,.str (mkS l)]),.val (.str (mkS (bP h.letters++l)))]) (p:=pv2 (k,mkS l)) (Cw h _) (by simp[b1,pv2]) (by rw[MC];omega)
     (by rw[show h.letters.map pv2++[pv2 (k,mkS l)]=(h.letters++[(k,mkS l)]).map pv2 by simp];exact CQ h _ _)
    simp only[cv,PU.start,B9];simp[-vo,c1,st1];simp[-vk,st2,ap]
 ·have:uX h k l=none:=if_neg fun z=>h1 z.1
  rw[this];have r4:h.rooms.isEmpty=false:=by cases hr:h.rooms with | nil=>exact absurd hr h1 | cons a b=>rfl
  rw[r4] at r3;refine bp rfl (ρ:=[.val (.lst [.str k,.str (mkS l)]),.no]) ?_;have:=ri (t:=aw h) (ρ:=[.val (.lst [.str k,.str (mkS l)]),.no]) (f:=orB (bX (au (ah 0) (kS "rooms") gIx)) (lO (bX (bq (ae (kS "letters") (ae (au (ah 0) (kS "letters") gIx) (ae (ah 1) aU))) bj)))) (a:=true) (by rw[o5];simp[r1,r3]);simp[cv,PU.start,this]
inductive Rw where
 | first (n:Str) | letters (k:Str) (l:List Nat) | room (n:Str) (r:Room) | ben (x:Bn)
noncomputable def qW(n:Str):Room->List PV
 | .menu t _ wr wa=>[.str n,.int wr.1,.str wr.2,.int wa.1,.str wa.2,.str t]
 | .names t _ wr wa=>[.str n,.int wr.1,.str wr.2,.int wa.1,.str wa.2,.str t]
 | .hours _ l=>[.str n,.str l]
 | .hand t=>[.str n,.str t]
 | .fin t=>[.str n,.str t]
def qA:Room->Prop
 | .menu _ ks _ _=>ks=[]
 | .names _ ks _ _=>ks=[]
 | .hours sp _=>sp=[]
 | _=>True
def Rw.kd:Rw->Kd
 | .first _=>.first | .letters ..=>.letters | .room _ r=>Room.kd r | .ben x=>x.kd
def Rw.vals:Rw->List PV
 | .first n=>[.str n] | .letters k l=>[.str k,.str (mkS l)] | .room n r=>qW n r | .ben x=>x.vals
def RwI:Rw->Prop
 | .letters k l=>KyS k/\l.length<=100
 | .room _ r=>qA r
 | .ben x=>BnI x
 | _=>True
def iT(h:House)(x:Bn):Option House:=match h.rooms.getLast? with
 | none=>none
 | some (n,r)=>(pE r x).map fun r'=>{ h with rooms:=h.rooms.dropLast++[(n,r')] }
def bc(h:House):Rw->Option House
 | .first n=>if h.first="" then some { h with first:=n } else none
 | .letters k l=>if h.first="" then none else uX h k l
 | .room n r=>if h.first="" then none else if h.rooms.length=12\/n∈FA.names h.rooms then none else some { h with rooms:=h.rooms++[(n,r)] }
 | .ben x=>if h.first="" then none else iT h x
structure HI(N:Nat)(h:House):Prop where
 nl:h.letters.length<=N
 ls:∀z∈h.letters,KyS z.1/\z.2.length<=100
 nr:h.rooms.length<=12
 rs:∀z∈h.rooms,uY z.2
 nd:(FA.names h.rooms).Nodup
def EJ(h:House):Option House->PV×Tr
 | some h'=>(.bl true,aw h')
 | none=>(.bl false,aw h)
theorem lx{s:Sel}{fs:PSt->R (List PV)}{F:Tr->List PV->Option (PV×Tr)}{ρ ρ':PSt}{t t':Tr}{ps:List PV}{p:PV}(e1:vN s ρ=some t)(e2:fs ρ=.ok ps)(e3:F t ps=some (p,t'))(e4:hV s t' ρ=some ρ'):qR s fs F ρ=.ok p ρ':=by
 unfold qR;rw[e1];show (XO.rd ρ (fs ρ)).bind _=_;rw[e2]
 show (match F t ps with
  | none=>_
  | some (p,t')=>_)=_
 rw[e3]
 show (match hV s t' ρ with
  | some ρ'=>_
  | none=>_)=_
 rw[e4]
theorem pS (h:House) (ρ:PSt):vN (.fld 0 (.inr "rooms")) (.tree (aw h)::ρ)=some (.leaf (aC h.rooms)):=by
 show (match eE [.inr "first",.inr "letters",.inr "rooms"] [.val (.str h.first),.own (.lst (h.letters.map pv2)),.own (aC h.rooms)] (.inr "rooms") with
  | some (.own p)=>some (Tr.leaf p)
  | _=>none)=_
 simp[eE]
theorem qe (h:House) (ρ:PSt) (rs:List (Str×Room)):hV (.fld 0 (.inr "rooms")) (.leaf (aC rs)) (.tree (aw h)::ρ)=some (.tree (aw { h with rooms:=rs })::ρ):=by
 show some (List.set (.tree (aw h)::ρ) 0 (.tree (.node [.inr "first",.inr "letters",.inr "rooms"] (mO [.inr "first",.inr "letters",.inr "rooms"] [.val (.str h.first),.own (.lst (h.letters.map pv2)),.own (aC h.rooms)] (.inr "rooms") (.own (aC rs))))))=_;simp[mO,aw]
theorem xP (h:House) (ρ:PSt):xQ 0 (.inr "first") (.tree (aw h)::ρ)=.ok (.str h.first):=by
 show (match eE [.inr "first",.inr "letters",.inr "rooms"] [.val (.str h.first),.own (.lst (h.letters.map pv2)),.own (aC h.rooms)] (.inr "first") with
  | some (.val p)=>R.ok p
  | some (.own p)=>.ok p
  | none=>.no)=_
 simp[eE]
theorem wc (h:House) (ρ:PSt) (f:PSt->R PV) (n:Str) (e:f (.tree (aw h)::ρ)=.ok (.str n)):xM 0 (.inr "first") f (.tree (aw h)::ρ)=.ok .next (.tree (aw { h with first:=n })::ρ):=by
 have l:eE [.inr "first",.inr "letters",.inr "rooms"] [.val (.str h.first),.own (.lst (h.letters.map pv2)),.own (aC h.rooms)] (.inr "first")=some (.val (.str h.first)):=by simp[eE]
 have nd:([.inr "first",.inr "letters",.inr "rooms"]:List Key).Nodup/\([.inr "first",.inr "letters",.inr "rooms"]:List Key).length<16777216:=⟨by decide +kernel,by decide⟩;unfold xM;simp only[Mv];rw[e];simp only[aw];simp only[l,if_pos nd];show XO.ok Fb.next _=_;simp[mO]
theorem wF (x:List Nat) (hx:x.length<=16777216):∃a b,xI (.str (mkS x)) (.str " ")=some (.tup [.str (mkS (x.takeWhile (· != 32))),a,b]):=by
 have e:=(TX.part_eq 32 (mkS x)).1;rw[aV] at e;refine⟨.str (Txt.partition (mkS x) ⟨#[32]⟩).2.1,.str (Txt.partition (mkS x) ⟨#[32]⟩).2.2,?_⟩;show (if _/\_ then some (PV.tup [.str (Txt.partition (mkS x) (M8 " ")).1,.str (Txt.partition (mkS x) (M8 " ")).2.1,.str (Txt.partition (mkS x) (M8 " ")).2.2]) else none)=_;rw[zi,if_pos ⟨by decide +kernel,by rw[cF];exact hx⟩,e];rfl
theorem sZ(k:Kd):gIn (.str k.s) c_ROOM_KINDS=some (.bl (decide (k=.menu\/k=.names\/k=.hours\/k=.hand\/k=.fin))):=by cases k <;> rfl
theorem fJ (k:Kd):(k.s=M8 "first")=(k=.first):=GF k .first
theorem ki (k:Kd):(k.s=M8 "letters")=(k=.letters):=GF k .letters
theorem Jm(a b:Bool):gNe (.bl a) (.bl b)=some (.bl (a != b)):=by cases a <;> cases b <;> rfl
theorem Ei(n:Str)(r:Room)(h:qA r):ck [.str (Room.kd r).s,.lst (qW n r)]=some r.pv:=by
 cases r with
 | menu t ks wr wa=>cases (show ks=[] from h);exact tU .menu (.inl rfl) n wr.2 wa.2 t wr.1 wa.1
 | names t ks wr wa=>cases (show ks=[] from h);exact tU .names (.inr rfl) n wr.2 wa.2 t wr.1 wa.1
 | hours sp l=>cases (show sp=[] from h);exact uT n l
 | hand t=>exact tW .hand (.inl rfl) n t
 | fin t=>exact tW .fin (.inr rfl) n t
theorem yt(n:Str)(r:Room):atI (qW n r) 0=some (.str n):=by cases r <;> exact bR (n:=0) rfl rfl
theorem CI(r:Room):Room.kd r=.menu\/Room.kd r=.names\/Room.kd r=.hours\/Room.kd r=.hand\/Room.kd r=.fin:=by cases r <;> simp[Room.kd]
theorem yq(h:House)(N:Nat)(hi:HI N h)(x:Bn)(hx:BnI x):∃b rs,bO (.leaf (aC h.rooms)) [.str x.kd.s,.lst x.vals]=some (.bl b,.leaf (aC rs))/\EJ h (iT h x)=(.bl b,aw { h with rooms:=rs }):=by
 rcases lZ h.rooms with e | ⟨ys,⟨n,r⟩,e⟩
 ·refine⟨false,[],?_,?_⟩
  ·rw[e];exact vG x
  ·unfold iT
   rw[e];show (PV.bl false,aw h)=_;rw[← e]
 ·have nd:=hi.nd
  rw[e] at nd;unfold FA.names at nd;rw[Mp,OF] at nd;have hn:n ∉ FA.names ys:=fun z=>nd.2.2 n z n (by simp) rfl;have nr:=hi.nr;rw[e,MW] at nr;have t:=take_beneath ys n r x hn (by omega) (hi.rs (n,r) (by rw[e];simp)) hx;unfold iT;rw[e,t,Od];dsimp only;cases ha:pE r x with
  | none=>
   refine⟨false,ys++[(n,r)],rfl,?_⟩;show (PV.bl false,aw h)=_;rw[← e]
  | some r'=>
   refine⟨true,ys++[(n,r')],rfl,?_⟩;show (PV.bl true,aw { h with rooms:=(ys++[(n,r)]).dropLast++[(n,r')] })=_;rw[Qn]
theorem take_row(h:House)(N:Nat)(hN:N<=100000)(hi:HI N h)(r:Rw)(hr:RwI r)(x:List Nat)(hx:x.length<=16777216)(hk:x.takeWhile (· != 32)=r.kd.c)(hv:rv r.kd x=.lst r.vals) :
  de (aw h) [.str (mkS x)]=some (EJ h (bc h r)):=by
 obtain⟨a,b,e1⟩:=wF x hx;rw[hk,← xp] at e1;have e2:=q9 r.kd x hx;rw[hv] at e2;have e3:=xP h;have b0:∀a b c:PV,atI [a,b,c] 0=some a:=fun a b c=>bR (n:=0) rfl rfl;have em:h.first=M8 "" ↔ decide (h.first=M8 "")=true:=by simp
 have en:DH (.lst r.vals) .non=some (.bl false):=rfl;have ne:=fun a b=>Jm a b;cases r with
 | first n=>
  by_cases h1:h.first=M8 ""
  ·have:bc h (.first n)=some { h with first:=n }:=if_pos h1
   rw[this];refine bp rfl (ρ:=[.val (.str (mkS x)),.val (.str Kd.first.s),.val (.lst [.str n])]) ?_;have p:=wc h [.val (.str (mkS x)),.val (.str Kd.first.s),.val (.lst [.str n])] (au (ah 3) (kI 0) gIx) n (by simp);simp only[Rw.kd,Rw.vals] at *;simp[bU,PU.start,e1,b0,e2,en,e3,fJ,h1,ne,p]
  ·have:bc h (.first n)=none:=if_neg h1
   rw[this];refine bp rfl (ρ:=[.val (.str (mkS x)),.val (.str Kd.first.s),.val (.lst [.str n])]) ?_;simp only[Rw.kd,Rw.vals] at *;simp[bU,PU.start,e1,b0,e2,en,e3,fJ,h1,ne]
 | letters k l=>
  by_cases h1:h.first=M8 ""
  ·have:bc h (.letters k l)=none:=if_pos h1
   rw[this];refine bp rfl (ρ:=[.val (.str (mkS x)),.val (.str Kd.letters.s),.val (.lst [.str k,.str (mkS l)])]) ?_;simp only[Rw.kd,Rw.vals] at *;simp[bU,PU.start,e1,b0,e2,en,e3,fJ,h1,ne]
  ·have:bc h (.letters k l)=uX h k l:=if_neg h1
   rw[this];have t:=take_letters h k l hr.1 hr.2 (by have:=hi.nl;omega) hi.ls;have t:cw (aw h) [.lst [.str k,.str (mkS l)]]=some (EJ h (uX h k l)):=by rw[t];cases uX h k l <;> rfl
   generalize EJ h (uX h k l)=o at *;obtain⟨p,t'⟩:=o;refine bp rfl (ρ:=[.val (.str (mkS x)),.val (.str Kd.letters.s),.val (.lst [.str k,.str (mkS l)])]) ?_;have c:=lx (s:=.whole 0) (fs:=ae (ah 3) aU) (F:=cw) (ρ:=.tree (aw h)::[.val (.str (mkS x)),.val (.str Kd.letters.s),.val (.lst [.str k,.str (mkS l)])]) rfl (by simp) t rfl;simp only[Rw.kd,Rw.vals] at *;simp[bU,PU.start,e1,b0,e2,en,e3,fJ,ki,h1,ne,c]
 | room n r=>
  have kk:=CI r;have k1:Room.kd r≠.first:=by rcases kk with h | h | h | h | h <;> rw[h] <;> decide
  have k2:Room.kd r≠.letters:=by rcases kk with h | h | h | h | h <;> rw[h] <;> decide
  have k3:=sZ (Room.kd r);rw[decide_eq_true kk] at k3
  by_cases h1:h.first=M8 ""
  ·have:bc h (.room n r)=none:=if_pos h1
   rw[this];refine bp rfl (ρ:=[.val (.str (mkS x)),.val (.str (Room.kd r).s),.val (.lst (qW n r))]) ?_;simp only[Rw.kd,Rw.vals] at *;simp[bU,PU.start,e1,b0,e2,en,e3,fJ,h1,ne,k1]
  ·have t:=take_room h.rooms (Room.kd r) n (qW n r) r (yt n r) (Ei n r hr) (by have:=hi.nr;omega)
   obtain⟨b,rs,t1,t2⟩:∃b rs,dN (.leaf (aC h.rooms)) [.str (Room.kd r).s,.lst (qW n r)]=some (.bl b,.leaf (aC rs))/\EJ h (bc h (.room n r))=(.bl b,aw { h with rooms:=rs }):=by
    have s1:bc h (.room n r)=if h.rooms.length=12\/n∈FA.names h.rooms then none else some { h with rooms:=h.rooms++[(n,r)] }:=if_neg h1
    rw[s1,t]
    by_cases h2:h.rooms.length=12\/n∈FA.names h.rooms
    ·rw[if_pos h2,if_pos h2]
     exact⟨false,h.rooms,rfl,rfl⟩
    ·rw[if_neg h2,if_neg h2]
     exact⟨true,_,rfl,rfl⟩
   rw[t2];refine bp rfl (ρ:=[.val (.str (mkS x)),.val (.str (Room.kd r).s),.val (.lst (qW n r))]) ?_;have c:=lx (s:=.fld 0 (.inr "rooms")) (fs:=ae (ah 2) (ae (ah 3) aU)) (F:=dN) (ρ:=.tree (aw h)::[.val (.str (mkS x)),.val (.str (Room.kd r).s),.val (.lst (qW n r))]) (pS h _) (by simp) t1 (qe h _ _);simp only[Rw.kd,Rw.vals] at *;simp[bU,PU.start,e1,b0,e2,en,e3,fJ,ki,h1,ne,k1,k2,k3,c]
 | ben y=>
  have kk:y.kd=.key\/y.kd=.name\/y.kd=.from_:=by cases y <;> simp[Bn.kd]
  have k1:y.kd≠.first:=by rcases kk with h | h | h <;> rw[h] <;> decide
  have k2:y.kd≠.letters:=by rcases kk with h | h | h <;> rw[h] <;> decide
  have k3:=sZ y.kd;rw[decide_eq_false (by rcases kk with h | h | h <;> rw[h] <;> decide)] at k3
  by_cases h1:h.first=M8 ""
  ·have:bc h (.ben y)=none:=if_pos h1
   rw[this];refine bp rfl (ρ:=[.val (.str (mkS x)),.val (.str y.kd.s),.val (.lst y.vals)]) ?_;simp only[Rw.kd,Rw.vals] at *;simp[bU,PU.start,e1,b0,e2,en,e3,fJ,h1,ne,k1]
  ·have:bc h (.ben y)=iT h y:=if_neg h1
   rw[this];obtain⟨b,rs,t1,t2⟩:=yq h N hi y hr;rw[t2];refine bp rfl (ρ:=[.val (.str (mkS x)),.val (.str y.kd.s),.val (.lst y.vals)]) ?_;have c:=lx (s:=.fld 0 (.inr "rooms")) (fs:=ae (ah 2) (ae (ah 3) aU)) (F:=bO) (ρ:=.tree (aw h)::[.val (.str (mkS x)),.val (.str y.kd.s),.val (.lst y.vals)]) (pS h _) (by simp) t1 (qe h _ _);simp only[Rw.kd,Rw.vals] at *;simp[bU,PU.start,e1,b0,e2,en,e3,fJ,ki,h1,ne,k1,k2,k3,c]
theorem Hw{r r':Room}{x:Bn}(hr:uY r)(hx:BnI x)(h:pE r x=some r')(hz:(aW r).length<=12):uY r'/\(aW r').length<=12:=by
 cases r with
 | hand t=>cases x <;> cases h
 | fin t=>cases x <;> cases h
 | menu t ks a b=>
  cases x with
  | name w g=>cases h
  | span c d g=>cases h
  | key k g=>
   have h:(if ks.length≠12/\uo ks k=true then some (Room.menu t (ks++[(k,g)]) a b) else none)=some r':=h
   split  at h
   ·rename_i hc
    cases h;have hz:ks.length<=12:=by simpa [aW] using hz
    have h1:=hc.1;refine⟨⟨by simp;omega,fun z hm=>?_⟩,by simp[aW];omega⟩;rcases N4.mp hm with hm | hm
    ·exact hr.2 z hm
    ·have:z=(k,g):=by simpa using hm
     subst this;exact hx
   ·cases h
 | names t ks a b=>
  cases x with
  | key w g=>cases h
  | span c d g=>cases h
  | name k g=>
   have h:(if ks.length≠12/\zv ks k=true then some (Room.names t (ks++[(k,g)]) a b) else none)=some r':=h
   split  at h
   ·rename_i hc
    cases h;have hz:ks.length<=12:=by simpa [aW] using hz
    have h1:=hc.1;exact⟨by show (ks++[(k,g)]).length<=1000000;simp;omega,by simp[aW];omega⟩
   ·cases h
 | hours sp l=>
  cases x with
  | key w g=>cases h
  | name c g=>cases h
  | span c d g=>
   have h:(if sp.length≠12/\c<d then some (Room.hours (sp++[(c,d,g)]) l) else none)=some r':=h
   split  at h
   ·rename_i hc
    cases h;have hz:sp.length<=12:=by simpa [aW] using hz
    have h1:=hc.1;exact⟨by show (sp++[(c,d,g)]).length<=1000000;simp;omega,by simp[aW];omega⟩
   ·cases h
structure HJ(N:Nat)(h:House):Prop extends HI N h where
 hz:∀z∈h.rooms,(aW z.2).length<=12
theorem Ho(r:Room)(h:qA r):uY r/\(aW r).length<=12:=by
 cases r with
 | menu t ks a b=>cases (show ks=[] from h);exact⟨⟨by simp,by simp⟩,by simp[aW]⟩
 | names t ks a b=>cases (show ks=[] from h);exact⟨by show ([]:List (Str×Str)).length<=_;simp,by simp[aW]⟩
 | hours sp l=>cases (show sp=[] from h);exact⟨by show ([]:List (Int×Int×Str)).length<=_;simp,by simp[aW]⟩
 | hand t=>exact⟨trivial,by simp[aW]⟩
 | fin t=>exact⟨trivial,by simp[aW]⟩
theorem FK{N:Nat}{h h':House}{r:Rw}(hi:HJ N h)(hr:RwI r)(e:bc h r=some h'):HJ (N+1) h':=by
 have nl:=hi.nl;cases r with
 | first n=>
  simp only[bc] at e;split at e
  ·cases e
   exact⟨⟨by show h.letters.length<=_;omega,hi.ls,hi.nr,hi.rs,hi.nd⟩,hi.hz⟩
  ·cases e
 | letters k l=>
  simp only[bc] at e;split at e
  ·cases e
  ·simp only[uX] at e
   split at e
   ·cases e
    refine⟨⟨by simp;omega,fun z hm=>?_,hi.nr,hi.rs,hi.nd⟩,hi.hz⟩;rcases N4.mp hm with hm | hm
    ·exact hi.ls z hm
    ·have:z=(k,mkS l):=by simpa using hm
     subst this;exact⟨hr.1,by rw[cF];exact hr.2⟩
   ·cases e
 | room n r=>
  simp only[bc] at e;split at e
  ·cases e
  ·split at e
   ·cases e
   ·rename_i hc
    cases e;have hb:=Ho r hr;have hn:n ∉ FA.names h.rooms:=fun z=>hc (.inr z);have hl:h.rooms.length≠12:=fun z=>hc (.inl z);have nr:=hi.nr;refine⟨⟨by show h.letters.length<=_;omega,hi.ls,by simp;omega,fun z hm=>?_,?_⟩,fun z hm=>?_⟩
    ·rcases N4.mp hm with hm | hm
     ·exact hi.rs z hm
     ·have:z=(n,r):=by simpa using hm
      subst this;exact hb.1
    ·have nd:=hi.nd
     unfold FA.names at nd hn ⊢;rw[Mp,OF];refine⟨nd,by simp,fun a ha b hb'=>?_⟩;have:b=n:=by simpa using hb'
     subst this;exact fun z=>hn (z▸ha)
    ·rcases N4.mp hm with hm | hm
     ·exact hi.hz z hm
     ·have:z=(n,r):=by simpa using hm
      subst this;exact hb.2
 | ben x=>
  simp only[bc] at e;split at e
  ·cases e
  ·unfold iT at e
   rcases lZ h.rooms with e2 | ⟨ys,⟨n,r⟩,e2⟩
   ·rw[e2] at e;cases e
   ·rw[e2,Od] at e
    have e:(pE r x).map (fun r'=>{ h with rooms:=(ys++[(n,r)]).dropLast++[(n,r')] })=some h':=e;cases ha:pE r x with
    | none=>rw[ha] at e;cases e
    | some r'=>
     rw[ha,Qn] at e;cases e;have hm:(n,r)∈h.rooms:=by rw[e2];simp
     obtain⟨i1,i2⟩:=Hw (hi.rs _ hm) hr ha (hi.hz _ hm);have nr:=hi.nr;rw[e2,MW] at nr;refine⟨⟨by show h.letters.length<=_;omega,hi.ls,by simpa using nr,fun z hm=>?_,?_⟩,fun z hm=>?_⟩
     ·rcases N4.mp hm with hm | hm
      ·exact hi.rs z (by rw[e2];exact Oc _ hm)
      ·have:z=(n,r'):=by simpa using hm
       subst this;exact i1
     ·have nd:=hi.nd
      rw[e2] at nd;unfold FA.names at nd ⊢;simpa using nd
     ·rcases N4.mp hm with hm | hm
      ·exact hi.hz z (by rw[e2];exact Oc _ hm)
      ·have:z=(n,r'):=by simpa using hm
       subst this;exact i2
structure RTx(r:Rw)(x:List Nat):Prop where
 ok:RwI r
 sz:x.length<=16777216
 kd:x.takeWhile (· != 32)=r.kd.c
 vs:rv r.kd x=.lst r.vals
def dh:House->List Rw->Option House
 | h,[]=>some h
 | h,r::rs=>(bc h r).bind fun h'=>dh h' rs
noncomputable def cK(k:Nat):List (List Nat)->List PV
 | []=>[]
 | x::xs=>.tup [.int ((k+1:Nat):Int),.str (mkS x)]::cK (k+1) xs
theorem wN(xs:List (List Nat)):(qj (xs.map fun x=>.str (mkS x))).map PV.tup=cK 0 xs:=by
 have:∀(xs:List (List Nat))(k:Nat),((T6 k xs.length).zipWith (fun (i:Nat) p=>[PV.int ((i+1:Nat):Int),p]) (xs.map fun x=>.str (mkS x))).map PV.tup=cK k xs:=by
  intro xs
  induction xs with
  | nil=>intro k;rfl
  | cons x xs ih=>
   intro k;rw[MI,PP,MN,QM,MN,ih];rfl
 unfold qj;rw[MC,List.range_eq_range'];exact this xs 0
def stw(p x:List Nat):Bool:=decide (x.take p.length=p)
theorem pM(p x:List Nat):km (.str (mkS x)) (.str (mkS p))=some (.bl (stw p x)):=by
 show some (PV.bl (decide (0+(mkS p).length<=(mkS x).length) && Builtin.Str.subAt (mkS x) (mkS p) 0))=_;rw[StrLaws.subAt_eq,aV,aV,cF,cF,List.drop_zero,QS];unfold stw
 by_cases h:x.take p.length=p
 ·have:p.length<=x.length:=by
   have:=congrArg Np h;rw[Mn] at this;omega
  rw[decide_eq_true h,decide_eq_true this,h];simp
 ·rw[decide_eq_false h]
  have:(x.take p.length == p)=false:=by simpa using h
  rw[this,OJ]
def gm:List Nat:=[110,97,109,101,115,32]
def jV:List Nat:=[110,97,109,101,32]
theorem oE:M8 "names "=mkS gm:=by decide +kernel
theorem wV:M8 "name "=mkS jV:=by decide +kernel
noncomputable def cj:List (List Nat)->List Nat
 | []=>[]
 | [x]=>x
 | x::y::r=>x++10::cj (y::r)
theorem nK(t:List Nat):∀ws:List (List Nat),cj (ws++[t])=TX.glue 10 ws t
 | []=>rfl
 | [w]=>rfl
 | w::v::ws=>by
  have ih:=nK t (v::ws);show w++10::cj (v::ws++[t])=w++10::TX.glue 10 (v::ws) t;rw[ih]
theorem Gr:M8 "\n"=(⟨#[10]⟩:Str):=by decide +kernel
theorem xt:∀xs:List (List Nat),P5 "\n" (xs.map mkS)=mkS (cj xs)
 | []=>rfl
 | [x]=>rfl
 | x::y::r=>by
  have ih:=xt (y::r);have e:P5 "\n" ((x::y::r).map mkS)=mkS x++"\n"++P5 "\n" ((y::r).map mkS):=rfl;rw[e,ih,Gr,show (⟨#[10]⟩:Str)=mkS [10] from rfl,cQ,cQ];show mkS _=mkS (x++10::cj (y::r));rw[Q4];rfl
theorem zg(xs:List (List Nat))(hne:xs≠[])(hf:∀x∈xs,10 ∉ x)(k:Nat)(hk:xs.length<=k+1):TX.spl 10 k (cj xs)=xs:=by
 rcases lZ xs with rfl | ⟨ws,t,rfl⟩
 ·exact absurd rfl hne
 ·rw[nK]
  exact TX.spl_more (hf t (by simp)) ws k (by simpa using hk) fun w hw=>hf w (by simp[hw])
theorem qy:∀xs:List (List Nat),xs.length<=(cj xs).length+1
 | []=>by simp
 | [x]=>by simp
 | x::y::r=>by
  have:=qy (y::r);show _<=(x++10::cj (y::r)).length+1;simp only[MI,MW] at this ⊢;omega
theorem zf (xs:List (List Nat)) (hne:xs≠[]) (hf:∀x∈xs,10 ∉ x) (hs:(cj xs).length<=16000000):jL (.str (mkS (cj xs))) (.str "\n")=some (.lst (xs.map fun x=>.str (mkS x))):=by
 have e:=TX.split_eq (c:=10) (by decide) (mkS (cj xs));have hl:=qy xs;rw[aV,cF,zg xs hne hf _ (by omega)] at e;show (if _/\_/\(Txt.split (mkS (cj xs)) (M8 "\n")).length<=16777216 then some (PV.lst ((Txt.split (mkS (cj xs)) (M8 "\n")).map .str)) else none)=_;rw[Gr,e,if_pos ⟨by decide +kernel,by rw[cF];omega,by rw[MC];omega⟩,Mt];rfl
def bQ:House:=⟨"",[],[]⟩
abbrev cd(s:Str):List Nat:=s.cps.toList
def dg(i:Int):List Nat:=cd (num i)
def wD:Bn->List (List Nat)×List Nat
 | .key k t=>([cd k],cd t)
 | .name w t=>([cd w],cd t)
 | .span a b t=>([dg a,dg b],cd t)
def Ga(n:Str):Room->List (List Nat)×List Nat
 | .menu t _ wr wa=>([cd n,dg wr.1,cd wr.2,dg wa.1,cd wa.2],cd t)
 | .names t _ wr wa=>([cd n,dg wr.1,cd wr.2,dg wa.1,cd wa.2],cd t)
 | .hours _ l=>([cd n],cd l)
 | .hand t=>([cd n],cd t)
 | .fin t=>([cd n],cd t)
def Rw.parts:Rw->List (List Nat)×List Nat
 | .first n=>([],cd n)
 | .letters k l=>([cd k],l)
 | .room n r=>Ga n r
 | .ben x=>wD x
def bZ(r:Rw):List Nat:=TX.glue 32 (r.kd.c::r.parts.1) r.parts.2
theorem CF(k:Kd)(ws:List (List Nat))(t:List Nat)(hl:ws.length+1=k.fs.length)(hf:∀w∈ws,32 ∉ w)(vs:List PV)(hv:fvs k.fs (ws++[t])=vs)(hn:vs.any kj=false):rv k (TX.glue 32 (k.c::ws) t)=.lst vs:=by
 have e:TX.spl 32 k.fs.length (TX.glue 32 (k.c::ws) t)=k.c::ws++[t]:=by
  rw[← hl,show ws.length+1=(k.c::ws).length from rfl]
  exact TX.spl_glue t (k.c::ws) fun w hw=>by
   rcases MH.mp hw with rfl | hw
   ·exact xr k
   ·exact hf w hw
 unfold rv;rw[e];show (if (ws++[t]).length<k.fs.length then _ else _)=_;rw[if_neg (by rw[MW,QZ,hl];omega)];show (if (fvs k.fs (ws++[t])).any kj=true then _ else PV.lst (fvs k.fs (ws++[t])))=_;rw[hv,hn];rfl
theorem xq(k:Kd)(ws:List (List Nat))(t:List Nat):(TX.glue 32 (k.c::ws) t).takeWhile (· != 32)=k.c:=(TX.drop_free (xr k) _).2
theorem lj{m:Nat}{x:List Nat}{c:Nat}(h:dJ m x=true)(hc:c<97):c ∉ x:=fun z=>by
 unfold dJ at h;simp only[Mk] at h;have:=NY.mp h.2 c z;simp at this;omega
theorem oJ{m:Nat}{x:List Nat}(h:dJ m x=true):x.length<=m:=by
 unfold dJ at h;simp only[Mk,decide_eq_true_eq] at h;exact h.1.2
theorem sX{x:List Nat}(h:gN x=true):dJ 8 x=true:=by
 unfold gN at h;simp only[Mk] at h;exact h.1
theorem BF{x:List Nat}(h:ma x=true):∃c∈gK,x=[c]:=by
 match x,h with
 | [c],h=>exact⟨c,of_decide_eq_true h,rfl⟩
theorem A9:∀c∈gK,c≠32/\c≠10:=by decide
theorem CZ{x:List Nat}(h:m4 x=true):10 ∉ x:=fun z=>by
 unfold m4 at h;simp only[Mk] at h;have:=NY.mp h.2 10 z;simp[EZ] at this
theorem G2{x:List Nat}(h:m4 x=true):x.length<=80:=by
 unfold m4 at h;simp only[Mk,decide_eq_true_eq] at h;exact h.1.2
open PySem.NumText in
theorem Hi:∀n:Nat,n<25->s9 (dg (n:Int))=true/\(dg (n:Int)).length<=2/\digitsVal (dg (n:Int))=n/\(n<10->(dg (n:Int)).length<=1)/\32 ∉ dg (n:Int)/\10 ∉ dg (n:Int):=by decide +kernel
open PySem.NumText in
theorem ir{i:Int}(h0:0<=i)(h1:i<=24):s9 (dg i)=true/\(dg i).length<=2/\digitsVal (dg i)=i.toNat/\(i<10->(dg i).length<=1)/\32 ∉ dg i/\10 ∉ dg i:=by
 obtain⟨n,rfl⟩:=Int.eq_ofNat_of_zero_le h0;obtain⟨a,b,c,d,e⟩:=Hi n (by omega);exact⟨a,b,c,fun h=>d (by omega),e⟩
theorem Dd{i:Int}{lo hi L:Nat}(h0:0<=i)(h1:i<=24)(ha:(lo:Int)<=i)(hb:i<=(hi:Int))(hL:(dg i).length<=L):nw lo hi L (dg i)=.int i:=by
 obtain⟨a,b,c,d,e⟩:=ir h0 h1;unfold nw;rw[if_pos ⟨a,hL⟩,c,if_pos ⟨by omega,by omega⟩]
 congr 1
 omega
def C3(p:Int×Str):Prop:=1<=p.1/\p.1<=9/\gN (cd p.2)=true
def GBn:Bn->Prop
 | .key k t=>ma (cd k)=true/\(gN (cd t)=true\/cd t=[98,97,99,107])
 | .name w t=>dJ 12 (cd w)=true/\gN (cd t)=true
 | .span a b t=>0<=a/\a<=23/\1<=b/\b<=24/\gN (cd t)=true
def B6:Room->Prop
 | .menu t _ wr wa=>m4 (cd t)=true/\C3 wr/\C3 wa
 | .names t _ wr wa=>m4 (cd t)=true/\C3 wr/\C3 wa
 | .hours _ l=>gN (cd l)=true
 | .hand t=>m4 (cd t)=true
 | .fin t=>m4 (cd t)=true
def GRw:Rw->Prop
 | .first n=>gN (cd n)=true
 | .letters k l=>ma (cd k)=true/\cd k≠[35]/\dJ 26 l=true
 | .room n r=>gN (cd n)=true/\B6 r/\qA r
 | .ben x=>GBn x
theorem mT{x:List Nat}(h:gN x=true):fv .name x=.str (mkS x):=by show okB (gN x) x=_;rw[h];rfl
theorem DK{x:List Nat}(h:m4 x=true):fv .text x=.str (mkS x):=by show okB (m4 x) x=_;rw[h];rfl
theorem JF{x:List Nat}(h:dJ 12 x=true):fv .word x=.str (mkS x):=by show okB (dJ 12 x) x=_;rw[h];rfl
theorem JK{x:List Nat}(h:ma x=true):fv .key x=.str (mkS x):=by show okB (ma x) x=_;rw[h];rfl
theorem JJ{x:List Nat}(h:ma x=true)(h2:x≠[35]):fv .lkey x=.str (mkS x):=by show okB (ma x && !decide (x=[35])) x=_;rw[h,decide_eq_false h2];rfl
theorem JI{x:List Nat}(h:dJ 26 x=true):fv .letters x=.str (mkS x):=by show okB (dJ 26 x) x=_;rw[h];rfl
theorem JG{x:List Nat}(h:gN x=true\/x=[98,97,99,107]):fv .target x=.str (mkS x):=by
 show okB (gN x || decide (x=[98,97,99,107])) x=_;rcases h with h | h
 ·rw[h];rfl
 ·rw[decide_eq_true h,Bool.or_true];rfl
theorem gb(s:Str):mkS (cd s)=s:=TX.mk_list s
theorem xJ{i:Int}(h0:1<=i)(h1:i<=9):fv .many (dg i)=.int i:=Dd (by omega) (by omega) (by omega) (by omega) ((ir (by omega) (by omega)).2.2.2.1 (by omega))
theorem DM{i:Int}(h0:0<=i)(h1:i<=23):fv .from_ (dg i)=.int i:=Dd (by omega) (by omega) (by omega) (by omega) (ir (by omega) (by omega)).2.1
theorem DL{i:Int}(h0:1<=i)(h1:i<=24):fv .till (dg i)=.int i:=Dd (by omega) (by omega) (by omega) (by omega) (ir (by omega) (by omega)).2.1
structure PartsOk(r:Rw):Prop where
 len:r.parts.1.length+1=r.kd.fs.length
 free:∀w∈r.parts.1,32 ∉ w/\10 ∉ w/\w.length<=100
 last:10 ∉ r.parts.2/\r.parts.2.length<=100
 vals:fvs r.kd.fs (r.parts.1++[r.parts.2])=r.vals
theorem lP{x:List Nat}(h:gN x=true):32 ∉ x/\10 ∉ x/\x.length<=100:=⟨lj (sX h) (by decide),lj (sX h) (by decide),Mm (oJ (sX h)) (by decide)⟩
theorem Fi{m:Nat}{x:List Nat}(h:dJ m x=true)(hm:m<=100):32 ∉ x/\10 ∉ x/\x.length<=100:=⟨lj h (by decide),lj h (by decide),Mm (oJ h) hm⟩
theorem GA{x:List Nat}(h:ma x=true):32 ∉ x/\10 ∉ x/\x.length<=100:=by
 obtain⟨c,hc,rfl⟩:=BF h;have:=A9 c hc;exact⟨by simpa using fun z=>this.1 z.symm,by simpa using fun z=>this.2 z.symm,by simp⟩
theorem AK{i:Int}(h0:0<=i)(h1:i<=24):32 ∉ dg i/\10 ∉ dg i/\(dg i).length<=100:=⟨(ir h0 h1).2.2.2.2.1,(ir h0 h1).2.2.2.2.2,Mm (ir h0 h1).2.1 (by decide)⟩
theorem IA{x:List Nat}(h:gN x=true\/x=[98,97,99,107]):32 ∉ x/\10 ∉ x/\x.length<=100:=by
 rcases h with h | h
 ·exact lP h
 ·subst h;exact⟨by decide,by decide,by decide⟩
theorem zF{x:List Nat}(h:m4 x=true):10 ∉ x/\x.length<=100:=⟨CZ h,Mm (G2 h) (by decide)⟩
theorem all1{P:List Nat->Prop}{a:List Nat}(h:P a):∀w∈[a],P w:=fun w hw=>by rw[NT.mp hw];exact h
theorem zQ(r:Rw)(g:GRw r):PartsOk r:=by
 cases r with
 | first n=>exact⟨rfl,fun w hw=>(by cases hw),(lP g).2,by show [fv .name (cd n)]=[PV.str n];rw[mT g,gb]⟩
 | letters k l=>
  exact⟨rfl,all1 (GA g.1),(Fi g.2.2 (by decide)).2,by show [fv .lkey (cd k),fv .letters l]=[PV.str k,PV.str (mkS l)];rw[JJ g.1 g.2.1,JI g.2.2,gb]⟩
 | ben x=>
  cases x with
  | key k t=>exact⟨rfl,all1 (GA g.1),(IA g.2).2,by show [fv .key (cd k),fv .target (cd t)]=[PV.str k,PV.str t];rw[JK g.1,JG g.2,gb,gb]⟩
  | name w t=>exact⟨rfl,all1 (Fi g.1 (by decide)),(lP g.2).2,by show [fv .word (cd w),fv .name (cd t)]=[PV.str w,PV.str t];rw[JF g.1,mT g.2,gb,gb]⟩
  | span a b t=>
   obtain⟨a0,a1,b0,b1,ht⟩:=g;refine⟨rfl,fun w hw=>?_,(lP ht).2,by show [fv .from_ (dg a),fv .till (dg b),fv .name (cd t)]=[PV.int a,PV.int b,PV.str t];rw[DM a0 a1,DL b0 b1,mT ht,gb]⟩;have hw:w=dg a\/w=dg b:=by simpa [Rw.parts,wD] using hw
   rcases hw with rfl | rfl
   ·exact AK (by omega) (by omega)
   ·exact AK (by omega) (by omega)
 | room n r=>
  obtain⟨hn,hr,hb⟩:=g
  have lim:∀(t:Str)(wr wa:Int×Str),m4 (cd t)=true->C3 wr->C3 wa->(∀w∈[cd n,dg wr.1,cd wr.2,dg wa.1,cd wa.2],32 ∉ w/\10 ∉ w/\w.length<=100)/\[fv .name (cd n),fv .many (dg wr.1),fv .name (cd wr.2),fv .many (dg wa.1),fv .name (cd wa.2),fv .text (cd t)]=[PV.str n,.int wr.1,.str wr.2,.int wa.1,.str wa.2,.str t]:=fun t wr wa ht h1 h2=>by
   refine⟨fun w hw=>?_,?_⟩
   ·have hw:w=cd n\/w=dg wr.1\/w=cd wr.2\/w=dg wa.1\/w=cd wa.2:=by simpa using hw
    have l1:=h1.1;have l2:=h1.2.1;have l3:=h2.1;have l4:=h2.2.1;rcases hw with rfl | rfl | rfl | rfl | rfl
    ·exact lP hn
    ·exact AK (by omega) (by omega)
    ·exact lP h1.2.2
    ·exact AK (by omega) (by omega)
    ·exact lP h2.2.2
   ·rw[mT hn,xJ h1.1 h1.2.1,mT h1.2.2,xJ h2.1 h2.2.1,mT h2.2.2,DK ht,gb,gb,gb,gb]
  cases r with
  | menu t ks wr wa=>exact⟨rfl,(lim t wr wa hr.1 hr.2.1 hr.2.2).1,zF hr.1,(lim t wr wa hr.1 hr.2.1 hr.2.2).2⟩
  | names t ks wr wa=>exact⟨rfl,(lim t wr wa hr.1 hr.2.1 hr.2.2).1,zF hr.1,(lim t wr wa hr.1 hr.2.1 hr.2.2).2⟩
  | hours sp l=>exact⟨rfl,all1 (lP hn),(lP hr).2,by show [fv .name (cd n),fv .name (cd l)]=[PV.str n,PV.str l];rw[mT hn,mT hr,gb,gb]⟩
  | hand t=>exact⟨rfl,all1 (lP hn),zF hr,by show [fv .name (cd n),fv .text (cd t)]=[PV.str n,PV.str t];rw[mT hn,DK hr,gb,gb]⟩
  | fin t=>exact⟨rfl,all1 (lP hn),zF hr,by show [fv .name (cd n),fv .text (cd t)]=[PV.str n,PV.str t];rw[mT hn,DK hr,gb,gb]⟩
theorem tq(c:Nat)(t:List Nat)(ht:t.length<=100):∀ws:List (List Nat),(∀w∈ws,w.length<=100)->(TX.glue c ws t).length<=ws.length * 101+100
 | [],_=>by simpa [TX.glue] using ht
 | w::ws,h=>by
  have ih:=tq c t ht ws fun w hw=>h w (MY _ hw);have hw:=h w Mb;simp only[TX.glue,MW,MI];omega
theorem qF{c d:Nat}(hcd:d≠c)(t:List Nat)(ht:d ∉ t):∀ws:List (List Nat),(∀w∈ws,d ∉ w)->d ∉ TX.glue c ws t
 | [],_=>ht
 | w::ws,h=>by
  have ih:=qF hcd t ht ws fun w hw=>h w (MY _ hw);have hw:=h w Mb;simp only[TX.glue,N4,MH,not_or];exact⟨hw,hcd,ih⟩
theorem BJ(k:Kd):10 ∉ k.c/\k.c.length<=100:=by cases k <;> decide
theorem yZ(r:Rw):r.vals.any kj=false:=by
 cases r with
 | first n=>rfl
 | letters k l=>rfl
 | room n r=>cases r <;> rfl
 | ben x=>cases x <;> rfl
theorem Kr{s:Str}(h:ma (cd s)=true):KyS s:=by
 obtain⟨c,hc,e⟩:=BF h;exact⟨c,hc,by rw[← e,gb]⟩
theorem Bk(r:Rw)(g:GRw r):RTx r (bZ r)/\10 ∉ bZ r/\(bZ r).length<=1000:=by
 have p:=zQ r g;have l6:r.kd.fs.length<=6:=by cases r.kd <;> decide
 have hl:(bZ r).length<=1000:=by
  have:=tq 32 r.parts.2 p.last.2 (r.kd.c::r.parts.1) fun w hw=>by
   rcases MH.mp hw with rfl | hw
   ·exact(BJ _).2
   ·exact(p.free w hw).2.2
  have q:=p.len;rw[MI] at this;unfold bZ;omega
 refine⟨⟨?_,by omega,xq _ _ _,CF _ _ _ p.len (fun w hw=>(p.free w hw).1) _ p.vals (yZ r)⟩,qF (by decide) _ p.last.1 _ fun w hw=>?_,hl⟩
 ·cases r with
  | first n=>trivial
  | letters k l=>exact⟨Kr g.1,Mm (oJ g.2.2) (by decide)⟩
  | room n r=>exact g.2.2
  | ben x=>
   cases x with
   | key k t=>exact Kr g.1
   | name w t=>trivial
   | span a b t=>trivial
 ·rcases MH.mp hw with rfl | hw
  ·exact(BJ _).1
  ·exact(p.free w hw).2.1
noncomputable def cq:Room->Room
 | .menu t _ a b=>.menu t [] a b | .names t _ a b=>.names t [] a b | .hours _ l=>.hours [] l | .hand t=>.hand t | .fin t=>.fin t
def bL:Room->List Bn
 | .menu _ ks _ _=>ks.map fun k=>.key k.1 k.2 | .names _ ks _ _=>ks.map fun k=>.name k.1 k.2 | .hours sp _=>sp.map fun s=>.span s.1 s.2.1 s.2.2 | _=>[]
def oW:Room->List Bn->Option Room
 | r,[]=>some r
 | r,x::xs=>(pE r x).bind fun r'=>oW r' xs
def aO(r:Str×Room):List Rw:=.room r.1 (cq r.2)::(bL r.2).map .ben
def bx(h:House):List Rw:=.first h.first::((h.letters.map fun l=>.letters l.1 (cd l.2))++h.rooms.flatMap aO)
def qu:List (Str×Str)->List (Str×Str)->Bool
 | _,[]=>true
 | p,z::s=>uo p z.1 && !dbl p (cd z.2) && qu (p++[z]) s
structure GoodRoom(r:Room):Prop where
 g:B6 r
 bs:∀x∈bL r,GBn x
 fb:oW (cq r) (bL r)=some r
 nw:∀t ks a b,r=.names t ks a b->ks≠[]
 nb:(bL r).length<=12
structure GoodH(h:House):Prop where
 fst:gN (cd h.first)=true
 ls:∀l∈h.letters,GRw (.letters l.1 (cd l.2))
 lo:qu [] h.letters=true
 ln:h.letters.length<=100
 rn:h.rooms.length<=12
 re:h.rooms≠[]
 nd:(FA.names h.rooms).Nodup
 rs:∀r∈h.rooms,gN (cd r.1)=true/\GoodRoom r.2
theorem ij(a b:List Rw):∀h:House,dh h (a++b)=(dh h a).bind fun h'=>dh h' b:=by
 induction a with
 | nil=>intro h;rfl
 | cons r a ih=>
  intro h;show ((bc h r).bind fun h'=>dh h' (a++b))=((bc h r).bind fun h'=>dh h' a).bind _;cases bc h r with
  | none=>rfl
  | some h'=>exact ih h'
theorem oV (f:Str) (hf:f≠M8 ""):∀(s p:List (Str×Str)),qu p s=true->dh ⟨f,p,[]⟩ (s.map fun l=>.letters l.1 (cd l.2))=some ⟨f,p++s,[]⟩
 | [],p,_=>by rw[N1];rfl
 | z::s,p,h=>by
  simp only[qu,Mk,Q5] at h;have ih:=oV f hf s (p++[z]) h.2
  have e:bc ⟨f,p,[]⟩ (.letters z.1 (cd z.2))=some ⟨f,p++[z],[]⟩:=by
   simp only[bc,uX];rw[if_neg hf,if_pos ⟨trivial,h.1.1,h.1.2⟩];simp only[gb]
  show ((bc ⟨f,p,[]⟩ (.letters z.1 (cd z.2))).bind _)=_;rw[e];show dh ⟨f,p++[z],[]⟩ _=_;rw[ih,Q4];rfl
theorem tD (f:Str) (hf:f≠M8 "") (ls:List (Str×Str)) (ys:List (Str×Room)) (n:Str):∀(bs:List Bn) (r r':Room),oW r bs=some r'->dh ⟨f,ls,ys++[(n,r)]⟩ (bs.map .ben)=some ⟨f,ls,ys++[(n,r')]⟩
 | [],r,r',h=>by cases h;rfl
 | x::bs,r,r',h=>by
  unfold oW at h;cases ha:pE r x with
  | none=>rw[ha] at h;cases h
  | some r1=>
   rw[ha] at h;have ih:=tD f hf ls ys n bs r1 r' h
   have e:bc ⟨f,ls,ys++[(n,r)]⟩ (.ben x)=some ⟨f,ls,ys++[(n,r1)]⟩:=by
    simp only[bc,iT];rw[if_neg hf,Od];simp only[ha];show some (House.mk f ls ((ys++[(n,r)]).dropLast++[(n,r1)]))=_;rw[Qn]
   show ((bc ⟨f,ls,ys++[(n,r)]⟩ (.ben x)).bind _)=_;rw[e];exact ih
theorem iE (f:Str) (hf:f≠M8 "") (ls:List (Str×Str)):∀(rs ys:List (Str×Room)),(ys++rs).length<=12->(FA.names (ys++rs)).Nodup->(∀r∈rs,GoodRoom r.2)->dh ⟨f,ls,ys⟩ (rs.flatMap aO)=some ⟨f,ls,ys++rs⟩
 | [],ys,_,_,_=>by rw[N1];rfl
 | (n,r)::rs,ys,hl,nd,hg=>by
  have g:=hg (n,r) Mb
  have hn:n ∉ FA.names ys:=fun z=>by
   unfold FA.names at nd z;rw[Mp,OF] at nd;exact nd.2.2 n z n (by simp) rfl
  have hl2:ys.length≠12:=by
   rw[MW,MI] at hl;omega
  have e:bc ⟨f,ls,ys⟩ (.room n (cq r))=some ⟨f,ls,ys++[(n,cq r)]⟩:=by
   simp only[bc];rw[if_neg hf,if_neg fun z=>z.elim hl2 hn]
  have e2:=tD f hf ls ys n (bL r) (cq r) r g.fb;have ih:=iE f hf ls rs (ys++[(n,r)]) (by simpa using hl) (by simpa using nd) fun r hr=>hg r (MY _ hr);rw[Nw,ij]
  have e3:dh ⟨f,ls,ys⟩ (aO (n,r))=some ⟨f,ls,ys++[(n,r)]⟩:=by
   show ((bc ⟨f,ls,ys⟩ (.room n (cq r))).bind fun h'=>dh h' ((bL r).map .ben))=_;rw[e];exact e2
  rw[e3];show dh ⟨f,ls,ys++[(n,r)]⟩ _=_;rw[ih];simp
theorem qm {s:Str} (h:gN (cd s)=true):s≠M8 "":=fun z=>by subst z;revert h;decide +kernel
theorem kn(h:House)(g:GoodH h):dh bQ (bx h)=some h:=by
 have hf:=qm g.fst;have e1:bc bQ (.first h.first)=some ⟨h.first,[],[]⟩:=by simp only[bc,bQ];exact if_pos trivial
 show ((bc bQ (.first h.first)).bind _)=_;rw[e1];show dh ⟨h.first,[],[]⟩ _=_;rw[ij,oV h.first hf h.letters [] g.lo];show dh ⟨h.first,[]++h.letters,[]⟩ _=_;rw[iE h.first hf ([]++h.letters) h.rooms [] (by simpa using g.rn) (by simpa using g.nd) fun r hr=>(g.rs r hr).2];rfl
theorem yr(r:Room):qA (cq r):=by cases r <;> first | rfl | trivial
theorem Hn(r:Room)(g:B6 r):B6 (cq r):=by cases r <;> exact g
theorem gY(h:House)(g:GoodH h):∀r∈bx h,GRw r:=fun r hr=>by
 rcases MH.mp hr with rfl | hr
 ·exact g.fst
 ·rcases N4.mp hr with hr | hr
  ·obtain⟨l,hl,rfl⟩:=Mr.mp hr
   exact g.ls l hl
  ·obtain⟨z,hz,hr⟩:=List.mem_flatMap.mp hr
   obtain⟨hn,gr⟩:=g.rs z hz;rcases MH.mp hr with rfl | hr
   ·exact⟨hn,Hn _ gr.g,yr _⟩
   ·obtain⟨x,hx,rfl⟩:=Mr.mp hr
    exact gr.bs x hx
def NW:List Rw->Prop
 | []=>True
 | r::s=>(r.kd=.names->∃r' s',s=r'::s'/\r'.kd=.name)/\NW s
theorem BZ(s:List Rw)(hs:NW s):∀bs:List Bn,NW (bs.map .ben++s)
 | []=>hs
 | x::bs=>⟨fun h=>(by cases x <;> cases h),BZ s hs bs⟩
theorem pC:∀rs:List (Str×Room),(∀r∈rs,GoodRoom r.2)->NW (rs.flatMap aO)
 | [],_=>trivial
 | (n,r)::rs,hg=>by
  have ih:=pC rs fun r hr=>hg r (MY _ hr);have g:=hg (n,r) Mb;rw[Nw];refine⟨fun h=>?_,BZ _ ih _⟩;cases r with
  | names t ks a b=>
   have hk:=g.nw t ks a b rfl;cases ks with
   | nil=>exact absurd rfl hk
   | cons k ks=>exact⟨.ben (.name k.1 k.2),_,rfl,rfl⟩
  | menu t ks a b=>cases h
  | hours sp l=>cases h
  | hand t=>cases h
  | fin t=>cases h
theorem B2(h:House)(g:GoodH h):NW (bx h):=by
 refine⟨fun h=>(by cases h),?_⟩;have hr:=pC h.rooms fun r hr=>(g.rs r hr).2
 have:∀(ls:List (Str×Str))(s:List Rw),NW s->NW ((ls.map fun l=>Rw.letters l.1 (cd l.2))++s):=fun ls s hs=>by
  induction ls with
  | nil=>exact hs
  | cons l ls ih=>exact⟨fun h=>(by cases h),ih⟩
 exact this h.letters _ hr
theorem vI(r:Rw)(h:stw gm (bZ r)=true):r.kd=.names:=by
 have h:=of_decide_eq_true h;have e:bZ r=r.kd.c++32::TX.glue 32 r.parts.1 r.parts.2:=rfl;rw[e] at h;generalize TX.glue 32 r.parts.1 r.parts.2=q at h;generalize r.kd=k at h ⊢;cases k <;> first | rfl | (simp[Kd.c,gm] at h)
theorem ze(r:Rw)(h:r.kd=.name):stw jV (bZ r)=true:=by
 have e:bZ r=r.kd.c++32::TX.glue 32 r.parts.1 r.parts.2:=rfl;unfold stw;rw[e,h];rfl
theorem qw:∀xs:List (List Nat),(∀x∈xs,x.length<=1000)->(cj xs).length<=xs.length * 1001
 | [],_=>by simp[cj]
 | [x],h=>by have:=h x (by simp);simp[cj];omega
 | x::y::r,h=>by
  have ih:=qw (y::r) fun z hz=>h z (MY _ hz);have:=h x (by simp);simp only[cj,MW,MI] at ih ⊢;omega
theorem iy(h:House)(g:GoodH h):(bx h).length<=300:=by
 have:∀rs:List (Str×Room),(∀r∈rs,GoodRoom r.2)->(rs.flatMap aO).length<=rs.length * 13:=fun rs hg=>by
  induction rs with
  | nil=>simp
  | cons r rs ih=>
   have h1:=ih fun r hr=>hg r (MY _ hr);have h2:=(hg r Mb).nb;rw[Nw,MW,MI];have:(aO r).length=(bL r.2).length+1:=by simp[aO]
   omega
 have h1:=this h.rooms fun r hr=>(g.rs r hr).2;have h2:=g.rn;have h3:=g.ln;show (_::_).length<=_;rw[MI,MW,MC];omega
structure Bad(x:List Nat):Prop where
 sz:x.length<=16777216
 no:(∀k:Kd,x.takeWhile (· != 32)≠k.c)\/∃k:Kd,x.takeWhile (· != 32)=k.c/\rv k x=.non
theorem zU(w:List Nat)(h:∀k:Kd,w≠k.c):kE (.str (mkS w)) c_FIELDS=some (.bl true):=by
 have e:∀k:Kd,decide (k.s=mkS w)=false:=fun k=>decide_eq_false fun z=>by
  rw[xp,kD] at z;exact h k z.symm
 have e1:=e .first;have e2:=e .letters;have e3:=e .menu;have e4:=e .key;have e5:=e .names;have e6:=e .name;have e7:=e .hours;have e8:=e .from_;have e9:=e .hand;have ea:=e .fin;have inr:∀(a b:Str),decide ((NQ a:Key)=NQ b)=decide (a=b):=fun a b=>by simp
 show (some (PV.bl (([.inr "first",.inr "letters",.inr "menu",.inr "key",.inr "names",.inr "name",.inr "hours",.inr "from",.inr "hand",.inr "end"]:List Key).any fun j=>decide (j=.inr (mkS w))))).bind _=_;simp only[OG,List.any_nil,inr];simp only[Kd.s] at *;simp;exact⟨of_decide_eq_false e1,of_decide_eq_false e2,of_decide_eq_false e3,of_decide_eq_false e4,of_decide_eq_false e5,of_decide_eq_false e6,of_decide_eq_false e7,of_decide_eq_false e8,of_decide_eq_false e9,of_decide_eq_false ea⟩
theorem tZ(x:List Nat)(hb:Bad x):eI [.str (mkS (x.takeWhile (· != 32))),.str (mkS x)]=some .non:=by
 rcases hb.no with h | ⟨k,h1,h2⟩
 ·have e:=zU _ h
  refine aR rfl ?_;simp[d0,PU.start,e]
 ·rw[h1,← xp,q9 k x hb.sz,h2]
theorem za(h:House)(x:List Nat)(hb:Bad x):de (aw h) [.str (mkS x)]=some (.bl false,aw h):=by
 obtain⟨a,b,e1⟩:=wF x hb.sz;have e2:=tZ x hb;have b0:∀a b c:PV,atI [a,b,c] 0=some a:=fun a b c=>bR (n:=0) rfl rfl;generalize mkS (x.takeWhile (· != 32))=w at *;refine bp rfl (ρ:=[.val (.str (mkS x)),.val (.str w),.val .non]) ?_;have en:DH .non .non=some (.bl true):=rfl;simp[bU,PU.start,e1,b0,e2,en]
def AZ(x:List Nat):Option Rw->Prop
 | some r=>RTx r x
 | none=>Bad x
def kO(h:House)(o:Option Rw):Option House:=o.bind (bc h)
def kW:House->List (Option Rw)->Nat->House ⊕ Nat
 | h,[],_=>.inl h
 | h,o::os,k=>match kO h o with
  | none=>.inr (k+1)
  | some h'=>kW h' os (k+1)
theorem zb(h:House)(N:Nat)(hN:N<=100000)(hi:HI N h)(x:List Nat)(o:Option Rw)(t:AZ x o):de (aw h) [.str (mkS x)]=some (EJ h (kO h o)):=by
 cases o with
 | none=>exact za h x t
 | some r=>exact take_row h N hN hi r t.ok x t.sz t.kd t.vs
def xNo (n:Nat):PX:=⟨"NoHouse",[.int n]⟩
theorem lb (f:PSt->R PV) (ρ:PSt) (n:Nat) (hn:n<1073741824) (e:f ρ=.ok (.int n)):ky "NoHouse" f ρ=.thr (xNo n) ρ:=by
 unfold ky;rw[e];show (if (n:Int).natAbs<1073741824 then XO.thr _ _ else _)=_;rw[if_pos (by omega)];rfl
def J9(v0 v1 a b:Sl)(h0:House):House ⊕ Nat->XO Fb
 | .inl h=>.ok .next [v0,v1,.tree (aw h),a,b,.no]
 | .inr n=>.thr (xNo n) [v0,v1,.tree (aw h0),a,b,.no]
theorem qb(v0 v1:Sl):∀(os:List (Option Rw))(xs:List (List Nat))(k N:Nat)(h:House)(a b:Sl),os.length=xs.length->(∀(i:Nat)(o:Option Rw)(x:List Nat),os[i]?=some o->xs[i]?=some x->AZ x o)->HJ N h->N+os.length<=100000->k+os.length<=1000000->
  ∃a' b' h0,BM (ji 2 (bg (aL 3) (bg (aL 4) jj))) b7 (cK k xs) [v0,v1,.tree (aw h),a,b,.no]=J9 v0 v1 a' b' h0 (kW h os k)
 | [],[],k,N,h,a,b,_,_,_,_,_=>⟨a,b,h,rfl⟩
 | [],_::_,_,_,_,_,_,hl,_,_,_,_=>by cases hl
 | _::_,[],_,_,_,_,_,hl,_,_,_,_=>by cases hl
 | o::os,x::xs,k,N,h,a,b,hl,hx,hi,hN,hk=>by
  have t:=hx 0 o x rfl rfl;rw[MI] at hN hk;have e1:=zb h N (by omega) hi.toHI x o t;unfold kW;cases hs:kO h o with
  | none=>
   rw[hs] at e1;have c:=lx (s:=.whole 2) (fs:=ae (ah 4) aU) (F:=de) (ρ:=[v0,v1,.tree (aw h),.val (.int ((k+1:Nat):Int)),.val (.str (mkS x)),.no]) (t:=aw h) (t':=aw h) (p:=.bl false) (ρ':=[v0,v1,.tree (aw h),.val (.int ((k+1:Nat):Int)),.val (.str (mkS x)),.no]) rfl (by simp) e1 rfl;refine⟨.val (.int ((k+1:Nat):Int)),.val (.str (mkS x)),h,?_⟩
   have e3:b7 [v0,v1,.tree (aw h),.val (.int ((k+1:Nat):Int)),.val (.str (mkS x)),.no]=.thr (xNo (k+1)) [v0,v1,.tree (aw h),.val (.int ((k+1:Nat):Int)),.val (.str (mkS x)),.no]:=by
    unfold b7;simp only[Fh,Ba,B8];rw[c];simp only[GG,GH,Bool.not_false,Dr];exact lb _ _ (k+1) (by omega) (by simp only[vp,rj])
   show ((b7 [v0,v1,.tree (aw h),.val (.int ((k+1:Nat):Int)),.val (.str (mkS x)),.no]).bind _)=_;rw[e3];rfl
  | some h1=>
   rw[hs] at e1;have c:=lx (s:=.whole 2) (fs:=ae (ah 4) aU) (F:=de) (ρ:=[v0,v1,.tree (aw h),.val (.int ((k+1:Nat):Int)),.val (.str (mkS x)),.no]) (t:=aw h) (t':=aw h1) (p:=.bl true) (ρ':=[v0,v1,.tree (aw h1),.val (.int ((k+1:Nat):Int)),.val (.str (mkS x)),.no]) rfl (by simp) e1 rfl
   have hj:HJ (N+1) h1:=by
    cases o with
    | none=>cases hs
    | some r=>exact FK hi t.ok hs
   obtain⟨a',b',h0,e2⟩:=qb v0 v1 os xs (k+1) (N+1) h1 (.val (.int ((k+1:Nat):Int))) (.val (.str (mkS x))) (by simpa using hl) (fun i r x h1 h2=>hx (i+1) r x (by simpa using h1) (by simpa using h2)) hj (by omega) (by omega);refine⟨a',b',h0,?_⟩
   have e3:b7 [v0,v1,.tree (aw h),.val (.int ((k+1:Nat):Int)),.val (.str (mkS x)),.no]=.ok .next [v0,v1,.tree (aw h1),.val (.int ((k+1:Nat):Int)),.val (.str (mkS x)),.no]:=by
    unfold b7;simp only[Fh,Ba,B8];rw[c];simp
   show ((b7 [v0,v1,.tree (aw h),.val (.int ((k+1:Nat):Int)),.val (.str (mkS x)),.no]).bind _)=_;rw[e3];exact e2
noncomputable def wlF:Nat->List (List Nat)->Nat
 | _,[]=>0
 | k,x::xs=>if stw gm x && !(stw jV (xs.headD [])) then k+1 else wlF (k+1) xs
theorem vq(X:List (List Nat)):∀(xs:List (List Nat))(k:Nat)(a b c:Sl),X.drop k=xs->k+xs.length=X.length->X.length<=1000000->
  (∃a' b' c',mU (ji 2 (bg (aL 1) (bg (aL 2) jj))) aF (cK k xs) [.val (.lst (X.map fun x=>.str (mkS x))),a,b,c]=.ok (.next [.val (.lst (X.map fun x=>.str (mkS x))),a',b',c'])/\wlF k xs=0) ∨
   (mU (ji 2 (bg (aL 1) (bg (aL 2) jj))) aF (cK k xs) [.val (.lst (X.map fun x=>.str (mkS x))),a,b,c]=.ok (.ret (.int (wlF k xs)))/\0<wlF k xs/\wlF k xs<=X.length)
 | [],k,a,b,c,_,_,_=>.inl ⟨a,b,c,rfl,rfl⟩
 | x::xs,k,a,b,c,hd,hk,hX=>by
  rw[MI] at hk;have hG:eP (.lst (X.map fun x=>PV.str (mkS x)))=some (.int X.length):=by show some (PV.int (X.map fun x=>PV.str (mkS x)).length)=_;rw[MC]
  have hd':X.drop (k+1)=xs:=by rw[← Pr,hd];rfl
  have hb:ifV (bX (au (ah 1) (un1 (ah 0) eP) gLt)) (au (ah 0) (ah 1) gIx) (kS "") [.val (.lst (X.map fun x=>.str (mkS x))),.val (.int ((k+1:Nat):Int)),.val (.str (mkS x)),c]=.ok (.str (mkS (xs.headD []))):=by
   cases hxs:xs with
   | nil=>
    have e3:gLt (.int ((k+1:Nat):Int)) (.int X.length)=some (.bl false):=by show some (PV.bl (decide (((k+1:Nat):Int)<(X.length:Int))))=_;rw[decide_eq_false (by rw[hxs] at hk;simp at hk;omega)]
    generalize ((k+1:Nat):Int)=j at *;simp[hG,e3,jS]
   | cons y ys=>
    have e1:X[k+1]?=some y:=by rw[← List.head?_drop,hd',hxs];rfl
    have e2:atI (X.map fun x=>PV.str (mkS x)) ((k+1:Nat):Int)=some (.str (mkS y)):=bR (n:=k+1) rfl (by rw[MS,e1];rfl);have e3:gLt (.int ((k+1:Nat):Int)) (.int X.length)=some (.bl true):=by show some (PV.bl (decide (((k+1:Nat):Int)<(X.length:Int))))=_;rw[decide_eq_true (by rw[hxs,MI] at hk;omega)]
    generalize ((k+1:Nat):Int)=j at *;simp[hG,e2,e3]
  have s1:=pM gm x;have s2:=pM jV (xs.headD [])
  have st:dF 3 (ifV (bX (au (ah 1) (un1 (ah 0) eP) gLt)) (au (ah 0) (ah 1) gIx) (kS "")) [.val (.lst (X.map fun x=>.str (mkS x))),.val (.int ((k+1:Nat):Int)),.val (.str (mkS x)),c]=.ok (.next [.val (.lst (X.map fun x=>.str (mkS x))),.val (.int ((k+1:Nat):Int)),.val (.str (mkS x)),.val (.str (mkS (xs.headD [])))]):=by
   rw[Fg,hb];simp
  generalize hbel:xs.headD []=bel at *
  have go:∀fl,aF [.val (.lst (X.map fun x=>.str (mkS x))),.val (.int ((k+1:Nat):Int)),.val (.str (mkS x)),c]=.ok fl->mU (ji 2 (bg (aL 1) (bg (aL 2) jj))) aF (cK k (x::xs)) [.val (.lst (X.map fun x=>.str (mkS x))),a,b,c]=(match fl with
    | .next ρ2=>mU (ji 2 (bg (aL 1) (bg (aL 2) jj))) aF (cK (k+1) xs) ρ2
    | .cont ρ2=>mU (ji 2 (bg (aL 1) (bg (aL 2) jj))) aF (cK (k+1) xs) ρ2
    | .brk ρ2=>.ok (.next ρ2)
    | .ret q=>.ok (.ret q)):=fun fl e=>by
   show (aF [.val (.lst (X.map fun x=>.str (mkS x))),.val (.int ((k+1:Nat):Int)),.val (.str (mkS x)),c] >>= _)=_;rw[e];cases fl <;> rfl
  unfold wlF;rw[hbel]
  have both:(stw gm x && !stw jV bel)=true/\aF [.val (.lst (X.map fun x=>.str (mkS x))),.val (.int ((k+1:Nat):Int)),.val (.str (mkS x)),c]=.ok (.ret (.int ((k+1:Nat):Int)))\/(stw gm x && !stw jV bel)=false/\aF [.val (.lst (X.map fun x=>.str (mkS x))),.val (.int ((k+1:Nat):Int)),.val (.str (mkS x)),c]=.ok (.next [.val (.lst (X.map fun x=>.str (mkS x))),.val (.int ((k+1:Nat):Int)),.val (.str (mkS x)),.val (.str (mkS bel))]):=by
   unfold aF;rw[vn,st];generalize ((k+1:Nat):Int)=j at *;cases hh:stw gm x with
   | false=>rw[hh] at s1;exact .inr ⟨rfl,by simp[oE,s1]⟩
   | true=>
    rw[hh] at s1;cases hq:stw jV bel with
    | true=>rw[hq] at s2;exact .inr ⟨rfl,by simp[oE,wV,s1,s2]⟩
    | false=>rw[hq] at s2;exact .inl ⟨rfl,by simp[oE,wV,s1,s2]⟩
  rcases both with⟨h1,h2⟩|⟨h1,h2⟩
  ·rw[if_pos h1]
   exact .inr ⟨go _ h2,by omega,by omega⟩
  ·rw[if_neg (by rw[h1];decide),go _ h2]
   exact vq X xs (k+1) _ _ _ hd' (by omega) hX
theorem wordless(X:List (List Nat))(hX:X.length<=1000000):dU [.lst (X.map fun x=>.str (mkS x))]=some (.int (wlF 0 X))/\wlF 0 X<=X.length:=by
 have hE:jR (ah 0) [.val (.lst (X.map fun x=>.str (mkS x))),.no,.no,.no]=.ok (cK 0 X):=by
  show (ah 0 _ >>= fun p=>R.ofO (tJ p))=_;rw[rj];show R.ofO (some ((qj (X.map fun x=>PV.str (mkS x))).map PV.tup))=_;rw[wN];rfl
 have fs:∀r,mU (ji 2 (bg (aL 1) (bg (aL 2) jj))) aF (cK 0 X) [.val (.lst (X.map fun x=>.str (mkS x))),.no,.no,.no]=r->yP (jR (ah 0)) (ji 2 (bg (aL 1) (bg (aL 2) jj))) aF [.val (.lst (X.map fun x=>.str (mkS x))),.no,.no,.no]=r:=fun r e=>by
  show (jR (ah 0) _ >>= fun ps=>mU _ _ ps _)=_;rw[hE];exact e
 rcases vq X X 0 .no .no .no rfl (by omega) hX with⟨a,b,c,e,z⟩|⟨e,z1,z2⟩
 ·rw[z]
  refine⟨aR rfl ?_,by omega⟩;have:=fs _ e;simp only[dS,PU.start,vn];rw[show (Ql Sl.val [PV.lst (X.map fun x=>.str (mkS x))]++NS (4 - [PV.lst (X.map fun x=>PV.str (mkS x))].length) Sl.no)=[.val (.lst (X.map fun x=>.str (mkS x))),.no,.no,.no] from rfl,this];simp
 ·refine⟨aR rfl ?_,z2⟩
  have:=fs _ e;simp only[dS,PU.start,vn];rw[show (Ql Sl.val [PV.lst (X.map fun x=>.str (mkS x))]++NS (4 - [PV.lst (X.map fun x=>PV.str (mkS x))].length) Sl.no)=[.val (.lst (X.map fun x=>.str (mkS x))),.no,.no,.no] from rfl,this];simp
def j5(os:List (Option Rw))(xs:List (List Nat)):House ⊕ Nat:=match kW bQ os 0 with
 | .inr n=>.inr n
 | .inl h=>if h.rooms=[] then .inr (xs.length+1) else if wlF 0 xs=0 then .inl h else .inr (wlF 0 xs)
def D7:House ⊕ Nat->Tr ⊕ PX
 | .inl h=>.inl (aw h)
 | .inr n=>.inr (xNo n)
theorem vT{m n:Nat}{g:PSt->XO Fb}{qs:List PV}{t:Tr}{ρ:PSt}(hm:qs.length=m)(e:g (PU.start n qs)=.ok (.retT t) ρ):pZ m n g qs=some (.inl t):=by
 unfold pZ;rw[if_pos hm,e]
theorem jx{m n:Nat}{g:PSt->XO Fb}{qs:List PV}{x:PX}{ρ:PSt}(hm:qs.length=m)(e:g (PU.start n qs)=.thr x ρ):pZ m n g qs=some (.inr x):=by
 unfold pZ;rw[if_pos hm,e]
@[simp] theorem ES{g':PSt->XO Fb}(x:PX)(ρ:PSt):rf g' (.thr x ρ)=.thr x ρ:=by unfold rf;exact Mh _
theorem Cj{a b:Sl}{t:Tr}{ρ:PSt}:vV 2 (a::b::.tree t::ρ)=.ok (.retT t) (a::b::.tree t::ρ):=by unfold vV;exact Mh _
theorem zy(os:List (Option Rw))(xs:List (List Nat))(hl:os.length=xs.length)(hn:os.length<=99999)(hne:xs≠[])(hx:∀(i:Nat)(o:Option Rw)(x:List Nat),os[i]?=some o->xs[i]?=some x->AZ x o)(hf:∀x∈xs,10 ∉ x)
  (hs:(cj xs).length<=16000000):bH [.str (mkS (cj xs))]=some (D7 (j5 os xs)):=by
 have e1:=zf xs hne hf hs;have hj:HJ 0 bQ:=⟨⟨MX _,fun z hz=>(by cases hz),O5 _,fun z hz=>(by cases hz),List.nodup_nil⟩,fun z hz=>(by cases hz)⟩;obtain⟨a,b,h0,e2⟩:=qb (.val (.str (mkS (cj xs)))) (.val (.lst (xs.map fun x=>.str (mkS x)))) os xs 0 0 bQ .no .no hl hx hj (by omega) (by omega);obtain⟨e3,e3'⟩:=wordless xs (by omega);have hG:eP (.lst (xs.map fun x=>PV.str (mkS x)))=some (.int xs.length):=by show some (PV.int (xs.map fun x=>PV.str (mkS x)).length)=_;rw[MC]
 generalize hR:(xs.map fun x=>PV.str (mkS x))=L at *
 have e4:jR (ah 1) [.val (.str (mkS (cj xs))),.val (.lst L),.tree (aw bQ),.no,.no,.no]=.ok (cK 0 xs):=by
  show (ah 1 _ >>= fun p=>R.ofO (tJ p))=_;rw[vp,rj];show R.ofO (some ((qj L).map PV.tup))=_;rw[← hR,wN];rfl
 have e5:∀r,BM (ji 2 (bg (aL 3) (bg (aL 4) jj))) b7 (cK 0 xs) [.val (.str (mkS (cj xs))),.val (.lst L),.tree (aw bQ),.no,.no,.no]=r->JL (jR (ah 1)) (ji 2 (bg (aL 3) (bg (aL 4) jj))) b7 [.val (.str (mkS (cj xs))),.val (.lst L),.tree (aw bQ),.no,.no,.no]=r:=fun r e=>by
  show (XO.rd _ (jR (ah 1) _)).bind _=_;rw[e4];exact e
 have e6:uD (nX (.inr "first") (kS "") (iP (.inr "letters") (gp aU) (iP (.inr "rooms") newD ER))) [.val (.str (mkS (cj xs))),.val (.lst L),.no,.no,.no,.no]=.ok (aw bQ):=by
  have q:nX (.inr "first") (kS "") (iP (.inr "letters") (gp aU) (iP (.inr "rooms") newD ER)) [.val (.str (mkS (cj xs))),.val (.lst L),.no,.no,.no,.no]=.ok [(.inr "first",.val (.str "")),(.inr "letters",.own (.lst [])),(.inr "rooms",.own (.dct [] []))]:=by
   have q1:∀ρ:PSt,gp aU ρ=.ok (.lst []):=fun ρ=>by simp
   have q2:∀ρ:PSt,newD ρ=.ok (.dct [] []):=fun ρ=>rfl;unfold nX iP ER;simp only[q1,q2,R.ok_bind];rfl
  unfold uD;rw[q];show (if ([(.inr "first",.val (.str "")),(.inr "letters",.own (.lst [])),(.inr "rooms",.own (.dct [] []))]:List (Key×Fld)).length<=15/\([.inr "first",.inr "letters",.inr "rooms"]:List Key).Nodup then R.ok (aw bQ) else .no)=_;rw[if_pos ⟨by decide,by decide +kernel⟩]
 have e9:vf "str" (.str (mkS (cj xs)))=some (.bl true):=rfl
 have ts:Cm 2 (uD (nX (.inr "first") (kS "") (iP (.inr "letters") (gp aU) (iP (.inr "rooms") newD ER)))) [.val (.str (mkS (cj xs))),.val (.lst L),.no,.no,.no,.no]=.ok .next [.val (.str (mkS (cj xs))),.val (.lst L),.tree (aw bQ),.no,.no,.no]:=by
  show (XO.rd _ (uD _ _)).bind _=_;rw[e6];rfl
 generalize mkS (cj xs)=T at *;unfold j5;cases hF:kW bQ os 0 with
 | inr n=>
  rw[hF] at e2;refine jx rfl (ρ:=[.val (.str T),.val (.lst L),.tree (aw h0),a,b,.no]) ?_;have e5:=e5 _ e2;unfold J9 at e5;simp[cG,PU.start,e9,e1,ts,e5]
 | inl h=>
  rw[hF] at e2;have e5:=e5 _ e2;unfold J9 at e5
  have e7:xQ 2 (.inr "rooms") [.val (.str T),.val (.lst L),.tree (aw h),a,b,.no]=.ok (aC h.rooms):=by
   show (match eE [.inr "first",.inr "letters",.inr "rooms"] [.val (.str h.first),.own (.lst (h.letters.map pv2)),.own (aC h.rooms)] (.inr "rooms") with
    | some (.val p)=>R.ok p
    | some (.own p)=>.ok p
    | none=>.no)=_
   simp[eE]
  show _=some (D7 (if h.rooms=[] then .inr (xs.length+1) else if wlF 0 xs=0 then .inl h else .inr (wlF 0 xs)))
  by_cases hr:h.rooms=[]
  ·rw[if_pos hr]
   have e8:kM (aC h.rooms)=some false:=by rw[hr];rfl
   refine jx rfl (ρ:=[.val (.str T),.val (.lst L),.tree (aw h),a,b,.no]) ?_;have rz:=lb (au (un1 (ah 1) eP) (kI 1) bC) [.val (.str T),.val (.lst L),.tree (aw h),a,b,.no] (xs.length+1) (by omega) (by simp[hG]);simp[cG,PU.start,e9,e1,ts,e5,e7,e8,rz]
  ·rw[if_neg hr]
   have e8:kM (aC h.rooms)=some true:=by
    show some (!(h.rooms.map fun r=>(NQ r.1:Key)).isEmpty)=_;cases hq:h.rooms with
    | nil=>exact absurd hq hr
    | cons a b=>rfl
   by_cases hw:wlF 0 xs=0
   ·rw[if_pos hw]
    refine vT rfl (ρ:=[.val (.str T),.val (.lst L),.tree (aw h),a,b,.val (.int 0)]) ?_;rw[hw] at e3;simp[cG,PU.start,e9,e1,ts,e5,e7,e8,e3,Cj]
   ·rw[if_neg hw]
    refine jx rfl (ρ:=[.val (.str T),.val (.lst L),.tree (aw h),a,b,.val (.int (wlF 0 xs))]) ?_;have rz:=lb (ah 5) [.val (.str T),.val (.lst L),.tree (aw h),a,b,.val (.int (wlF 0 xs))] (wlF 0 xs) (by omega) (by simp);have gt:gGt (.int (wlF 0 xs)) (.int 0)=some (.bl true):=by show some (PV.bl (decide ((0:Int)<(wlF 0 xs:Int))))=_;rw[decide_eq_true (by omega)]
    simp[cG,PU.start,e9,e1,ts,e5,e7,e8,e3,gt,rz]
theorem sI{m n:Nat}{g:PSt->XO Fb}{qs:List PV}{p:PV}{ρ:PSt}(hm:qs.length=m)(e:g (PU.start n qs)=.ok (.ret p) ρ):CG m n g qs=some p:=by
 unfold CG;rw[if_pos hm,e]
section
variable{i j : Nat}{cs : List Str}{fs : PSt → R (List PV)}{F : List PV → Option (Tr ⊕ PX)}{gh : PSt → XO Fb}{ρ ρ' : PSt}{ps : List PV}{t : Tr}{x : PX}
theorem Iy(e1:fs ρ=.ok ps)(e2:F ps=some (.inl t)):EC i j cs fs F gh ρ=.ok .next (ρ.set i (.val (trV t))):=by
 unfold EC;rw[e1];show (match F ps with | some (.inl t)=>_ | some (.inr x)=>_ | none=>_)=_;rw[e2]
theorem Iw(e1:fs ρ=.ok ps)(e2:F ps=some (.inr x))(hc:x.cls∈cs)(e3:gh (ρ.set j (.exc x))=.ok .next ρ'):EC i j cs fs F gh ρ=.ok .next (ρ'.set j .no):=by
 unfold EC;rw[e1];show (match F ps with | some (.inl t)=>_ | some (.inr x)=>_ | none=>_)=_;rw[e2];show (if x.cls∈cs then _ else _)=_;rw[if_pos hc,e3]
end
def mK:House ⊕ Nat->PV
 | .inl h=>h.pv
 | .inr n=>.tup [.str "refused",.int n,.bl true]
theorem k7(p:PV)(r:House ⊕ Nat)(h:bH [p]=some (D7 r)):bV [p]=some (mK r):=by
 cases r with
 | inl h'=>
  refine sI rfl (ρ:=[.val p,.val (mK (.inl h')),.no,.no]) ?_;have e:=fun gh=>Iy (i:=1) (j:=2) (cs:=["NoHouse"]) (fs:=ae (ah 0) aU) (F:=bH) (gh:=gh) (ρ:=[.val p,.val .non,.no,.no]) (ps:=[p]) (by simp) h;simp[iD,PU.start,e];rfl
 | inr n=>
  refine sI rfl (ρ:=[.val p,.val (mK (.inr n)),.no,.val (.lst [.bl false,.bl false,.bl false,.bl false,.bl false,.bl false])]) ?_
  have isx:∀(b:Bool) (a0 a1 a3:Sl),mQ 2 (gI "NoHouse" b) [a0,a1,.exc (xNo n),a3]=.ok (.bl b):=fun b a0 a1 a3=>by
   show (match gI "NoHouse" b "NoHouse" with | some b=>R.ok (PV.bl b) | none=>.no)=_;unfold gI;rw[if_pos rfl]
  have xf:∀(a0 a1 a3:Sl),vj 2 ["NoHouse"] "row" [a0,a1,.exc (xNo n),a3]=.ok (.int n):=fun a0 a1 a3=>by
   show (if ("NoHouse":Str)∈([("NoHouse":Str)]:List Str)/\ml "NoHouse"="row" then R.ok (PV.int n) else .no)=_;rw[if_pos ⟨by simp,by decide⟩]
  have ni:kE (.bl true) (.lst [.bl false,.bl false,.bl false,.bl false,.bl false,.bl false])=some (.bl true):=rfl;have ad:bC (.lst [.bl false,.bl false,.bl false,.bl false]) (.lst [.bl false,.bl false])=some (.lst [.bl false,.bl false,.bl false,.bl false,.bl false,.bl false]):=rfl
  have hd:(gM (cU (dF 3 (gp (ae (mQ 2 (gI "NoHouse" false)) (ae (mQ 2 (gI "NoHouse" false)) (ae (mQ 2 (gI "NoHouse" false)) (ae (mQ 2 (gI "NoHouse" false)) aU))))))) (gM (cU (dF 3 (au (ah 3) (gp (ae (mQ 2 (gI "NoHouse" false)) (ae (mQ 2 (gI "NoHouse" false)) aU))) bC))) (cU (dF 1 (kL (ae (kS "refused") (ae (vj 2 ["NoHouse"] "row") (ae (uU (mQ 2 (gI "NoHouse" true)) (uU (mQ 2 (gI "NoHouse" true)) (au (kB true) (ah 3) kE))) aU)))))))) [.val p,.val .non,.exc (xNo n),.no]=.ok .next [.val p,.val (mK (.inr n)),.exc (xNo n),.val (.lst [.bl false,.bl false,.bl false,.bl false,.bl false,.bl false])]:=by
   simp[isx,xf,ni,ad];rfl
  have e:=Iw (i:=1) (j:=2) (cs:=["NoHouse"]) (fs:=ae (ah 0) aU) (F:=bH) (ρ:=[.val p,.val .non,.no,.no]) (ps:=[p]) (by simp) h (by simp[xNo]) hd;simp[iD,PU.start,e]
theorem ou (p:PV) (h:vf "str" p=some (.bl false)):bH [p]=some (D7 (.inr 1)):=by
 refine jx rfl (ρ:=[.val p,.no,.no,.no,.no,.no]) ?_;have rz:=lb (kI 1) [.val p,.no,.no,.no,.no,.no] 1 (by decide) rfl;simp[cG,PU.start,h,rz]
theorem tj:∀xs:List (List Nat),((xs.map mkS).map (·.length)).sum+xs.length<=(cj xs).length+1
 | []=>by simp[cj]
 | [x]=>by simp[cj,cF]
 | x::y::r=>by
  have:=tj (y::r);simp only[MN,SN,MI,cj,MW,cF] at *;omega
theorem qx (xs:List (List Nat)) (hs:(cj xs).length<=16000000):mj (.str "\n") (.lst (xs.map fun x=>.str (mkS x)))=some (.str (mkS (cj xs))):=by
 have:=Bb (s:=M8 "\n") (xs:=xs.map mkS) (by
  have:=tj xs;rw[MC,show (M8 "\n").length=1 from by decide];omega)
 rw[Mt] at this;rw[← xt];exact this
theorem uq(xs:List (List Nat))(d n:Nat)(hs:(cj xs).length<=16000000)(h:bH [.str (mkS (cj xs))]=some (D7 (.inr n))):ar [.lst (xs.map fun x=>.str (mkS x)),.int d]=some (.bl (decide (n=d))):=by
 have e1:=qx xs hs;have e2:=k7 _ _ h;refine aR rfl ?_;have e3:atI [PV.str "refused",.int n,.bl true] 1=some (.int n):=bR (n:=1) rfl rfl;have e4:vf "tuple" (.tup [.str "refused",.int n,.bl true])=some (.bl true):=rfl;have e5:vf "bool" (.int n)=some (.bl false):=rfl
 have e6:gEq (.tup [.str "refused",.int n,.bl true]) (.tup [.str "refused",.int d,.bl true])=some (.bl (decide (n=d))):=by
  show (if gD [PV.str "refused",.int n,.bl true]<=60 then (eN [PV.str "refused",.int n,.bl true] [.str "refused",.int d,.bl true]).map PV.bl else none)=_;rw[if_pos (by show 0<=60;decide)];simp only[eN,cn,Oa,Ts];simp
  by_cases h:n=d
  ·simp[h]
  ·simp[h]
   omega
 unfold mK at e2;simp[gF,PU.start,e1,e2,e3,e4,e5,e6]
theorem pw(ns:List Int)(k:Nat):b9 [.lst (ns.map .int),.int k]=some (.int (ns.getD k 0)):=by
 refine aR rfl ?_
 by_cases hk:k<ns.length
 ·have h2:(k:Int)<ns.length:=by omega
  have h3:atI (ns.map PV.int) (k:Int)=some (.int ns[k]):=bR rfl (by simp[hk]);simp[eQ,PU.start,h2,h3,hk]
 ·have h2:¬ (k:Int)<ns.length:=by omega
  simp[eQ,PU.start,h2,hk]
theorem mixed(a b:Int)(hb:0<=b/\b<2 ^ 30):dO [.int a,.int b]=some (.int (a % 2147483647 * b % 2147483647)):=by
 refine aR rfl ?_;have h:-(2 ^ 64)<a % 2147483647/\a % 2147483647<2 ^ 64:=by omega
 simp (disch:=omega) [je,PU.start,Ft,jZ]
open NM
abbrev nst(n:Int)(many:Nat)(done:List PV)(a b c d:Sl):PSt:=
 [Sl.val (PV.int n),Sl.val (PV.int many),Sl.val (PV.str (mkS c24)),Sl.val (PV.int (1+n % 8)),Sl.val (PV.int (n / 8 % (1+n % 8))),Sl.own (PV.lst done),a,b,c,d]
theorem zZ(n:Int)(many:Nat)(done:List PV)(t k:Nat)(x:List Nat)(d:Sl)(hx:x.length<=1000)(hk:k<1000000) :
  eU (nst n many done (.val (.int t)) (.val (.str (mkS x))) (.val (.int k)) d)=.ok (.next (nst n many done (.val (.int t)) (.val (.str (mkS (x++[kC n t k])))) (.val (.int k)) (.val (.int ((t:Int) * (if (k:Int)=vc n then 1 else 0)))))):=by
 have h1:(if (k:Int)=n / 8 % (1+n % 8) then (1:Int) else 0).natAbs<18446744073709551616:=by split <;> decide
 have h2:F1 (.int t) (.int (if (k:Int)=n / 8 % (1+n % 8) then 1 else 0))=some (.int ((t:Int) * (if (k:Int)=vc n then 1 else 0))):=Ft (.inr h1)
 have h3:∀z:Int,gIx (.str (mkS c24)) (.int (z % 24))=some (.str ⟨#[c24.getD (z % 24).toNat 0]⟩):=fun z=>sy (by decide) (by
  rw[aV];refine AU 0 (by omega) ?_;show z % 24<24;omega)
 have h4:∀c:Nat,bC (.str (mkS x)) (.str ⟨#[c]⟩)=some (.str (mkS (x++[c]))):=fun c=>by
  rw[Dk,aQ (by simp;omega),cQ]
 simp (disch:=omega) [eU,nst,h2,pI,jZ,h3,h4,kC]
theorem zY(n:Int)(many:Nat)(done:List PV)(t:Nat)(b c d:Sl)(hd:done.length<1000):∃c' d',
  eT (nst n many done (.val (.int t)) b c d)=.ok (.next (nst n many (done++[.str (nm n t)]) (.val (.int t)) (.val (.str (nm n t))) c' d')):=by
 have hs:=qo n
 obtain⟨ρ',e,c',d',rfl⟩:=forR (n:=eD n) (lo:=0) (h:=aL 8) (g:=eU) (ρ:=nst n many done (.val (.int t)) (.val (.str (mkS []))) c d)
  (I:=fun i ρ=>∃c d,ρ=nst n many done (.val (.int t)) (.val (.str (mkS (cx n t i)))) c d) ⟨_,_,rfl⟩ (by
   rintro i ρ hi ⟨c,d,rfl⟩;have e:=zZ n many done t i (cx n t i) d (by simp[cx];omega) (by omega);rw[← qp] at e;rw[Int.zero_add];exact⟨_,_,rfl,.inl e,_,_,rfl⟩)
 refine⟨c',d',?_⟩;have e0:(1+n % 8).toNat=eD n:=rfl;have hd':done.length<16777216:=by omega
 simp (disch:=omega) [eT,pk,Fs,e0];rw[e];simp[hd',nm]
theorem names(n:Int)(many:Nat)(hm:many<=1000):fC [.int n,.int many]=some (.lst ((Mz many).map fun t=>.str (nm n t))):=by
 refine aR rfl ?_;have hsz:0<1+n % 8:=by omega
 simp (disch:=omega) [jd,PU.start,jZ,pI,Fs,Hm]
 obtain⟨ρ',e,a,b,c,d,rfl⟩:=forR (n:=many) (lo:=0) (h:=aL 6) (g:=eT) (ρ:=nst n many [] .no .no .no .no)
  (I:=fun i ρ=>∃a b c d,ρ=nst n many ((Mz i).map fun t=>.str (nm n t)) a b c d) ⟨_,_,_,_,rfl⟩ (by
   rintro i ρ hi ⟨a,b,c,d,rfl⟩;obtain⟨c',d',e⟩:=zY n many ((Mz i).map fun t=>.str (nm n t)) i b c d (by simp;omega);rw[Int.zero_add,List.range_succ,Mp];exact⟨_,_,rfl,.inl e,_,_,_,_,rfl⟩)
 rw[e];simp
theorem DE{l:List Nat}{i:Nat}(h:i<l.length):l.getD i 0∈l:=by rw[NA,Ml h];exact O6 h
theorem Df(n:Int)(t:Nat):gN (cd (nm n t))=true:=by
 have hs:=qo n;have hm:∀c∈c24,(decide (97<=c) && decide (c<=122))=true:=by decide
 have hl:(cx n t (eD n)).length=eD n:=by simp[cx]
 have h1:dJ 8 (cx n t (eD n))=true:=by
  unfold dJ;rw[hl,decide_eq_true hs.1,decide_eq_true hs.2,NY.mpr fun c hc=>?_]
  ·rfl
  ·obtain⟨k,_,rfl⟩:=Mr.mp hc
   refine hm _ (DE ?_);show _<24;omega
 have h2:cx n t (eD n)≠[98,97,99,107]:=fun z=>(Gp n t).1 (by
  show mkS (cx n t (eD n))=_;rw[z,pA])
 show gN (mkS (cx n t (eD n))).cps.toList=true;rw[aV];unfold gN;rw[h1,decide_eq_false h2];rfl
abbrev Lt(a b:Str):Prop:=a.cps.toList<b.cps.toList
theorem CH (k t:Str):M8 "key "++k++M8 " "++t=mkS (bZ (.ben (.key k t))):=by
 have e:M8 "key "=mkS [107,101,121,32]:=by decide +kernel
 rw[e,zi,show (⟨#[32]⟩:Str)=mkS [32] from rfl,dy k,dy t,cQ,cQ,cQ];simp[bZ,Rw.kd,Bn.kd,Rw.parts,wD,Kd.c,TX.glue,cd]
theorem Ec:cd (M8 "back")=[98,97,99,107]:=by rw[pA];exact aV _
theorem cy(a b:Str):(a++b).length=a.length+b.length:=by
 rw[dy a,dy b,cQ,cF,cF,cF,MW]
theorem LL{p k q t:Str}(h:p.length+k.length+q.length+t.length<=16777216):bC (.str p) (.str k)=some (.str (p++k))/\bC (.str (p++k)) (.str q)=some (.str (p++k++q))/\bC (.str (p++k++q)) (.str t)=some (.str (p++k++q++t)):=by
 refine⟨aQ (by omega),aQ (by rw[cy];omega),aQ (by rw[cy,cy];omega)⟩
theorem BS(s:Str):s.length=(cd s).length:=by conv=>lhs;rw[dy s,cF]
theorem xb:∀n:Nat,n<25->n.log2<1920:=by decide +kernel
theorem Ct{i:Int}(h0:0<=i)(h1:i<=24):BK (.int i)=some (.str (num i)):=by
 show (if i.natAbs.log2<1920 then some (PV.str (Qd i)) else none)=_;rw[if_pos (xb _ (by omega))];rfl
theorem De{s:Str}(h:gN (cd s)=true):s.length<=8:=by rw[BS];exact oJ (sX h)
def ay(q:List Rw):List PV:=q.map fun r=>.str (mkS (bZ r))
noncomputable def fW (n:Str):List (Str×Str):=[("0","back"),("7",n),("#","a")]
def eO (n:Str):List (Str×Str):=[("ab","a"),("abc",n)]
def kT(z:Int):Int:=1+z / 4 % 9
def rmK(n:Str)(z:Int):Room:=match (z % 4).toNat with
 | 0=>.menu "So?" ((fW n).take (1+(z / 16 % 3).toNat)) (1,n) (kT z,"a")
 | 1=>.names "So?" ((eO n).take (1+(z / 16 % 2).toNat)) (1,n) (kT z,"a")
 | 2=>.hours [(0,24,n)] "a"
 | _=>.hand "So. "
theorem cdx:cd (M8 "a")=[97]/\cd (M8 "So?")=[83,111,63]/\cd (M8 "So. ")=[83,111,46,32]/\dg 1=[49]/\cd (M8 "0")=[48]/\cd (M8 "7")=[55]/\cd (M8 "#")=[35]/\cd (M8 "ab")=[97,98]/\cd (M8 "abc")=[97,98,99]/\dg 0=[48]/\dg 24=[50,52]:=by decide +kernel
theorem mkx:M8 " 1 "=mkS [32,49,32]/\M8 " "=mkS [32]/\M8 " a So?"=mkS [32,97,32,83,111,63]/\M8 "menu "=mkS [109,101,110,117,32]/\M8 "names "=mkS [110,97,109,101,115,32]/\M8 "hours "=mkS [104,111,117,114,115,32]/\M8 " a"=mkS [32,97]/\
  M8 "from 0 24 "=mkS [102,114,111,109,32,48,32,50,52,32]/\M8 "hand "=mkS [104,97,110,100,32]/\M8 " So. "=mkS [32,83,111,46,32]/\M8 "name abc "=mkS [110,97,109,101,32,97,98,99,32]/\M8 "name ab a"=mkS [110,97,109,101,32,97,98,32,97]:=by decide +kernel
theorem HY:(M8 " 1 ").length=3/\(M8 " ").length=1/\(M8 " a So?").length=6/\(M8 "menu ").length=5/\(M8 "names ").length=6/\(M8 "hours ").length=6/\(M8 " a").length=2/\(M8 "from 0 24 ").length=10/\(M8 "hand ").length=5/\(M8 " So. ").length=5/\(M8 "name abc ").length=9/\(M8 "key ").length=4:=by decide +kernel
theorem sL (k:Kd) (hk:k=.menu\/k=.names) (p n:Str) (z:Int) (r:Room) (hp:p=mkS (k.c++[32])) (hr:bZ (.room n r)=TX.glue 32 [k.c,cd n,dg 1,cd n,dg z,cd (M8 "a")] (cd (M8 "So?"))) :
  p++n++(M8 " 1 "++n++M8 " "++num z++M8 " a So?")=mkS (bZ (.room n r)):=by
 obtain⟨c1,c2,c3,c4,_⟩:=cdx;obtain⟨m1,m2,m3,_⟩:=mkx;rw[hr,hp,m1,m2,m3,c1,c2,c4]
 conv=>lhs;rw[dy n,dy (num z)]
 simp only[cQ]
 congr 1
 simp[TX.glue,cd,dg]
theorem A3 (n:Str) (z:Int):M8 "menu "++n++(M8 " 1 "++n++M8 " "++num z++M8 " a So?")=mkS (bZ (.room n (.menu "So?" [] (1,n) (z,"a")))):=
 sL .menu (.inl rfl) _ n z _ (by decide +kernel) rfl
theorem wU (n:Str) (z:Int):M8 "names "++n++(M8 " 1 "++n++M8 " "++num z++M8 " a So?")=mkS (bZ (.room n (.names "So?" [] (1,n) (z,"a")))):=
 sL .names (.inr rfl) _ n z _ (by decide +kernel) rfl
theorem xC (n:Str):M8 "hours "++n++M8 " a"=mkS (bZ (.room n (.hours [] "a"))):=by
 obtain⟨c1,_⟩:=cdx;obtain⟨_,_,_,_,_,m6,m7,_⟩:=mkx;rw[m6,m7]
 conv=>lhs;rw[dy n]
 simp only[cQ]
 congr 1
theorem Aw (n:Str):M8 "from 0 24 "++n=mkS (bZ (.ben (.span 0 24 n))):=by
 obtain⟨_,_,_,_,_,_,_,_,_,c10,c11⟩:=cdx;obtain⟨_,_,_,_,_,_,_,m8,_⟩:=mkx;rw[m8]
 conv=>lhs;rw[dy n]
 simp only[cQ]
 congr 1
theorem Ar (n:Str):M8 "hand "++n++M8 " So. "=mkS (bZ (.room n (.hand "So. "))):=by
 obtain⟨_,_,c3,_⟩:=cdx;obtain⟨_,_,_,_,_,_,_,_,m9,m10,_⟩:=mkx;rw[m9,m10]
 conv=>lhs;rw[dy n]
 simp only[cQ]
 congr 1
theorem En (n:Str):M8 "name abc "++n=mkS (bZ (.ben (.name "abc" n))):=by
 obtain⟨_,_,_,_,_,_,_,_,c9,_⟩:=cdx;obtain⟨_,_,_,_,_,_,_,_,_,_,m11,_⟩:=mkx;rw[m11]
 conv=>lhs;rw[dy n]
 simp only[cQ]
 congr 1
theorem Hx:M8 "name ab a"=mkS (bZ (.ben (.name "ab" "a"))):=by decide +kernel
theorem xl (n:Str) (hn:n.length<=8) (ρ:PSt):dj (ji 2 (bg (aL 0) (bg (aL 1) jj))) lu fM (.no::.no::ρ) [.tup [.str "0",.str "back"],.tup [.str "7",.str n],.tup [.str "#",.str "a"]]=.ok ((fW n).map fun k=>.str (mkS (bZ (.ben (.key k.1 k.2))))):=by
 have:=WO.in_list_comp (enc:=fun q:Str×Str=>PV.tup [.str q.1,.str q.2]) (h:=ji 2 (bg (aL 0) (bg (aL 1) jj))) (fe:=fM) (ρ:=.no::.no::ρ) (fun q=>.str (mkS (bZ (.ben (.key q.1 q.2))))) (fW n) fun q hq=>⟨.val (.str q.1)::.val (.str q.2)::ρ,rfl,by
  have l1:q.1.length<=1:=by
   simp only[fW,MH,Mf,or_false] at hq;rcases hq with rfl | rfl | rfl
   ·exact(by decide:(M8 "0").length<=1)
   ·exact(by decide:(M8 "7").length<=1)
   ·exact(by decide:(M8 "#").length<=1)
  have l2:q.2.length<=8:=by
   simp only[fW,MH,Mf,or_false] at hq;rcases hq with rfl | rfl | rfl
   ·exact(by decide:(M8 "back").length<=8)
   ·exact hn
   ·exact(by decide:(M8 "a").length<=8)
  obtain⟨a1,a2,a3⟩:=LL (p:=M8 "key ") (k:=q.1) (q:=M8 " ") (t:=q.2) (by have:=HY.1;have:=HY.2.1;have:=HY.2.2.2.2.2.2.2.2.2.2.2;omega);simp[fM,a1,a2,a3,CH]⟩
 exact this
theorem CJ(n:Str)(hn:gN (cd n)=true)(z:Int):iG [.str n,.int z]=some (.lst (ay (aO (n,rmK n z)))):=by
 have ln:=De hn;obtain⟨l1,l2,l3,l4,l5,l6,l7,l8,l9,l10,l11,l12⟩:=HY;have hz:0<=kT z/\kT z<=24:=by unfold kT;omega
 have sn:=Ct hz.1 hz.2
 have nl:(num (kT z)).length<=2:=by
  have:=(ir hz.1 hz.2).2.1;rw[BS];exact this
 have a1:bC (.str " 1 ") (.str n)=some (.str (M8 " 1 "++n)):=aQ (by omega);have a2:bC (.str (M8 " 1 "++n)) (.str " ")=some (.str (M8 " 1 "++n++M8 " ")):=aQ (by rw[cy];omega);have a3:bC (.str (M8 " 1 "++n++M8 " ")) (.str (num (kT z)))=some (.str (M8 " 1 "++n++M8 " "++num (kT z))):=aQ (by rw[cy,cy];omega);have a4:bC (.str (M8 " 1 "++n++M8 " "++num (kT z))) (.str " a So?")=some (.str (M8 " 1 "++n++M8 " "++num (kT z)++M8 " a So?")):=aQ (by rw[cy,cy,cy];omega);have hl:(M8 " 1 "++n++M8 " "++num (kT z)++M8 " a So?").length<=30:=by rw[cy,cy,cy,cy];omega
 have lm:(1+z / 4 % 9)=kT z:=rfl;have m1:=A3 n (kT z);have m2:=wU n (kT z);generalize hL:M8 " 1 "++n++M8 " "++num (kT z)++M8 " a So?"=L at *;have a5:bC (.str "menu ") (.str n)=some (.str (M8 "menu "++n)):=aQ (by omega);have a6:bC (.str (M8 "menu "++n)) (.str L)=some (.str (M8 "menu "++n++L)):=aQ (by rw[cy];omega);have a7:bC (.str "names ") (.str n)=some (.str (M8 "names "++n)):=aQ (by omega);have a8:bC (.str (M8 "names "++n)) (.str L)=some (.str (M8 "names "++n++L)):=aQ (by rw[cy];omega);have a9:bC (.str "hours ") (.str n)=some (.str (M8 "hours "++n)):=aQ (by omega);have b1:bC (.str (M8 "hours "++n)) (.str " a")=some (.str (M8 "hours "++n++M8 " a")):=aQ (by rw[cy];omega);have b2:bC (.str "from 0 24 ") (.str n)=some (.str (M8 "from 0 24 "++n)):=aQ (by omega);have b3:bC (.str "hand ") (.str n)=some (.str (M8 "hand "++n)):=aQ (by omega);have b4:bC (.str (M8 "hand "++n)) (.str " So. ")=some (.str (M8 "hand "++n++M8 " So. ")):=aQ (by rw[cy];omega);have b5:bC (.str "name abc ") (.str n)=some (.str (M8 "name abc "++n)):=aQ (by omega);have q0:(z % 4=0\/z % 4=1)\/z % 4=2\/z % 4=3:=by omega
 rcases q0 with (h | h) | h | h
 ·have ix:atI [PV.str "menu",.str "names",.str "hours",.str "hand"] (z % 4)=some (.str "menu"):=bR (n:=0) h rfl
  have er:rmK n z=.menu "So?" ((fW n).take (1+(z / 16 % 3).toNat)) (1,n) (kT z,"a"):=by unfold rmK;rw[h];rfl
  have kc:=xl n ln []
  have ct:jf ((fW n).map fun k=>PV.str (mkS (bZ (.ben (.key k.1 k.2))))) none (some (1+z / 16 % 3))=((fW n).take (1+(z / 16 % 3).toNat)).map fun k=>PV.str (mkS (bZ (.ben (.key k.1 k.2)))):=by
   rw[show 1+z / 16 % 3=((1+(z / 16 % 3).toNat:Nat):Int) by omega,NM.cut_to _ _ (by rw[MC];simp only[fW,MI,OD];omega),Pa]
  have ad:∀(a:PV)(l:List (Str×Str)),l.length<=12->bC (.lst [a]) (.lst (l.map fun k=>PV.str (mkS (bZ (.ben (.key k.1 k.2))))))=some (.lst (a::l.map fun k=>PV.str (mkS (bZ (.ben (.key k.1 k.2)))))):=fun a l hl=>cS (by rw[MC];simp;omega);have ad:=ad (.str (M8 "menu "++n++L)) ((fW n).take (1+(z / 16 % 3).toNat)) (by rw[Mn];simp only[fW,MI,OD];omega);rw[er];refine aR rfl ?_
  have fin:ay (aO (n,.menu "So?" ((fW n).take (1+(z / 16 % 3).toNat)) (1,n) (kT z,"a")))=PV.str (M8 "menu "++n++L)::((fW n).take (1+(z / 16 % 3).toNat)).map fun k=>PV.str (mkS (bZ (.ben (.key k.1 k.2)))):=by
   rw[m1];simp[ay,aO,bL,cq,Mt,OA]
  rw[fin];have e1:gEq (.str "menu") (.str "menu")=some (.bl true):=rfl;generalize ((fW n).take (1+(z / 16 % 3).toNat)).map (fun k=>PV.str (mkS (bZ (.ben (.key k.1 k.2)))))=T at *;generalize hK:(fW n).map (fun k=>PV.str (mkS (bZ (.ben (.key k.1 k.2)))))=KK at *;have hkl:KK.length<=16777216:=by rw[← hK,MC];simp[fW]
  simp (disch:=omega) [eV,PU.start,jZ,pI,ix,lm,sn,a1,a2,a3,a4,e1,kc,gO,hkl,a5,a6,ct,ad]
 ·have ix:atI [PV.str "menu",.str "names",.str "hours",.str "hand"] (z % 4)=some (.str "names"):=bR (n:=1) h rfl
  have er:rmK n z=.names "So?" ((eO n).take (1+(z / 16 % 2).toNat)) (1,n) (kT z,"a"):=by unfold rmK;rw[h];rfl
  have kc:[PV.str "name ab a",.str (M8 "name abc "++n)]=(eO n).map fun k=>PV.str (mkS (bZ (.ben (.name k.1 k.2)))):=by rw[En,Hx];rfl
  have ct:jf ((eO n).map fun k=>PV.str (mkS (bZ (.ben (.name k.1 k.2))))) none (some (1+z / 16 % 2))=((eO n).take (1+(z / 16 % 2).toNat)).map fun k=>PV.str (mkS (bZ (.ben (.name k.1 k.2)))):=by
   rw[show 1+z / 16 % 2=((1+(z / 16 % 2).toNat:Nat):Int) by omega,NM.cut_to _ _ (by rw[MC];simp only[eO,MI,OD];omega),Pa]
  rw[← kc] at ct;have ad:∀(a:PV)(l:List (Str×Str)),l.length<=12->bC (.lst [a]) (.lst (l.map fun k=>PV.str (mkS (bZ (.ben (.name k.1 k.2))))))=some (.lst (a::l.map fun k=>PV.str (mkS (bZ (.ben (.name k.1 k.2)))))):=fun a l hl=>cS (by rw[MC];simp;omega);have ad:=ad (.str (M8 "names "++n++L)) ((eO n).take (1+(z / 16 % 2).toNat)) (by rw[Mn];simp only[eO,MI,OD];omega);rw[er];refine aR rfl ?_
  have fin:ay (aO (n,.names "So?" ((eO n).take (1+(z / 16 % 2).toNat)) (1,n) (kT z,"a")))=PV.str (M8 "names "++n++L)::((eO n).take (1+(z / 16 % 2).toNat)).map fun k=>PV.str (mkS (bZ (.ben (.name k.1 k.2)))):=by
   rw[m2];simp[ay,aO,bL,cq,Mt,OA]
  rw[fin];have e1:gEq (.str "names") (.str "menu")=some (.bl false):=rfl;have e2:gEq (.str "names") (.str "names")=some (.bl true):=rfl;generalize ((eO n).take (1+(z / 16 % 2).toNat)).map (fun k=>PV.str (mkS (bZ (.ben (.name k.1 k.2)))))=T at *;simp (disch:=omega) [eV,PU.start,jZ,pI,ix,lm,sn,a1,a2,a3,a4,e1,e2,a7,a8,b5,ct,ad]
 ·have ix:atI [PV.str "menu",.str "names",.str "hours",.str "hand"] (z % 4)=some (.str "hours"):=bR (n:=2) h rfl
  have er:rmK n z=.hours [(0,24,n)] "a":=by unfold rmK;rw[h];rfl
  rw[er];refine aR rfl ?_
  have fin:ay (aO (n,.hours [(0,24,n)] "a"))=[PV.str (M8 "hours "++n++M8 " a"),.str (M8 "from 0 24 "++n)]:=by
   rw[xC,Aw];rfl
  rw[fin];have e1:gEq (.str "hours") (.str "menu")=some (.bl false):=rfl;have e2:gEq (.str "hours") (.str "names")=some (.bl false):=rfl;have e3:gEq (.str "hours") (.str "hours")=some (.bl true):=rfl;simp (disch:=omega) [eV,PU.start,jZ,pI,ix,lm,sn,a1,a2,a3,a4,e1,e2,e3,a9,b1,b2]
 ·have ix:atI [PV.str "menu",.str "names",.str "hours",.str "hand"] (z % 4)=some (.str "hand"):=bR (n:=3) h rfl
  have er:rmK n z=.hand "So. ":=by unfold rmK;rw[h];rfl
  rw[er];refine aR rfl ?_
  have fin:ay (aO (n,.hand "So. "))=[PV.str (M8 "hand "++n++M8 " So. ")]:=by
   rw[Ar];rfl
  rw[fin];have e1:gEq (.str "hand") (.str "menu")=some (.bl false):=rfl;have e2:gEq (.str "hand") (.str "names")=some (.bl false):=rfl;have e3:gEq (.str "hand") (.str "hours")=some (.bl false):=rfl;simp (disch:=omega) [eV,PU.start,jZ,pI,ix,lm,sn,a1,a2,a3,a4,e1,e2,e3,b3,b4]
theorem ra:gN (cd (M8 "a"))=true:=by decide +kernel
theorem CY:m4 (cd (M8 "So?"))=true/\m4 (cd (M8 "So. "))=true:=by decide +kernel
theorem ky3:ma (cd (M8 "0"))=true/\ma (cd (M8 "7"))=true/\ma (cd (M8 "#"))=true/\dJ 12 (cd (M8 "ab"))=true/\dJ 12 (cd (M8 "abc"))=true:=by decide +kernel
theorem Ko (a b:Str):uo [] (M8 "0")=true/\uo [(M8 "0",a)] (M8 "7")=true/\uo [(M8 "0",a),(M8 "7",b)] (M8 "#")=true/\zv [] (M8 "ab")=true/\zv [(M8 "ab",a)] (M8 "abc")=true:=
 ⟨rfl,(by decide +kernel:decide (kix (M8 "0")<kix (M8 "7"))=true),(by decide +kernel:decide (kix (M8 "7")<kix (M8 "#"))=true),rfl,(by decide +kernel:decide ((M8 "ab").cps.toList<(M8 "abc").cps.toList)=true)⟩
theorem vU(n:Str)(hn:gN (cd n)=true)(z:Int):GoodRoom (rmK n z):=by
 have hz:1<=kT z/\kT z<=9:=by unfold kT;omega
 have g1:C3 (1,n):=⟨(by decide:(1:Int)<=1),(by decide:(1:Int)<=9),hn⟩;have g2:C3 (kT z,M8 "a"):=⟨hz.1,hz.2,ra⟩;have q0:(z % 4=0\/z % 4=1)\/z % 4=2\/z % 4=3:=by omega
 obtain⟨k1,k2,k3,k4,k5⟩:=ky3;rcases q0 with (h | h) | h | h
 ·have er:rmK n z=.menu "So?" ((fW n).take (1+(z / 16 % 3).toNat)) (1,n) (kT z,"a"):=by unfold rmK;rw[h];rfl
  obtain⟨r1,r2,r3,_⟩:=Ko "back" n;rw[er];have hc:(z / 16 % 3).toNat=0\/(z / 16 % 3).toNat=1\/(z / 16 % 3).toNat=2:=by omega
  have b0:GBn (.key "0" "back"):=⟨k1,.inr Ec⟩;have b1:GBn (.key "7" n):=⟨k2,.inl hn⟩;have b2:GBn (.key "#" "a"):=⟨k3,.inl ra⟩;refine⟨⟨CY.1,g1,g2⟩,fun x hx=>?_,?_,fun t ks a b e=>(by cases e),?_⟩
  ·simp only[bL,Mr] at hx
   obtain⟨k,hk,rfl⟩:=hx;have hk:=Ob hk;simp only[fW,MH,Mf,or_false] at hk;rcases hk with rfl | rfl | rfl
   ·exact b0
   ·exact b1
   ·exact b2
  ·rcases hc with hc | hc | hc <;> rw[hc]
   ·simp[fW,bL,cq,oW,pE,r1]
   ·simp[fW,bL,cq,oW,pE,r1,r2]
   ·simp[fW,bL,cq,oW,pE,r1,r2,r3]
  ·simp only[bL,MC,Mn];omega
 ·have er:rmK n z=.names "So?" ((eO n).take (1+(z / 16 % 2).toNat)) (1,n) (kT z,"a"):=by unfold rmK;rw[h];rfl
  obtain⟨_,_,_,r1,r2⟩:=Ko "a" n;rw[er];have hc:(z / 16 % 2).toNat=0\/(z / 16 % 2).toNat=1:=by omega
  have b0:GBn (.name "ab" "a"):=⟨k4,ra⟩;have b1:GBn (.name "abc" n):=⟨k5,hn⟩;refine⟨⟨CY.1,g1,g2⟩,fun x hx=>?_,?_,fun t ks a b e=>?_,?_⟩
  ·simp only[bL,Mr] at hx
   obtain⟨k,hk,rfl⟩:=hx;have hk:=Ob hk;simp only[eO,MH,Mf,or_false] at hk;rcases hk with rfl | rfl
   ·exact b0
   ·exact b1
  ·rcases hc with hc | hc <;> rw[hc]
   ·simp[eO,bL,cq,oW,pE,r1]
   ·simp[eO,bL,cq,oW,pE,r1,r2]
  ·cases e
   rcases hc with hc | hc <;> rw[hc] <;> simp[eO]
  ·simp only[bL,MC,Mn];omega
 ·have er:rmK n z=.hours [(0,24,n)] "a":=by unfold rmK;rw[h];rfl
  rw[er];refine⟨ra,fun x hx=>?_,rfl,fun t ks a b e=>(by cases e),by simp[bL]⟩;have:x=.span 0 24 n:=by simpa [bL] using hx
  subst this;exact⟨by decide,by decide,by decide,by decide,hn⟩
 ·have er:rmK n z=.hand "So. ":=by unfold rmK;rw[h];rfl
  rw[er];exact⟨CY.2,fun x hx=>(by cases hx),rfl,fun t ks a b e=>(by cases e),by simp[bL]⟩
def gE:List (Str×Str):=[("0","zq"),("2","abc"),("*","y")]
def bh (k:Nat):List Rw:=.first "a"::(gE.take k).map fun l=>.letters l.1 (cd l.2)
noncomputable def dk (k:Nat) (rs:List (Str×Room)):House:=⟨"a",gE.take k,rs⟩
theorem iz(k:Nat)(rs:List (Str×Room)):bx (dk k rs)=bh k++rs.flatMap aO:=rfl
theorem rT:∀k:Nat,k<4->qu [] (gE.take k)=true/\(gE.take k).length<=3:=by decide +kernel
theorem Gz:∀l∈gE,GRw (.letters l.1 (cd l.2)):=by
 intro l hl;simp only[gE,MH,Mf,or_false] at hl;have all:∀l∈gE,(ma (cd l.1) && !decide (cd l.1=[35]) && dJ 26 (cd l.2))=true:=by decide +kernel
 have:=all l (by simp only[gE,MH,Mf,or_false];exact hl);simp only[Mk,Q5,decide_eq_false_iff_not] at this;exact⟨this.1.1,this.1.2,this.2⟩
structure RsOk(rs:List (Str×Room)):Prop where
 ln:rs.length<=12
 nd:(FA.names rs).Nodup
 g:∀r∈rs,gN (cd r.1)=true/\GoodRoom r.2
theorem dQ(k:Nat)(hk:k<4)(rs:List (Str×Room))(h:RsOk rs)(hne:rs≠[]):GoodH (dk k rs):=
 ⟨ra,fun l hl=>Gz l (Ob hl),(rT k hk).1,by have:=(rT k hk).2;show (gE.take k).length<=100;omega,h.ln,hne,h.nd,h.g⟩
theorem iF:∀(rs:List Rw)(h h':House)(k:Nat),dh h rs=some h'->kW h (rs.map some) k=.inl h'
 | [],h,h',k,e=>by cases e;rfl
 | r::rs,h,h',k,e=>by
  unfold dh at e;cases hs:bc h r with
  | none=>rw[hs] at e;cases e
  | some h1=>
   rw[hs] at e;show (match bc h r with | none=>_ | some h'=>kW h' (rs.map some) (k+1))=_;rw[hs];exact iF rs h1 h' (k+1) e
theorem jM:∀(p:List Rw)(h h':House)(k:Nat)(o:Option Rw)(rest:List (Option Rw)),dh h p=some h'->kO h' o=none->kW h (p.map some++o::rest) k=.inr (k+p.length+1)
 | [],h,h',k,o,rest,e,z=>by
  cases e;show (match kO h o with | none=>_ | some h'=>kW h' rest (k+1))=_;rw[z];rfl
 | r::rs,h,h',k,o,rest,e,z=>by
  unfold dh at e;cases hs:bc h r with
  | none=>rw[hs] at e;cases e
  | some h1=>
   rw[hs] at e;show (match bc h r with | none=>_ | some h'=>kW h' (rs.map some++o::rest) (k+1))=_;rw[hs];show kW h1 (rs.map some++o::rest) (k+1)=_;rw[jM rs h1 h' (k+1) o rest e z,MI]
   congr 1
   omega
theorem Ax{R:List Rw}{h H:House}(e:dh h R=some H)(i:Nat):∃h',dh h (R.take i)=some h'/\dh h' (R.drop i)=some H:=by
 rw[← Sw i R,ij] at e;cases hq:dh h (R.take i) with
 | none=>rw[hq] at e;cases e
 | some h'=>rw[hq] at e;exact⟨h',rfl,e⟩
theorem uM {h h':House} {r:Rw} (e:bc h r=some h') (hf:h.first≠M8 ""):h'.first=h.first:=by
 cases r with
 | first n=>dsimp only[bc] at e;rw[if_neg hf] at e;cases e
 | letters k l=>
  dsimp only[bc] at e;rw[if_neg hf] at e;unfold uX at e;split at e
  ·cases e;rfl
  ·cases e
 | room n r=>
  dsimp only[bc] at e;rw[if_neg hf] at e;split at e
  ·cases e
  ·cases e;rfl
 | ben x=>
  dsimp only[bc] at e;rw[if_neg hf] at e;unfold iT at e;split at e
  ·cases e
  ·obtain⟨y,_,e⟩:=MR.mp e
   cases e;rfl
theorem nU:∀(rs:List Rw) (h h':House),dh h rs=some h'->h.first≠M8 ""->h'.first=h.first
 | [],h,h',e,_=>by cases e;rfl
 | r::rs,h,h',e,hf=>by
  unfold dh at e;cases hs:bc h r with
  | none=>rw[hs] at e;cases e
  | some h1=>
   rw[hs] at e;have z:=uM hs hf;exact(nU rs h1 h' e (by rw[z];exact hf)).trans z
structure RowP(p:Option Rw×List Nat):Prop where
 is:AZ p.2 p.1
 nl:10 ∉ p.2
 ln:p.2.length<=1000
def fX(r:Rw):Option Rw×List Nat:=(some r,bZ r)
theorem dR(r:Rw)(g:GRw r):RowP (fX r):=let h:=Bk r g;⟨h.1,h.2.1,h.2.2⟩
theorem xu(ps:List (Option Rw×List Nat))(hl:ps.length<=1000)(h:∀p∈ps,RowP p):(cj (ps.map (·.2))).length<=2000000:=by
 have:=qw (ps.map (·.2)) fun x hx=>by
  obtain⟨p,hp,rfl⟩:=Mr.mp hx;exact(h p hp).ln
 rw[MC] at this;omega
theorem vY(ps:List (Option Rw×List Nat))(hne:ps≠[])(hl:ps.length<=1000)(h:∀p∈ps,RowP p):bH [.str (mkS (cj (ps.map (·.2))))]=some (D7 (j5 (ps.map (·.1)) (ps.map (·.2)))):=by
 refine zy (ps.map (·.1)) (ps.map (·.2)) (by simp) (by rw[MC];omega) (by simpa using hne) (fun i o x h1 h2=>?_) (fun x hx=>?_) (by have:=xu ps hl h;omega)
 ·rw[MS] at h1 h2
  cases e:ps[i]? with
  | none=>rw[e] at h1;cases h1
  | some p=>
   rw[e] at h1 h2;cases h1;cases h2;exact(h p (Nf e)).is
 ·obtain⟨p,hp,rfl⟩:=Mr.mp hx
  exact(h p hp).nl
def I9(x:List Nat):Bool:=decide (x.length<=1000) && !decide (10∈x) && [Kd.first,.letters,.menu,.key,.names,.name,.hours,.from_,.hand,.fin].all fun k=>!decide (x.takeWhile (· != 32)=k.c) || kj (rv k x)
theorem Gm{p:PV}(h:kj p=true):p=.non:=by cases p <;> first | rfl | cases h
theorem yu{x:List Nat}(h:I9 x=true):RowP (none,x):=by
 unfold I9 at h;simp only[Mk,decide_eq_true_eq,Q5,decide_eq_false_iff_not,NY,Ra] at h;obtain⟨⟨h1,h2⟩,h3⟩:=h;refine⟨⟨Mm h1 (by decide),?_⟩,h2,h1⟩
 by_cases hk:∃k:Kd,x.takeWhile (· != 32)=k.c
 ·obtain⟨k,hk⟩:=hk
  rcases h3 k (by cases k <;> simp) with z | z
  ·exact absurd hk z
  ·exact .inr ⟨k,hk,Gm z⟩
 ·exact .inl fun k z=>hk ⟨k,z⟩
noncomputable def jC:List Str:=([""," ","door a b","first a","first","letters # ab","letters 2","letters 2 aB","letters 12 ab","letters  ab","menu zz 1 a 1 a","menu zz 1 a 1 a ","menu zz 0 a 1 a t","menu zz 10 a 1 a t","menu zz 1 a 01 a t","menu zz 1 back 1 a t","menu zz 1 a 1 A t","menu back 1 a 1 a t","menu Z 1 a 1 a t","menu zzzzzzzzz 1 a 1 a t","names zz 1 a 1 a t\tu","names zz a 1 1 a t","names  1 a 1 a t","hours zz","hours zz a b","hours zz back","hours zz A","hand zz","hand zz ","hand  t","hand Zz t","end zz","end back t","end zz ttttttttttttttttttttttttttttttttttttttttttttttttttttttttttttttttttttttttttttttttt","end zz \t","End zz t"," end zz t","key","key 1 A","key a a","key 10 a","key 1 a ","key 1  a","name ab","name Ab a","name ab back","name abcdefghijklm a","name  a","from 1 2","from 2 2 a","from 3 2 a","from 1 25 a","from 24 25 a","from 01 2 a","from -1 2 a","from 1 2 back","from 1 2 a b","from a 2 a","Key 1 a","hand zz t\tu","wait 1 a"]:List String).map M8
noncomputable def others:List Str:=(["","First a","first","first A","first a b"," first a","first back","letters 2 abc","hand a t"]:List String).map M8
theorem uE:eR []=some (.lst (jC.map .str)):=by kernel_rfl
def Hq (s:Str):Bool:=I9 (cd s) || decide (s=M8 "first a") || decide (s=M8 "from 2 2 a") || decide (s=M8 "from 3 2 a")
theorem rM:jC.all Hq=true:=by decide +kernel
theorem uA:others.all (fun s=>I9 (cd s) || decide (s=M8 "letters 2 abc") || decide (s=M8 "hand a t"))=true:=by decide +kernel
theorem FT:cd (M8 "first a")=bZ (.first "a")/\cd (M8 "from 2 2 a")=bZ (.ben (.span 2 2 "a"))/\cd (M8 "from 3 2 a")=bZ (.ben (.span 3 2 "a"))/\cd (M8 "letters 2 abc")=bZ (.letters "2" [97,98,99])/\cd (M8 "hand a t")=bZ (.room "a" (.hand "t")):=by decide +kernel
theorem pP(h:House)(a b:Int)(t:Str)(hab:¬ a<b):iT h (.span a b t)=none:=by
 unfold iT
 split
 ·rfl
 ·rename_i n r _
  have:pE r (.span a b t)=none:=by
   cases r with
   | hours sp l=>show (if sp.length≠12/\a<b then _ else none)=none;rw[if_neg fun z=>hab z.2]
   | _=>rfl
  rw[this];rfl
theorem Ej (s:Str) (hs:s∈jC):∃o,RowP (o,cd s)/\∀h:House,h.first≠M8 ""->kO h o=none:=by
 have:=NY.mp rM s hs;unfold Hq at this;simp only[Ra,decide_eq_true_eq] at this;obtain⟨r1,r2,r3,_⟩:=FT;rcases this with ((z | z) | z) | z
 ·exact⟨none,yu z,fun _ _=>rfl⟩
 ·subst z
  refine⟨some (.first "a"),by rw[r1];exact dR _ ra,fun h hf=>?_⟩;show bc h (.first "a")=none;dsimp only[bc];rw[if_neg hf]
 ·subst z
  refine⟨some (.ben (.span 2 2 "a")),by rw[r2];exact dR _ ⟨by decide,by decide,by decide,by decide,ra⟩,fun h hf=>?_⟩;show bc h (.ben (.span 2 2 "a"))=none;dsimp only[bc];rw[if_neg hf];exact pP h 2 2 "a" (by decide)
 ·subst z
  refine⟨some (.ben (.span 3 2 "a")),by rw[r3];exact dR _ ⟨by decide,by decide,by decide,by decide,ra⟩,fun h hf=>?_⟩;show bc h (.ben (.span 3 2 "a"))=none;dsimp only[bc];rw[if_neg hf];exact pP h 3 2 "a" (by decide)
theorem wG(s:Str)(hs:s∈others):∃o,RowP (o,cd s)/\kO bQ o=none:=by
 have:=NY.mp uA s hs;simp only[Ra,decide_eq_true_eq] at this;obtain⟨_,_,_,r4,r5⟩:=FT;rcases this with (z | z) | z
 ·exact⟨none,yu z,rfl⟩
 ·subst z
  exact⟨some (.letters "2" [97,98,99]),by rw[r4];exact dR _ (by show ma (cd (M8 "2"))=true/\cd (M8 "2")≠[35]/\dJ 26 [97,98,99]=true;decide +kernel),rfl⟩
 ·subst z
  exact⟨some (.room "a" (.hand "t")),by rw[r5];exact dR _ ⟨ra,(by show m4 (cd (M8 "t"))=true;decide +kernel),trivial⟩,rfl⟩
theorem A0(r:Rw)(h:stw jV (bZ r)=true):r.kd=.name:=by
 unfold stw bZ at h;have:=of_decide_eq_true h
 revert this
 cases r.kd <;> simp[Kd.c,jV,TX.glue]
theorem wR(r:Rw)(h:r.kd=.names)(hp:r.parts.1≠[]\/True):stw gm (bZ r)=true:=by
 unfold stw bZ;rw[h];cases r.parts.1 <;> simp[Kd.c,gm,TX.glue]
theorem vt:∀(rs:List Rw)(k:Nat)(xs:List (List Nat)),NW rs->wlF k (rs.map bZ++xs)=wlF (k+rs.length) xs
 | [],k,xs,_=>rfl
 | r::rs,k,xs,h=>by
  have ih:=vt rs (k+1) xs h.2;rw[MN,List.cons_append,MI];show (if (stw gm (bZ r) && !stw jV ((rs.map bZ++xs).headD []))=true then k+1 else wlF (k+1) (rs.map bZ++xs))=_
  have:(stw gm (bZ r) && !stw jV ((rs.map bZ++xs).headD []))=false:=by
   cases hq:stw gm (bZ r) with
   | false=>rfl
   | true=>
    obtain⟨r',s',e,e2⟩:=h.1 (vI r hq);subst e;show (true && !stw jV (bZ r'))=false;rw[ze r' e2];rfl
  rw[if_neg (by rw[this];decide),ih,show k+1+rs.length=k+(rs.length+1) by omega]
theorem Ck(rs:List Rw)(h:NW rs):wlF 0 (rs.map bZ)=0:=by
 have:=vt rs 0 [] h;rw[N1] at this;exact this
section
variable{k : Nat}{rs : List (Str×Room)}
theorem qE (hk:k<4):dh bQ (bh k)=some ⟨"a",gE.take k,[]⟩:=by
 have e1:bc bQ (.first "a")=some ⟨"a",[],[]⟩:=by simp only[bc,bQ];exact if_pos trivial
 show ((bc bQ (.first "a")).bind _)=_;rw[e1];exact oV "a" (qm ra) (gE.take k) [] (rT k hk).1
theorem Es(k:Nat)(s:List Rw)(hs:NW s):NW (bh k++s):=by
 refine⟨fun h=>(by cases h),?_⟩
 have:∀(ls:List (Str×Str))(s:List Rw),NW s->NW ((ls.map fun l=>Rw.letters l.1 (cd l.2))++s):=fun ls s hs=>by
  induction ls with
  | nil=>exact hs
  | cons l ls ih=>exact⟨fun h=>(by cases h),ih⟩
 exact this _ _ hs
theorem uu(hk:k<4)(h:RsOk rs)(hne:rs≠[]):j5 ((bx (dk k rs)).map some) ((bx (dk k rs)).map bZ)=.inl (dk k rs):=by
 have g:=dQ k hk rs h hne;unfold j5;rw[iF _ _ _ 0 (kn _ g)];show (if rs=[] then _ else _)=_;rw[if_neg hne,Ck _ (B2 _ g),if_pos rfl]
theorem vX(hk:k<4):j5 ((bh k).map some) ((bh k).map bZ)=.inr ((bh k).length+1):=by
 unfold j5;rw[iF _ _ _ 0 (qE hk)];show (if ([]:List (Str×Room))=[] then _ else _)=_;rw[if_pos rfl,MC]
theorem lI{os:List (Option Rw)}{xs:List (List Nat)}{n:Nat}(h:kW bQ os 0=.inr n):j5 os xs=.inr n:=by
 unfold j5;rw[h]
theorem zw (hk:k<4) (h:RsOk rs) (hne:rs≠[]) (i:Nat) (hi:1<=i) (o:Option Rw) (ho:∀h:House,h.first≠M8 ""->kO h o=none) (hl:i<=(bx (dk k rs)).length) (xs:List (List Nat)) :
  j5 (((bx (dk k rs)).take i).map some++o::((bx (dk k rs)).drop i).map some) xs=.inr (i+1):=by
 have g:=dQ k hk rs h hne;obtain⟨h',e1,_⟩:=Ax (kn _ g) i
 have hf:h'.first≠M8 "":=by
  obtain⟨j,rfl⟩:∃j,i=j+1:=⟨i-1,by omega⟩;have e2:bc bQ (.first "a")=some ⟨"a",[],[]⟩:=by simp only[bc,bQ];exact if_pos trivial
  have e3:(bx (dk k rs)).take (j+1)=.first "a"::(((gE.take k).map fun l=>Rw.letters l.1 (cd l.2))++rs.flatMap aO).take j:=rfl;rw[e3] at e1;have e1:((bc bQ (.first "a")).bind fun h'=>dh h' ((((gE.take k).map fun l=>Rw.letters l.1 (cd l.2))++rs.flatMap aO).take j))=some h':=e1;rw[e2] at e1;rw[nU _ _ _ e1 (qm ra)];exact qm ra
 refine lI ?_;rw[jM _ _ _ 0 o _ e1 (ho h' hf),Mn,Nat.min_eq_left hl]
 congr 1
 omega
theorem sO(o:Option Rw)(ho:kO bQ o=none)(rest:List (Option Rw))(xs:List (List Nat)):j5 (o::rest) xs=.inr 1:=
 lI (jM [] bQ bQ 0 o rest rfl ho)
theorem zx(hk:k<4)(h:RsOk rs)(hne:rs≠[])(o:Option Rw)(ho:kO (dk k rs) o=none)(xs:List (List Nat)):j5 ((bx (dk k rs)).map some++[o]) xs=.inr ((bx (dk k rs)).length+1):=by
 have g:=dQ k hk rs h hne;refine lI ?_;rw[jM _ _ _ 0 o [] (kn _ g) ho]
 congr 1
 omega
theorem nq(n:Str)(r:Room)(hn:rs.length=12\/n∈FA.names rs):kO (dk k rs) (some (.room n r))=none:=by
 show bc (dk k rs) (.room n r)=none;show (if M8 "a"=M8 "" then none else if rs.length=12\/n∈FA.names rs then none else _)=none;rw[if_neg (qm ra)];exact if_pos hn
theorem ot(hk:k<4)(A B:List (Str×Room))(n:Str)(t:Str)(ks:List (Str×Str))(wr wa:Int×Str)(h:RsOk (A++(n,.names t ks wr wa)::B)) :
  j5 ((bh k++A.flatMap aO++.room n (.names t [] wr wa)::B.flatMap aO).map some) ((bh k++A.flatMap aO++.room n (.names t [] wr wa)::B.flatMap aO).map bZ)=.inr ((bh k++A.flatMap aO).length+1):=by
 have ln:=h.ln;have nd:=h.nd;rw[MW,MI] at ln;have hA:∀r∈A,GoodRoom r.2:=fun r hr=>(h.g r (by simp[hr])).2;have hB:∀r∈B,GoodRoom r.2:=fun r hr=>(h.g r (by simp[hr])).2;have nd':(FA.names (A++[(n,.names t ks wr wa)]++B)).Nodup:=by simpa using nd
 have nn:FA.names (A++[(n,.names t ks wr wa)]++B)=FA.names (A++[(n,.names t [] wr wa)]++B):=by simp[FA.names]
 have ndA:(FA.names A).Nodup:=by
  unfold FA.names at nd ⊢;rw[Mp,OF] at nd;exact nd.1
 have nA:n ∉ FA.names A:=fun z=>by
  unfold FA.names at nd z;rw[Mp,OF] at nd;exact nd.2.2 n z n (by simp) rfl
 have e1:dh bQ (bh k++A.flatMap aO)=some ⟨"a",gE.take k,A⟩:=by
  rw[ij,qE hk];exact iE "a" (qm ra) _ A [] (by simp;omega) (by simpa using ndA) hA
 have e2:bc ⟨"a",gE.take k,A⟩ (.room n (.names t [] wr wa))=some ⟨"a",gE.take k,A++[(n,.names t [] wr wa)]⟩:=by
  dsimp only[bc];rw[if_neg (qm ra),if_neg];intro z;rcases z with z | z
  ·have z:A.length=12:=z
   omega
  ·exact nA z
 have e3:=iE "a" (qm ra) (gE.take k) B (A++[(n,.names t [] wr wa)]) (by simp;omega) (by rw[← nn];exact nd') hB
 have e4:dh bQ (bh k++A.flatMap aO++.room n (.names t [] wr wa)::B.flatMap aO)=some ⟨"a",gE.take k,A++[(n,.names t [] wr wa)]++B⟩:=by
  rw[ij,e1];show ((bc _ _).bind _)=_;rw[e2];exact e3
 have wl:wlF 0 ((bh k++A.flatMap aO++.room n (.names t [] wr wa)::B.flatMap aO).map bZ)=(bh k++A.flatMap aO).length+1:=by
  rw[Mp,vt _ 0 _ (Es k _ (pC A hA)),MN,QS];unfold wlF;rw[wR _ rfl (.inr trivial)]
  have:stw jV (((B.flatMap aO).map bZ).headD [])=false:=by
   cases B with
   | nil=>decide
   | cons b B=>
    cases hq:stw jV (bZ (.room b.1 (cq b.2))) with
    | false=>exact hq
    | true=>
     have:=A0 _ hq;obtain⟨b1,b2⟩:=b;cases b2 <;> cases this
  rw[this];rfl
 unfold j5;rw[iF _ _ _ 0 e4];show (if A++[(n,Room.names t [] wr wa)]++B=[] then _ else _)=_;rw[if_neg (by simp),wl,if_neg (by omega)]
end
theorem zh(c:Nat)(x:List Nat)(k:Nat):(TX.spl c (k+1) x).head?=some (x.takeWhile (· != c)):=by
 unfold TX.spl;cases h:x.dropWhile (· != c) with
 | nil=>
  have:=PJ (p:=(· != c)) (l:=x);rw[h,N1] at this;rw[this];rfl
 | cons a r=>rfl
theorem sE (x:List Nat) (hx:x.length<=1000):∃l,jL (.str (mkS x)) (.str " ")=some (.lst l)/\atI l 0=some (.str (mkS (x.takeWhile (· != 32)))):=by
 have e:=TX.split_eq (c:=32) (by decide) (mkS x);rw[aV,cF] at e;have hl:=og 32 (x.length+1) x;have hh:=zh 32 x x.length;refine⟨((TX.spl 32 (x.length+1) x).map fun y=>.str (mkS y)),?_,?_⟩
 ·show (if _/\_/\(Txt.split (mkS x) (M8 " ")).length<=16777216 then some (PV.lst ((Txt.split (mkS x) (M8 " ")).map .str)) else none)=_
  rw[zi,e,if_pos ⟨by decide +kernel,by rw[cF];omega,by rw[MC];omega⟩,Mt];rfl
 ·refine bR (n:=0) rfl ?_
  rw[MS,← List.head?_eq_getElem?,hh];rfl
theorem Bl(r:Rw):(bZ r).takeWhile (· != 32)=r.kd.c:=xq _ _ _
def lead:List Rw->Nat
 | []=>0
 | r::s=>if r.kd=.name then lead s+1 else 0
theorem Dj (k:Kd):(mkS k.c=M8 "name")=(k=.name):=by rw[← xp];exact GF k .name
theorem zX (k:Kd):(mkS k.c=M8 "names")=(k=.names):=by rw[← xp];exact GF k .names
theorem AL{α:Type}(xs:List α)(n:Nat)(h:n<=xs.length):jf xs (some (n:Int)) none=xs.drop n:=by
 have e:HT.sIx xs.length 0 (some (n:Int))=n:=by
  simp only[HT.sIx];rw[if_neg (by omega)];omega
 unfold jf;rw[e];show (xs.drop n).take (HT.sIx xs.length xs.length none-n)=_;exact Ni (by rw[NI];simp[HT.sIx])
theorem xg:∀(xs ys:List Rw),lead (xs++ys)<=xs.length+lead ys
 | [],ys=>by simp
 | r::xs,ys=>by
  show (if r.kd=.name then lead (xs++ys)+1 else 0)<=_;have:=xg xs ys;rw[MI]
  split <;> omega
theorem nG(B:List (Str×Room)):lead (B.flatMap aO)=0:=by
 cases B with
 | nil=>rfl
 | cons b B=>
  obtain⟨n,r⟩:=b;show (if Room.kd (cq r)=.name then _ else 0)=0;rw[if_neg (by cases r <;> simp[Room.kd,cq])]
theorem nH(ys:List Rw):∀ks:List (Str×Str),lead (ks.map (fun k=>Rw.ben (.name k.1 k.2))++ys)=ks.length+lead ys
 | []=>by simp
 | k::ks=>by
  show (if Kd.name=.name then lead (ks.map (fun k=>Rw.ben (.name k.1 k.2))++ys)+1 else 0)=_;rw[if_pos rfl,nH ys ks,MI];omega
def tWh:PSt->R Bool:=BX (bX (au (ah 7) (un1 (ah 0) eP) gLt)) (bX (au (au (ie (au (ah 0) (ah 7) gIx) (kS " ") jL) (kI 0) gIx) (kS "name") gEq))
theorem sJ(T:List Rw)(i:Nat)(r:Rw)(h:T[i]?=some r):atI (ay T) (i:Int)=some (.str (mkS (bZ r))):=bR (n:=i) rfl (by unfold ay;rw[MS,h];rfl)
theorem hJ(T:List Rw):eP (.lst (ay T))=some (.int T.length):=by show some (PV.int (ay T).length)=_;unfold ay;rw[MC]
theorem vx(T:List Rw)(hg:∀r∈T,(bZ r).length<=1000)(a1 a2 a3 a4 a5 a6:Sl):∀(s:List Rw)(k fuel:Nat),T.drop k=s->k+s.length=T.length->lead s<fuel->
  whF tWh dD fuel [.val (.lst (ay T)),a1,a2,a3,a4,a5,a6,.val (.int k)]=.ok (.next [.val (.lst (ay T)),a1,a2,a3,a4,a5,a6,.val (.int ((k+lead s:Nat):Int))])
 | [],k,fuel,hd,hk,hf=>by
  obtain⟨f,rfl⟩:∃f,fuel=f+1:=⟨fuel-1,by omega⟩;have e1:gLt (.int (k:Int)) (.int T.length)=some (.bl false):=by show some (PV.bl (decide ((k:Int)<(T.length:Int))))=_;rw[decide_eq_false (by simp at hk;omega)]
  have e2:=hJ T
  have e3:tWh [.val (.lst (ay T)),a1,a2,a3,a4,a5,a6,.val (.int k)]=.ok false:=by
   generalize ay T=L at *;simp[tWh,e1,e2]
  show (tWh _ >>= _)=_;rw[e3];rfl
 | r::s,k,fuel,hd,hk,hf=>by
  obtain⟨f,rfl⟩:∃f,fuel=f+1:=⟨fuel-1,by omega⟩;rw[MI] at hk;have hr:T[k]?=some r:=by rw[← List.head?_drop,hd];rfl
  have e1:gLt (.int (k:Int)) (.int T.length)=some (.bl true):=by show some (PV.bl (decide ((k:Int)<(T.length:Int))))=_;rw[decide_eq_true (by omega)]
  have e2:=hJ T;have e4:=sJ T k r hr;obtain⟨l,e5,e6⟩:=sE (bZ r) (hg r (Nf hr));rw[Bl] at e6
  have e7:gEq (.str (mkS r.kd.c)) (.str "name")=some (.bl (decide (r.kd=.name))):=by
   rw[sA]
   congr 2
   exact decide_eq_decide.mpr (by rw[Dj])
  have e3:tWh [.val (.lst (ay T)),a1,a2,a3,a4,a5,a6,.val (.int k)]=.ok (decide (r.kd=.name)):=by
   generalize ay T=L at *;simp[tWh,e1,e2,e4,e5,e6,e7]
  show (tWh _ >>= _)=_;rw[e3];show (if decide (r.kd=.name)=true then _ else _)=_
  by_cases h:r.kd=.name
  ·have h1:lead (r::s)=lead s+1:=if_pos h
   rw[if_pos (by simp[h])]
   have e8:dD [.val (.lst (ay T)),a1,a2,a3,a4,a5,a6,.val (.int k)]=.ok (.next [.val (.lst (ay T)),a1,a2,a3,a4,a5,a6,.val (.int ((k+1:Nat):Int))]):=by
    simp[dD]
   rw[e8];show whF tWh dD f _=_;rw[vx T hg a1 a2 a3 a4 a5 a6 s (k+1) f (by rw[← Pr,hd];rfl) (by omega) (by omega),h1,show k+1+lead s=k+(lead s+1) by omega]
  ·have h1:lead (r::s)=0:=if_neg h
   rw[if_neg (by simp[h]),h1];rfl
noncomputable def txP(ps:List (Option Rw×List Nat)):List PV:=ps.map fun p=>.str (mkS p.2)
theorem iu(T:List Rw):txP (T.map fX)=ay T:=by simp[txP,ay,fX,Mt,OA]
theorem hU(ps:List (Option Rw×List Nat))(d:Nat)(hne:ps≠[])(hl:ps.length<=1000)(h:∀p∈ps,RowP p)(e:j5 (ps.map (·.1)) (ps.map (·.2))=.inr d):ar [.lst (txP ps),.int d]=some (.bl true):=by
 have r:=vY ps hne hl h;rw[e] at r;have:=uq (ps.map (·.2)) d d (by have:=xu ps hl h;omega) r;rw[Mt] at this;rw[show txP ps=ps.map ((fun x=>PV.str (mkS x)) ∘ fun x=>x.2) from rfl,this];simp
def bo(b:Nat):List (Str×Room)->List Nat
 | []=>[]
 | r::rs=>b::bo (b+(aO r).length) rs
theorem k8:∀(rs:List (Str×Room))(b:Nat),(bo b rs).length=rs.length
 | [],_=>rfl
 | r::rs,b=>by show (bo _ rs).length+1=rs.length+1;rw[k8 rs]
theorem pN:∀(A:List (Str×Room))(b:Nat)(r:Str×Room)(B:List (Str×Room)),(bo b (A++r::B))[A.length]?=some (b+(A.flatMap aO).length)
 | [],b,r,B=>by simp[bo]
 | a::A,b,r,B=>by
  show (b::bo (b+(aO a).length) (A++r::B))[A.length+1]?=_;rw[Mg,pN A,Nw,MW]
  congr 1
  omega
section
variable{k : Nat}{rs : List (Str×Room)}
theorem qZ(hk:k<4)(h:RsOk rs)(hne:rs≠[]):∀p∈(bx (dk k rs)).map fX,RowP p:=fun p hp=>by
 obtain⟨r,hr,rfl⟩:=Mr.mp hp;exact dR r (gY _ (dQ k hk rs h hne) r hr)
theorem yK(T:List Rw):(T.map fX).map (·.1)=T.map some/\(T.map fX).map (·.2)=T.map bZ:=by
 constructor <;> rw[Mt] <;> rfl
theorem FZ(hk:k<4)(h:RsOk rs)(hne:rs≠[])(i:Nat)(hi:1<=i)(hl:i<=(bx (dk k rs)).length)(s:Str)(hs:s∈jC) :
  ar [.lst (ay ((bx (dk k rs)).take i)++.str s::ay ((bx (dk k rs)).drop i)),.int ((i+1:Nat):Int)]=some (.bl true):=by
 obtain⟨o,ro,so⟩:=Ej s hs;have g:=qZ hk h hne;have len:=iy _ (dQ k hk rs h hne);generalize hT:bx (dk k rs)=T at *
 have:=hU ((T.take i).map fX++(o,cd s)::(T.drop i).map fX) (i+1) (by simp) (by simp;omega) (fun p hp=>?_) (by
  have:=zw hk h hne i hi o so (by rw[hT];exact hl) (((T.take i).map fX++(o,cd s)::(T.drop i).map fX).map (·.2));rw[hT] at this;rw[Mp,MN,(yK _).1,(yK _).1];exact this)
 ·rw[show txP ((T.take i).map fX++(o,cd s)::(T.drop i).map fX)=ay (T.take i)++.str s::ay (T.drop i) by
   rw[← iu,← iu];simp[txP,gb]] at this
  exact this
 ·rw[N4,MH] at hp
  rcases hp with z | z | z
  ·obtain⟨r,hr,rfl⟩:=Mr.mp z
   exact g _ (Mr.mpr ⟨r,Ob hr,rfl⟩)
  ·subst z;exact ro
  ·obtain⟨r,hr,rfl⟩:=Mr.mp z
   exact g _ (Mr.mpr ⟨r,Qk hr,rfl⟩)
theorem Az(hk:k<4)(h:RsOk rs)(hne:rs≠[])(s:Str)(hs:s∈others):ar [.lst (.str s::ay ((bx (dk k rs)).drop 1)),.int 1]=some (.bl true):=by
 obtain⟨o,ro,so⟩:=wG s hs;have g:=qZ hk h hne;have len:=iy _ (dQ k hk rs h hne);generalize hT:bx (dk k rs)=T at *
 have:=hU ((o,cd s)::(T.drop 1).map fX) 1 (by simp) (by simp;omega) (fun p hp=>?_) (by
  rw[MN];exact sO o so _ _)
 ·rw[show txP ((o,cd s)::(T.drop 1).map fX)=.str s::ay (T.drop 1) by
   rw[← iu];simp[txP,gb]] at this
  exact this
 ·rw[MH] at hp
  rcases hp with z | z
  ·subst z;exact ro
  ·obtain⟨r,hr,rfl⟩:=Mr.mp z
   exact g _ (Mr.mpr ⟨r,Qk hr,rfl⟩)
theorem yc(hk:k<4)(h:RsOk rs)(hne:rs≠[])(o:Option Rw)(x:List Nat)(ro:RowP (o,x))(so:kO (dk k rs) o=none):ar [.lst (ay (bx (dk k rs))++[.str (mkS x)]),.int (((bx (dk k rs)).length+1:Nat):Int)]=some (.bl true):=by
 have g:=qZ hk h hne;have len:=iy _ (dQ k hk rs h hne);generalize hT:bx (dk k rs)=T at *
 have:=hU (T.map fX++[(o,x)]) (T.length+1) (by simp) (by simp;omega) (fun p hp=>?_) (by
  have:=zx hk h hne o so ((T.map fX++[(o,x)]).map (·.2));rw[hT] at this;rw[Mp,(yK _).1];exact this)
 ·rw[show txP (T.map fX++[(o,x)])=ay T++[.str (mkS x)] by
   rw[← iu];simp[txP]] at this
  exact this
 ·rw[N4,NT] at hp
  rcases hp with z | z
  ·exact g _ z
  ·subst z;exact ro
theorem rl(hk:k<4)(A B:List (Str×Room))(n t:Str)(ks:List (Str×Str))(wr wa:Int×Str)(h:RsOk (A++(n,.names t ks wr wa)::B)) :
  ar [.lst (ay (bh k++A.flatMap aO++.room n (.names t [] wr wa)::B.flatMap aO)),.int (((bh k++A.flatMap aO).length+1:Nat):Int)]=some (.bl true):=by
 have hg:=dQ k hk _ h (by simp);have g:=gY _ hg;have len:=iy _ hg
 have sub:∀r∈bh k++A.flatMap aO++.room n (.names t [] wr wa)::B.flatMap aO,r∈bx (dk k (A++(n,.names t ks wr wa)::B)):=fun r hr=>by
  rw[iz,Ot,Nw];simp only[N4,MH] at hr ⊢;rcases hr with (z | z) | z | z
  ·exact .inl z
  ·exact .inr (.inl z)
  ·subst z;exact .inr (.inr (.inl (by simp[aO,cq])))
  ·exact .inr (.inr (.inr z))
 have lsub:(bh k++A.flatMap aO++.room n (.names t [] wr wa)::B.flatMap aO).length<=(bx (dk k (A++(n,.names t ks wr wa)::B))).length:=by
  rw[iz,Ot,Nw];simp only[MW,MI,aO];omega
 have rd:=ot hk A B n t ks wr wa h;generalize bh k++A.flatMap aO++.room n (.names t [] wr wa)::B.flatMap aO=W at *
 have:=hU (W.map fX) ((bh k++A.flatMap aO).length+1) (by
  intro z;have:W=[]:=by simpa using z
  subst this
  cases rd) (by rw[MC];omega) (fun p hp=>by
   obtain⟨r,hr,rfl⟩:=Mr.mp hp;exact dR r (g r (sub r hr))) (by rw[(yK _).1,(yK _).2];exact rd)
 rw[iu] at this;exact this
end
theorem Bf(l:List Str)(i:Int)(h0:0<=i)(h1:i<l.length):∃s,s∈l/\atI (l.map PV.str) i=some (.str s):=by
 obtain⟨n,rfl⟩:∃n:Nat,i=n:=⟨i.toNat,by omega⟩;have hn:n<l.length:=by omega
 exact⟨l[n],O6 hn,bR (n:=n) rfl (by rw[MS,Ml hn];rfl)⟩
theorem yv:RowP (none,([]:List Nat)):=yu (by decide +kernel)
theorem gZ(T:List Rw):(ay T).length=T.length:=by unfold ay;rw[MC]
theorem q8(a b:List Rw):ay (a++b)=ay a++ay b:=by unfold ay;rw[Mp]
theorem mv(T:List Rw)(i:Nat)(h:i<=T.length):jf (ay T) none (some (i:Int))=ay (T.take i):=by rw[NM.cut_to _ _ (by rw[gZ];exact h)];unfold ay;rw[Pa]
theorem mw(T:List Rw)(i:Nat)(h:i<=T.length):jf (ay T) (some (i:Int)) none=ay (T.drop i):=by rw[AL _ _ (by rw[gZ];exact h)];unfold ay;rw[SO]
theorem yw(T:List Rw)(ST:List PV)(z:Int)(i S e:Nat)(sa sb:Str)(r:Rw)(SL:Int)
  (rlen:∀r∈T,(bZ r).length<=1000) (Tp:0<T.length) (Tl:T.length<=1000)
  (ei:1+z % (T.length:Int)=i)
  (ia:atI (jC.map PV.str) (z / 64 % 61)=some (.str sa)) (ib:atI (others.map PV.str) (z / 8 % 9)=some (.str sb))
  (lS:eP (.lst ST)=some (.int SL)) (lp:0<SL) (iS:atI ST (z % SL)=some (.int S)) (hr:T[S]?=some r)
  (hle:lead (T.drop (S+1))<300) (he:e=S+1+lead (T.drop (S+1)))
  (cT:jf (ay T) none (some (i:Int))=ay (T.take i)) (cD:jf (ay T) (some (i:Int)) none=ay (T.drop i)) (c1:jf (ay T) (some 1) none=ay (T.drop 1))
  (r1:ar [.lst (ay (T.take i)++.str sa::ay (T.drop i)),.int ((i:Int)+1)]=some (.bl true))
  (r2:ar [.lst (.str sb::ay (T.drop 1)),.int 1]=some (.bl true))
  (r3:ar [.lst (ay T++[.str ""]),.int ((T.length:Int)+1)]=some (.bl true))
  (r4:ar [.lst (ay T++[.str (mkS (bZ r))]),.int ((T.length:Int)+1)]=some (.bl true))
  (r5:r.kd=.names->ar [.lst (jf (ay T) none (some ((S:Int)+1))++jf (ay T) (some (e:Int)) none),.int ((S:Int)+1)]=some (.bl true)) :
  fD [.lst (ay T),.lst ST,.int z]=some (.bl true):=by
 have l61:eP (.lst (jC.map PV.str))=some (.int 61):=by kernel_rfl
 have n0:=uE;have oS:([.str "",.str "First a",.str "first",.str "first A",.str "first a b",.str " first a",.str "first back",.str "letters 2 abc",.str "hand a t"]:List PV)=others.map PV.str:=rfl;have oL:(others.map PV.str).length<=16777216:=by rw[MC];decide
 have hSn:T.drop S=r::T.drop (S+1):=by
  obtain⟨hl,e⟩:=Mc.mp hr;rw[On hl,e]
 have hSl:S<T.length:=(Mc.mp hr).1;have e4:=sJ T S r hr;have lT:=hJ T;obtain⟨l,e5,e6⟩:=sE (bZ r) (rlen r (Nf hr));rw[Bl] at e6
 have e7:gEq (.str (mkS r.kd.c)) (.str "names")=some (.bl (decide (r.kd=.names))):=by
  rw[sA]
  congr 2
  exact decide_eq_decide.mpr (by rw[zX])
 have wh:=fun a1 a2 a3 a4 a5 a6=>vx T rlen a1 a2 a3 a4 a5 a6 (T.drop (S+1)) (S+1) 300 rfl (by rw[NI];omega) hle;rw[← he] at wh;simp only[Qb,Int.cast_ofNat_Int] at wh;unfold tWh at wh;have mz:oU (.int z) (.int T.length)=some (.int (z % T.length)):=jZ (by omega);have mS:oU (.int z) (.int SL)=some (.int (z % SL)):=jZ lp;have nL:=gZ T;have nL1:(ay (T.take i)).length<=1000:=by rw[gZ,Mn];omega
 have nL2:(ay (T.drop i)).length<=1000:=by rw[gZ,NI];omega
 have nL3:(ay (T.drop 1)).length<=1000:=by rw[gZ,NI];omega
 have a1:=cS (a:=ay (T.take i)) (b:=[.str sa]) (by simp;omega);have a1':bC (.lst (ay (T.take i)++[.str sa])) (.lst (ay (T.drop i)))=some (.lst (ay (T.take i)++.str sa::ay (T.drop i))):=by rw[cS (by simp;omega),Q4];rfl
 have a2:bC (.lst [.str sb]) (.lst (ay (T.drop 1)))=some (.lst (.str sb::ay (T.drop 1))):=cS (by rw[QZ];omega);have a3:=fun s=>cS (a:=ay T) (b:=[.str s]) (by simp;omega)
 have nc:∀a b,(jf (ay T) a b).length<=1000:=fun a b=>by
  unfold jf;rw[Mn,NI];omega
 have a5:=fun a b c d=>cS (a:=jf (ay T) a b) (b:=jf (ay T) c d) (by have:=nc a b;have:=nc c d;omega);generalize ay T=L at *;generalize ay (T.take i)=L1 at *;generalize ay (T.drop i)=L2 at *;generalize ay (T.drop 1)=L3 at *;generalize jC.map PV.str=NR at *;generalize others.map PV.str=OR at *;generalize mkS (bZ r)=sx at *;generalize mkS r.kd.c=sk at *;have i0:atI L (S:Int)=some (.str sx):=e4;refine aR rfl ?_
 by_cases hk:r.kd=.names
 ·have r5':=r5 hk
  simp only[hk,decide_true] at e7;simp (disch:=omega) [gG,PU.start,mz,mS,n0,lT,l61,ei,cT,cD,c1,a1,a1',a2,a3,a5,jZ,pI,ia,ib,oS,oL,r1,r2,r3,r4,r5',lS,iS,i0,e5,e6,e7,wh]
 ·simp only[hk,decide_false] at e7
  simp (disch:=omega) [gG,PU.start,mz,mS,n0,lT,l61,ei,cT,cD,c1,a1,a1',a2,a3,a5,jZ,pI,ia,ib,oS,oL,r1,r2,r3,r4,lS,iS,i0,e5,e6,e7,wh]
theorem zV:jC.length=61:=by decide +kernel
theorem zR:others.length=9:=by decide +kernel
theorem Eg(r:Room)(h:GoodRoom r):(bL r).length<=12:=by
 have:=h.nb;omega
section
variable{k : Nat}{rs : List (Str×Room)}
theorem AV(hk:k<4)(h:RsOk rs)(hne:rs≠[])(z:Int):fD [.lst (ay (bx (dk k rs))),.lst ((bo (bh k).length rs).map fun n:Nat=>PV.int (n:Int)),.int z]=some (.bl true):=by
 have hg:=dQ k hk rs h hne;have len:=iy _ hg;have rlen:∀r∈bx (dk k rs),(bZ r).length<=1000:=fun r hr=>(Bk r (gY _ hg r hr)).2.2;have hrl:0<rs.length:=List.length_pos_iff.mpr hne;obtain⟨j,hj,ej⟩:∃j:Nat,j<rs.length/\z % (rs.length:Int)=j:=⟨(z % (rs.length:Int)).toNat,by have:=R7 z (show (0:Int)<rs.length by omega);have:=Qc z (show (rs.length:Int)≠0 by omega);omega,by have:=Qc z (show (rs.length:Int)≠0 by omega);omega⟩;obtain⟨A,n,r,B,eA,hAl⟩:∃A n r B,rs=A++(n,r)::B/\A.length=j:=⟨rs.take j,rs[j].1,rs[j].2,rs.drop (j+1),by rw[← On hj];exact(Sw j rs).symm,by rw[Mn];omega⟩;obtain⟨P,hP⟩:∃P,P=bh k++A.flatMap aO:=⟨_,rfl⟩
 have hT:bx (dk k rs)=P++.room n (cq r)::((bL r).map .ben++B.flatMap aO):=by
  rw[iz,eA,Ot,Nw,hP];simp[aO]
 have iS:atI ((bo (bh k).length rs).map fun n:Nat=>PV.int (n:Int)) (z % (rs.length:Int))=some (.int (P.length:Nat)):=by
  rw[ej];refine bR (n:=j) rfl ?_;rw[MS,eA,← hAl,pN,hP,MW];rfl
 have lS:eP (.lst ((bo (bh k).length rs).map fun n:Nat=>PV.int (n:Int)))=some (.int (rs.length:Int)):=by show some (PV.int (Ql _ _).length)=_;rw[MC,k8]
 have again:=nq (k:=k) (rs:=rs) n (cq r) (.inr (by rw[eA];simp[FA.names]));have rg:RowP (some (.room n (cq r)),bZ (.room n (cq r))):=dR _ (gY _ hg _ (by rw[hT];simp));have r4:=yc hk h hne _ _ rg again;have r3:=yc hk h hne none [] yv rfl;have goodr:=(h.g (n,r) (by rw[eA];simp)).2
 have wl:∀t ks wr wa,r=.names t ks wr wa->ar [.lst (ay (P++.room n (.names t [] wr wa)::B.flatMap aO)),.int ((P.length+1:Nat):Int)]=some (.bl true):=fun t ks wr wa e=>by
  subst e;rw[hP];exact rl hk A B n t ks wr wa (by rw[← eA];exact h)
 have pt:=fun i h1 h2 s hs=>FZ hk h hne i h1 h2 s hs;have ft:=fun s hs=>Az hk h hne s hs;have Tp:0<(bx (dk k rs)).length:=by rw[hT];simp;omega
 have hS1:(bx (dk k rs)).drop (P.length+1)=(bL r).map .ben++B.flatMap aO:=by rw[hT,← Pr,List.drop_left];rfl
 obtain⟨i,e1,hi1,hi2⟩:∃i:Nat,1+z % ((bx (dk k rs)).length:Int)=i/\1<=i/\i<=(bx (dk k rs)).length:=by
  generalize (bx (dk k rs)).length=t at *;have q1:=Qc z (show (t:Int)≠0 by omega);have q2:=R7 z (show (0:Int)<t by omega);exact⟨(1+z % (t:Int)).toNat,by omega,by omega,by omega⟩
 obtain⟨sa,ha,ia⟩:=Bf jC (z / 64 % 61) (by omega) (by rw[zV];omega);obtain⟨sb,hb,ib⟩:=Bf others (z / 8 % 9) (by omega) (by rw[zR];omega);have bl:=Eg r goodr
 have hle:lead ((bx (dk k rs)).drop (P.length+1))<=12:=by
  rw[hS1];have:=xg ((bL r).map .ben) (B.flatMap aO);rw[nG,MC] at this;omega
 refine yw _ _ z i P.length _ sa sb (.room n (cq r)) rs.length rlen Tp (by omega) e1 ia ib lS (by omega) iS (by rw[hT];simp) (by omega) rfl (mv _ _ hi2) (mw _ _ hi2) (mw _ 1 (by omega)) ?_ (ft sb hb) ?_ ?_ ?_
 ·have:=pt i hi1 hi2 sa ha
  rw[Qb] at this;exact this
 ·rw[Qb] at r3
  exact r3
 ·rw[Qb] at r4
  exact r4
 ·intro hn
  cases r with
  | names t ks wr wa=>
   have:=wl t ks wr wa rfl
   have hle2:lead ((bx (dk k rs)).drop (P.length+1))=ks.length:=by
    rw[hS1];have:=nH (B.flatMap aO) ks;rw[nG] at this;rw[show (bL (Room.names t ks wr wa)).map Rw.ben=ks.map (fun k=>Rw.ben (.name k.1 k.2)) by show (Ql _ ks).map _=_;rw[Mt];rfl];exact this
   have hlen:P.length+1+ks.length<=(bx (dk k rs)).length:=by
    rw[hT];simp[bL];omega
   rw[hle2,show ((P.length:Nat):Int)+1=((P.length+1:Nat):Int) from rfl,mv _ _ (by omega),mw _ _ hlen,← q8]
   rw[show (bx (dk k rs)).take (P.length+1)++(bx (dk k rs)).drop (P.length+1+ks.length)=P++.room n (.names t [] wr wa)::B.flatMap aO by
    rw[← Pr,hS1];rw[hT];simp[bL,cq,List.take_append,RJ];exact Ni (by omega)]
   exact this
  | menu t ks wr wa=>cases hn
  | hours sp el=>cases hn
  | hand t=>cases hn
  | fin t=>cases hn
end
end K03
namespace K03
open PySem L2 PU MT NM
theorem nh:∀(rs:List (Str×Room))(b:Nat)(r:Str×Room),bo b (rs++[r])=bo b rs++[b+(rs.flatMap aO).length]
 | [],b,r=>by simp[bo]
 | a::rs,b,r=>by
  show b::bo (b+(aO a).length) (rs++[r])=b::(bo (b+(aO a).length) rs++_);rw[nh rs,Nw,MW,OS]
theorem Jk(z:Int):((Mz 13).map fun t=>nm z t).Nodup:=by
 refine List.pairwise_map.mpr (List.Pairwise.imp_of_mem (R:=(·<·)) (fun {a b} ha hb hab e=>?_) List.pairwise_lt_range);have h1:=Pq.mp ha;have h2:=Pq.mp hb;have:=Gq z a b (by omega) (by omega) e;omega
theorem Gk(nms:List Str)(hn:nms.length=13)(k:Nat)(hk:k<13):∃g,nms[k]?=some g/\atI (nms.map PV.str) (k:Int)=some (.str g):=by
 have h:k<nms.length:=by omega
 exact⟨nms[k],Ml h,bR (n:=k) rfl (by rw[MS,Ml h];rfl)⟩
abbrev wst(s:PV)(nms:List Str)(hd:List PV)(rows st cs:List PV)(a b:Sl):PSt:=
 [.val s,.val (.lst (nms.map .str)),.val (.lst hd),.val (.lst rows),.own (.lst st),.val (.lst cs),a,b,.no,.no]
theorem Jr(nms:List Str)(hn:nms.length=13)(hN:∀x∈nms,gN (cd x)=true)(s:PV)(hd:List PV)(rows st cs:List PV)(hr:rows.length<=1000)(hst:st.length<=1000)(i:Nat)(hi:i<12)(cell:Int) :
  ∃r g,GoodRoom r/\nms[i]?=some g/\mF (wst s nms hd rows st cs (.val (.int i)) (.val (.int cell)))=.ok (.next (wst s nms hd (rows++ay (aO (g,r))) (st++[.int (rows.length:Nat)]) cs (.val (.int i)) (.val (.int cell)))):=by
 obtain⟨g,hg,eg⟩:=Gk nms hn i (by omega);have gn:=hN g (Nf hg);have em:=mixed (cell+i) 48271 (by omega);generalize (cell+i) % 2147483647 * 48271 % 2147483647=z at em;have er:=CJ g gn z;have hr':=vU g gn z;have hb:=hr'.nb;have hl:(ay (aO (g,rmK g z))).length<=13:=by simp[ay,aO];omega
 have ad:=cS (a:=rows) (b:=ay (aO (g,rmK g z))) (by omega);refine⟨rmK g z,g,hr',hg,?_⟩;have hst2:st.length<16777216:=by omega
 have lr:eP (.lst rows)=some (.int rows.length):=rfl;generalize ay (aO (g,rmK g z))=T at *;simp (disch:=omega) [mF,wst,eg,em,er,ad,lr,hst2]
theorem A7(nms:List Str)(hn:nms.length=13)(hN:∀x∈nms,gN (cd x)=true)(nd:nms.Nodup)(s:PV)(k:Nat)(hk:k<4)(hd CP:List PV)(cs:List Int)(hc:cs.length<=12) :
  ∃rs a b,FA.names rs=nms.take cs.length/\(∀r∈rs,GoodRoom r.2)/\mU (ji 2 (bg (aL 6) (bg (aL 7) jj))) mF ((r9 (cs.map .int)).map .tup) (wst s nms hd (ay (bh k)) [] CP .no .no)=.ok (.next (wst s nms hd (ay (bh k++rs.flatMap aO)) ((bo (bh k).length rs).map fun n:Nat=>PV.int (n:Int)) CP a b)):=by
 have hlen:((r9 (cs.map PV.int)).map PV.tup).length=cs.length:=by simp[r9]
 have hh:(bh k).length<=4:=by
  unfold bh;rw[MI,MC,Mn];omega
 obtain⟨ρ',f1,rs,a,b,rfl,h1,h2,h3⟩:=ll (ps:=(r9 (cs.map .int)).map .tup) (h:=ji 2 (bg (aL 6) (bg (aL 7) jj))) (g:=mF) (ρ:=wst s nms hd (ay (bh k)) [] CP .no .no)
  (I:=fun i ρ=>∃rs a b,ρ=wst s nms hd (ay (bh k++rs.flatMap aO)) ((bo (bh k).length rs).map fun n:Nat=>PV.int (n:Int)) CP a b/\FA.names rs=nms.take i/\(∀r∈rs,GoodRoom r.2)/\(rs.flatMap aO).length<=i * 13) ⟨[],.no,.no,by simp[wst,bo],by simp[FA.names],fun r hr=>(by cases hr),by simp⟩ (by
   rintro i p ρ hp ⟨rs,a,b,rfl,h1,h2,h3⟩;rw[MS,sV,MS] at hp
   by_cases hi:i<cs.length
   ·rw[Ml hi] at hp
    have hp:some (PV.tup [.int i,.int cs[i]])=some p:=hp;cases hp
    have hrl:rs.length<=13:=by
     have:=congrArg Np h1;unfold FA.names at this;rw[MC,Mn] at this;omega
    have hlr:(ay (bh k++rs.flatMap aO)).length<=1000:=by simp only[MW,ay,MC];omega
    obtain⟨r,g,g1,g2,e⟩:=Jr nms hn hN s hd (ay (bh k++rs.flatMap aO)) ((bo (bh k).length rs).map fun n:Nat=>PV.int (n:Int)) CP hlr (by rw[MC,k8];omega) i (by omega) cs[i];refine⟨_,_,rfl,.inl e,rs++[(g,r)],.val (.int i),.val (.int cs[i]),?_,?_,fun q hq=>?_,?_⟩
    ·rw[nh,Mp,gZ,MW,← q8,Ot,Q4]
     simp
    ·show (rs++[(g,r)]).map (·.1)=_
     rw[Mp,List.take_add_one,g2,← h1];rfl
    ·rcases N4.mp hq with hq | hq
     ·exact h2 q hq
     ·have:q=(g,r):=by simpa using hq
      subst this;exact g1
    ·have:=g1.nb
     rw[Ot,MW];have e:([(g,r)].flatMap aO).length=(bL r).length+1:=by simp[aO]
     omega
   ·rw[Nl (by omega)] at hp
    cases hp)
 rw[hlen] at h1;exact⟨rs,a,b,h1,h2,f1⟩
theorem Hj(ns:List Int):∃cs:List Int,cs.length<=10/\jf (ns.map PV.int) (some 4) (some 14)=cs.map .int:=by
 refine⟨(ns.drop (HT.sIx ns.length 0 (some 4))).take (HT.sIx ns.length ns.length (some 14)-HT.sIx ns.length 0 (some 4)),?_,?_⟩
 ·have e1:=HT.sIx_nat ns.length 0 4
  have e2:=HT.sIx_nat ns.length ns.length 14;rw[show HT.sIx ns.length 0 (some 4)=TK 4 ns.length from e1,show HT.sIx ns.length ns.length (some 14)=TK 14 ns.length from e2,Mn,NI];omega
 ·unfold jf
  rw[MC,← SO,← Pa]
theorem DB (k:Nat) (hk:k<4):jf [PV.str "first a",.str "letters 0 zq",.str "letters 2 abc",.str "letters * y"] none (some (1+(k:Int)))=ay (bh k):=by
 have e:([PV.str "first a",.str "letters 0 zq",.str "letters 2 abc",.str "letters * y"]:List PV)=ay (bh 3):=by
  have:([M8 "first a",M8 "letters 0 zq",M8 "letters 2 abc",M8 "letters * y"]:List Str)=(bh 3).map fun r=>mkS (bZ r):=by decide +kernel
  have:=congrArg (Ql PV.str) this;rw[Mt] at this;exact this
 rw[e,show (1+(k:Int))=((1+k:Nat):Int) from rfl,mv _ _ (by show _<=4;omega)]
 congr 1
 unfold bh;rw[Nat.add_comm,TL,Ni (show gE.length<=3 by decide),← Pa]
theorem JR(cs:List Int):∃ds:List Int,ds.length<=cs.length/\jf (cs.map PV.int) none (some 5)=ds.map .int:=by
 refine⟨(cs.drop (HT.sIx cs.length 0 none)).take (HT.sIx cs.length cs.length (some 5)-HT.sIx cs.length 0 none),?_,?_⟩
 ·rw[Mn,NI]
  omega
 ·unfold jf
  rw[MC,← SO,← Pa]
theorem z8:bV [.str ""]=some (mK (.inr 1)):=by
 have:=vY [(none,[])] (by simp) (by simp) (fun p hp=>by rw[NT] at hp;subst hp;exact yv);exact k7 _ _ (this.trans (congrArg some (congrArg D7 (sO none rfl [] _))))
theorem Jq(s NN hd:PV)(k:Nat)(hk:k<4)(rs:List (Str×Room))(h:RsOk rs)(hne:rs≠[])(CP a b e:Sl)(ds:List Int) :
  ∃st a' b',mU (ji 2 (bg (aL 6) (bg (aL 7) jj))) mE ((r9 (ds.map .int)).map .tup) [.val s,.val NN,.val hd,.val (.lst (ay (bx (dk k rs)))),.own (.lst ((bo (bh k).length rs).map fun n:Nat=>PV.int (n:Int))),CP,a,b,e,.no]
   = .ok (.next [.val s,.val NN,.val hd,.val (.lst (ay (bx (dk k rs)))),st,CP,a',b',e,.no]):=by
 have aq:=AV hk h hne;generalize ay (bx (dk k rs))=L at *;generalize ((bo (bh k).length rs).map fun n:Nat=>PV.int (n:Int))=ST at *
 obtain⟨ρ',f1,st,a',b',_,rfl⟩:=ll (ps:=(r9 (ds.map .int)).map .tup) (h:=ji 2 (bg (aL 6) (bg (aL 7) jj))) (g:=mE) (ρ:=[.val s,.val NN,.val hd,.val (.lst L),.own (.lst ST),CP,a,b,e,.no])
  (I:=fun i ρ=>∃st a' b',(st=.own (.lst ST)\/st=.val (.lst ST))/\ρ=[.val s,.val NN,.val hd,.val (.lst L),st,CP,a',b',e,.no]) ⟨_,a,b,.inl rfl,rfl⟩ (by
   rintro i p ρ hp ⟨st,a',b',hst,rfl⟩;rw[MS,sV,MS] at hp
   by_cases hi:i<ds.length
   ·rw[Ml hi] at hp
    have hp:some (PV.tup [.int i,.int ds[i]])=some p:=hp;cases hp;have em:=mixed (ds[i]+i) 69621 (by omega);generalize (ds[i]+(i:Int)) % 2147483647 * 69621 % 2147483647=z at em;have aq:=aq z;refine⟨_,_,rfl,.inl (?_:mE _=.ok (.next [.val s,.val NN,.val hd,.val (.lst L),.val (.lst ST),CP,.val (.int i),.val (.int ds[i]),e,.no])),_,_,_,.inr rfl,rfl⟩;rcases hst with rfl | rfl <;> simp[mE,em,aq]
   ·rw[Nl (by omega)] at hp
    cases hp)
 exact⟨st,a',b',f1⟩
theorem Jp(s0 s1 s2 s4 s5 s6 s7 s8:Sl)(L:List PV):∃o,mU (aL 9) mD [.non,.lst L,.int 5] [s0,s1,s2,.val (.lst L),s4,s5,s6,s7,s8,.no]=.ok (.next [s0,s1,s2,.val (.lst L),s4,s5,s6,s7,s8,o]):=by
 have t1:=k7 .non _ (ou .non rfl);have t2:=k7 (.lst L) _ (ou (.lst L) rfl);have t3:=k7 (.int 5) _ (ou (.int 5) rfl);have ne:gNe (mK (.inr 1)) (.tup [.str "refused",.int 1,.bl true])=some (.bl false):=by kernel_rfl
 generalize mK (.inr 1)=V at *
 have al:∀p∈([.non,.lst L,.int 5]:List PV),bV [p]=some V:=fun p hp=>by
  simp only[MH,Mf,or_false] at hp;rcases hp with rfl | rfl | rfl <;> assumption
 obtain⟨ρ',f1,o,rfl⟩:=ll (ps:=[.non,.lst L,.int 5]) (h:=aL 9) (g:=mD) (ρ:=[s0,s1,s2,.val (.lst L),s4,s5,s6,s7,s8,.no])
  (I:=fun i ρ=>∃o,ρ=[s0,s1,s2,.val (.lst L),s4,s5,s6,s7,s8,o]) ⟨_,rfl⟩ (by
   rintro i p ρ hp ⟨o,rfl⟩;have t:=al p (Nf hp);exact⟨_,_,rfl,.inl (show mD [s0,s1,s2,.val (.lst L),s4,s5,s6,s7,s8,.val p]=.ok (.next [s0,s1,s2,.val (.lst L),s4,s5,s6,s7,s8,.val p]) by simp[mD,t,ne]),_,rfl⟩)
 exact⟨o,f1⟩
theorem Gw:M8 "hand "=mkS [104,97,110,100,32]/\M8 " t"=mkS [32,116]/\cd (M8 "t")=[116]/\(M8 "hand ").length=5/\(M8 " t").length=2/\m4 (cd (M8 "t"))=true:=by decide +kernel
theorem ID (n:Str):M8 "hand "++n++M8 " t"=mkS (bZ (.room n (.hand "t"))):=by
 obtain⟨m1,m2,m3,_⟩:=Gw;have e:bZ (.room n (.hand "t"))=TX.glue 32 [Kd.hand.c,cd n] (cd (M8 "t")):=rfl;rw[e,m1,m2,m3]
 conv=>lhs;rw[dy n]
 simp only[cQ]
 congr 1
theorem A6(ns:List Int):xT [.lst (ns.map .int)]=some (.bl true):=by
 obtain⟨x0,c0⟩:∃x,b9 [.lst (ns.map .int),.int 0]=some (.int x):=⟨_,pw ns 0⟩;obtain⟨x1,c1⟩:∃x,b9 [.lst (ns.map .int),.int 1]=some (.int x):=⟨_,pw ns 1⟩;obtain⟨x2,c2⟩:∃x,b9 [.lst (ns.map .int),.int 2]=some (.int x):=⟨_,pw ns 2⟩;obtain⟨x3,c3⟩:∃x,b9 [.lst (ns.map .int),.int 3]=some (.int x):=⟨_,pw ns 3⟩;have m0:=mixed (x0) 16807 (by omega);generalize x0 % 2147483647 * 16807 % 2147483647=z at m0;have en:fC [.int z,.int 13]=_:=names z 13 (by decide);rw[show ((Mz 13).map fun t=>PV.str (nm z t))=((Mz 13).map fun t=>nm z t).map .str by rw[Mt];rfl] at en;have hn:((Mz 13).map fun t=>nm z t).length=13:=by simp
 have hN:∀x∈(Mz 13).map fun t=>nm z t,gN (cd x)=true:=fun x hx=>by
  obtain⟨t,_,rfl⟩:=Mr.mp hx;exact Df z t
 have nd:=Jk z;generalize ((Mz 13).map fun t=>nm z t)=nms at *;obtain⟨cs,hcs,ec⟩:=Hj ns;obtain⟨k,hk,ek⟩:∃k:Nat,k<4/\x1 % 4=(k:Int):=⟨(x1 % 4).toNat,by omega,by omega⟩;have ho:=DB k hk;obtain⟨rs,a,b,k1,k2,f1⟩:=A7 nms hn hN nd (.lst (ns.map .int)) k hk (ay (bh k)) ((x2::x3::cs).map .int) (x2::x3::cs) (by simp;omega)
 have kl:rs.length=cs.length+2:=by
  have:=congrArg Np k1;unfold FA.names at this;rw[MC,Mn,MI,MI] at this;omega
 have hne:rs≠[]:=fun z=>by rw[z] at kl;simp at kl
 have ok:RsOk rs:=by
  refine⟨by omega,?_,fun r hr=>⟨?_,k2 r hr⟩⟩
  ·rw[k1]
   exact nd.sublist (Tt _ _)
  ·have:r.1∈FA.names rs:=Oo hr
   rw[k1] at this;exact hN _ (Ob this)
 rw[← iz] at f1;have hg:=dQ k hk rs ok hne;have len:=iy _ hg
 have jn:∃t,mj (.str "\n") (.lst (ay (bx (dk k rs))))=some (.str t)/\bV [.str t]=some (dk k rs).pv:=by
  have rp:=vY ((bx (dk k rs)).map fX) (by intro z;have:=congrArg Np z;rw[MC,iz] at this;simp[bh] at this) (by rw[MC];omega) (qZ hk ok hne);rw[(yK _).1,(yK _).2,uu hk ok hne] at rp;have jl:=xu ((bx (dk k rs)).map fX) (by rw[MC];omega) (qZ hk ok hne);rw[(yK _).2] at jl;have jr:=qx ((bx (dk k rs)).map bZ) (by omega);rw[Mt] at jr;exact⟨_,jr,k7 _ _ rp⟩
 obtain⟨tx,jn,tl⟩:=jn
 have rh:ar [.lst (ay (bh k)),.int ((bh k).length+1)]=some (.bl true):=by
  have hh:(bh k).length<=4:=by
   unfold bh;rw[MI,MC,Mn];omega
  have:=hU ((bh k).map fX) ((bh k).length+1) (by simp[bh]) (by rw[MC];omega) (fun p hp=>by
   obtain⟨r,hr,rfl⟩:=Mr.mp hp;exact dR r (gY _ hg r (by rw[iz];exact Oc _ hr))) (by rw[(yK _).1,(yK _).2];exact vX hk)
  rw[iu] at this;exact this
 obtain⟨g,hg12,eg⟩:=Gk nms hn 12 (by decide);have gn:=hN g (Nf hg12);have eg:atI (nms.map PV.str) 12=some (.str g):=eg
 have r13:rs.length=12->ar [.lst (ay (bx (dk k rs))++[.str (M8 "hand "++g++M8 " t")]),.int ((bx (dk k rs)).length+1)]=some (.bl true):=fun e=>by
  have hw:M8 "hand "++g++M8 " t"=mkS (bZ (.room g (.hand "t"))):=ID g;have:=yc hk ok hne (some (.room g (.hand "t"))) (bZ (.room g (.hand "t"))) (dR _ ⟨gn,Gw.2.2.2.2.2,yr (.hand "t")⟩) (nq (k:=k) (rs:=rs) g _ (.inl e));rw[hw];exact this
 have a1:bC (.str "hand ") (.str g)=some (.str (M8 "hand "++g)):=aQ (by have:=Gw.2.2.2.1;have:=De gn;omega);have a2:bC (.str (M8 "hand "++g)) (.str " t")=some (.str (M8 "hand "++g++M8 " t")):=aQ (by have:=Gw.2.2.2.1;have:=Gw.2.2.2.2.1;have:=De gn;rw[cy];omega);have a3:bC (.lst [.int x2,.int x3]) (.lst (cs.map .int))=some (.lst ((x2::x3::cs).map .int)):=cS (by simp;omega);have a4:=fun s=>cS (a:=ay (bx (dk k rs))) (b:=[.str s]) (by rw[gZ];simp;omega);have lT:=hJ (bx (dk k rs));have lH:=hJ (bh k);have lC:eP (.lst ((x2::x3::cs).map PV.int))=some (.int (cs.length+2)):=by show some (PV.int (Np (Ql _ _)))=_;rw[MC];rfl
 have isd:vf "dict" (dk k rs).pv=some (.bl true):=rfl;have rm:gIx (dk k rs).pv (.str "rooms")=some (aC rs):=by simp[House.pv,dk]
 have lR:eP (aC rs)=some (.int (cs.length+2)):=by show some (PV.int (Np (Ql _ _)))=_;rw[MC,kl];rfl
 obtain⟨ds,hds,ed⟩:=JR (x2::x3::cs);obtain⟨st,a',b',f2⟩:=Jq (.lst (ns.map .int)) (.lst (nms.map .str)) (.lst (ay (bh k))) k hk rs ok hne (.val (.lst ((x2::x3::cs).map .int))) a b (.val (dk k rs).pv) ds;obtain⟨o,f3⟩:=Jp (.val (.lst (ns.map .int))) (.val (.lst (nms.map .str))) (.val (.lst (ay (bh k)))) st (.val (.lst ((x2::x3::cs).map .int))) a' b' (.val (dk k rs).pv) (ay (bx (dk k rs)));have tn:=z8;have eq1:gEq (mK (.inr 1)) (.tup [.str "refused",.int 1,.bl true])=some (.bl true):=by kernel_rfl
 have laH:qG (.lst (ay (bh k)))=some (.lst (ay (bh k))):=rfl;simp only[wst] at f1;simp only[MN] at a3 lC f1 f2 f3 ed;generalize (dk k rs).pv=HP at *;generalize ay (bx (dk k rs))=RP at *;generalize ay (bh k)=RH at *;generalize aC rs=RR at *;generalize mK (.inr 1)=V at *;generalize nms.map PV.str=NN at *;generalize ((bo (bh k).length rs).map fun n:Nat=>PV.int (n:Int))=ST at *;refine aR rfl ?_
 by_cases h12:rs.length=12
 ·have r13:=r13 h12
  have q1:cs.length=10:=by omega
  have e12:gEq (.int ((cs.length:Int)+2)) (.int 12)=some (.bl true):=by rw[q1];rfl
  generalize cs.map PV.int=CC at *;simp (disch:=omega) [xH,PU.start,c0,c1,c2,c3,m0,en,jZ,ek,ho,laH,a3,ec];rw[f1];simp (disch:=omega) [jn,tl,isd,rm,lR,lC,lH,lT,rh,e12,eg,a1,a2,a4,r13,ed];rw[f2];simp (disch:=omega) [];rw[f3];simp[tn,eq1]
 ·have e12:gEq (.int ((cs.length:Int)+2)) (.int 12)=some (.bl false):=by
   rw[z7,decide_eq_false (by omega)]
  generalize cs.map PV.int=CC at *;simp (disch:=omega) [xH,PU.start,c0,c1,c2,c3,m0,en,jZ,ek,ho,laH,a3,ec];rw[f1];simp (disch:=omega) [jn,tl,isd,rm,lR,lC,lH,lT,rh,e12,eg,a1,a2,a4,ed];rw[f2];simp (disch:=omega) [];rw[f3];simp[tn,eq1]
end K03
namespace K03
open PySem PySem.Spec PyProof.Rows L2 PU
seal EV EO EN EA ET EW SV SVs TGt Eo TCt Ep EI ETs ED EOI ELF EVF ENF ETF SVF EM SVM EDN XB XT SB SBs ENT EDF
noncomputable def top(i:Nat):Stmt:=PySem.Challenge.pw_menutree_k03_what_is_no_house.main.body.getD i (.Pass ⟨0,0,0,0⟩)
abbrev iV:Stmt:=Dz (top 2) 0
theorem iB:Er "NoHouse.__init__" (ml "NoHouse") iV:=⟨_,_,_,_,_,_,_,_,_,_,_,_,_,_,_,_,fsc,by decide,rfl,rfl,.inl rfl,by decide,by decide,fun _ _ _ _ _ _ _ _=>rfl,fun _=>⟨_,rfl⟩,fun _=>rfl,fun _=>rfl⟩
structure Txt(w:Me)(K:M9)(mg:Str->Option Value):Prop where
 n_ValueError:mg "ValueError"=none
 n_all:mg "all"=none
 n_any:mg "any"=none
 n_bool:mg "bool"=none
 n_dict:mg "dict"=none
 n_enumerate:mg "enumerate"=none
 n_int:mg "int"=none
 n_isinstance:mg "isinstance"=none
 n_len:mg "len"=none
 n_list:mg "list"=none
 n_ord:mg "ord"=none
 n_range:mg "range"=none
 n_str:mg "str"=none
 n_tuple:mg "tuple"=none
 n_zip:mg "zip"=none
 c_BENEATH:@Con (tw w) K mg "BENEATH" c_BENEATH
 c_FIELDS:@Con (tw w) K mg "FIELDS" c_FIELDS
 c_FIGURES:@Con (tw w) K mg "FIGURES" c_FIGURES
 c_KEYS:@Con (tw w) K mg "KEYS" c_KEYS
 c_MOST_BENEATH:@Con (tw w) K mg "MOST_BENEATH" c_MOST_BENEATH
 c_MOST_ROOMS:@Con (tw w) K mg "MOST_ROOMS" c_MOST_ROOMS
 c_PER_CENT:@Con (tw w) K mg "PER_CENT" c_PER_CENT
 c_ROOM_KINDS:@Con (tw w) K mg "ROOM_KINDS" c_ROOM_KINDS
 c_SMALL_LETTERS:@Con (tw w) K mg "SMALL_LETTERS" c_SMALL_LETTERS
 x_NoHouse:AX K mg "NoHouse" "NoHouse.__init__" iV
 k_NoHouse:Catch K mg "NoHouse" ["NoHouse"]
 xf:∀c∈[("NoHouse":Str)],AY K c
 i_Faulty:IsO K mg "Faulty" (gI "NoHouse" false)
 i_MenuError:IsO K mg "MenuError" (gI "NoHouse" true)
 i_NoCall:IsO K mg "NoCall" (gI "NoHouse" false)
 i_NoHour:IsO K mg "NoHour" (gI "NoHouse" false)
 i_NoName:IsO K mg "NoName" (gI "NoHouse" false)
 i_NoRow:IsO K mg "NoRow" (gI "NoHouse" false)
 i_NoSigns:IsO K mg "NoSigns" (gI "NoHouse" false)
 i_ValueError:XIs K (gI "NoHouse" true) (.type "ValueError")
end K03
namespace K03
open PySem PySem.Spec PyProof.Rows L2 PU
seal EV EO EN EA ET EW SV SVs TGt Eo TCt Ep EI ETs ED EOI ELF EVF ENF ETF SVF EM SVM EDN XB XT SB SBs ENT EDF
variable{P : MP}{w : Me}{K : M9}{mg : Str → Option Value}{base : Heap}
abbrev gW:Stmt:=top 14
theorem ju:FnScope ["text","most"] ["text","most"] (af gW):=fsc
theorem cf (T:Txt w K mg) (hs:Hs K mg "is_letters" gW):@PF (tw w) P w K mg base 1 "is_letters" br:=
 letI:TW:=tw w
 lJ (g:=eF) hs ju fun _ _ _ _ _ _ _ hr=>have hu:=hr.units;(ak (ax (kF (pf Bu Bu md av (EV.o (di kY rfl T.n_len rfl (aD 0))) (aD 1)) (jQ (di JT rfl T.n_all rfl (EN.o (pj (N':=["sign"]) (cok ju) (nW (bW 0)) (fun _ _ _ _ _=>(yG 0)) (fun _ _ _ _ _=>(df (Bv hu) (aD 0) (EV.o (fL rfl T.c_SMALL_LETTERS)))))))))))
abbrev lF:Stmt:=top 15
theorem uk:FnScope ["text"] ["text"] (af lF):=fsc
theorem iA (T:Txt w K mg) (hs:Hs K mg "is_name" lF) (cf:@PF (tw w) P w K mg base 1 "is_letters" br):@PF (tw w) P w K mg base 2 "is_name" il:=
 letI:TW:=tw w
 lJ (g:=jJ) hs uk fun _ _ _ _ _ _ _ hr=>have hu:=hr.units;(ak (ax (kF (aG cf hr (aa (bW 0) (aa bE ai))) (jQ (df (Bt hu) (aD 0) aH)))))
abbrev lE:Stmt:=top 16
theorem uj:FnScope ["text"] ["text"] (af lE):=fsc
theorem kg (T:Txt w K mg) (hs:Hs K mg "is_word" lE) (cf:@PF (tw w) P w K mg base 1 "is_letters" br):@PF (tw w) P w K mg base 2 "is_word" jN:=
 letI:TW:=tw w
 lJ (g:=mi) hs uj fun _ _ _ _ _ _ _ hr=>have hu:=hr.units;(ak (ax (aG cf hr (aa (bW 0) (aa bE ai)))))
abbrev oo:Stmt:=top 17
theorem vP:FnScope ["text"] ["text"] (af oo):=fsc
theorem jy (T:Txt w K mg) (hs:Hs K mg "is_key" oo):@PF (tw w) P w K mg base 1 "is_key" jO:=
 letI:TW:=tw w
 lJ (g:=jK) hs vP fun _ _ _ _ _ _ _ hr=>have hu:=hr.units;(ak (ax (kF (df (iJ hu) (EV.o (di kY rfl T.n_len rfl (aD 0))) av) (jQ (df (Bv hu) (aD 0) (EV.o (fL rfl T.c_KEYS)))))))
abbrev f9:Stmt:=top 18
theorem kR:FnScope ["sign"] ["sign"] (af f9):=fsc
theorem eM (T:Txt w K mg) (hs:Hs K mg "is_plain_sign" f9):@PF (tw w) P w K mg base 1 "is_plain_sign" dA:=
 letI:TW:=tw w
 lJ (g:=cI) hs kR fun _ _ _ _ _ _ _ hr=>have hu:=hr.units;(ak (ax (kF (pf Bu Bu md aH (aD 0) aH) (jQ (df (Bt hu) (EV.o (di LF rfl T.n_ord rfl (aD 0))) (EV.o (fL rfl T.c_PER_CENT)))))))
abbrev kf:Stmt:=top 19
theorem lB:FnScope ["text"] ["text"] (af kf):=fsc
theorem j8 (T:Txt w K mg) (hs:Hs K mg "is_plain" kf) (eM:@PF (tw w) P w K mg base 1 "is_plain_sign" dA):@PF (tw w) P w K mg base 2 "is_plain" iH:=
 letI:TW:=tw w
 lJ (g:=gj) hs lB fun _ _ _ _ _ _ _ hr=>have hu:=hr.units;(ak (ax (kF (pf Bu Bu md av (EV.o (di kY rfl T.n_len rfl (aD 0))) av) (jQ (di JT rfl T.n_all rfl (EN.o (pj (N':=["sign"]) (cok lB) (nW (bW 0)) (fun _ _ _ _ _=>(yG 0)) (fun _ _ _ _ _=>(aG eM hr (aa (bW 0) ai))))))))))
abbrev gX:Stmt:=top 20
theorem jv:FnScope ["text"] ["text"] (af gX):=fsc
theorem gC (T:Txt w K mg) (hs:Hs K mg "is_figures" gX):@PF (tw w) P w K mg base 1 "is_figures" fK:=
 letI:TW:=tw w
 lJ (g:=da) hs jv fun _ _ _ _ _ _ _ hr=>have hu:=hr.units;(ag (bS (EW.et (pd (aT (iJ hu) bA (aD 0) aH) (jP (eJ (aX (EV.o (di JT rfl T.n_all rfl (EN.o (pj (N':=["sign"]) (cok jv) (nW (bW 0)) (fun _ _ _ _ _=>(yG 0)) (fun _ _ _ _ _=>(df (Bv hu) (aD 0) (EV.o (fL rfl T.c_FIGURES))))))))))))) (ak (ax dG)) aJ) (ak (ax (H8 (df (iJ hu) (aD 0) aH) (jQ (df (Bt hu) (EV.o (bf (ixP hu) (aD 0) av)) aH))))))
abbrev eZ:Stmt:=top 21
theorem gJ:FnScope ["text","least","most","number"] ["text","least","most"] (af eZ):=fsc
theorem cm (T:Txt w K mg) (hs:Hs K mg "number_within" eZ) (gC:@PF (tw w) P w K mg base 1 "is_figures" fK):@PF (tw w) P w K mg base 2 "number_within" b8:=
 letI:TW:=tw w
 lJ (g:=bI) hs gJ fun _ _ _ _ _ _ _ hr=>have hu:=hr.units;(ag (bS (EW.et (pd (eJ (aX (EV.o (aG gC hr (aa (bW 0) ai))))) (jP (aT Jg xB (EV.o (di kY rfl T.n_len rfl (aD 0))) (EV.o (di kY rfl T.n_len rfl (EV.o (xV cStr rfl T.n_str rfl (aD 2))))))))) (ak (ax iO)) aJ) (ag (aN 3 gJ.nd (xV JS rfl T.n_int rfl (aD 0))) (ak (ax (xX (AD Bu Bu md md (aD 1) (aD 3) (aD 2)) (bW 3) iO)))))
abbrev fS:Stmt:=top 28
theorem lD:FnScope ["room"] ["room"] (af fS):=fsc
theorem fq (T:Txt w K mg) (hs:Hs K mg "held_beneath" fS):@PF (tw w) P w K mg base 1 "held_beneath" dW:=
 letI:TW:=tw w
 lJ (g:=fY) hs lD fun _ _ _ _ _ _ _ hr=>have hu:=hr.units;(ag (bS (aT (iJ hu) bA (EV.o (bf (ixP hu) (aD 0) av)) aH) (ak (ax (bf (ixP hu) (aD 0) av))) aJ) (ak (ax (xX (aT (Bv hu) me (EV.o (bf (ixP hu) (aD 0) av)) (EV.o (fL rfl T.c_BENEATH))) (bf (ixP hu) (aD 0) av) (dB ai)))))
abbrev fP:Stmt:=top 30
theorem dq:FnScope ["rows","number","row","below"] ["rows"] (af fP):=fsc
theorem ff (T:Txt w K mg) (hs:Hs K mg "wordless_row" fP):@PF (tw w) P w K mg base 1 "wordless_row" dU:=
 letI:TW:=tw w
 lJ (g:=dS) hs dq fun _ _ _ _ _ _ _ hr=>have hu:=hr.units;(ag (ng (tK rfl T.n_enumerate (bW 0)) (sD rfl (fG (eW 1 dq.nd) (fG (eW 2 dq.nd) o6))) (ag (aN 3 dq.nd (xX (aT D9 oO (aD 1) (EV.o (di kY rfl T.n_len rfl (aD 0)))) (bf (ixP hu) (aD 0) (aD 1)) aj)) (ak (bS (EW.et (tG (aX (EV.o (kX vS wW (bW 2) aH))) (pe (eJ (aX (EV.o (kX vS wW (bW 3) aH))))))) (ak (ax (bW 1))) aJ)))) (ak (ax bE)))
abbrev vR:Stmt:=top 34
theorem Cy:FnScope ["field","part"] ["field","part"] (af vR):=fsc
theorem rH (T:Txt w K mg) (hs:Hs K mg "fits" vR) (iA:@PF (tw w) P w K mg base 2 "is_name" il) (kg:@PF (tw w) P w K mg base 2 "is_word" jN) (jy:@PF (tw w) P w K mg base 1 "is_key" jO) (cf:@PF (tw w) P w K mg base 1 "is_letters" br) (j8:@PF (tw w) P w K mg base 2 "is_plain" iH):@PF (tw w) P w K mg base 3 "fits" tF:=
 letI:TW:=tw w
 lJ (g:=ig) hs Cy fun _ _ _ _ _ _ _ hr=>have hu:=hr.units;(ag (bS (aT (iJ hu) bA (aD 0) aH) (ak (ax (aG iA hr (aa (bW 1) ai)))) aJ) (ag (bS (aT (iJ hu) bA (aD 0) aH) (ak (ax (H8 (aG iA hr (aa (bW 1) ai)) (jQ (df (iJ hu) (aD 1) aH))))) aJ) (ag (bS (aT (iJ hu) bA (aD 0) aH) (ak (ax (aG kg hr (aa (bW 1) ai)))) aJ) (ag (bS (aT (iJ hu) bA (aD 0) aH) (ak (ax (aG jy hr (aa (bW 1) ai)))) aJ) (ag (bS (aT (iJ hu) bA (aD 0) aH) (ak (ax (kF (aG jy hr (aa (bW 1) ai)) (jQ (df (Bt hu) (aD 1) aH))))) aJ) (ag (bS (aT (iJ hu) bA (aD 0) aH) (ak (ax (aG cf hr (aa (bW 1) (aa bE ai))))) aJ) (ak (ax (aG j8 hr (aa (bW 1) ai))))))))))
abbrev gy:Stmt:=top 33
theorem mM:FnScope ["field","part"] ["field","part"] (af gy):=fsc
theorem fU (T:Txt w K mg) (hs:Hs K mg "field_value" gy) (cm:@PF (tw w) P w K mg base 2 "number_within" b8) (rH:@PF (tw w) P w K mg base 3 "fits" tF):@PF (tw w) P w K mg base 4 "field_value" eS:=
 letI:TW:=tw w
 lJ (g:=cN) hs mM fun _ _ _ _ _ _ _ hr=>have hu:=hr.units;(ag (bS (aT (iJ hu) bA (aD 0) aH) (ak (ax (aG cm hr (aa (bW 1) (aa bE (aa bE ai)))))) aJ) (ag (bS (aT (iJ hu) bA (aD 0) aH) (ak (ax (aG cm hr (aa (bW 1) (aa bE (aa bE ai)))))) aJ) (ag (bS (aT (iJ hu) bA (aD 0) aH) (ak (ax (aG cm hr (aa (bW 1) (aa bE (aa bE ai)))))) aJ) (ak (ax (xX (aX (EV.o (aG rH hr (aa (bW 0) (aa (bW 1) ai))))) (bW 1) iO))))))
abbrev gT:Stmt:=top 32
theorem dw:FnScope ["kind","row","fields","parts","values"] ["kind","row"] (af gT):=fsc
theorem gz (T:Txt w K mg) (hs:Hs K mg "row_values" gT) (fU:@PF (tw w) P w K mg base 4 "field_value" eS):@PF (tw w) P w K mg base 5 "row_values" eI:=
 letI:TW:=tw w
 lJ (g:=d0) hs dw fun _ _ _ _ _ _ _ hr=>have hu:=hr.units;(ag (bS (aT (wJ hu) uJ (aD 0) (EV.o (fL rfl T.c_FIELDS))) (ak (ax iO)) aJ) (ag (aN 2 dw.nd (bf (ixP hu) (EV.o (fL rfl T.c_FIELDS)) (aD 0))) (ag (aN 3 dw.nd (dC (EV.o (JO sH Dm (bW 1) aH (EV.o (di kY rfl T.n_len rfl (aD 2))))) (eL bE) fO)) (ag (bS (aT D9 oO (EV.o (di kY rfl T.n_len rfl (aD 3))) (EV.o (di kY rfl T.n_len rfl (aD 2)))) (ak (ax iO)) aJ) (ag (vH false 4 dw.nd (N':=["field","part"]) (cok dw) (E5 rfl T.n_zip (bW 2) (bW 3)) (fun _ _ _ _ _=>(vF rfl (iw (yG 0) (iw (yG 1) rB)))) (fun _ _ _ _ _=>(aG fU hr (aa (bW 0) (aa (bW 1) ai))))) (ak (ax (xX (aT (Bv hu) me (EV.o iO) (aD 4)) iO (bW 4)))))))))
abbrev iW:Stmt:=top 39
theorem pT:FnScope ["room","held"] ["room","held"] (af iW):=fsc
theorem hZ (T:Txt w K mg) (hs:Hs K mg "with_held" iW):@PF (tw w) P w K mg base 1 "with_held" dM:=
 letI:TW:=tw w
 lJ (g:=fu) hs pT fun _ _ _ _ _ _ _ hr=>have hu:=hr.units;(ag (bS (aT (iJ hu) bA (EV.o (bf (ixP hu) (aD 0) av)) aH) (ak (ax (dB (aa (bf (ixP hu) (aD 0) av) (aa (bW 1) (aa (bf (ixP hu) (aD 0) av) ai)))))) aJ) (ak (ax (dB (aa (bf (ixP hu) (aD 0) av) (aa (bf (ixP hu) (aD 0) av) (aa (bW 1) (aa (bf (ixP hu) (aD 0) av) (aa (bf (ixP hu) (aD 0) av) ai)))))))))
abbrev j3:Stmt:=top 40
theorem pW:FnScope ["kind","held","values"] ["kind","held","values"] (af j3):=fsc
theorem eo (T:Txt w K mg) (hs:Hs K mg "is_rising" j3):@PF (tw w) P w K mg base 1 "is_rising" bj:=
 letI:TW:=tw w
 lJ (g:=cH) hs pW fun _ _ _ _ _ _ _ hr=>have hu:=hr.units;(ag (bS (aT (iJ hu) bA (aD 0) aH) (ak (ax (df D9 (EV.o (bf (ixP hu) (aD 2) av)) (EV.o (bf (ixP hu) (aD 2) av))))) aJ) (ag (bS (eJ (aX (aD 1))) (ak (ax dG)) aJ) (ag (bS (aT (iJ hu) bA (aD 0) aH) (ak (ax (df D9 (EV.o (bf (ixP hu) (EV.o (bf (ixP hu) (aD 1) (EV.o (xW bE)))) av)) (EV.o (bf (ixP hu) (aD 2) av))))) aJ) (ak (ax (df D9 (EV.o (kX Bi BC (fL rfl T.c_KEYS) (EV.o (bf (ixP hu) (EV.o (bf (ixP hu) (aD 1) (EV.o (xW bE)))) av)))) (EV.o (kX Bi BC (fL rfl T.c_KEYS) (EV.o (bf (ixP hu) (aD 2) av))))))))))
abbrev fR:Stmt:=top 38
theorem dv:FnScope ["rooms","kind","values","name","room","held"] ["rooms","kind","values"] (af fR):=fsc
theorem fm (T:Txt w K mg) (hs:Hs K mg "take_beneath" fR) (fq:@PF (tw w) P w K mg base 1 "held_beneath" dW) (eo:@PF (tw w) P w K mg base 1 "is_rising" bj) (hZ:@PF (tw w) P w K mg base 1 "with_held" dM):@PFB (tw w) P w K mg base 2 "take_beneath" bO:=
 letI:TW:=tw w
 zH (g:=bN) (F0 hs) dv fun _ _ _ _ _ _ _ hr=>have hu:=hr.units;(aK (bF (bS (eJ (aX (Hc 0))) (ak (ax dG)) aJ)) (aK (bF (aN 3 dv.nd (bf (ixP hu) (EN.o (Hd BU rfl T.n_list rfl (Hc 0))) (EV.o (xW bE))))) (aK (bF (aN 4 dv.nd (bf (ixP hu) (Hc 0) (aD 3)))) (aK (bF (bS (aT (Bt hu) oN (EV.o (DU (EV.o (fL rfl T.c_BENEATH)) (EV.o (bf (ixP hu) (aD 4) av)))) (aD 1)) (ak (ax dG)) aJ)) (aK (bF (aN 5 dv.nd (aG fq hr (aa (bW 4) ai)))) (aK (bF (bS (EW.et (pd (aT (iJ hu) bA (EV.o (di kY rfl T.n_len rfl (aD 5))) (EV.o (fL rfl T.c_MOST_BENEATH))) (jP (eJ (aX (EV.o (aG eo hr (aa (bW 1) (aa (bW 5) (aa (bW 2) ai)))))))))) (ak (ax dG)) aJ)) (aK (Bh hu (ow 0) (bW 3) (aG hZ hr (aa (bW 4) (aa (ao aS (aD 5) (EV.o (dB (aa (xV Hl rfl T.n_tuple rfl (aD 2)) ai)))) ai)))) (cP (bF (ax dG))))))))))
abbrev fQ:Stmt:=top 35
theorem du:FnScope ["house","values","told"] ["house","values"] (af fQ):=fsc
theorem fh (T:Txt w K mg) (hs:Hs K mg "take_letters" fQ) (eo:@PF (tw w) P w K mg base 1 "is_rising" bj):@PFB (tw w) P w K mg base 2 "take_letters" cw:=
 letI:TW:=tw w
 zH (g:=cv) (F0 hs) du fun _ _ _ _ _ _ _ hr=>have hu:=hr.units;(aK (pY (Cb 0 (EW.et (pd (aX (EV.o (bf (ixP hu) (aD 0) aH))) (jP (eJ (aX (EV.o (aG eo hr (aa aj (aa (bf (ixP hu) (aD 0) aH) (aa (bW 1) ai))))))))))) (cP (bF (ax dG))) gR) (aK (bF (aN 2 du.nd (ao aS (EV.o (kX CD Dn aj (EN.o (AF (N':=["key","letters"]) (cok du) (Hg (xZ 0 hu)) (fun _ _ _ _ _=>(vF rfl (iw (yG 0) (iw (yG 1) rB)))) (fun _ _ _ _ _=>(bW 1)))))) (EV.o (bf (ixP hu) (aD 1) av))))) (aK (bF (bS (aX (EV.o (di LH rfl T.n_any rfl (EN.o (pj (N':=["letter","told"]) (cok du) (nW (bf (ixP hu) (aD 1) av)) (fun _ _ _ _ _=>(yG 0)) (fun _ _ _ _ _=>(df Jg (EV.o (kX FS Gy (bW 1) (aD 0))) av))))))) (ak (ax dG)) aJ)) (aK (FQ (rJ 0 hu) (dB (aa (bf (ixP hu) (aD 1) av) (aa (bf (ixP hu) (aD 1) av) ai)))) (cP (bF (ax dG)))))))
abbrev j4:Stmt:=top 37
theorem pX:FnScope ["kind","values"] ["kind","values"] (af j4):=fsc
theorem i8 (T:Txt w K mg) (hs:Hs K mg "bare_room" j4):@PF (tw w) P w K mg base 1 "bare_room" ck:=
 letI:TW:=tw w
 lJ (g:=fA) hs pX fun _ _ _ _ _ _ _ hr=>have hu:=hr.units;(ag (bS (aT (iJ hu) bA (aD 0) aH) (ak (ax (dB (aa (bW 0) (aa (dB ai) (aa (bf (ixP hu) (aD 1) av) ai)))))) aJ) (ag (bS (aT (Bv hu) me (aD 0) (EV.o (fL rfl T.c_BENEATH))) (ak (ax (dB (aa (bW 0) (aa (bf (ixP hu) (aD 1) av) (aa (dB ai) (aa (dB (aa (bf (ixP hu) (aD 1) av) (aa (bf (ixP hu) (aD 1) av) ai))) (aa (dB (aa (bf (ixP hu) (aD 1) av) (aa (bf (ixP hu) (aD 1) av) ai))) ai)))))))) aJ) (ak (ax (dB (aa (bW 0) (aa (bf (ixP hu) (aD 1) av) ai)))))))
abbrev iX:Stmt:=top 36
theorem pU:FnScope ["rooms","kind","values"] ["rooms","kind","values"] (af iX):=fsc
theorem i5 (T:Txt w K mg) (hs:Hs K mg "take_room" iX) (i8:@PF (tw w) P w K mg base 1 "bare_room" ck):@PFB (tw w) P w K mg base 2 "take_room" dN:=
 letI:TW:=tw w
 zH (g:=fw) (F0 hs) pU fun _ _ _ _ _ _ _ hr=>have hu:=hr.units;(aK (bF (bS (EW.et (pd (aT (iJ hu) bA (EV.o (di kY rfl T.n_len rfl (Hc 0))) (EV.o (fL rfl T.c_MOST_ROOMS))) (jP (aT (Bv hu) me (EV.o (bf (ixP hu) (aD 2) av)) (Hc 0))))) (ak (ax dG)) aJ)) (aK (Bh hu (ow 0) (bf (ixP hu) (aD 2) av) (aG i8 hr (aa (bW 1) (aa (bW 2) ai)))) (cP (bF (ax dG)))))
abbrev k9:Stmt:=top 31
theorem iU:FnScope ["house","row","kind","values"] ["house","row"] (af k9):=fsc
theorem j6 (T:Txt w K mg) (hs:Hs K mg "take_row" k9) (gz:@PF (tw w) P w K mg base 5 "row_values" eI) (fh:@PFB (tw w) P w K mg base 2 "take_letters" cw) (i5:@PFB (tw w) P w K mg base 2 "take_room" dN) (fm:@PFB (tw w) P w K mg base 2 "take_beneath" bO):@PFB (tw w) P w K mg base 6 "take_row" de:=
 letI:TW:=tw w
 zH (g:=bU) (F0 hs) iU fun _ _ _ _ _ _ _ hr=>have hu:=hr.units;(aK (bF (aN 2 iU.nd (bf (ixP hu) (EV.o (kX IL Jo (bW 1) aH)) av))) (aK (bF (aN 3 iU.nd (aG gz hr (aa (bW 2) (aa (bW 1) ai))))) (aK (bF (bS (EW.et (pd (aT Jf An (aD 3) (EV.o iO)) (jP (aT (Bt hu) oN (EV.o (df (iJ hu) (aD 2) aH)) (EV.o (df (iJ hu) (xZ 0 hu) aH)))))) (ak (ax dG)) aJ)) (aK (pY (jY (aT (iJ hu) bA (aD 2) aH)) (aK (CB 0 hu (bf (ixP hu) (aD 3) av)) (cP (bF (ax dG)))) gR) (aK (pY (jY (aT (iJ hu) bA (aD 2) aH)) (cP (vQ (o3 fh hr (ow 0) (aa (bW 3) ai)))) gR) (aK (pY (jY (aT (Bv hu) me (aD 2) (EV.o (fL rfl T.c_ROOM_KINDS)))) (cP (vQ (o3 i5 hr (rJ 0 hu) (aa (bW 2) (aa (bW 3) ai))))) gR) (cP (vQ (o3 fm hr (rJ 0 hu) (aa (bW 2) (aa (bW 3) ai)))))))))))
abbrev gU:Stmt:=top 29
theorem cJ:FnScope ["text","rows","house","number","row","wordless"] ["text"] (af gU):=fsc
theorem gB (T:Txt w K mg) (hs:Hs K mg "read_house" gU) (j6:@PFB (tw w) P w K mg base 6 "take_row" de) (ff:@PF (tw w) P w K mg base 1 "wordless_row" dU):@PFTX (tw w) P w K mg base 7 "read_house" bH:=
 letI:TW:=tw w
 IT (g:=cG) (F0 hs) cJ fun _ _ _ _ _ _ _ hr=>have hu:=hr.units;(aK (pY (vg (jY (aX (EV.o (tH Dx rfl T.n_isinstance rfl T.n_str (by decide +kernel) (aD 0)))))) (cP (jw T.x_NoHouse iB z9 hr bE)) gR) (aK (bF (aN 1 cJ.nd (kX sH wX (bW 0) aH))) (aK (Cz 2 cJ.nd (AE (E6 aj (ye (bJ ai) (ye DW E7))))) (aK (FP (tK rfl T.n_enumerate (bW 1)) (sD rfl (fG (eW 3 cJ.nd) (fG (eW 4 cJ.nd) o6))) (cP (pY (vg (F8 (o3 j6 hr (ow 2) (aa (bW 4) ai)))) (cP (jw T.x_NoHouse iB z9 hr (bW 3))) gR)) (hp:=vh ⟨rfl,rfl,rfl⟩)) (aK (pY (vg (jY (aX (xZ 2 hu)))) (cP (jw T.x_NoHouse iB z9 hr (ao aS (EV.o (di kY rfl T.n_len rfl (aD 1))) av))) gR) (aK (bF (aN 5 cJ.nd (aG ff hr (aa (bW 1) ai)))) (aK (pY (jY (aT Jg xB (aD 5) av)) (cP (jw T.x_NoHouse iB z9 hr (bW 5))) gR) (cP (CA 2)))))))))
abbrev gx:Stmt:=top 42
theorem mL:FnScope ["_law_script","_law_k"] ["_law_script","_law_k"] (af gx):=fsc
theorem cu (T:Txt w K mg) (hs:Hs K mg "_law_cell_at" gx):@PF (tw w) P w K mg base 1 "_law_cell_at" b9:=
 letI:TW:=tw w
 lJ (g:=eQ) hs mL fun _ _ _ _ _ _ _ hr=>have hu:=hr.units;(ag (bS (aT D9 oO (aD 1) (EV.o (di kY rfl T.n_len rfl (aD 0)))) (ak (ax (bf (ixP hu) (aD 0) (aD 1)))) aJ) (ak (ax bE)))
abbrev iZ:Stmt:=top 43
theorem pV:FnScope ["_law_cell","_law_by"] ["_law_cell","_law_by"] (af iZ):=fsc
theorem dZ (T:Txt w K mg) (hs:Hs K mg "_law_mixed" iZ):@PF (tw w) P w K mg base 1 "_law_mixed" dO:=
 letI:TW:=tw w
 lJ (g:=je) hs pV fun _ _ _ _ _ _ _ hr=>have hu:=hr.units;(ak (ax (ao jB (EV.o (ao Gh (EV.o (ao jB (aD 0) av)) (aD 1))) av)))
abbrev iY:Stmt:=top 44
theorem bG:FnScope ["_law_number","_law_many","_law_letters","_law_size","_law_at","_law_names_here","_law_turn","_law_name","_law_k","_law_more"] ["_law_number","_law_many"] (af iY):=fsc
theorem i6 (T:Txt w K mg) (hs:Hs K mg "_law_names" iY):@PF (tw w) P w K mg base 1 "_law_names" fC:=
 letI:TW:=tw w
 lJ (g:=jd) hs bG fun _ _ _ _ _ _ _ hr=>have hu:=hr.units;(ag (aN 2 bG.nd aj) (ag (aN 3 bG.nd (ao aS av (EV.o (ao jB (aD 0) av)))) (ag (aN 4 bG.nd (ao jB (EV.o (ao rL (aD 0) av)) (aD 3))) (ag (Be 5 bG.nd (bJ ai)) (ag (ng (qL rfl T.n_range (bW 1)) (eW 6 bG.nd) (ag (aN 7 bG.nd aj) (ag (ng (qL rfl T.n_range (bW 3)) (eW 8 bG.nd) (ag (aN 9 bG.nd (ao Gh (aD 6) (EV.o (xV cInt rfl T.n_int rfl (EV.o (df (iJ hu) (aD 8) (aD 4))))))) (ak (aN 7 bG.nd (ao aS (aD 7) (EV.o (bf (ixP hu) (aD 2) (EV.o (ao jB (EV.o (ao aS (EV.o (ao rL (aD 0) (EV.o (ao aS (aD 8) av)))) (aD 9))) av))))))))) (ak (pK 5 (bW 7)))))) (ak (SV.frz 5 (ax (bW 5)))))))))
abbrev kb:Stmt:=top 45
theorem eY:FnScope ["_law_name","_law_number","_law_sort","_law_limits","_law_keys"] ["_law_name","_law_number"] (af kb):=fsc
theorem j7 (T:Txt w K mg) (hs:Hs K mg "_law_room" kb):@PF (tw w) P w K mg base 1 "_law_room" iG:=
 letI:TW:=tw w
 lJ (g:=eV) hs eY fun _ _ _ _ _ _ _ hr=>have hu:=hr.units;(ag (aN 2 eY.nd (bf (ixP hu) (EN.o (bJ (aa aj (aa aj (aa aj (aa aj ai)))))) (EV.o (ao jB (aD 1) av)))) (ag (aN 3 eY.nd (ao aS (EV.o (ao aS (EV.o (ao aS (EV.o (ao aS aH (aD 0))) aH)) (EV.o (xV cStr rfl T.n_str rfl (EV.o (ao aS av (EV.o (ao jB (EV.o (ao rL (aD 1) av)) av)))))))) aH)) (ag (bS (aT (iJ hu) bA (aD 2) aH) (ag (vH false 4 eY.nd (N':=["_law_key","_law_target"]) (cok eY) (nW (EN.v (bJ (aa (dB (aa aj (aa aj ai))) (aa (dB (aa aj (aa (bW 0) ai))) (aa (dB (aa aj (aa aj ai))) ai)))))) (fun _ _ _ _ _=>(vF rfl (iw (yG 0) (iw (yG 1) rB)))) (fun _ _ _ _ _=>(ao aS (EV.o (ao aS (EV.o (ao aS aH (aD 0))) aH)) (aD 1)))) (ak (ax (ao aS (EN.o (bJ (aa (ao aS (EV.o (ao aS aH (aD 0))) (aD 3)) ai))) (EV.o (dC (aD 4) fO (eL (ao aS av (EV.o (ao jB (EV.o (ao rL (aD 1) av)) av)))))))))) aJ) (ag (bS (aT (iJ hu) bA (aD 2) aH) (ak (ax (ao aS (EN.o (bJ (aa (ao aS (EV.o (ao aS aH (aD 0))) (aD 3)) ai))) (EV.o (dC (EN.o (bJ (aa aj (aa (ao aS aH (aD 0)) ai)))) fO (eL (ao aS av (EV.o (ao jB (EV.o (ao rL (aD 1) av)) av))))))))) aJ) (ag (bS (aT (iJ hu) bA (aD 2) aH) (ak (ax (EN.v (bJ (aa (ao aS (EV.o (ao aS aH (aD 0))) aH) (aa (ao aS aH (aD 0)) ai)))))) aJ) (ak (ax (EN.v (bJ (aa (ao aS (EV.o (ao aS aH (aD 0))) aH) ai))))))))))
abbrev gw:Stmt:=top 46
theorem aZ:FnScope ["_law_rows"] [] (af gw):=fsc
theorem fT (T:Txt w K mg) (hs:Hs K mg "_law_no_rows" gw):@PF (tw w) P w K mg base 1 "_law_no_rows" eR:=
 letI:TW:=tw w
 lJ (g:=jI) hs aZ fun _ _ _ _ _ _ _ hr=>have hu:=hr.units;(ag (aN 0 aZ.nd (EN.v (bJ (aa aj (aa aj (aa aj (aa aj (aa aj (aa aj (aa aj (aa aj (aa aj ai)))))))))))) (ag (aN 0 aZ.nd (ao aS (aD 0) (EN.o (bJ (aa aj (aa aj (aa aj (aa aj (aa aj ai))))))))) (ag (aN 0 aZ.nd (ao aS (aD 0) (EN.o (bJ (aa aj (aa aj (aa aj (aa aj ai)))))))) (ag (aN 0 aZ.nd (ao aS (aD 0) (EN.o (bJ (aa aj (aa aj (aa aj (aa aj ai)))))))) (ag (aN 0 aZ.nd (ao aS (aD 0) (EN.o (bJ (aa aj (aa aj (aa aj (aa aj (aa aj (aa aj (aa aj ai))))))))))) (ag (aN 0 aZ.nd (ao aS (aD 0) (EN.o (bJ (aa aj (aa aj (aa aj (aa aj (aa (ao aS aH (EV.o (ao Gg aH av))) (aa aj (aa aj ai))))))))))) (ag (aN 0 aZ.nd (ao aS (aD 0) (EN.o (bJ (aa aj (aa aj (aa aj (aa aj (aa aj (aa aj (aa aj (aa aj (aa aj ai))))))))))))) (ag (aN 0 aZ.nd (ao aS (aD 0) (EN.o (bJ (aa aj (aa aj (aa aj (aa aj (aa aj (aa aj ai)))))))))) (ag (aN 0 aZ.nd (ao aS (aD 0) (EN.o (bJ (aa aj (aa aj (aa aj (aa aj (aa aj (aa aj ai)))))))))) (ak (ax (ao aS (aD 0) (EN.o (bJ (aa aj (aa aj (aa aj (aa aj ai))))))))))))))))))
abbrev ka:Stmt:=top 47
theorem dI:FnScope ["_law_text","_law_found","e","_law_some"] ["_law_text"] (af ka):=fsc
theorem cZ (T:Txt w K mg) (hs:Hs K mg "_law_told" ka) (gB:@PFTX (tw w) P w K mg base 7 "read_house" bH):@PF (tw w) P w K mg base 8 "_law_told" bV:=
 letI:TW:=tw w
 IV (g:=iD) (F0 hs) dI fun _ _ _ _ _ _ _ hr=>have hu:=hr.units;(aK (bF (aN 1 dI.nd iO)) (aK (FO 1 2 gB hr dI.nd (aa (bW 0) ai) T.k_NoHouse fun _=>(aK (bF (aN 3 dI.nd (EN.v (bJ (aa (mn 2 T.i_Faulty T.n_isinstance) (aa (mn 2 T.i_NoName T.n_isinstance) (aa (mn 2 T.i_NoHour T.n_isinstance) (aa (mn 2 T.i_NoCall T.n_isinstance) ai)))))))) (aK (bF (aN 3 dI.nd (ao aS (aD 3) (EN.o (bJ (aa (mn 2 T.i_NoSigns T.n_isinstance) (aa (mn 2 T.i_NoRow T.n_isinstance) ai))))))) (cP (bF (aN 1 dI.nd (dB (aa aj (aa (DS 2 T.xf) (aa (kF (mn 2 T.i_MenuError T.n_isinstance) (kF (H9 2 T.i_ValueError T.n_ValueError (by decide +kernel) T.n_isinstance) (jQ (df (wJ hu) (EV.o dG) (aD 3))))) ai)))))))))) (cP (bF (ax (bW 1))))))
abbrev gv:Stmt:=top 48
theorem iK:FnScope ["_law_rows","_law_due","_law_found"] ["_law_rows","_law_due"] (af gv):=fsc
theorem b6 (T:Txt w K mg) (hs:Hs K mg "_law_refused" gv) (cZ:@PF (tw w) P w K mg base 8 "_law_told" bV):@PF (tw w) P w K mg base 9 "_law_refused" ar:=
 letI:TW:=tw w
 lJ (g:=gF) hs iK fun _ _ _ _ _ _ _ hr=>have hu:=hr.units;(ag (aN 2 iK.nd (aG cZ hr (aa (kX CD Dn aj (aD 0)) ai))) (ag (bS (EW.et (pd (eJ (aX (EV.o (tH xx rfl T.n_isinstance rfl T.n_tuple (by decide +kernel) (aD 2))))) (jP (aX (EV.o (tH Al rfl T.n_isinstance rfl T.n_bool (by decide +kernel) (EV.o (bf (ixP hu) (aD 2) av)))))))) (ak (ax dG)) aJ) (ak (ax (df (iJ hu) (aD 2) (EV.o (dB (aa aj (aa (bW 1) (aa dG ai))))))))))
abbrev j0:Stmt:=top 49
theorem cE:FnScope ["_law_rows","_law_starts","_law_number","_law_at","_law_some","_law_other","_law_start","_law_behind"] ["_law_rows","_law_starts","_law_number"] (af j0):=fsc
theorem i7 (T:Txt w K mg) (hs:Hs K mg "_law_asked" j0) (fT:@PF (tw w) P w K mg base 1 "_law_no_rows" eR) (b6:@PF (tw w) P w K mg base 9 "_law_refused" ar):@PF (tw w) P w K mg base 10 "_law_asked" fD:=
 letI:TW:=tw w
 lJ (g:=gG) hs cE fun _ _ _ _ _ _ _ hr=>have hu:=hr.units;(ag (aN 3 cE.nd (ao aS av (EV.o (ao jB (aD 2) (EV.o (di kY rfl T.n_len rfl (aD 0))))))) (ag (aN 4 cE.nd (AC fT (hr.mono (by decide)) rfl)) (ag (bS (eJ (aX (EV.o (aG b6 hr (aa (ao aS (EV.o (ao aS (EV.o (dC (aD 0) fO (eL (bW 3)))) (EN.o (bJ (aa (bf (ixP hu) (aD 4) (EV.o (ao jB (EV.o (ao rL (aD 2) av)) (EV.o (di kY rfl T.n_len rfl (aD 4)))))) ai))))) (EV.o (dC (aD 0) (eL (bW 3)) fO))) (aa (ao aS (aD 3) av) ai)))))) (ak (ax dG)) aJ) (ag (aN 5 cE.nd (EN.v (bJ (aa aj (aa aj (aa aj (aa aj (aa aj (aa aj (aa aj (aa aj (aa aj ai)))))))))))) (ag (bS (EW.et (pd (eJ (aX (EV.o (aG b6 hr (aa (ao aS (EN.o (bJ (aa (bf (ixP hu) (aD 5) (EV.o (ao jB (EV.o (ao rL (aD 2) av)) av))) ai))) (EV.o (dC (aD 0) (eL bE) fO))) (aa bE ai)))))) (jP (eJ (aX (EV.o (aG b6 hr (aa (ao aS (aD 0) (EN.o (bJ (aa aj ai)))) (aa (ao aS (EV.o (di kY rfl T.n_len rfl (aD 0))) av) ai))))))))) (ak (ax dG)) aJ) (ag (aN 6 cE.nd (bf (ixP hu) (aD 1) (EV.o (ao jB (aD 2) (EV.o (di kY rfl T.n_len rfl (aD 1))))))) (ag (bS (eJ (aX (EV.o (aG b6 hr (aa (ao aS (aD 0) (EN.o (bJ (aa (bf (ixP hu) (aD 0) (aD 6)) ai)))) (aa (ao aS (EV.o (di kY rfl T.n_len rfl (aD 0))) av) ai)))))) (ak (ax dG)) aJ) (ag (aN 7 cE.nd (ao aS (aD 6) av)) (ag (zd 300 (EW.et (tG (aT D9 oO (aD 7) (EV.o (di kY rfl T.n_len rfl (aD 0)))) (pe (aT (iJ hu) bA (EV.o (bf (ixP hu) (EV.o (kX sH wX (bf (ixP hu) (aD 0) (aD 7)) aH)) av)) aH)))) (ak (aN 7 cE.nd (ao aS (aD 7) av)))) (ag (bS (EW.et (tG (aT (iJ hu) bA (EV.o (bf (ixP hu) (EV.o (kX sH wX (bf (ixP hu) (aD 0) (aD 6)) aH)) av)) aH) (pe (eJ (aX (EV.o (aG b6 hr (aa (ao aS (EV.o (dC (aD 0) fO (eL (ao aS (aD 6) av)))) (EV.o (dC (aD 0) (eL (bW 7)) fO))) (aa (ao aS (aD 6) av) ai))))))))) (ak (ax dG)) aJ) (ak (ax dG))))))))))))
abbrev om:Stmt:=top 50
theorem gf:FnScope ["_law_script","_law_names_here","_law_head","_law_rows","_law_starts","_law_cells","_law_k","_law_cell","_law_found","_law_thing"] ["_law_script"] (af om):=fsc
theorem Gj {f:Addr} {fd:FuncData} (T:Txt w K mg) (F:Fun K "law" "law" om f fd) (i6:@PF (tw w) P w K mg base 1 "_law_names" fC) (dZ:@PF (tw w) P w K mg base 1 "_law_mixed" dO) (cu:@PF (tw w) P w K mg base 1 "_law_cell_at" b9) (j7:@PF (tw w) P w K mg base 1 "_law_room" iG) (cZ:@PF (tw w) P w K mg base 8 "_law_told" bV) (b6:@PF (tw w) P w K mg base 9 "_law_refused" ar) (i7:@PF (tw w) P w K mg base 10 "_law_asked" fD):FnOk P w K mg base CX0 11 f fd ["_law_script"] (@spP (tw w) K 1 xT):=
 letI:TW:=(tw w)
 have main:FnOk P w K mg base CX0 (10+1) f fd ["_law_script"] (spP K 1 (iI 1 10 xH)):=by
  refine Ji (N:=["_law_script","_law_names_here","_law_head","_law_rows","_law_starts","_law_cells","_law_k","_law_cell","_law_found","_law_thing"]) (ps:=["_law_script"]) (k:=10) (g:=xH) F gf ?_;intro cdv A outer s H E hr;have hu:=hr.units;exact(ag (aN 1 gf.nd (aG i6 hr (aa (aG dZ hr (aa (aG cu hr (aa (bW 0) (aa bE ai))) (aa bE ai))) (aa bE ai)))) (ag (aN 2 gf.nd (dC (EN.o (bJ (aa aj (aa aj (aa aj (aa aj ai)))))) fO (eL (ao aS av (EV.o (ao jB (EV.o (aG cu hr (aa (bW 0) (aa bE ai)))) av)))))) (ag (aN 3 gf.nd (EN.v (Hd BU rfl T.n_list rfl (aD 2)))) (ag (Be 4 gf.nd (bJ ai)) (ag (aN 5 gf.nd (ao aS (EN.o (bJ (aa (aG cu hr (aa (bW 0) (aa bE ai))) (aa (aG cu hr (aa (bW 0) (aa bE ai))) ai)))) (EV.o (dC (aD 0) (eL bE) (eL bE))))) (ag (ng (yd rfl T.n_enumerate (bW 5)) (sD rfl (fG (eW 6 gf.nd) (fG (eW 7 gf.nd) o6))) (ag (pK 4 (di kY rfl T.n_len rfl (aD 3))) (ak (aN 3 gf.nd (ao aS (aD 3) (EV.o (aG j7 hr (aa (bf (ixP hu) (aD 1) (aD 6)) (aa (aG dZ hr (aa (ao aS (aD 7) (aD 6)) (aa bE ai))) ai))))))))) (ag (aN 8 gf.nd (aG cZ hr (aa (kX CD Dn aj (aD 3)) ai))) (ag (bS (EW.et (pd (eJ (aX (EV.o (tH Ak rfl T.n_isinstance rfl T.n_dict (by decide +kernel) (aD 8))))) (jP (aT (Bt hu) oN (EV.o (di kY rfl T.n_len rfl (EV.o (bf (ixP hu) (aD 8) aH)))) (EV.o (di kY rfl T.n_len rfl (aD 5))))))) (ak (ax dG)) aJ) (ag (bS (eJ (aX (EV.o (aG b6 hr (aa (bW 2) (aa (ao aS (EV.o (di kY rfl T.n_len rfl (aD 2))) av) ai)))))) (ak (ax dG)) aJ) (ag (bS (EW.et (tG (aT (iJ hu) bA (EV.o (di kY rfl T.n_len rfl (aD 5))) av) (pe (eJ (aX (EV.o (aG b6 hr (aa (ao aS (aD 3) (EN.o (bJ (aa (ao aS (EV.o (ao aS aH (EV.o (bf (ixP hu) (aD 1) av)))) aH) ai)))) (aa (ao aS (EV.o (di kY rfl T.n_len rfl (aD 3))) av) ai))))))))) (ak (ax dG)) aJ) (ag (ng (yd rfl T.n_enumerate (dC (aD 5) fO (eL bE))) (sD rfl (fG (eW 6 gf.nd) (fG (eW 7 gf.nd) o6))) (ak (SV.frz 4 (bS (eJ (aX (EV.o (aG i7 hr (aa (bW 3) (aa (bW 4) (aa (aG dZ hr (aa (ao aS (aD 7) (aD 6)) (aa bE ai))) ai))))))) (ak (ax dG)) aJ)))) (ag (ng (nW (EN.v (bJ (aa iO (aa (bW 3) (aa bE ai)))))) (eW 9 gf.nd) (ak (bS (aT (Bt hu) oN (EV.o (aG cZ hr (aa (bW 9) ai))) (EV.o (dB (aa aj (aa bE (aa dG ai)))))) (ak (ax dG)) aJ))) (ak (ax (df (iJ hu) (EV.o (aG cZ hr (aa aj ai))) (EV.o (dB (aa aj (aa bE (aa dG ai))))))))))))))))))))
 main
end K03
namespace K03
open PySem PySem.Spec PyProof.Rows L2 PU
seal EV EO EN EA ET EW SV SVs TGt Eo TCt Ep EI ETs ED EOI ELF EVF ENF ETF SVF EM SVM EDN XB XT SB SBs ENT EDF
theorem all_mk {l:RB} {w:Me} {K:M9} {h:Heap} {mg:Str->Option Value} {fa:Addr} (X:K.In h) (G:h.Ns MM mg) (hfa:mg "law"=some (.ref fa))
  {f29:Addr} {od29 an29:Option Addr} {sl29:Array (Option Value)} {oc29 kV29 dc29 pm29 cd29 ct29:Value}
  (h0:Has K "is_letters" gW)
  (h1:Has K "is_name" lF)
  (h2:Has K "is_word" lE)
  (h3:Has K "is_key" oo)
  (h4:Has K "is_plain_sign" f9)
  (h5:Has K "is_plain" kf)
  (h6:Has K "is_figures" gX)
  (h7:Has K "number_within" eZ)
  (h8:Has K "held_beneath" fS)
  (h9:Has K "wordless_row" fP)
  (h10:Has K "fits" vR)
  (h11:Has K "field_value" gy)
  (h12:Has K "row_values" gT)
  (h13:Has K "with_held" iW)
  (h14:Has K "is_rising" j3)
  (h15:Has K "take_beneath" fR)
  (h16:Has K "take_letters" fQ)
  (h17:Has K "bare_room" j4)
  (h18:Has K "take_room" iX)
  (h19:Has K "take_row" k9)
  (h20:Has K "read_house" gU)
  (h21:Has K "_law_cell_at" gx)
  (h22:Has K "_law_mixed" iZ)
  (h23:Has K "_law_names" iY)
  (h24:Has K "_law_room" kb)
  (h25:Has K "_law_no_rows" gw)
  (h26:Has K "_law_told" ka)
  (h27:Has K "_law_refused" gv)
  (h28:Has K "_law_asked" j0)
  (a29:Ma K MM "law"=some (some (.ref f29))) (l29:K.lookup f29=some ⟨oc29,od29,.func (NJ "law" "law" (cR om) (ba om) (af om) .none kV29 dc29 pm29 an29 cd29 ct29),sl29⟩) (c29:OH K cd29 "law"=true) (k29:NO K (.ref f29)=true)
  (z_ValueError:Ma K MM "ValueError"=some none)
  (z_all:Ma K MM "all"=some none)
  (z_any:Ma K MM "any"=some none)
  (z_bool:Ma K MM "bool"=some none)
  (z_dict:Ma K MM "dict"=some none)
  (z_enumerate:Ma K MM "enumerate"=some none)
  (z_int:Ma K MM "int"=some none)
  (z_isinstance:Ma K MM "isinstance"=some none)
  (z_len:Ma K MM "len"=some none)
  (z_list:Ma K MM "list"=some none)
  (z_ord:Ma K MM "ord"=some none)
  (z_range:Ma K MM "range"=some none)
  (z_str:Ma K MM "str"=some none)
  (z_tuple:Ma K MM "tuple"=some none)
  (z_zip:Ma K MM "zip"=some none)
  (c_BENEATH:@Con (tw w) K mg "BENEATH" c_BENEATH)
  (c_FIELDS:@Con (tw w) K mg "FIELDS" c_FIELDS)
  (c_FIGURES:@Con (tw w) K mg "FIGURES" c_FIGURES)
  (c_KEYS:@Con (tw w) K mg "KEYS" c_KEYS)
  (c_MOST_BENEATH:@Con (tw w) K mg "MOST_BENEATH" c_MOST_BENEATH)
  (c_MOST_ROOMS:@Con (tw w) K mg "MOST_ROOMS" c_MOST_ROOMS)
  (c_PER_CENT:@Con (tw w) K mg "PER_CENT" c_PER_CENT)
  (c_ROOM_KINDS:@Con (tw w) K mg "ROOM_KINDS" c_ROOM_KINDS)
  (c_SMALL_LETTERS:@Con (tw w) K mg "SMALL_LETTERS" c_SMALL_LETTERS)
  (x_NoHouse:AX K mg "NoHouse" "NoHouse.__init__" iV)
  (k_NoHouse:Catch K mg "NoHouse" ["NoHouse"])
  (xf:∀c∈[("NoHouse":Str)],AY K c)
  (i_Faulty:IsO K mg "Faulty" (gI "NoHouse" false))
  (i_MenuError:IsO K mg "MenuError" (gI "NoHouse" true))
  (i_NoCall:IsO K mg "NoCall" (gI "NoHouse" false))
  (i_NoHour:IsO K mg "NoHour" (gI "NoHouse" false))
  (i_NoName:IsO K mg "NoName" (gI "NoHouse" false))
  (i_NoRow:IsO K mg "NoRow" (gI "NoHouse" false))
  (i_NoSigns:IsO K mg "NoSigns" (gI "NoHouse" false))
  (i_ValueError:XIs K (gI "NoHouse" true) (.type "ValueError"))
  : ∃fd:FuncData,(∀(s:MB) (v:Value),Rm s fd ⟨[v],[]⟩ [("_law_script",v)])/\∀base:Heap,K.In base->base.Ns MM mg->FnOk l.prog w K mg base CX0 11 fa fd ["_law_script"] (@spP (tw w) K 1 xT):=by
 have e:=hfa.symm.trans (O0 X G a29);cases e;have T:Txt w K mg:=⟨Mu X G z_ValueError,Mu X G z_all,Mu X G z_any,Mu X G z_bool,Mu X G z_dict,Mu X G z_enumerate,Mu X G z_int,Mu X G z_isinstance,Mu X G z_len,Mu X G z_list,Mu X G z_ord,Mu X G z_range,Mu X G z_str,Mu X G z_tuple,Mu X G z_zip,c_BENEATH,c_FIELDS,c_FIGURES,c_KEYS,c_MOST_BENEATH,c_MOST_ROOMS,c_PER_CENT,c_ROOM_KINDS,c_SMALL_LETTERS,x_NoHouse,k_NoHouse,xf,i_Faulty,i_MenuError,i_NoCall,i_NoHour,i_NoName,i_NoRow,i_NoSigns,i_ValueError⟩;have F29:=BL (st:=om) l29 c29 k29;refine⟨NJ "law" "law" (cR om) (ba om) (af om) .none kV29 dc29 pm29 an29 cd29 ct29,fun s v=>.of_eq rfl,fun base hKb _=>?_⟩;have p_is_letters:=cf (P:=l.prog) (base:=base) T (h0.fn X G);have p_is_name:=iA (P:=l.prog) (base:=base) T (h1.fn X G) p_is_letters;have p_is_word:=kg (P:=l.prog) (base:=base) T (h2.fn X G) p_is_letters;have p_is_key:=jy (P:=l.prog) (base:=base) T (h3.fn X G);have p_is_plain_sign:=eM (P:=l.prog) (base:=base) T (h4.fn X G);have p_is_plain:=j8 (P:=l.prog) (base:=base) T (h5.fn X G) p_is_plain_sign;have p_is_figures:=gC (P:=l.prog) (base:=base) T (h6.fn X G);have p_number_within:=cm (P:=l.prog) (base:=base) T (h7.fn X G) p_is_figures;have p_held_beneath:=fq (P:=l.prog) (base:=base) T (h8.fn X G);have p_wordless_row:=ff (P:=l.prog) (base:=base) T (h9.fn X G);have p_fits:=rH (P:=l.prog) (base:=base) T (h10.fn X G) p_is_name p_is_word p_is_key p_is_letters p_is_plain;have p_field_value:=fU (P:=l.prog) (base:=base) T (h11.fn X G) p_number_within p_fits;have p_row_values:=gz (P:=l.prog) (base:=base) T (h12.fn X G) p_field_value;have p_with_held:=hZ (P:=l.prog) (base:=base) T (h13.fn X G);have p_is_rising:=eo (P:=l.prog) (base:=base) T (h14.fn X G);have p_take_beneath:=fm (P:=l.prog) (base:=base) T (h15.fn X G) p_held_beneath p_is_rising p_with_held;have p_take_letters:=fh (P:=l.prog) (base:=base) T (h16.fn X G) p_is_rising;have p_bare_room:=i8 (P:=l.prog) (base:=base) T (h17.fn X G);have p_take_room:=i5 (P:=l.prog) (base:=base) T (h18.fn X G) p_bare_room;have p_take_row:=j6 (P:=l.prog) (base:=base) T (h19.fn X G) p_row_values p_take_letters p_take_room p_take_beneath;have p_read_house:=gB (P:=l.prog) (base:=base) T (h20.fn X G) p_take_row p_wordless_row;have p_law_cell_at:=cu (P:=l.prog) (base:=base) T (h21.fn X G);have p_law_mixed:=dZ (P:=l.prog) (base:=base) T (h22.fn X G);have p_law_names:=i6 (P:=l.prog) (base:=base) T (h23.fn X G);have p_law_room:=j7 (P:=l.prog) (base:=base) T (h24.fn X G);have p_law_no_rows:=fT (P:=l.prog) (base:=base) T (h25.fn X G);have p_law_told:=cZ (P:=l.prog) (base:=base) T (h26.fn X G) p_read_house;have p_law_refused:=b6 (P:=l.prog) (base:=base) T (h27.fn X G) p_law_told;have p_law_asked:=i7 (P:=l.prog) (base:=base) T (h28.fn X G) p_law_no_rows p_law_refused;exact Gj T F29 p_law_names p_law_mixed p_law_cell_at p_law_room p_law_told p_law_refused p_law_asked
theorem walk{l:RB}{q:MP}{loose:List Str}{XP:(Str->Option Value)->Heap->Prop}{YP:Me->Heap->Prop}{d:DefRec}{K:Params->M9}(hn:l.most=some 63)(hdf:d.params.defaults=[])
  (hY:∀(w:Me)(h:Heap),YP w h->(K w.params).In h)
  (F:∀(w:Me)(mg:Str->Option Value)(fa:Addr)(h:Heap),(K w.params).In h->h.Ns MM mg->mg d.name=some (.ref fa)->
   ∃fd:FuncData,(∀(s:MB) (u:Value),Rm s fd ⟨[u],[]⟩ [("_law_script",u)])/\∀base:Heap,(K w.params).In base->base.Ns MM mg->FnOk l.prog w (K w.params) mg base CX0 11 fa fd ["_law_script"] (@spP (tw w) (K w.params) 1 xT)) :
  PySem.W.WalkO q loose XP YP l.row.toRowW d [] (fun f vs=>T9 f vs):=
 L2.walk_ofF (n:=63) (k:=11) (x:="_law_script") (CX:=fun _=>CX0) (sp:=fun w=>@spP (tw w) (K w.params) 1 xT) hn (by decide) hdf ⟨rfl,by decide,by decide⟩ hY F
  (fun w _ a ns hl _ hS=>letI:TW:=tw w;⟨rfl,IC (ts:=[]) rfl (fun P h=>nomatch h),_,_,ui hS,A6 ns,fun v _ _ r=>r⟩) fun _ _ _ _ _ z=>z
end K03
end
namespace PySem.W.Fast
def tw10189391891531620728:=0
def tw10280998746311389735:=0
def tw10370859220812365448:=0
def tw10490641830269952866:=0
def tw1073546705235936528:=0
def tw10981878720103353613:=0
def tw1119423068908134976:=0
def tw11555576667564391081:=0
def tw11562430603426607644:=0
def tw11597649465080295817:=0
def tw11857604525693390799:=0
def tw12014296781188706534:=0
def tw12229326858571892229:=0
def tw1226226572624404399:=0
def tw12405486919552611877:=0
def tw12439307761873762177:=0
def tw12529916756893571022:=0
def tw13212580900386260188:=0
def tw13223829048018573278:=0
def tw13309275352572406266:=0
def tw13648505598640474442:=0
def tw1387765773781612356:=0
def tw13954655109998379964:=0
def tw14168042606161078267:=0
def tw1435300743225435134:=0
def tw14406370812614838160:=0
def tw1450312503066044322:=0
def tw14867124830684885239:=0
def tw14886772540424529944:=0
def tw14967071327906479402:=0
def tw152108040516343983:=0
def tw15276411190685545671:=0
def tw15488216241282156043:=0
def tw15753675618913048946:=0
def tw160106209147637097:=0
def tw16288802934234310401:=0
def tw16454358387184450372:=0
def tw16530475663681815480:=0
def tw16535608582463232068:=0
def tw16552846365008517961:=0
def tw1662227157052273984:=0
def tw16798433669739575076:=0
def tw17128248965259248888:=0
def tw17502843481139034319:=0
def tw17565749335311915766:=0
def tw17581885795708128873:=0
def tw17582175340060909663:=0
def tw17833124795190686629:=0
def tw17910783920058644863:=0
def tw17977987265514960092:=0
def tw18027626074419732497:=0
def tw18340781133578678724:=0
def tw1846197403894272094:=0
def tw1881695229454805935:=0
def tw1898337812855166789:=0
def tw2538208461058554270:=0
def tw2584524445263816549:=0
def tw2829441363453191451:=0
def tw2928394527172648388:=0
def tw3014623723498289478:=0
def tw3267399756205617445:=0
def tw3441634515369066887:=0
def tw3664305017756431151:=0
def tw3759062622017728816:=0
def tw400135046110768810:=0
def tw4121993296666230405:=0
def tw4427918200748065460:=0
def tw4587654276558774469:=0
def tw4699778045088958041:=0
def tw5166309073157827489:=0
def tw5203161325810429177:=0
def tw5206290139734762800:=0
def tw521592604524625340:=0
def tw5689682063116794232:=0
def tw5816783525048832325:=0
def tw6210852230692406418:=0
def tw621533552772020665:=0
def tw6466009080128440752:=0
def tw6565650218694815358:=0
def tw7047854992037793822:=0
def tw7209846366655143617:=0
def tw7265338685410765998:=0
def tw7625211901858252958:=0
def tw7680415976142426114:=0
def tw7735119883769400929:=0
def tw7774620144048438118:=0
def tw8205396502253273899:=0
def tw8241205668933681356:=0
def tw8275802464880365976:=0
def tw8299986063648341004:=0
def tw8335442649026257921:=0
def tw8738215205071659867:=0
def tw8744578175116681028:=0
def tw9525442666449851857:=0
end PySem.W.Fast
open PySem PySem.W PyProof.Rows
set_option maxRecDepth 100000 in
set_option maxHeartbeats 0 in
theorem PySem.Challenge.cw_menutree_k03_what_is_no_house_holds : PySem.Challenge.rw_menutree_k03_what_is_no_house.Holds := by
 w_on;o_law;k_head;(case hw=>w_witness2)
 k_fill
 refine K03.walk (l:=PySem.Challenge.rw_menutree_k03_what_is_no_house) rfl rfl (fun w h Y=>PySem.W.kIn_of Y) ?F
 case F=>
  intro w mg fa h KX G hmg;refine' K03.all_mk KX G hmg ?h0 ?h1 ?h2 ?h3 ?h4 ?h5 ?h6 ?h7 ?h8 ?h9 ?h10 ?h11 ?h12 ?h13 ?h14 ?h15 ?h16 ?h17 ?h18 ?h19 ?h20 ?h21 ?h22 ?h23 ?h24 ?h25 ?h26 ?h27 ?h28 ?a29 ?l29 ?c29 ?k29 ?z_ValueError ?z_all ?z_any ?z_bool ?z_dict ?z_enumerate ?z_int ?z_isinstance ?z_len ?z_list ?z_ord ?z_range ?z_str ?z_tuple ?z_zip ?q_BENEATH ?q_FIELDS ?q_FIGURES ?q_KEYS ?q_MOST_BENEATH ?q_MOST_ROOMS ?q_PER_CENT ?q_ROOM_KINDS ?q_SMALL_LETTERS ?wx_NoHouse ?wk_NoHouse ?wxf ?wi_Faulty ?wi_MenuError ?wi_NoCall ?wi_NoHour ?wi_NoName ?wi_NoRow ?wi_NoSigns ?wi_ValueError
  (case wx_NoHouse=>(refine' PU.xhas_mk KX G ?n1 ?n4 ?n0 ?n2 ?n3 ?n5 ?n6 ?n7 ?n8 ?n9 ?n10 ?n11 ?n12 ?n13 ?n14;(case n1=>k_is);(case n4=>k_is);(case n0=>k_is);(case n13=>k_is);(case n3=>kernel_rfl);(case n2=>k_is);(case n5=>k_is);(case n6=>k_is);(case n7=>k_is);(case n8=>k_is);(case n9=>exact rfl);(case n10=>exact rfl);(case n11=>k_is);(case n12=>k_is);(case n14=>k_is)))
  (case wk_NoHouse=>(refine' PU.catch1 KX G ?n1 ?n2 ?n3;(case n1=>k_is);(case n2=>k_is);(case n3=>kernel_rfl)))
  (case wxf=>(intro c hc;cases NT.mp hc;refine' PU.xfitN_mk ?n1 ?n2 ?n3;(case n1=>k_is);(case n2=>(refine' PU.XFit.mk ?t1 ?t2 ?t3 ?t4 ?t5 ?t6 ?t7 ?t8;(case t1=>k_is);(case t2=>k_is);(case t3=>k_is);(case t4=>k_is);(case t5=>k_is);(case t6=>k_is);(case t7=>k_is);(case t8=>k_is)));(case n3=>k_is)))
  (case wi_Faulty=>(refine' PU.isO1 KX G ?n1 ?n2 ?n3 ?n4;(case n1=>k_is);(case n2=>k_is);(case n3=>(refine' PU.XFit.mk ?t1 ?t2 ?t3 ?t4 ?t5 ?t6 ?t7 ?t8;(case t1=>k_is);(case t2=>k_is);(case t3=>k_is);(case t4=>k_is);(case t5=>k_is);(case t6=>k_is);(case t7=>k_is);(case t8=>k_is)));(case n4=>kernel_rfl)))
  (case wi_MenuError=>(refine' PU.isO1 KX G ?n1 ?n2 ?n3 ?n4;(case n1=>k_is);(case n2=>k_is);(case n3=>(refine' PU.XFit.mk ?t1 ?t2 ?t3 ?t4 ?t5 ?t6 ?t7 ?t8;(case t1=>k_is);(case t2=>k_is);(case t3=>k_is);(case t4=>k_is);(case t5=>k_is);(case t6=>k_is);(case t7=>k_is);(case t8=>k_is)));(case n4=>kernel_rfl)))
  (case wi_NoCall=>(refine' PU.isO1 KX G ?n1 ?n2 ?n3 ?n4;(case n1=>k_is);(case n2=>k_is);(case n3=>(refine' PU.XFit.mk ?t1 ?t2 ?t3 ?t4 ?t5 ?t6 ?t7 ?t8;(case t1=>k_is);(case t2=>k_is);(case t3=>k_is);(case t4=>k_is);(case t5=>k_is);(case t6=>k_is);(case t7=>k_is);(case t8=>k_is)));(case n4=>kernel_rfl)))
  (case wi_NoHour=>(refine' PU.isO1 KX G ?n1 ?n2 ?n3 ?n4;(case n1=>k_is);(case n2=>k_is);(case n3=>(refine' PU.XFit.mk ?t1 ?t2 ?t3 ?t4 ?t5 ?t6 ?t7 ?t8;(case t1=>k_is);(case t2=>k_is);(case t3=>k_is);(case t4=>k_is);(case t5=>k_is);(case t6=>k_is);(case t7=>k_is);(case t8=>k_is)));(case n4=>kernel_rfl)))
  (case wi_NoName=>(refine' PU.isO1 KX G ?n1 ?n2 ?n3 ?n4;(case n1=>k_is);(case n2=>k_is);(case n3=>(refine' PU.XFit.mk ?t1 ?t2 ?t3 ?t4 ?t5 ?t6 ?t7 ?t8;(case t1=>k_is);(case t2=>k_is);(case t3=>k_is);(case t4=>k_is);(case t5=>k_is);(case t6=>k_is);(case t7=>k_is);(case t8=>k_is)));(case n4=>kernel_rfl)))
  (case wi_NoRow=>(refine' PU.isO1 KX G ?n1 ?n2 ?n3 ?n4;(case n1=>k_is);(case n2=>k_is);(case n3=>(refine' PU.XFit.mk ?t1 ?t2 ?t3 ?t4 ?t5 ?t6 ?t7 ?t8;(case t1=>k_is);(case t2=>k_is);(case t3=>k_is);(case t4=>k_is);(case t5=>k_is);(case t6=>k_is);(case t7=>k_is);(case t8=>k_is)));(case n4=>kernel_rfl)))
  (case wi_NoSigns=>(refine' PU.isO1 KX G ?n1 ?n2 ?n3 ?n4;(case n1=>k_is);(case n2=>k_is);(case n3=>(refine' PU.XFit.mk ?t1 ?t2 ?t3 ?t4 ?t5 ?t6 ?t7 ?t8;(case t1=>k_is);(case t2=>k_is);(case t3=>k_is);(case t4=>k_is);(case t5=>k_is);(case t6=>k_is);(case t7=>k_is);(case t8=>k_is)));(case n4=>kernel_rfl)))
  (case wi_ValueError=>(refine' PU.xis1 ?n2 ?n3 ?n4;(case n2=>k_is);(case n3=>(refine' PU.XFit.mk ?t1 ?t2 ?t3 ?t4 ?t5 ?t6 ?t7 ?t8;(case t1=>k_is);(case t2=>k_is);(case t3=>k_is);(case t4=>k_is);(case t5=>k_is);(case t6=>k_is);(case t7=>k_is);(case t8=>k_is)));(case n4=>kernel_rfl)))
  (case h0 | h1 | h2 | h3 | h4 | h5 | h6 | h7 | h8 | h9 | h10 | h11 | h12 | h13 | h14 | h15 | h16 | h17 | h18 | h19 | h20 | h21 | h22 | h23 | h24 | h25 | h26 | h27 | h28=>(refine' PU.Has.of ?n1 ?n2 ?n3 ?n4;(case n1=>k_is);(case n2=>k_is);(case n3=>k_is);(case n4=>k_is)))
  (case a29=>k_is)
  (case l29=>k_is)
  (case c29=>k_is)
  (case k29=>k_is)
  (case z_ValueError=>k_is)
  (case z_all=>k_is)
  (case z_any=>k_is)
  (case z_bool=>k_is)
  (case z_dict=>k_is)
  (case z_enumerate=>k_is)
  (case z_int=>k_is)
  (case z_isinstance=>k_is)
  (case z_len=>k_is)
  (case z_list=>k_is)
  (case z_ord=>k_is)
  (case z_range=>k_is)
  (case z_str=>k_is)
  (case z_tuple=>k_is)
  (case z_zip=>k_is)
  (case q_BENEATH=>(refine' PU.con_dct [(M8 "menu",_,_),(M8 "names",_,_),(M8 "hours",_,_)] (xs:=[.str (M8 "key"),.str (M8 "name"),.str (M8 "from")]) KX G ?n1 ?n2 ?n3 ?n4 ?n5 ?n6 ?n7 ?n8;(case n1=>k_is);(case n2=>k_is);(case n3=>exact rfl);(case n4=>decide);(case n5=>decide +kernel);(case n6=>show 3<=sizeLine;decide);(case n7=>exact .cons ⟨_,rfl⟩ (.cons ⟨_,rfl⟩ (.cons ⟨_,rfl⟩ (.nil))));(case n8=>intro H;exact⟨_,_,rfl,rfl,_,_,rfl,rfl,_,_,rfl,rfl,rfl⟩)))
  (case q_FIELDS=>(refine' PU.con_dctT [(M8 "first",_,_),(M8 "letters",_,_),(M8 "menu",_,_),(M8 "key",_,_),(M8 "names",_,_),(M8 "name",_,_),(M8 "hours",_,_),(M8 "from",_,_),(M8 "hand",_,_),(M8 "end",_,_)] KX G ?n1 ?n2 ?n3 ?n4 ?n5 ?n6 ?n8;(case n1=>k_is);(case n2=>k_is);(case n3=>exact rfl);(case n4=>decide);(case n5=>decide +kernel);(case n6=>show 10<=sizeLine;decide);(case n8=>intro H;refine' ⟨_,_,rfl,PU.rep_conT (xs:=[.str (M8 "name")]) ?t0 ?u0 ?v0 ?w0 ?x0 ?y0,_,_,rfl,PU.rep_conT (xs:=[.str (M8 "letters key"),.str (M8 "letters")]) ?t1 ?u1 ?v1 ?w1 ?x1 ?y1,_,_,rfl,PU.rep_conT (xs:=[.str (M8 "name"),.str (M8 "many"),.str (M8 "name"),.str (M8 "many"),.str (M8 "name"),.str (M8 "text")]) ?t2 ?u2 ?v2 ?w2 ?x2 ?y2,_,_,rfl,PU.rep_conT (xs:=[.str (M8 "key"),.str (M8 "target")]) ?t3 ?u3 ?v3 ?w3 ?x3 ?y3,_,_,rfl,PU.rep_conT (xs:=[.str (M8 "name"),.str (M8 "many"),.str (M8 "name"),.str (M8 "many"),.str (M8 "name"),.str (M8 "text")]) ?t4 ?u4 ?v4 ?w4 ?x4 ?y4,_,_,rfl,PU.rep_conT (xs:=[.str (M8 "word"),.str (M8 "name")]) ?t5 ?u5 ?v5 ?w5 ?x5 ?y5,_,_,rfl,PU.rep_conT (xs:=[.str (M8 "name"),.str (M8 "name")]) ?t6 ?u6 ?v6 ?w6 ?x6 ?y6,_,_,rfl,PU.rep_conT (xs:=[.str (M8 "from"),.str (M8 "till"),.str (M8 "name")]) ?t7 ?u7 ?v7 ?w7 ?x7 ?y7,_,_,rfl,PU.rep_conT (xs:=[.str (M8 "name"),.str (M8 "text")]) ?t8 ?u8 ?v8 ?w8 ?x8 ?y8,_,_,rfl,PU.rep_conT (xs:=[.str (M8 "name"),.str (M8 "text")]) ?t9 ?u9 ?v9 ?w9 ?x9 ?y9,rfl⟩;(case t0=>k_is);(case u0=>exact rfl);(case v0=>exact rfl);(case w0=>show 1<=sizeLine;decide);(case x0=>exact .cons ⟨_,rfl⟩ (.nil));(case y0=>exact⟨_,_,rfl,rfl,rfl⟩);(case t1=>k_is);(case u1=>exact rfl);(case v1=>exact rfl);(case w1=>show 2<=sizeLine;decide);(case x1=>exact .cons ⟨_,rfl⟩ (.cons ⟨_,rfl⟩ (.nil)));(case y1=>exact⟨_,_,rfl,rfl,_,_,rfl,rfl,rfl⟩);(case t2=>k_is);(case u2=>exact rfl);(case v2=>exact rfl);(case w2=>show 6<=sizeLine;decide);(case x2=>exact .cons ⟨_,rfl⟩ (.cons ⟨_,rfl⟩ (.cons ⟨_,rfl⟩ (.cons ⟨_,rfl⟩ (.cons ⟨_,rfl⟩ (.cons ⟨_,rfl⟩ (.nil)))))));(case y2=>exact⟨_,_,rfl,rfl,_,_,rfl,rfl,_,_,rfl,rfl,_,_,rfl,rfl,_,_,rfl,rfl,_,_,rfl,rfl,rfl⟩);(case t3=>k_is);(case u3=>exact rfl);(case v3=>exact rfl);(case w3=>show 2<=sizeLine;decide);(case x3=>exact .cons ⟨_,rfl⟩ (.cons ⟨_,rfl⟩ (.nil)));(case y3=>exact⟨_,_,rfl,rfl,_,_,rfl,rfl,rfl⟩);(case t4=>k_is);(case u4=>exact rfl);(case v4=>exact rfl);(case w4=>show 6<=sizeLine;decide);(case x4=>exact .cons ⟨_,rfl⟩ (.cons ⟨_,rfl⟩ (.cons ⟨_,rfl⟩ (.cons ⟨_,rfl⟩ (.cons ⟨_,rfl⟩ (.cons ⟨_,rfl⟩ (.nil)))))));(case y4=>exact⟨_,_,rfl,rfl,_,_,rfl,rfl,_,_,rfl,rfl,_,_,rfl,rfl,_,_,rfl,rfl,_,_,rfl,rfl,rfl⟩);(case t5=>k_is);(case u5=>exact rfl);(case v5=>exact rfl);(case w5=>show 2<=sizeLine;decide);(case x5=>exact .cons ⟨_,rfl⟩ (.cons ⟨_,rfl⟩ (.nil)));(case y5=>exact⟨_,_,rfl,rfl,_,_,rfl,rfl,rfl⟩);(case t6=>k_is);(case u6=>exact rfl);(case v6=>exact rfl);(case w6=>show 2<=sizeLine;decide);(case x6=>exact .cons ⟨_,rfl⟩ (.cons ⟨_,rfl⟩ (.nil)));(case y6=>exact⟨_,_,rfl,rfl,_,_,rfl,rfl,rfl⟩);(case t7=>k_is);(case u7=>exact rfl);(case v7=>exact rfl);(case w7=>show 3<=sizeLine;decide);(case x7=>exact .cons ⟨_,rfl⟩ (.cons ⟨_,rfl⟩ (.cons ⟨_,rfl⟩ (.nil))));(case y7=>exact⟨_,_,rfl,rfl,_,_,rfl,rfl,_,_,rfl,rfl,rfl⟩);(case t8=>k_is);(case u8=>exact rfl);(case v8=>exact rfl);(case w8=>show 2<=sizeLine;decide);(case x8=>exact .cons ⟨_,rfl⟩ (.cons ⟨_,rfl⟩ (.nil)));(case y8=>exact⟨_,_,rfl,rfl,_,_,rfl,rfl,rfl⟩);(case t9=>k_is);(case u9=>exact rfl);(case v9=>exact rfl);(case w9=>show 2<=sizeLine;decide);(case x9=>exact .cons ⟨_,rfl⟩ (.cons ⟨_,rfl⟩ (.nil)));(case y9=>exact⟨_,_,rfl,rfl,_,_,rfl,rfl,rfl⟩))))
  (case q_FIGURES=>(refine' PU.con_str KX G ?n1;(case n1=>k_is)))
  (case q_KEYS=>(refine' PU.con_str KX G ?n1;(case n1=>k_is)))
  (case q_MOST_BENEATH=>(refine' PU.con_int KX G ?n1;(case n1=>k_is)))
  (case q_MOST_ROOMS=>(refine' PU.con_int KX G ?n1;(case n1=>k_is)))
  (case q_PER_CENT=>(refine' PU.con_int KX G ?n1;(case n1=>k_is)))
  (case q_ROOM_KINDS=>(refine' PU.con_tup (xs:=[.str (M8 "menu"),.str (M8 "names"),.str (M8 "hours"),.str (M8 "hand"),.str (M8 "end")]) KX G ?n1 ?n2 ?n3 ?n4 ?n5 ?n6 ?n7;(case n1=>k_is);(case n2=>k_is);(case n3=>exact rfl);(case n4=>exact rfl);(case n5=>show 5<=sizeLine;decide);(case n6=>exact .cons ⟨_,rfl⟩ (.cons ⟨_,rfl⟩ (.cons ⟨_,rfl⟩ (.cons ⟨_,rfl⟩ (.cons ⟨_,rfl⟩ (.nil))))));(case n7=>intro H;exact⟨_,_,rfl,rfl,_,_,rfl,rfl,_,_,rfl,rfl,_,_,rfl,rfl,_,_,rfl,rfl,rfl⟩)))
  (case q_SMALL_LETTERS=>(refine' PU.con_str KX G ?n1;(case n1=>k_is)))
