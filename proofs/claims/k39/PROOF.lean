import PyProof.Rows.All
import Wide.All
import OpenK.AllK
import Wide.FinOn
import Lean
import PyProof.EqAt
import PyProof.EqKinds
import PyProof.TupleCall
import PyProof.StrLawsIdx
import PyProof.StrBlockH
import PyProof.EnumStmt
import PyProof.ListNew
import PyProof.AutoListH
import PyProof.TupleIter
import PyProof.ZipIter
import PyProof.Rows.ZipGen
import KE.KDictOf
import PyProof.ListIndex
import PyProof.AttrMissHeap
import PyProof.NeKinds
import KE.KLam
import KE.KNestM
import KE.KDictLaws
import PyProof.SeqI3
import PyProof.DictWalks
import PyProof.StrLawsIn
import PySem.Challenge.RW_menutree_k39_renamed_houses
set_option Elab.async false
set_option linter.all false
set_option maxRecDepth 100000
set_option maxHeartbeats 16000000
set_option compiler.extract_closed false
open Array renaming forIn_toList->Qk,getElem?_eq_getElem->Ln,getElem?_toList->QK,length_toList->Kx,toList_append->Qc
open Bool renaming and_eq_true->Ks,and_false->Nb,and_true->Oe,eq_iff_iff->Lp,false_and->Pr,false_eq_true->Km,false_ne_true->JU,not_eq_true->MX,not_true->QA,or_eq_true->Pe,or_false->Q9,true_and->Nr
open Eq renaming refl->KW
open False renaming elim->JP
open ForInStep renaming yield->Lk
open Function renaming comp->MW
open Int renaming emod_lt_of_pos->RG,emod_nonneg->Pl,toNat_natCast->PC,zero_add->PB
open LawfulBEq renaming eq_of_beq->Mi
open List renaming Nodup->Qx,Sublist->Ms,all_cons->M9,all_eq_true->N2,any_cons->LK,any_eq_false->RF,any_eq_true->LG,any_map->Lg,append_assoc->LP,append_nil->Kq,cons_append->Lz,count_append->RE,count_eq_zero->Om,dropLast_concat_getLast->Ld,drop_eq_getElem_cons->Nk,drop_length->O5,eq_nil_of_length_eq_zero->Kv,ext_getElem?->RD,filterMap_cons->Lv,filter_cons_of_neg->O4,filter_cons_of_pos->O3,find?_cons->Kw,find?_cons_of_neg->M4,find?_cons_of_pos->Mr,find?_eq_none->Mk,find?_map->Ly,find?_some->NH,flatMap_cons->Np,foldl_append->MF,foldl_cons->Lc,getD_eq_getElem?_getD->LO,getElem?_append->Qb,getElem?_append_left->JW,getElem?_append_right->KN,getElem?_cons_succ->KB,getElem?_cons_zero->Kj,getElem?_eq_getElem->KO,getElem?_eq_none->OL,getElem?_eq_none_iff->Nj,getElem?_eq_some_iff->JL,getElem?_map->K2,getElem?_of_mem->NC,getElem?_range->NQ,getElem?_replicate->Kr,getElem?_set->P3,getElem?_set_ne->ML,getElem?_set_self->Mq,getElem?_zipWith->N0,getElem?_zip_eq_some->Q3,getElem_inj->PP,getElem_mem->MV,getElem_of_mem->Lu,getLast?_eq_none_iff->Q1,getLast?_singleton->QD,head?->Ol,length->Lj,length_append->KF,length_cons->KU,length_drop->PN,length_eq_zero_iff->O2,length_filterMap_le->Q8,length_map->JT,length_nil->Lb,length_replicate->MB,length_singleton->MA,length_take->Lx,lookup->Qa,lookup_cons->KR,map_append->KL,map_congr_left->NO,map_cons->JQ,map_map->K4,map_nil->M3,map_singleton->Qw,mem_append->Kd,mem_append_left->N9,mem_append_right->Kc,mem_cons->K9,mem_cons_of_mem->KI,mem_cons_self->KJ,mem_filter->LQ,mem_filterMap->Oj,mem_flatMap->MU,mem_iff_getElem?->Mz,mem_map->JS,mem_of_find?_eq_some->Kg,mem_of_getElem?->KA,mem_of_getLast?->QZ,mem_range->LD,mem_replicate->Oi,mem_reverse->PM,mem_singleton->JX,nil_append->Mh,nodup_append->LA,nodup_cons->Kf,not_mem_nil->O1,of_mem_zip->NG,pairwise_iff_getElem->MY,pairwise_lt_range->OE,pairwise_map->P1,prefix_iff_eq_take->Mo,prefix_of_prefix_length_le->P9,prefix_refl->O0,range->KQ,range'->QY,range'_succ->PL,range_succ->Mg,range_succ_eq_map->QJ,replicate->KZ,reverse_cons->RC,set_cons_succ->Qv,set_cons_zero->Qu,size_toArray->KG,tail->PK,take_of_length_le->OD,take_prefix->MS,zipWith_cons_cons->Lf,zip_cons_cons->Oh
open List.IsPrefix renaming length_le->LV,trans->Ny
open List.Pairwise renaming imp_of_mem->NF,map->Pq
open List.cons renaming injEq->M0
open Nat renaming add_assoc->N8,add_sub_cancel_left->QI,le_add_right->OA,le_of_eq->QU,le_of_lt->OI,le_of_not_lt->Pb,le_refl->K8,le_succ->Qj,le_trans->Ko,lt_irrefl->Kt,lt_of_le_of_lt->Mn,lt_of_lt_of_le->JY,lt_of_succ_lt_succ->QT,lt_or_ge->Li,lt_succ_of_lt->Mt,lt_trans->P8,mul_le_mul->Q0,ne_of_gt->L8,ne_of_lt->K7,not_lt->OH,not_lt_zero->M8,succ_ne_self->Pa,zero_le->Kz
open Ne renaming symm->LY
open Option renaming bind_eq_some_iff->K3,bind_some->P0,getD_none->Qt,isSome_iff_exists->Ni,isSome_map->Og,map_eq_some_iff->JV,map_some->O9
open Option.some renaming inj->Kl,injEq->Mc
open Or renaming inl->NY,inr->N7
open Prod renaming ext->Pp
open PyProof.Rows renaming AllBare->OV,IntsAre->RB,callWith_type1->LC,envOfC->Mm,slot_tuple_getitem->Ky,subscriptTail_builtinR->RA
open PySem renaming Around->KY,BindsTo->QF,Builtin->Pk,Env->Ow,IsPart->Ou,IsTupleKey->PY,NameKind->M6,Paired->QQ,PassesOwn->Qr,Pos->La,Program->K5,Result->R8,Shared->JM,Value->JJ,World->KH,assign->Ot,assignEach->Lo,atKey->Qq,attributeBase->NU,backTo->MM,behindInMarks->NT,binaryOp->MI,bindArgs->Os,bindC->Qp,bindL->Qo,bootBuiltins->MD,builtinsNs->L0,call->Qg,callType_codes->Oq,call_meetsIn->R4,callerA->Pg,cellOf->QN,codeAmong->Me,codeAny->NR,codeAny_builtin->Mp,codeAny_mono->Nl,compareOp->Kk,concat_meets->R3,eqIsQuiet->Px,eval->L9,foldedSetIterable->N4,getItem->Pf,getattributeRaised->Nu,holding->R1,letOwnedTupleGo->OZ,mem_of_lookup->Ka,model->KM,noFill_tuple_add->Pw,plainId_quiet->Qf,post_val_or_str->OY,pyNext->Nd,qualnameIn->OQ,rawInt->Mb,seq_tuple_add->Qe,sizeLine_eq->Ke,sliceBounds->NZ,starEach->K1,storeName->Qm,stored->Pv,strIterType->Ma,swapsWith->MK,sysModules->Ku,typeLookup->PQ,valueAt->LM,wpAny->JZ,wpAny_Call_Name_kw->MC,wpAny_Call_method_late->R0,wpAny_bind->JI,wpAny_call->QM,wpAny_callSpecial?_slot->Mv,wpAny_call_entry->Md,wpAny_comprehension_free->OG,wpAny_dictEntries->MR,wpAny_dictEpoch->OX,wpAny_execs_nil->OW,wpAny_field->Oo,wpAny_fieldsOf->On,wpAny_forIn_list->Pu,wpAny_getItem_str_slice->Mu,wpAny_holding->LR,wpAny_isInstance->NJ,wpAny_isOneOf_itemiter->N3,wpAny_mono->LZ,wpAny_newObj_type->Ls,wpAny_notOrdered_dict->Oa,wpAny_passesOwn->MH,wpAny_pure->JO,wpAny_pyIter_enum->OB,wpAny_pyNext_list_item->Qz,wpAny_pyNext_tuple_end->Qy,wpAny_pyNext_tuple_item->Ql,wpAny_rule->Nt,wpAny_seqItems->QL,wpAny_specialOf->Nc,wpAny_standAt->Qd,wpAny_truthy_bool->MQ,wpAny_typeNameOfWhole_itemiter->M5,wpAny_typeNameOf_itemiter->Mj,wpAny_typeOf->Ll,wpAny_updateSeq->MG
open PySem.Around renaming frames_deeper->QH,under_plainId->QG
open PySem.Builtin.Dict renaming addKeywords->Oz,dictSlotArgs->Ov,pairItems->PJ,samePairs->PH,selfAndRest->Oy,updateFrom->MP
open PySem.Builtin.Dict_items renaming ownedTupleIsFree->Ng,ownsTuple->OC,pairFromOwner->Nq
open PySem.Builtin.List renaming listExtendWith->LB,listItems->MZ,listLengthHint->Od,listSameRef->Ox,listTouch->PD,listUpdate->P7
open PySem.Builtin.Slice renaming sliceAdjust->N5,sliceApplied->Oc,slicePlaces->M7
open PySem.Builtin.Str renaming occurrences->Na,strSliceIndices->My
open PySem.Builtin.Tuple renaming tupleExact->ME,tupleHashOf->LH,tupleItemsOf->Mx
open PySem.Calls renaming Name_function_global->Pj,callWith_builtin->O8,evalArgs_plain->QS,spliced_cons->Qi,spliced_nil->Qs
open PySem.Challenge renaming pw_menutree_k39_renamed_houses->KC
open PySem.Data renaming cell->OU,fields->PZ
open PySem.F renaming args_dict_itemiterator_next_1->OJ,args_list_init_2->Pi,args_tuple_add_2->Nf,called_list->QE,entry_dict_itemiterator_next->ON,entry_extend_loop->Pd,entry_list_init->Po,entry_tuple_add->Nn,kt_typeCall_dict_1->R9,plainAttrs_dict->Nm,plain_extend_loop->Lm,slot_dict_eq->QC,slot_dict_get->Q7,slot_dict_getitem->Pc,slot_dict_itemiterator_next->Le,slot_dict_items->Pn,slot_dict_setdefault->P6,slot_list_append->QR,slot_list_getattribute->O7,slot_tuple_add->Nw,slot_tuple_getattribute->Nv,slot_tuple_hash->Nz,typeCall_list_1->Pm
open PySem.Heap renaming ExtBut->N6,SameBut->Lq,get?_none_of_le->QX,get?_push_of_some->JN,get?_push_size->K6,get?_update_other->L7,get?_update_self->LU,lt_size->JR,size_push->OP
open PySem.Heap.DictOf renaming new->Nh
open PySem.IsTupleKey renaming inj->QW
open PySem.NameKind renaming cell->OM,free->Kn
open PySem.Obj renaming mapSeq->Kb
open PySem.Paired renaming length->Ki
open PySem.PassesOwn renaming never->QV
open PySem.SeqAt renaming EqAt->Mf
open PySem.SeqAt.EqAt renaming int_str->Q6,of_refs->Q5,same->Of,str_int->Q4
open PySem.SeqAt.RcAt renaming tuples->QB
open PySem.Shared renaming TypeIs->OT
open PySem.Str renaming join->OS,ofString->JK
open PySem.Txt renaming slice->LJ,slice_le->ND
open PySem.Value renaming bool->O6,builtin->Pz,int->R7,none->LF,ref->Kh,str->R6,type->M1
open PySem.W renaming CodeHd->NK,Frag->JH,OpenLaw->P5,callWith_F->QP,callWith_K->QO,cellsFrom_some->Py,codeHdIn->MJ,codeHd_of_K->MO,codeIn->Lr,envX->Ml,findIn->R5,fnMade->PR,fnOf->L6,keepIn->LI,kla_obj->P4,methodObj->Ob,mg_none_of->LS,mg_of->Mw,nsIn->L5,tabObj->Lh
open PySem.WalksT renaming enumerateD->Qh
open Sum renaming inl->OF,inr->LW
open Sum.inr renaming inj->Lw,injEq->OO
open True renaming intro->N1
noncomputable section
section
namespace L2
open PySem PySem.Spec PyProof.Rows
abbrev Key:=Sum Int Str
noncomputable def qh:Key->JJ->Bool
 | .inl k,v=>Value.isInt k v
 | .inr x,v=>Value.isStrOf x v
noncomputable def J6(w:KH):Key->Int
 | .inl k=>hashInt k
 | .inr x=>hashStr w x
theorem b9:∀{k:Key}{v:JJ},qh k v=true->(∃i t,k=OF i/\v=R7 i t)\/(∃x t,k=LW x/\v=R6 x t)
 | .inl i,v,h=>by
  obtain⟨t,e⟩:=Value.isInt_shape (k:=i) (v:=v) h;exact .inl ⟨i,t,rfl,e⟩
 | .inr x,v,h=>by
  obtain⟨t,e⟩:=Value.isStrOf_shape (x:=x) (v:=v) h;exact .inr ⟨x,t,rfl,e⟩
theorem uS(i:Int)(t:Tok):qh (.inl i) (.int i t)=true:=by simp[qh,Value.isInt]
theorem uR(x:Str)(t:Tok):qh (.inr x) (.str x t)=true:=by simp[qh,Value.isStrOf]
theorem DQ(a b:Int):decide ((OF a:Key)=OF b)=(a == b):=by
 by_cases e:a=b
 ·subst e;simp
 ·have h:¬ (OF a:Key)=OF b:=fun q=>e (Sum.inl.inj q)
  rw[decide_eq_false h];exact(beq_eq_false_iff_ne.mpr e).symm
theorem DN(a b:Str):decide ((LW a:Key)=LW b)=decide (a=b):=by
 by_cases e:a=b
 ·subst e;simp
 ·have h:¬ (LW a:Key)=LW b:=fun q=>e (Lw q)
  rw[decide_eq_false h,decide_eq_false e]
theorem DP(a:Int)(b:Str):decide ((OF a:Key)=LW b)=false:=decide_eq_false (fun q=>nomatch q)
theorem DO(a:Str)(b:Int):decide ((LW a:Key)=OF b)=false:=decide_eq_false (fun q=>nomatch q)
def ak(prog:K5)(w:KH):PySem.KeyKind prog w Key where
 is:=qh
 hash:=J6 w
 inj:=fun v a b ha hb=>by
  rcases b9 ha with⟨i,t,rfl,rfl⟩|⟨x,t,rfl,rfl⟩
  ·rcases b9 hb with⟨j,u,rfl,e⟩|⟨y,u,rfl,e⟩
   ·injection e with e1 _;rw[e1]
   ·exact nomatch e
  ·rcases b9 hb with⟨j,u,rfl,e⟩|⟨y,u,rfl,e⟩
   ·exact nomatch e
   ·injection e with e1 _;rw[e1]
 byValue:=fun k v h=>by
  rcases b9 h with⟨i,t,rfl,rfl⟩|⟨x,t,rfl,rfl⟩ <;> rfl
 pyHash:=fun hv h=>by
  rcases b9 hv with⟨i,t,rfl,rfl⟩|⟨x,t,rfl,rfl⟩
  ·exact wpAny_pyHash_int h
  ·exact wpAny_pyHash_str h
 eqBool:=fun hu hv h=>by
  rcases b9 hu with⟨i,t,rfl,rfl⟩|⟨x,t,rfl,rfl⟩
  ·rcases b9 hv with⟨j,u,rfl,rfl⟩|⟨y,u,rfl,rfl⟩
   ·rw[DQ] at h;exact wpAny_eqBool_int h
   ·rw[DP] at h;exact Q6 i t y u _ _ _ _ h
  ·rcases b9 hv with⟨j,u,rfl,rfl⟩|⟨y,u,rfl,rfl⟩
   ·rw[DO] at h;exact Q4 x t j u _ _ _ _ h
   ·rw[DN] at h;exact wpAny_eqBool_str h
 «strs»:=fun k x t v h=>by
  rcases b9 h with⟨i,u,rfl,e⟩|⟨y,u,rfl,e⟩
  ·exact nomatch e
  ·injection e with e1 _
   subst e1;cases v <;> rfl
theorem q8(prog:K5)(w:KH)(i:Int)(t:Tok):(ak prog w).is (.inl i) (.int i t)=true:=uS i t
theorem fC(prog:K5)(w:KH)(x:Str)(t:Tok):(ak prog w).is (.inr x) (.str x t)=true:=uR x t
abbrev cU:=List (Key ⊕ List Key)
section
variable{prog : K5}{w : KH}{K : Type}[DecidableEq K](knd : KeyKind prog w K)
inductive NItems (h:Heap):List (K ⊕ List K)->List JJ->Prop
 | nil:NItems h [] []
 | sc {k:K} {v:JJ} {ks:List (K ⊕ List K)} {vs:List JJ}:knd.is k v=true->NItems h ks vs->NItems h (.inl k::ks) (v::vs)
 | tp {k:List K} {b:Addr} {ks:List (K ⊕ List K)} {vs:List JJ}:PY knd h k b->NItems h ks vs->NItems h (.inr k::ks) (.ref b::vs)
def bH (h:Heap) (ks:List (K ⊕ List K)) (a:Addr):Prop:=∃o items n,h.get? a=some o/\o.cls=.type "tuple"/\o.data=.seq items n/\NItems knd h ks items.toList
variable{knd}
theorem qV{h:Heap}{k:K}{b:Addr}(h1:knd.is k (.ref b)=true):False:=by
 have:=knd.byValue _ _ h1;simp[carriedByValue] at this
theorem NItems.inj{h:Heap}{x y:List (K ⊕ List K)}{vs:List JJ}(hx:NItems knd h x vs)(hy:NItems knd h y vs):x=y:=by
 induction hx generalizing y with
 | nil=>cases hy;rfl
 | sc h1 _ ih=>
  cases hy with
  | sc h2 t2=>rw[knd.inj _ _ _ h1 h2,ih t2]
  | tp h2 t2=>exact(qV (h:=h) h1).elim
 | tp h1 _ ih=>
  cases hy with
  | sc h2 t2=>exact(qV (h:=h) h2).elim
  | tp h2 t2=>rw[QW h1 h2,ih t2]
theorem bH.typeIs {s:JM} {ks:List (K ⊕ List K)} {a:Addr} (x:bH knd s.heap ks a):s.TypeIs (.ref a) "tuple":=let ⟨o,_,_,ho,hc,_⟩:=x;⟨o,ho,hc⟩
theorem bH.inj{h:Heap}{a:Addr}{x y:List (K ⊕ List K)}(hx:bH knd h x a)(hy:bH knd h y a):x=y:=by
 obtain⟨o,items,n,ho,_,hd,hi⟩:=hx;obtain⟨o',items',n',ho',_,hd',hi'⟩:=hy;obtain rfl:o=o':=Kl (ho.symm.trans ho');rw[hd] at hd';injection hd' with h1 _;subst h1;exact hi.inj hi'
theorem NItems.keeps{h h':Heap}{ks:List (K ⊕ List K)}{vs:List JJ}{d:Addr}{o:Obj}{es ep}(x:NItems knd h ks vs)(ho:h.get? d=some o)(hd:o.data=.dict es ep)(hs:Lq d h h'):NItems knd h' ks vs:=by
 induction x with
 | nil=>exact .nil
 | sc h1 _ ih=>exact .sc h1 ih
 | tp h1 _ ih=>exact .tp (h1.keeps ho hd hs) ih
theorem bH.keeps{h h':Heap}{ks:List (K ⊕ List K)}{a d:Addr}{o:Obj}{es ep}(x:bH knd h ks a)(ho:h.get? d=some o)(hd:o.data=.dict es ep)(hs:Lq d h h'):bH knd h' ks a:=by
 obtain⟨o',items,n,ho',hc,hd',hi⟩:=x
 have hne:a≠d:=by
  rintro rfl;obtain rfl:o'=o:=Kl (ho'.symm.trans ho);rw[hd] at hd';exact nomatch hd'
 exact⟨o',items,n,(hs.2 a hne).trans ho',hc,hd',hi.keeps ho hd hs⟩
noncomputable def lg(knd:KeyKind prog w K):K ⊕ List K->Int
 | .inl k=>knd.hash k
 | .inr ks=>tupleKeyHash knd ks
def pZ:K ⊕ List K->Nat
 | .inl _=>1
 | .inr ks=>ks.length+1
def mN(knd:KeyKind prog w K)(ks:List (K ⊕ List K)):Int:=reduceHash (LH (ks.map (lg knd)))
variable{A : KY}{E : JJ → JM → Prop}{s : JM}
theorem pS{ks:List (K ⊕ List K)}{a:Addr}{Q:Int->JM->Prop}(hu:A.units+8<cLine)(hk:bH knd s.heap ks a)(h:Q (mN knd ks) { s with toks:=s.toks+((ks.map pZ).sum+1) }) :
  JZ (KM prog w) A (pyHash (.ref a)) Q E s:=by
 have hT:=hk.typeIs;obtain⟨o,items,n,ho,_,hd,hi⟩:=hk;unfold pyHash
 first | unfold pyHashByItsType | skip
 first | refine JI (wpAny_cRoomFor_or (.inr (show A.units<cLine by omega)) ?_) | skip
 refine JI (Nc hT Nz.lookup ?_);show JZ _ _ (if (some (Pz "tuple.__hash__") == some LF)=true then _ else _) Q E s;rw[if_neg (by rw[beq_builtin_none];exact JU)];refine JI (Nc hT Nz.lookup ?_);show JZ _ _ (callSpecialIfBoundUnlessNone? (.ref a) "__hash__" _ >>= _) Q E s;refine JI (wpAny_callSpecialIfBoundUnlessNone?_slot hT Nz (Md Nz hT F.entry_tuple_hash ?_ (F.args_tuple_hash_1 _)));show JZ _ _ (Mx (.ref a) >>= _) _ _ s;refine JI (wpAny_tupleItemsOf ho hd ?_);refine JI ?_;rw[← Qk]
 refine Pu _
  (fun rest (b:Array Int) s'=>∃done left,ks=done++left/\NItems knd s.heap left rest/\b.toList=done.map (lg knd)/\s'={ s with toks:=s.toks+(done.map pZ).sum })
  _ ?_ ?_ _ _ ⟨[],ks,rfl,hi,rfl,rfl⟩
 ·rintro x rest b s' ⟨done,left,rfl,hl,hb,rfl⟩
  cases hl with
  | @sc k _ ks' _ h1 hl'=>
   refine JI (knd.pyHash h1 ?_)
   first
    | exact JO ⟨done++[.inl k],ks',by simp,hl',by simp[hb,lg],by simp[N8,pZ]⟩
    | exact JI (JO (JO ⟨done++[.inl k],ks',by simp,hl',by simp[hb,lg],by simp[N8,pZ]⟩))
  | @tp k b' ks' _ h1 hl'=>
   refine JI (wpAny_pyHash_tuple (knd:=knd) (ks:=k) (show A.units+1<cLine by omega) h1 ?_)
   first
    | exact JO ⟨done++[.inr k],ks',by simp,hl',by simp[hb,lg],by simp[N8,pZ]⟩
    | exact JI (JO (JO ⟨done++[.inr k],ks',by simp,hl',by simp[hb,lg],by simp[N8,pZ]⟩))
 ·rintro b s' ⟨done,left,rfl,hl,hb,rfl⟩
  cases hl;rw[Kq] at h;show JZ _ _ (retInt (LH b.toList)) _ _ _;rw[hb];refine wpAny_ret_mkInt ?_;show JZ _ _ (if (decide (-(2:Int) ^ 63<=LH (done.map (lg knd))) && decide (LH (done.map (lg knd))<2 ^ 63))=true then _ else _) Q E _;unfold mN reduceHash at h
  by_cases hr:(decide (-(2:Int) ^ 63<=LH (done.map (lg knd))) && decide (LH (done.map (lg knd))<2 ^ 63))=true
  ·rw[if_pos hr]
   rw[if_pos hr] at h;exact JO (by simpa [N8] using h)
  ·rw[if_neg hr]
   rw[if_neg hr] at h;exact JI (Nt (JO (by simpa [N8] using h)))
end
theorem qv{α:Type}[DecidableEq α]:∀k j:List α,((KQ (min k.length j.length)).all (fun i=>decide (k[i]?=j[i]?)) && k.length == j.length)=decide (k=j)
 | [],[]=>by simp
 | [],_::_=>by simp
 | _::_,[]=>by simp
 | x::k,y::j=>by
  have ih:=qv k j;have hm:min (x::k).length (y::j).length=min k.length j.length+1:=by simp only[KU];omega
  rw[hm,QJ,M9,List.all_map];have hs:((fun i=>decide ((x::k)[i]?=(y::j)[i]?)) ∘ Nat.succ)=fun i=>decide (k[i]?=j[i]?):=by funext i;simp
  rw[hs,KU,KU];have h0:decide ((x::k)[0]?=(y::j)[0]?)=decide (x=y):=by simp
  rw[h0];have e2:(k.length+1 == j.length+1)=(k.length == j.length):=by simp
  rw[e2,Bool.and_assoc,ih,Lp];simp
theorem zG{P P':K5}{w w':KH}{A:KY}{s:JM}{k j:Key}{v u:JJ}(h1:(ak P w).is k v=true)(h2:(ak P' w').is j u=true):Mf A s v u (decide (k=j)):=fun prog ww E Q q=>(ak prog ww).eqBool (a:=k) (b:=j) h1 h2 q
theorem lY{P:K5}{w:KH}{A:KY}{s:JM}:∀{k j:List Key}{vs us:List JJ},ItemsAre (ak P w) k vs->ItemsAre (ak P w) j us->∀(i:Nat)(h1:i<vs.length)(h2:i<us.length),Mf A s vs[i] us[i] (decide (k[i]?=j[i]?))
 | _,_,_,_,.nil,_,i,h1,_=>absurd h1 (M8 _)
 | _,_,_,_,.cons _ _,.nil,i,_,h2=>absurd h2 (M8 _)
 | _,_,_,_,.cons (k:=k) a1 t1,.cons (k:=j) a2 t2,0,_,_=>by
  rw[Kj,Kj,show decide (some k=some j)=decide (k=j) by simp];exact zG a1 a2
 | _,_,_,_,.cons a1 t1,.cons a2 t2,i+1,h1,h2=>by
  rw[KB,KB];exact lY t1 t2 i (by simpa using h1) (by simpa using h2)
theorem Bu{P:K5}{w:KH}{A:KY}{s:JM}{k j:List Key}{a b:Addr}(hu:A.units+1<cLine)(h1:PY (ak P w) s.heap k a)(h2:PY (ak P w) s.heap j b):Mf A s (.ref a) (.ref b) (decide (k=j)):=by
 by_cases e:a=b
 ·subst e
  rw[QW h1 h2,decide_eq_true rfl];exact Of _
 ·obtain⟨o1,i1,n1,g1,c1,d1,m1⟩:=h1
  obtain⟨o2,i2,n2,g2,c2,d2,m2⟩:=h2;have l1:=m1.length;have l2:=m2.length;have z:=qv k j;rw[l1,l2,Kx,Kx] at z;rw[← z];refine Q5 (fun q=>e q) (QB ⟨o1,g1,c1,n1,d1⟩ ⟨o2,g2,c2,n2,d2⟩ (by omega) fun i h1 h2=>?_);have:=lY (A:=A.in1) (s:=s) m1 m2 i (by simpa using h1) (by simpa using h2);simpa using this
theorem zt{P:K5}{w:KH}{A:KY}{s:JM}{k:Key}{j:List Key}{v:JJ}{b:Addr}(hu:A.units<cLine)(h1:(ak P w).is k v=true)(h2:PY (ak P w) s.heap j b):Mf A s v (.ref b) false/\Mf A s (.ref b) v false:=by
 obtain⟨o2,i2,n2,g2,c2,d2,m2⟩:=h2;have pl:s.heap.IsTuple b i2:=⟨o2,g2,c2,n2,d2⟩;rcases b9 h1 with⟨i,t,rfl,rfl⟩|⟨x,t,rfl,rfl⟩
 ·exact⟨SeqAt.EqAt.int_tuple i t pl hu,SeqAt.EqAt.tuple_int i t pl hu⟩
 ·exact⟨SeqAt.EqAt.str_tuple x t pl hu,SeqAt.EqAt.tuple_str x t pl hu⟩
theorem sA{P:K5}{w:KH}{A:KY}{s:JM}(hu:A.units+1<cLine):∀{k j:List (Key ⊕ List Key)}{vs us:List JJ},NItems (ak P w) s.heap k vs->NItems (ak P w) s.heap j us->∀(i:Nat)(h1:i<vs.length)(h2:i<us.length),Mf A s vs[i] us[i] (decide (k[i]?=j[i]?)):=by
 intro k j vs us h1
 induction h1 generalizing j us with
 | nil=>intro _ i h;exact absurd h (M8 _)
 | @sc k v ks vs a1 t1 ih=>
  intro h2 i l1 l2;cases h2 with
  | nil=>exact absurd l2 (M8 _)
  | @sc j u js us a2 t2=>
   cases i with
   | zero=>
    rw[Kj,Kj,show decide (some (OF k:Key ⊕ List Key)=some (.inl j))=decide (k=j) by simp];exact zG a1 a2
   | succ i=>rw[KB,KB];exact ih t2 i (by simpa using l1) (by simpa using l2)
  | @tp j b js us a2 t2=>
   cases i with
   | zero=>
    rw[Kj,Kj,show decide (some (OF k:Key ⊕ List Key)=some (.inr j))=false by simp];exact(zt (by omega) a1 a2).1
   | succ i=>rw[KB,KB];exact ih t2 i (by simpa using l1) (by simpa using l2)
 | @tp k b ks vs a1 t1 ih=>
  intro h2 i l1 l2;cases h2 with
  | nil=>exact absurd l2 (M8 _)
  | @sc j u js us a2 t2=>
   cases i with
   | zero=>
    rw[Kj,Kj,show decide (some (LW k:Key ⊕ List Key)=some (.inl j))=false by simp];exact(zt (by omega) a2 a1).2
   | succ i=>rw[KB,KB];exact ih t2 i (by simpa using l1) (by simpa using l2)
  | @tp j c js us a2 t2=>
   cases i with
   | zero=>
    rw[Kj,Kj,show decide (some (LW k:Key ⊕ List Key)=some (.inr j))=decide (k=j) by simp];exact Bu hu a1 a2
   | succ i=>rw[KB,KB];exact ih t2 i (by simpa using l1) (by simpa using l2)
theorem NItems.length{P:K5}{w:KH}{h:Heap}{k:List (Key ⊕ List Key)}{vs:List JJ}(x:NItems (ak P w) h k vs):k.length=vs.length:=by
 induction x with
 | nil=>rfl
 | sc _ _ ih=>simp[ih]
 | tp _ _ ih=>simp[ih]
theorem B5{P:K5}{w:KH}{A:KY}{s:JM}{k j:List (Key ⊕ List Key)}{a b:Addr}(hu:A.units+8<cLine)(h1:bH (ak P w) s.heap k a)(h2:bH (ak P w) s.heap j b):Mf A s (.ref a) (.ref b) (decide (k=j)):=by
 by_cases e:a=b
 ·subst e
  rw[bH.inj h1 h2,decide_eq_true rfl];exact Of _
 ·obtain⟨o1,i1,n1,g1,c1,d1,m1⟩:=h1
  obtain⟨o2,i2,n2,g2,c2,d2,m2⟩:=h2;have l1:=m1.length;have l2:=m2.length;have z:=qv k j;rw[l1,l2,Kx,Kx] at z;rw[← z];refine Q5 (fun q=>e q) (QB ⟨o1,g1,c1,n1,d1⟩ ⟨o2,g2,c2,n2,d2⟩ (by omega) fun i h1 h2=>?_);have:=sA (A:=A.in1) (s:=s) (show A.units+1+1<cLine by omega) m1 m2 i (by simpa using h1) (by simpa using h2);simpa using this
section
variable{prog : K5}{w : KH}{A : KY}{E : JJ → JM → Prop}{s : JM}
theorem ou{n:Nat}{a:Addr}{items:Array JJ}{Q:Bool->JM->Prop}(ht:s.heap.IsTuple a items)(hq:∀v∈items.toList,∀(Q':Bool->JM->Prop),Q' true s->JZ (KM prog w) A (Px n v) Q' E s)(h:Q true s):JZ (KM prog w) A (Px (n+1) (.ref a)) Q E s:=by
 have hT:=ht.typeIs;obtain⟨o,ho,hc,m,hd⟩:=ht;unfold Px;refine JI (Nc hT F.slot_tuple_eq.lookup ?_);show JZ _ _ (isInstance (.ref a) (.type "tuple") >>= _) _ _ s;refine JI (NJ hT isSubtype_tuple_tuple ?_);simp only[QA,Km,if_false];refine JI (QL ho hd ?_);refine JI ?_;show JZ _ _ (forIn items _ _) _ _ s;rw[← Qk];refine Pu _ (fun rest r s'=>r.1=none/\s'=s/\∀v∈rest,v∈items.toList) _ ?_ ?_ _ _ ⟨rfl,rfl,fun v h=>h⟩
 ·rintro v rest r s' ⟨hr,rfl,hall⟩
  refine JI (hq v (hall v KJ) _ ?_);simp only[QA,Km,if_false];exact JO ⟨rfl,rfl,fun u hu'=>hall u (KI _ hu')⟩
 ·rintro⟨r1,r2⟩ s' ⟨hr,rfl,_⟩
  simp only at hr;subst hr;exact JO h
theorem NItems.quiet{n:Nat}{k:List (Key ⊕ List Key)}{vs:List JJ}(x:NItems (ak prog w) s.heap k vs):∀v∈vs,∀(Q':Bool->JM->Prop),Q' true s->JZ (KM prog w) A (Px (n+1) v) Q' E s:=by
 induction x with
 | nil=>intro v h;cases h
 | sc h1 _ ih=>
  intro v hv Q' hQ;rcases K9.mp hv with rfl | hv
  ·rw[eqIsQuiet_byValue _ ((ak prog w).byValue _ _ h1)]
   exact JO hQ
  ·exact ih v hv Q' hQ
 | tp h1 _ ih=>
  intro v hv Q' hQ;rcases K9.mp hv with rfl | hv
  ·obtain⟨o,items,m,ho,hc,hd,hi⟩:=h1
   refine ou ⟨o,ho,hc,m,hd⟩ (fun u hu Q2 h2=>?_) hQ;rw[eqIsQuiet_byValue _ (hi.byValue u hu)];exact JO h2
  ·exact ih v hv Q' hQ
theorem sj{k:List (Key ⊕ List Key)}{a:Addr}{Q:Bool->JM->Prop}(hk:bH (ak prog w) s.heap k a)(h:Q true s):JZ (KM prog w) A (Px 8 (.ref a)) Q E s:=by
 obtain⟨o,items,m,ho,hc,hd,hi⟩:=hk;exact ou ⟨o,ho,hc,m,hd⟩ hi.quiet h
end
def gq(prog:K5)(w:KH):HeapKind prog w (List (Key ⊕ List Key)) where
 is:=bH (ak prog w)
 hash:=mN (ak prog w)
 draws:=fun ks=>(ks.map pZ).sum+1
 room:=fun A=>A.units+8<cLine
 inj:=fun hx hy=>hx.inj hy
 keeps:=fun x ho hd hs=>x.keeps ho hd hs
 pyHash:=fun hu hk h=>pS hu hk h
 eqBool:=fun hu hx hy h=>B5 hu hx hy _ _ _ _ h
 quiet:=fun hk h=>sj hk h
end L2
namespace L2
open PySem PySem.Spec PyProof.Rows
inductive V where
 | non | bl (b:Bool) | int (i:Int) | str (x:Str) | byt (b:Array UInt8) | flt (b:UInt64) | ref (a:Addr) | ty (n:String)
 deriving DecidableEq
def RelV:V->JJ->Prop
 | .non,u=>u=LF
 | .bl b,u=>u=O6 b
 | .int i,u=>∃t,u=R7 i t
 | .str x,u=>∃t,u=R6 x t
 | .byt b,u=>∃t,u=Value.bytes b t
 | .flt b,u=>∃t,u=Value.float b t
 | .ref a,u=>u=Kh a
 | .ty n,u=>u=M1 n
abbrev Vals:List V->List JJ->Prop:=QQ RelV
theorem Vals.length{xs:List V}{us:List JJ}(r:Vals xs us):xs.length=us.length:=Ki r
theorem Vals.get:∀{xs:List V}{us:List JJ}{i:Nat}{x:V},Vals xs us->xs[i]?=some x->∃u,us[i]?=some u/\RelV x u
 | _,_,_,_,.nil,e=>by simp at e
 | _,_,0,_,.cons r _,e=>by simp at e;subst e;exact⟨_,rfl,r⟩
 | _,_,i+1,x,.cons _ t,e=>by
  obtain⟨u,h1,h2⟩:=Vals.get (i:=i) (x:=x) t (by simpa using e);exact⟨u,by simpa using h1,h2⟩
theorem Vals.append:∀{xs ys:List V}{us ws:List JJ},Vals xs us->Vals ys ws->Vals (xs++ys) (us++ws)
 | _,_,_,_,.nil,s=>s
 | _,_,_,_,.cons r t,s=>.cons r (Vals.append t s)
theorem Vals.take:∀{xs:List V}{us:List JJ}(n:Nat),Vals xs us->Vals (xs.take n) (us.take n)
 | _,_,0,_=>.nil
 | _,_,_+1,.nil=>.nil
 | _,_,n+1,.cons r t=>.cons r (Vals.take n t)
theorem Vals.drop:∀{xs:List V}{us:List JJ}(n:Nat),Vals xs us->Vals (xs.drop n) (us.drop n)
 | _,_,0,r=>r
 | _,_,_+1,.nil=>.nil
 | _,_,n+1,.cons _ t=>Vals.drop n t
def pH:Option V->Option JJ->Prop
 | some v,some u=>RelV v u
 | none,none=>True
 | _,_=>False
def KV{κ:Type}:List (κ×V)->List (κ×JJ)->Prop:=QQ fun (p:κ×V) (q:κ×JJ)=>p.1=q.1/\RelV p.2 q.2
def kV:Key->V
 | .inl i=>.int i
 | .inr x=>.str x
inductive HO where
  | lst (xs:List V)
  | tup (xs:List V)
  | dK (kvs:List (Key×V)) | dT (kvs:List (cU×V))
  | set (S:Int->Bool) (n:Nat)
  | ins (C dx:Addr) (fs:List (Str×V))
  | own (x:Addr)
  | xd (fs:List (Str×V))
  | met (f x:Addr)
  | rng (lo hi:Int)
  | frz (o:Obj) (u:HO)
  | tbl (ps:Array JJ)
  | ext (φ:Heap->Prop)
abbrev Hp:=Addr->Option HO
noncomputable def upd(H:Hp)(a:Addr)(o:HO):Hp:=fun b=>if b=a then some o else H b
theorem ar{H:Hp}{a:Addr}{o:HO}:upd H a o a=some o:=by unfold upd;rw[if_pos rfl]
theorem av{H:Hp}{a b:Addr}{o:HO}(h:b≠a):upd H a o b=H b:=by unfold upd;rw[if_neg h]
theorem DE{H:Hp}{a b:Addr}{o u:HO}(h:H a=some o)(h':H b=some u)(d:o≠u):a≠b:=by
 intro e;subst e;rw[h] at h';exact d (Kl h')
theorem bx{H:Hp}{a b:Addr}{o:HO}(h:H a=some o)(h':H b=none):a≠b:=by
 intro e;subst e;rw[h] at h';cases h'
def yH (h:Heap) (a:Addr) (items:Array JJ):Prop:=∃o,h.get? a=some o/\o.cls=.type "tuple"/\(∃n,o.data=.seq items n)/\((∀v∈items.toList,∃b,v=Kh b)->o.dict=none)
theorem yH.up{h:Heap}{a:Addr}{items:Array JJ}(x:yH h a items):IsTup h a items:=by
 obtain⟨o,e,c,d,_⟩:=x;exact⟨o,e,c,d⟩
theorem yH.new (h:Heap) (items:Array JJ):yH (h.push { cls:=.type "tuple",data:=.seq items }) h.objs.size items:=⟨_,K6 _ rfl,rfl,⟨_,rfl⟩,fun _=>rfl⟩
def NV(H:Hp):cU->List V->Prop
 | [],vs=>vs=[]
 | .inl k::ks,vs=>∃r,vs=kV k::r/\NV H ks r
 | .inr l::ks,vs=>∃c r,vs=.ref c::r/\H c=some (.tup (l.map kV))/\NV H ks r
def f9(H:Hp)(b:Addr)(k:cU):Prop:=∃vs,H b=some (.tup vs)/\NV H k vs
theorem NV.keeps{H H':Hp}(ht:∀b ys,H b=some (.tup ys)->H' b=some (.tup ys)):∀{k:cU}{vs:List V},NV H k vs->NV H' k vs
 | [],_,h=>h
 | .inl _::_,_,⟨r,e,t⟩=>⟨r,e,NV.keeps ht t⟩
 | .inr _::_,_,⟨c,r,e,hc,t⟩=>⟨c,r,e,ht _ _ hc,NV.keeps ht t⟩
theorem f9.keeps{H H':Hp}{b:Addr}{k:cU}(x:f9 H b k)(ht:∀b ys,H b=some (.tup ys)->H' b=some (.tup ys)):f9 H' b k:=let ⟨vs,e,t⟩:=x;⟨vs,ht _ _ e,t.keeps ht⟩
section
variable(P : K5)(w : KH)
def dw(H:Hp)(h:Heap)(a:Addr):HO->Prop
 | .lst xs=>xs.length<=sizeLine/\∃(its:List JJ) (n:Nat),Vals xs its/\h.get? a=some { cls:=.type "list",data:=.seq its.toArray n }
 | .tup xs=>xs.length<=sizeLine/\∃its:List JJ,Vals xs its/\yH h a its.toArray
 | .dK kvs=>kvs.length<=sizeLine/\(a == Ku)=false/\∃vs,KV kvs vs/\h.DictOf (ak P w) a vs
 | .dT kvs=>kvs.length<=sizeLine/\(a == Ku)=false/\∃xs:List (cU×Addr×JJ),
   QQ (fun (p:cU×V) (q:cU×Addr×JJ)=>p.1=q.1/\f9 H q.2.1 p.1/\RelV p.2 q.2.2) kvs xs/\
   ∃o es ep,h.get? a=some o/\o.ExactDict/\o.data=.dict es ep/\es.toList=xs.map (entryOfKey (gq P w))/\(xs.map (·.1)).Nodup
 | .set S n=>h.SetOf (intKind P w) a S n
 | .ins C dx fs=>H dx=some (.own a)/\fs.length<=1000/\dx≠a/\h.get? a=some (PySem.W.instObj C dx)/\
   ∃mA,h.Ns1 dx mA/\(∀f,pH (fs.lookup f) (mA f))/\PySem.Within mA (fs.map (·.1))
 | .own _=>∃o,h.get? a=some o
 | .xd fs=>∃mA,h.Ns1 a mA/\∀f,pH (fs.lookup f) (mA f)
 | .rng lo hi=>∃t u v,h.get? a=some { cls:=.type "range",data:=.fields #[.int lo t,.int hi u,.int 1 v] }
 | .frz o u=>h.get? a=some o/\dw H h a u
 | .tbl ps=>h.get? a=some { cls:=.none,data:=.fields ps }
 | .met f x=>h.get? a=some (Ob (.ref f) (.ref x))
 | .ext φ=>φ h/\(∃o,h.get? a=some o)/\∀h1 h2:Heap,φ h1->(∀o,h1.get? a=some o->h2.get? a=some o)->φ h2
def HOk(H:Hp)(h:Heap):Prop:=∀a o,H a=some o->dw P w H h a o
end
section
variable{P : K5}{w : KH}{H H' : Hp}{h h' : Heap}{a : Addr}{o : HO}
theorem dw.lt(x:dw P w H h a o):a<h.objs.size:=by
 cases o with
 | lst xs=>obtain⟨_,_,_,_,e⟩:=x;exact JR e
 | tup xs=>obtain⟨_,_,_,p⟩:=x;exact p.up.lt
 | dK kvs=>obtain⟨_,_,_,_,o,_,_,e,_⟩:=x;exact JR e
 | dT kvs=>obtain⟨_,_,_,_,o,_,_,e,_⟩:=x;exact JR e
 | set S n=>obtain⟨o,_,_,_,e,_⟩:=x;exact JR e
 | ins C dx fs=>obtain⟨_,_,_,e,_⟩:=x;exact JR e
 | own y=>obtain⟨_,e⟩:=x;exact JR e
 | xd fs=>obtain⟨_,⟨_,_,_,e,_⟩,_⟩:=x;exact JR e
 | rng lo hi=>obtain⟨_,_,_,e⟩:=x;exact JR e
 | frz ob u=>obtain⟨e,_⟩:=x;exact JR e
 | tbl ps=>exact JR (show h.get? a=some _ from x)
 | met f y=>exact JR (show h.get? a=some _ from x)
 | ext φ=>obtain⟨_,⟨_,e⟩,_⟩:=x;exact JR e
theorem Paired.mapP{α β:Type}{F G:α->β->Prop}:∀{l₁:List α}{l₂:List β},QQ F l₁ l₂->(∀a b,F a b->G a b)->QQ G l₁ l₂
 | _,_,.nil,_=>.nil
 | _,_,.cons r t,f=>.cons (f _ _ r) (Paired.mapP t f)
theorem dw.stay(x:dw P w H h a o)(k:∀b u,(b=a\/H b=some (.own a))->h.get? b=some u->h'.get? b=some u)
  (ho:∀b,H b=some (.own a)->H' b=some (.own a)) (ht:∀b xs,H b=some (.tup xs)->H' b=some (.tup xs)):dw P w H' h' a o:=by
 induction o with
 | lst xs=>obtain⟨z,its,n,r,e⟩:=x;exact⟨z,its,n,r,k _ _ (.inl rfl) e⟩
 | tup xs=>obtain⟨z,its,r,ob,e,c⟩:=x;exact⟨z,its,r,ob,k _ _ (.inl rfl) e,c⟩
 | dK kvs=>obtain⟨z,y,vs,r,ob,es,ep,e,c⟩:=x;exact⟨z,y,vs,r,ob,es,ep,k _ _ (.inl rfl) e,c⟩
 | dT kvs=>
  obtain⟨z,y,xs,r,ob,es,ep,e,c⟩:=x;exact⟨z,y,xs,Paired.mapP r fun p q z=>⟨z.1,z.2.1.keeps ht,z.2.2⟩,ob,es,ep,k _ _ (.inl rfl) e,c⟩
 | set S n=>obtain⟨ob,es,ep,t,e,c⟩:=x;exact⟨ob,es,ep,t,k _ _ (.inl rfl) e,c⟩
 | ins C dx fs=>
  obtain⟨d,z,ne,e,mA,⟨od,es,ep,e2,c⟩,r⟩:=x;exact⟨ho _ d,z,ne,k _ _ (.inl rfl) e,mA,⟨od,es,ep,k _ _ (.inr d) e2,c⟩,r⟩
 | own y=>obtain⟨ob,e⟩:=x;exact⟨ob,k _ _ (.inl rfl) e⟩
 | xd fs=>obtain⟨mA,⟨od,es,ep,e,c⟩,r⟩:=x;exact⟨mA,⟨od,es,ep,k _ _ (.inl rfl) e,c⟩,r⟩
 | rng lo hi=>obtain⟨t,u,v,e⟩:=x;exact⟨t,u,v,k _ _ (.inl rfl) e⟩
 | frz ob u ih=>obtain⟨e,q⟩:=x;exact⟨k _ _ (.inl rfl) e,ih q⟩
 | tbl ps=>
  have e:h.get? a=some { cls:=.none,data:=.fields ps }:=x;show h'.get? a=some { cls:=.none,data:=.fields ps };exact k a _ (.inl rfl) e
 | met f y=>
  have e:h.get? a=some (Ob (.ref f) (.ref y)):=x;show h'.get? a=some (Ob (.ref f) (.ref y));exact k a _ (.inl rfl) e
 | ext φ=>obtain⟨p,⟨o,e⟩,st⟩:=x;exact⟨st _ _ p fun o q=>k _ _ (.inl rfl) q,⟨o,k _ _ (.inl rfl) e⟩,st⟩
theorem HOk.lt(x:HOk P w H h)(e:H a=some o):a<h.objs.size:=(x a o e).lt
theorem HOk.fresh(x:HOk P w H h)(e:h.objs.size<=a):H a=none:=by
 cases q:H a with
 | none=>rfl
 | some u=>exact absurd (JY (x.lt q) e) (Kt _)
theorem HOk.kept(x:HOk P w H h)(k:∀b u,h.get? b=some u->h'.get? b=some u):HOk P w H h':=fun a o e=>
 (x a o e).stay (fun b u _ q=>k b u q) (fun _ q=>q) fun _ _ q=>q
theorem HOk.laid(x:HOk P w H h)(k:∀b u,h.get? b=some u->h'.get? b=some u)(hp:h.objs.size<=a)(new:dw P w (upd H a o) h' a o):HOk P w (upd H a o) h':=fun b u e=>by
 have hn:=x.fresh hp
 by_cases hb:b=a
 ·subst hb;rw[ar] at e;cases e;exact new
 ·rw[av hb] at e
  exact(x b u e).stay (fun c v _ q=>k c v q) (fun c q=>by rw[av (bx q hn)];exact q) fun c xs q=>by rw[av (bx q hn)];exact q
end
def Rd(H:Hp)(a:Addr)(u:HO):Prop:=H a=some u\/∃o,H a=some (.frz o u)
theorem Rd.ok{P:K5}{w:KH}{H:Hp}{h:Heap}{a:Addr}{u:HO}(r:Rd H a u)(x:HOk P w H h):dw P w H h a u:=by
 rcases r with r | ⟨o,r⟩
 ·exact x a u r
 ·obtain⟨_,q⟩:=x a _ r
  exact q
def Mut:Option HO->Prop
 | some (.lst _)=>True
 | some (.dK _)=>True
 | some (.dT _)=>True
 | some (.set _ _)=>True
 | some (.ins _ _ _)=>True
 | some (.ext _)=>True
 | _=>False
section
variable{P : K5}{w : KH}{H : Hp}{h h' : Heap}{x e : Addr}{o' : HO}
theorem HOk.write(ok:HOk P w H h)(mu:Mut (H x))(he:e=x\/H e=some (.own x))(k:∀b u,b≠e->h.get? b=some u->h'.get? b=some u)(heo:∃u,h'.get? e=some u)
  (new:dw P w (upd H x o') h' x o'):HOk P w (upd H x o') h':=fun b u q=>by
 have nown:∀c y,H c=some (.own y)->c≠x:=fun c y r z=>by subst z;rw[r] at mu;exact mu
 have ntup:∀c xs,H c=some (.tup xs)->c≠x:=fun c xs r z=>by subst z;rw[r] at mu;exact mu
 by_cases hb:b=x
 ·subst hb;rw[ar] at q;cases q;exact new
 ·rw[av hb] at q
  by_cases hbe:b=e
  ·have q':H b=some (.own x):=by
    rcases he with z | z
    ·exact absurd (hbe.trans z) hb
    ·rw[hbe];exact z
   rw[q] at q';cases q';obtain⟨v,hv⟩:=heo;exact⟨v,by rw[hbe];exact hv⟩
  ·refine(ok b u q).stay (fun c v hc r=>k c v ?_ r) (fun c r=>by rw[av (nown c b r)];exact r) fun c xs r=>by rw[av (ntup c xs r)];exact r
   rcases hc with rfl | hc
   ·exact hbe
   ·rintro rfl
    rcases he with z | z
    ·exact nown c b hc z
    ·rw[hc] at z;cases z;exact hb rfl
end
structure Un(fs ex:List Addr)(H H':Hp)(h h':Heap):Prop where
 keep:∀b o,h.get? b=some o->H b=none->b ∉ fs->b ∉ ex->h'.get? b=some o
 slot:∀b o,h.get? b=some o->H b=none->b∈fs->b ∉ ex->∃sl,h'.get? b=some { o with slots:=sl }
 free:∀b o,h.get? b=some o->H b=none->b ∉ ex->H' b=none
 there:∀b o,h.get? b=some o->b ∉ ex->∃o',h'.get? b=some o'
 tups:∀b xs,H b=some (.tup xs)->H' b=some (.tup xs)
 frzs:∀b o u,H b=some (.frz o u)->H' b=some (.frz o u)
 tbls:∀b ps,H b=some (.tbl ps)->∃more,H' b=some (.tbl (ps++more))
section
variable{fs fs' ex ex' : List Addr}{H H1 H2 : Hp}{h h1 h2 h' : Heap}{a x e : Addr}{o : HO}
theorem Un.any(u:Un fs ex H H1 h h1){b:Addr}{ob:Obj}(q:h.get? b=some ob)(n:H b=none)(hx:b ∉ ex):∃sl,h1.get? b=some { ob with slots:=sl }:=by
 by_cases hb:b∈fs
 ·exact u.slot b ob q n hb hx
 ·exact⟨ob.slots,u.keep b ob q n hb hx⟩
theorem Un.kept(k:∀b u,h.get? b=some u->h'.get? b=some u):Un fs ex H H h h':=
 ⟨fun b ob q _ _ _=>k b ob q,fun b ob q _ _ _=>⟨ob.slots,k b ob q⟩,fun _ _ _ n _=>n,fun b ob q _=>⟨ob,k b ob q⟩,fun _ _ q=>q,fun _ _ _ q=>q,fun _ ps q=>⟨#[],by rw[q];simp⟩⟩
theorem Un.refl:Un fs ex H H h h:=Un.kept fun _ _ q=>q
theorem Un.laid(k:∀b u,h.get? b=some u->h'.get? b=some u)(hp:h.objs.size<=a)(hn:H a=none):Un fs ex H (upd H a o) h h' where
 keep:=fun b u q _ _ _=>k b u q
 slot:=fun b u q _ _ _=>⟨u.slots,k b u q⟩
 free:=fun b u q n _=>by rw[av (K7 (JY (JR q) hp))];exact n
 there:=fun b u q _=>⟨u,k b u q⟩
 tups:=fun b xs q=>by rw[av (bx q hn)];exact q
 frzs:=fun b u xs q=>by rw[av (bx q hn)];exact q
 tbls:=fun b ps q=>⟨#[],by rw[av (bx q hn),q];simp⟩
theorem Un.write(mu:Mut (H x))(he:e=x\/H e=some (.own x))(k:∀b u,b≠e->h.get? b=some u->h'.get? b=some u)(heo:∃u,h'.get? e=some u):Un fs ex H (upd H x o) h h':=by
 have hx:∀b,H b=none->b≠x:=fun b n z=>by subst z;rw[n] at mu;exact mu
 have hb:∀b,H b=none->b≠e:=fun b n z=>by
  subst z;rcases he with r | r
  ·exact hx b n r
  ·rw[n] at r;cases r
 have hm:∀b u,H b=some u->¬ Mut (some u)->b≠x:=fun b u q nm z=>by subst z;rw[q] at mu;exact nm mu
 refine⟨fun b u q n _ _=>k b u (hb b n) q,fun b u q n _ _=>⟨u.slots,k b u (hb b n) q⟩,fun b u q n _=>by rw[av (hx b n)];exact n,fun b u q _=>?_,
  fun b xs q=>by rw[av (hm b _ q fun z=>z)];exact q,fun b u xs q=>by rw[av (hm b _ q fun z=>z)];exact q,fun b ps q=>⟨#[],by rw[av (hm b _ q fun z=>z),q];simp⟩⟩
 by_cases hbe:b=e
 ·subst hbe;exact heo
 ·exact⟨u,k b u hbe q⟩
end
noncomputable def trk(h:Heap)(H:Hp):List Addr:=(KQ h.objs.size).filter fun a=>(H a).isSome
def xZ(h:Heap)(H:Hp):Heap:=PySem.W.hideAll h (trk h H)
theorem v9(h:Heap)(H:Hp):(xZ h H).objs.size=h.objs.size:=PySem.W.hideAll_size _ _
theorem xY{h:Heap}{H:Hp}{b:Addr}{o:Obj}(e:h.get? b=some o)(n:H b=none):(xZ h H).get? b=some o:=
 PySem.W.hideAll_get _ e fun hm=>by
  have q:(H b).isSome=true:=(LQ.mp hm).2;rw[n] at q;simp at q
theorem AX{h:Heap}{H:Hp}{b:Addr}{o:Obj}(e:(xZ h H).get? b=some o):h.get? b=some o/\H b=none:=by
 have e':h.get? b=some o:=PySem.W.of_hideAll (trk h H) e;refine⟨e',?_⟩;cases q:H b with
 | none=>rfl
 | some x=>
  have hm:b∈trk h H:=LQ.mpr ⟨LD.mpr (JR e'),by simp[q]⟩;have z:(xZ h H).get? b=none:=PySem.W.hideAll_none (trk h H) hm;rw[z] at e;cases e
noncomputable def BZ(g h:Heap)(L:Addr):List (Addr×Obj):=(KQ h.objs.size).filterMap fun a=>if a=L\/(g.get? a).isSome=true then none else (h.get? a).map fun o=>(a,o)
def rest(g h:Heap)(L d:Addr):List (Addr×Obj):=(BZ g h L).filter fun p=>decide (p.1≠d)
end L2
namespace L2
open PySem PySem.Spec PyProof.Rows
structure Mod(K:JH)(mg:Str->Option JJ)(base:Heap):Prop where
 kin:K.In base
 glob:base.Ns mainGlobals mg
 blt:∃mb,base.Ns L0 mb/\∀x:Str,x≠"__name__"->mb x=MD x
 nolimit:base.NoLimit
structure Cx where
 prog:K5
 w:KH
 K:JH
 mg:Str->Option JJ
 base:Heap
 A:KY
 N:List Str
 s₀:JM
 H₀:Hp
 env:Ow
 outer:List Ow
 stack:List Ow
 ex:List Addr
 fn:Str->Bool
 calm:Bool
 pn:List (Addr×Obj)
 xe:JJ->JM->Prop
def frs(l:List Ow):List Addr:=l.filterMap (·.frame)
abbrev Cx.fs(X:Cx):List Addr:=frs X.outer
def Vis(sc:Scope)(x:Str):Prop:=sc.names.lookup x=some .local\/sc.names.lookup x=some .cell\/sc.names.lookup x=some .free
def Loc(sc:Scope)(x:Str):Prop:=sc.names.lookup x=some .local\/sc.names.lookup x=some .cell
def Look(env:Ow)(h:Heap)(m:Str->Option JJ)(x:Str)(u:JJ):Prop:=
 (env.kindOf x=some .local/\m x=some u)\/((env.kindOf x=some .cell\/env.kindOf x=some .free)/\∃c,env.cells.lookup x=some c/\h.IsCell c (some u))
structure Cx.Ok(X:Cx):Prop where
 mod:Mod X.K X.mg X.base
 kind:X.env.scope.kind=.function
 glob:X.env.globals=mainGlobals
 blt:X.env.builtins=L0
 above:X.s₀.heap.objs.size<=X.env.locals
 inj:∀x y c,X.env.cells.lookup x=some c->X.env.cells.lookup y=some c->x=y
 has:∀x,(X.env.kindOf x=some .cell\/X.env.kindOf x=some .free)->∃c,X.env.cells.lookup x=some c
 cab:∀x c,X.fn x=true->X.env.cells.lookup x=some c->X.s₀.heap.objs.size<=c
 hd:X.calm=true->X.A.handled=none
 frames:X.A.frames=some X.stack
 stk:X.stack=X.outer\/(X.stack=X.env::X.outer/\X.env.frame=some X.env.locals)
 exf:∀b∈X.ex,b≠X.env.locals/\∀x c,X.env.cells.lookup x=some c->c≠b
 bs:∀b o,X.base.get? b=some o->X.s₀.heap.get? b=some o/\X.H₀ b=none
 bsz:X.base.objs.size<=X.s₀.heap.objs.size
 noex:∀b o,X.base.get? b=some o->b ∉ X.ex
 exfs:∀b∈X.ex,b ∉ X.fs
 funs:X.s₀.heap.FunFrames X.base X.outer
 frf:∀b∈X.fs,X.H₀ b=none
structure Inv(X:Cx)(pins:List (Addr×Obj))(σ:List (Option V))(H:Hp)(s:JM):Prop where
 ok:X.Ok
 os:s.os=X.s₀.os
 bare:OV s.gens
 base:Un X.fs X.ex X.H₀ H X.s₀.heap s.heap
 loc:∃m,s.heap.Ns X.env.locals m/\∀(i:Nat)(x:Str)(v:V),X.N[i]?=some x->σ[i]?=some (some v)->Vis X.env.scope x->∃u,RelV v u/\Look X.env s.heap m x u
 cell:∀x c,X.env.cells.lookup x=some c->∃v,s.heap.IsCell c v
 free:H X.env.locals=none
 freeC:∀x c,X.env.cells.lookup x=some c->H c=none
 pin:∀p∈X.pn++pins,s.heap.get? p.1=some p.2/\H p.1=none/\p.1≠X.env.locals/\p.1 ∉ X.fs/\∀v,p.2.data≠.cell v
 hok:HOk X.prog X.w H s.heap
 len:σ.length=X.N.length
section
variable{X : Cx}{pins : List (Addr×Obj)}{σ : List (Option V)}{H H' : Hp}{s : JM}{h' : Heap}
theorem Cx.Ok.nofr(ok:X.Ok){b:Addr}{o:Obj}(e:X.base.get? b=some o):b ∉ X.fs:=fun hb=>by
 have:=(ok.funs.mem hb).1;rw[e] at this;cases this
theorem Inv.bs(I:Inv X pins σ H s):∀b o,X.base.get? b=some o->s.heap.get? b=some o/\H b=none:=fun b o e=>
 ⟨I.base.keep b o (I.ok.bs b o e).1 (I.ok.bs b o e).2 (I.ok.nofr e) (I.ok.noex b o e),I.base.free b o (I.ok.bs b o e).1 (I.ok.bs b o e).2 (I.ok.noex b o e)⟩
theorem Inv.bk(I:Inv X pins σ H s):∀b o,X.base.get? b=some o->s.heap.get? b=some o:=fun b o e=>(I.bs b o e).1
theorem Inv.mod(I:Inv X pins σ H s):Mod X.K X.mg X.base:=I.ok.mod
theorem Inv.kIn(I:Inv X pins σ H s):X.K.In s.heap:=I.ok.mod.kin.keeps I.bk
theorem Inv.lt(I:Inv X pins σ H s):X.env.locals<s.heap.objs.size:=let ⟨_,hn,_⟩:=I.loc;hn.lt
theorem Inv.sz(I:Inv X pins σ H s):X.s₀.heap.objs.size<=s.heap.objs.size:=Ko I.ok.above (OI I.lt)
theorem Inv.nofs(I:Inv X pins σ H s){a:Addr}(h:s.heap.objs.size<=a):a ∉ X.fs:=fun hb=>by
 obtain⟨_,o,ho,_⟩:=I.ok.funs.mem hb;exact absurd (JY (JR ho) (Ko I.sz h)) (Kt _)
theorem Inv.cne(I:Inv X pins σ H s):∀x c,X.env.cells.lookup x=some c->c≠X.env.locals:=fun x c e z=>by
 obtain⟨v,o,ho,hd⟩:=I.cell x c e;obtain⟨m,⟨o',es,ep,ho',hd',_⟩,_⟩:=I.loc;rw[z,ho'] at ho;cases ho;rw[hd'] at hd;cases hd
theorem Inv.funs(I:Inv X pins σ H s):s.heap.FunFrames X.base X.outer:=by
 have all:∀(l:List Ow),(∀b∈frs l,b∈X.fs)->X.s₀.heap.FunFrames X.base l->s.heap.FunFrames X.base l:=by
  intro l
  induction l with
  | nil=>intro _ _;trivial
  | cons env r ih=>
   intro hs hl;obtain⟨hk,⟨L,o,hf,hn,ho,hd⟩,hr⟩:=hl;have hL:L∈X.fs:=hs L (by unfold frs;rw[Lv,hf];exact KJ);obtain⟨sl,e⟩:=I.base.slot L o ho (I.ok.frf L hL) hL fun z=>I.ok.exfs L z hL;exact⟨hk,⟨L,_,hf,hn,e,hd⟩,ih (fun b hb=>hs b (by unfold frs;rw[Lv,hf];exact KI _ hb)) hr⟩
 exact all X.outer (fun _ hb=>hb) I.ok.funs
theorem Inv.stack(I:Inv X pins σ H s):s.heap.FunFrames X.base X.stack:=by
 rcases I.ok.stk with e | ⟨e,hf⟩
 ·rw[e];exact I.funs
 ·rw[e]
  obtain⟨m,hn,_⟩:=I.loc;refine .cons (by rw[I.ok.kind];decide) hf hn ?_ I.funs;exact QX (Ko I.ok.bsz I.ok.above)
theorem Inv.stkSub(I:Inv X pins σ H s):∀b∈frs X.stack,b∈X.env.locals::X.fs:=fun b hb=>by
 rcases I.ok.stk with e | ⟨e,hf⟩
 ·rw[e] at hb;exact KI _ hb
 ·rw[e] at hb
  unfold frs at hb;rw[Lv,hf] at hb;exact hb
theorem Inv.stkFree(I:Inv X pins σ H s):∀b∈frs X.stack,H b=none:=fun b hb=>by
 rcases K9.mp (I.stkSub b hb) with e | hb
 ·rw[e];exact I.free
 ·obtain⟨_,o,ho,_⟩:=I.ok.funs.mem hb
  exact I.base.free b o ho (I.ok.frf b hb) fun z=>I.ok.exfs b z hb
theorem Inv.step{g':Array GenState}{t':Nat}{d':Drawn}{ch:List Addr}(I:Inv X pins σ H s)
  (hch:∀b∈ch,(b∈X.ex\/X.s₀.heap.objs.size<=b)/\b≠X.env.locals/\(∀x c,X.env.cells.lookup x=some c->c≠b)/\∀p∈X.pn++pins,p.1≠b)
  (keep:∀b o,b≠X.env.locals->b ∉ X.fs->b ∉ ch->s.heap.get? b=some o->H b=none->h'.get? b=some o)
  (slot:∀b o,b≠X.env.locals->b∈X.fs->b ∉ ch->s.heap.get? b=some o->H b=none->∃sl,h'.get? b=some { o with slots:=sl }) (free:∀b o,b ∉ ch->s.heap.get? b=some o->H b=none->H' b=none)
  (there:∀b o,b ∉ ch->s.heap.get? b=some o->∃o',h'.get? b=some o')
  (tups:∀b xs,H b=some (.tup xs)->H' b=some (.tup xs)) (frzs:∀b o u,H b=some (.frz o u)->H' b=some (.frz o u)) (tbls:∀b ps,H b=some (.tbl ps)->∃more,H' b=some (.tbl (ps++more)))
  (ns:∀m,s.heap.Ns X.env.locals m->h'.Ns X.env.locals m) (hok:HOk X.prog X.w H' h') (hg:OV g') :
  Inv X pins σ H' { s with heap:=h',gens:=g',drawn:=d',toks:=t' }:=by
 have neL:∀b o,X.s₀.heap.get? b=some o->b≠X.env.locals:=fun b o e=>K7 (JY (JR e) I.ok.above)
 have neC:∀b o,X.s₀.heap.get? b=some o->b ∉ X.ex->b ∉ ch:=fun b o e hx hb=>by
  rcases (hch b hb).1 with z | z
  ·exact hx z
  ·exact absurd (JY (JR e) z) (Kt _)
 have cellK:∀x c,X.env.cells.lookup x=some c->∀v,s.heap.IsCell c v->h'.IsCell c v:=fun x c e v ⟨o,ho,hd⟩=>by
  have nch:c ∉ ch:=fun z=>(hch c z).2.2.1 x c e rfl
  by_cases hc:c∈X.fs
  ·obtain⟨sl,q⟩:=slot c o (I.cne x c e) hc nch ho (I.freeC x c e)
   exact⟨_,q,hd⟩
  ·exact⟨o,keep c o (I.cne x c e) hc nch ho (I.freeC x c e),hd⟩
 refine⟨I.ok,I.os,hg,⟨fun b o e n hb hx=>?_,fun b o e n hb hx=>?_,fun b o e n hx=>?_,fun b o e hx=>?_,fun b xs e=>tups b xs (I.base.tups b xs e),fun b o xs e=>frzs b o xs (I.base.frzs b o xs e),fun b ps e=>?_⟩,?_,fun x c e=>?_,?_,fun x c e=>?_,fun p hp=>?_,hok,I.len⟩
 ·exact keep b o (neL b o e) hb (neC b o e hx) (I.base.keep b o e n hb hx) (I.base.free b o e n hx)
 ·obtain⟨sl,e1⟩:=I.base.slot b o e n hb hx
  obtain⟨sl',e2⟩:=slot b _ (neL b o e) hb (neC b o e hx) e1 (I.base.free b o e n hx);exact⟨sl',e2⟩
 ·obtain⟨o',e1⟩:=I.base.there b o e hx
  exact free b o' (neC b o e hx) e1 (I.base.free b o e n hx)
 ·obtain⟨o',e1⟩:=I.base.there b o e hx
  exact there b o' (neC b o e hx) e1
 ·obtain⟨m1,e1⟩:=I.base.tbls b ps e
  obtain⟨m2,e2⟩:=tbls b _ e1;exact⟨m1++m2,by rw[e2,Array.append_assoc]⟩
 ·obtain⟨m,hn,hl⟩:=I.loc
  refine⟨m,ns m hn,fun i x v e1 e2 e3=>?_⟩;obtain⟨u,r,l⟩:=hl i x v e1 e2 e3;refine⟨u,r,?_⟩;rcases l with l | ⟨k,c,e,z⟩
  ·exact .inl l
  ·exact .inr ⟨k,c,e,cellK x c e _ z⟩
 ·obtain⟨v,z⟩:=I.cell x c e
  exact⟨v,cellK x c e v z⟩
 ·obtain⟨m,⟨o,_,_,ho,_⟩,_⟩:=I.loc
  exact free _ o (fun z=>(hch _ z).2.1 rfl) ho I.free
 ·obtain⟨v,o,ho,hd⟩:=I.cell x c e
  exact free c o (fun z=>(hch c z).2.2.1 x c e rfl) ho (I.freeC x c e)
 ·obtain⟨e,n,ne,nf,d⟩:=I.pin p hp
  have nch:p.1 ∉ ch:=fun z=>(hch p.1 z).2.2.2 p hp rfl;exact⟨keep p.1 p.2 ne nf nch e n,free p.1 p.2 nch e n,ne,nf,d⟩
theorem Inv.un{t':Nat}(I:Inv X pins σ H s)(u:Un X.fs [] H H' s.heap h')(hok:HOk X.prog X.w H' h'):Inv X pins σ H' { s with heap:=h',toks:=t' }:=by
 obtain⟨m,⟨o,es,ep,ho,r⟩,_⟩:=id I.loc;obtain⟨sl,hL⟩:=u.any ho I.free (by simp)
 exact I.step (g':=s.gens) (d':=s.drawn) (ch:=[]) (fun _ z=>nomatch z) (fun b o _ hb _ e n=>u.keep b o e n hb (by simp)) (fun b o _ hb _ e n=>u.slot b o e n hb (by simp)) (fun b o _ e n=>u.free b o e n (by simp)) (fun b o _ e=>u.there b o e (by simp)) u.tups u.frzs u.tbls (fun m' hm=>by
  obtain⟨o',es',ep',ho',r'⟩:=hm;rw[ho] at ho';cases ho';exact⟨_,es',ep',hL,r'⟩) hok I.bare
theorem Inv.call{g':Array GenState}{t':Nat}{d':Drawn}{ch:List Addr}(I:Inv X pins σ H s)(u:Un (frs X.stack) ch H H' s.heap h')(hok:HOk X.prog X.w H' h')(hg:OV g')
  (hch:∀b∈ch,(b∈X.ex\/X.s₀.heap.objs.size<=b)/\b≠X.env.locals/\(∀x c,X.env.cells.lookup x=some c->c≠b)/\∀p∈X.pn++pins,p.1≠b) :
  Inv X pins σ H' { s with heap:=h',gens:=g',drawn:=d',toks:=t' }:=by
 obtain⟨m,⟨o,es,ep,ho,r⟩,_⟩:=id I.loc;obtain⟨sl,hL⟩:=u.any ho I.free fun z=>(hch _ z).2.1 rfl
 exact I.step (ch:=ch) hch (fun b o hL hb hc e n=>u.keep b o e n (fun z=>(K9.mp (I.stkSub b z)).elim hL hb) hc) (fun b o _ _ hc e n=>u.any e n hc) (fun b o hc e n=>u.free b o e n hc) (fun b o hc e=>u.there b o e hc) u.tups u.frzs u.tbls (fun m' hm=>by
  obtain⟨o',es',ep',ho',r'⟩:=hm;rw[ho] at ho';cases ho';exact⟨_,es',ep',hL,r'⟩) hok hg
theorem Inv.turned{t':Nat}{it:Addr}(I:Inv X pins σ H s)(k:∀b o,b≠it->s.heap.get? b=some o->h'.get? b=some o)(hn:H it=none)(hL:it≠X.env.locals)
  (h1:it∈X.ex\/X.s₀.heap.objs.size<=it) (h2:∀x c,X.env.cells.lookup x=some c->c≠it) (h3:∀p∈X.pn++pins,p.1≠it):Inv X pins σ H { s with heap:=h',toks:=t' }:=by
 have nit:∀b u,H b=some u->b≠it:=fun b u e z=>by rw[z,hn] at e;cases e
 refine I.step (g':=s.gens) (d':=s.drawn) (ch:=[it]) (fun b hb=>?_) (fun b o _ _ hc e _=>k b o (fun z=>hc (by simp[z])) e) (fun b o _ _ hc e _=>⟨o.slots,k b o (fun z=>hc (by simp[z])) e⟩) (fun _ _ _ _ n=>n)
  (fun b o hc e=>⟨o,k b o (fun z=>hc (by simp[z])) e⟩) (fun _ _ e=>e) (fun _ _ _ e=>e) (fun b ps e=>⟨#[],by rw[e];simp⟩) (fun m hm=>?_) (fun b u e=>?_) I.bare
 ·have e:b=it:=by simpa using hb
  subst e;exact⟨h1,hL,h2,h3⟩
 ·obtain⟨o,es,ep,ho,r⟩:=hm
  exact⟨o,es,ep,k _ o (LY hL) ho,r⟩
 ·refine(I.hok b u e).stay (fun c v hc q=>k c v ?_ q) (fun _ q=>q) fun _ _ q=>q
  rcases hc with z | z
  ·rw[z];exact nit b u e
  ·exact nit c _ z
theorem Inv.tok(I:Inv X pins σ H s)(t:Nat):Inv X pins σ H { s with toks:=t }:=I.un (h':=s.heap) (t':=t) Un.refl I.hok
theorem Inv.kept{t':Nat}(I:Inv X pins σ H s)(k:∀b u,s.heap.get? b=some u->h'.get? b=some u):Inv X pins σ H { s with heap:=h',toks:=t' }:=I.un (Un.kept k) (I.hok.kept k)
theorem Inv.laid{a:Addr}{o:HO}{t':Nat}(I:Inv X pins σ H s)(k:∀b u,s.heap.get? b=some u->h'.get? b=some u)(hp:s.heap.objs.size<=a)(new:dw X.prog X.w (upd H a o) h' a o) :
  Inv X pins σ (upd H a o) { s with heap:=h',toks:=t' }:=I.un (Un.laid k hp (I.hok.fresh hp)) (I.hok.laid k hp new)
theorem Inv.write{x e:Addr}{o:HO}{t':Nat}(I:Inv X pins σ H s)(mu:Mut (H x))(he:e=x\/H e=some (.own x))(k:∀b u,b≠e->s.heap.get? b=some u->h'.get? b=some u)(heo:∃u,h'.get? e=some u)
  (new:dw X.prog X.w (upd H x o) h' x o):Inv X pins σ (upd H x o) { s with heap:=h',toks:=t' }:=I.un (Un.write mu he k heo) (I.hok.write mu he k heo new)
theorem Inv.pins_of{pins':List (Addr×Obj)}(I:Inv X pins σ H s)(h:∀p∈pins',s.heap.get? p.1=some p.2/\H p.1=none/\p.1≠X.env.locals/\p.1 ∉ X.fs/\∀v,p.2.data≠.cell v):Inv X pins' σ H s:=
 ⟨I.ok,I.os,I.bare,I.base,I.loc,I.cell,I.free,I.freeC,fun p hp=>(Kd.mp hp).elim (fun z=>I.pin p (N9 _ z)) (h p),I.hok,I.len⟩
theorem qW{N:List Str}(hN:N.Nodup){i j:Nat}{x:Str}(a:N[i]?=some x)(b:N[j]?=some x):i=j:=by
 obtain⟨h1,e1⟩:=JL.mp a;obtain⟨h2,e2⟩:=JL.mp b;exact(PP hN).mp (e1.trans e2.symm)
theorem tP{M:Model}{A:KY}{E:JJ->JM->Prop}{i:Nat}{x:Str}{v:V}{u:JJ}{Q:Unit->JM->Prop}(I:Inv X pins σ H s)(hN:X.N.Nodup)(hi:X.N[i]?=some x)(hx:Loc X.env.scope x)(r:RelV v u)
  (h:∀s',Inv X pins (σ.set i (some v)) H s'->(∃a,Lq a s.heap s'.heap/\(a=X.env.locals\/X.env.cells.lookup x=some a))->Q () s') (hf:X.fn x=true\/X.env.scope.names.lookup x=some .local:=by first | exact .inl rfl | exact .inr rfl | assumption):JZ M A (Qm X.env x u) Q E s:=by
 obtain⟨m,hn,hl⟩:=id I.loc;have hcls:(X.env.scope.kind == .class || (X.env.scope.kind == .module && X.env.locals != X.env.globals))=false:=by rw[I.ok.kind];rfl
 have hiσ:i<σ.length:=by rw[I.len];exact(JL.mp hi).1
 have cne:=I.cne
 have tracked:∀{a:Addr}{h':Heap},(∃o,s.heap.get? a=some o/\H a=none)->Lq a s.heap h'->HOk X.prog X.w H h':=fun {a h'} ha hs b ob e=>by
  obtain⟨_,_,hfree⟩:=ha;refine(I.hok b ob e).stay (fun c w' hc q=>(hs.2 c ?_).trans q) (fun _ q=>q) fun _ _ q=>q;rintro rfl;rcases hc with rfl | hc
  ·rw[hfree] at e;cases e
  ·rw[hfree] at hc;cases hc
 rcases hx with hk | hk
 ·refine wpAny_storeName_local hk hn (fun h' hn' hs=>?_) hcls
  obtain⟨oL,_,_,hoL,_⟩:=id hn;refine h _ ⟨I.ok,I.os,I.bare,⟨fun b o e n hb hx=>?_,fun b o e n hb hx=>?_,I.base.free,fun b o e hx=>?_,I.base.tups,I.base.frzs,I.base.tbls⟩,⟨_,hn',fun j y v' e1 e2 e3=>?_⟩,fun y c e=>?_,I.free,I.freeC,fun p hp=>?_,tracked ⟨oL,hoL,I.free⟩ hs,by simpa using I.len⟩ ⟨_,hs,.inl rfl⟩
  ·exact(hs.2 b (K7 (JY (JR e) I.ok.above))).trans (I.base.keep b o e n hb hx)
  ·obtain⟨sl,e1⟩:=I.base.slot b o e n hb hx
   exact⟨sl,(hs.2 b (K7 (JY (JR e) I.ok.above))).trans e1⟩
  ·obtain⟨o',e1⟩:=I.base.there b o e hx
   exact⟨o',(hs.2 b (K7 (JY (JR e) I.ok.above))).trans e1⟩
  ·by_cases hj:j=i
   ·subst hj
    rw[hi] at e1;cases e1;rw[Mq hiσ] at e2;cases e2;exact⟨u,r,.inl ⟨hk,by simp⟩⟩
   ·rw[ML (LY hj)] at e2
    obtain⟨u',r',q⟩:=hl j y v' e1 e2 e3;refine⟨u',r',?_⟩;rcases q with⟨k,e⟩|⟨k,c,e,z⟩
    ·refine .inl ⟨k,?_⟩
     have:y≠x:=fun e=>hj (qW hN e1 (e▸hi));simp[this,e]
    ·exact .inr ⟨k,c,e,z.sameBut hs (cne y c e)⟩
  ·obtain⟨w',z⟩:=I.cell y c e
   exact⟨w',z.sameBut hs (cne y c e)⟩
  ·obtain⟨e,n,ne,nf,d⟩:=I.pin p hp
   exact⟨(hs.2 p.1 ne).trans e,n,ne,nf,d⟩
 ·have hfn:X.fn x=true:=by
   rcases hf with z | z
   ·exact z
   ·rw[z] at hk;cases hk
  obtain⟨c,hc⟩:=I.ok.has x (.inl hk);obtain⟨w',z⟩:=I.cell x c hc;refine wpAny_storeName_cell I.ok.kind hk hc z (fun h' hc' hs=>?_);obtain⟨oc,hoc,hocd⟩:=id z;refine h { s with heap:=h' } ⟨I.ok,I.os,I.bare,⟨fun b o e n hb hx=>?_,fun b o e n hb hx=>?_,I.base.free,fun b o e hx=>?_,I.base.tups,I.base.frzs,I.base.tbls⟩,⟨m,hn.sameBut hs (LY (cne x c hc)),fun j y v' e1 e2 e3=>?_⟩,fun y c' e=>?_,I.free,I.freeC,fun p hp=>?_,tracked ⟨oc,hoc,I.freeC x c hc⟩ hs,by simpa using I.len⟩ ⟨c,hs,.inr hc⟩
  ·exact(hs.2 b (K7 (JY (JR e) (I.ok.cab x c hfn hc)))).trans (I.base.keep b o e n hb hx)
  ·obtain⟨sl,e1⟩:=I.base.slot b o e n hb hx
   exact⟨sl,(hs.2 b (K7 (JY (JR e) (I.ok.cab x c hfn hc)))).trans e1⟩
  ·obtain⟨o',e1⟩:=I.base.there b o e hx
   exact⟨o',(hs.2 b (K7 (JY (JR e) (I.ok.cab x c hfn hc)))).trans e1⟩
  ·by_cases hj:j=i
   ·subst hj
    rw[hi] at e1;cases e1;rw[Mq hiσ] at e2;cases e2;exact⟨u,r,.inr ⟨.inl hk,c,hc,hc'⟩⟩
   ·rw[ML (LY hj)] at e2
    obtain⟨u',r',q⟩:=hl j y v' e1 e2 e3;refine⟨u',r',?_⟩;rcases q with q | ⟨k,c',e,z'⟩
    ·exact .inl q
    ·refine .inr ⟨k,c',e,z'.sameBut hs ?_⟩
     rintro rfl;exact hj (qW hN e1 (I.ok.inj _ _ _ e hc▸hi))
  ·by_cases hcc:c'=c
   ·subst hcc;exact⟨_,hc'⟩
   ·obtain⟨w2,z2⟩:=I.cell y c' e
    exact⟨w2,z2.sameBut hs hcc⟩
  ·obtain⟨e,n,ne,nf,d⟩:=I.pin p hp
   refine⟨(hs.2 p.1 ?_).trans e,n,ne,nf,d⟩;intro q;rw[q,hoc] at e;have q':oc=p.2:=Kl e;exact d w' (by rw[← q'];exact hocd)
theorem jt{M:Model}{A:KY}{E:JJ->JM->Prop}{i:Nat}{x:Str}{v:V}{u:JJ}{Q:Unit->JM->Prop}(I:Inv X pins σ H s)(hN:X.N.Nodup)(hi:X.N[i]?=some x)(hx:Loc X.env.scope x)(r:RelV v u)
  (h:∀s',Inv X pins (σ.set i (some v)) H s'->Q () s') (hf:X.fn x=true\/X.env.scope.names.lookup x=some .local:=by first | exact .inl rfl | exact .inr rfl | assumption):JZ M A (Qm X.env x u) Q E s:=
 tP I hN hi hx r (fun s' I' _=>h s' I') hf
theorem Inv.call'{s':JM}{ch:List Addr}(I:Inv X pins σ H s)(ho:s'.os=s.os)(u:Un (frs X.stack) ch H H' s.heap s'.heap)(hok:HOk X.prog X.w H' s'.heap)(hg:OV s'.gens)
  (hch:∀b∈ch,(b∈X.ex\/X.s₀.heap.objs.size<=b)/\b≠X.env.locals/\(∀x c,X.env.cells.lookup x=some c->c≠b)/\∀p∈X.pn++pins,p.1≠b):Inv X pins σ H' s':=by
 obtain⟨h',g',d',t',o'⟩:=s';have e:o'=s.os:=ho;subst e;exact I.call (g':=g') (t':=t') (d':=d') u hok hg hch
end
abbrev XK:=JJ->Option Addr->Hp->Prop
abbrev St:=List (Option V)
abbrev VK:=V->Hp->Prop
abbrev TE:=St->Hp->VK->Prop
abbrev TT:=St->Hp->(Bool->Hp->Prop)->Prop
abbrev TA:=St->Hp->(List V->Hp->Prop)->Prop
structure Ends where
 nx:St->Hp->Prop
 rt:VK
 bk:St->Hp->Prop:=fun _ _=>False
 ct:St->Hp->Prop:=fun _ _=>False
abbrev TS:=Ends->St->Hp->Prop
def EP(X:Cx)(pins:List (Addr×Obj))(σ:St)(Q:VK)(u:JJ)(s':JM):Prop:=∃v H',Inv X pins σ H' s'/\RelV v u/\Q v H'
def TP(X:Cx)(pins:List (Addr×Obj))(σ:St)(Q:Bool->Hp->Prop)(b:Bool)(s':JM):Prop:=∃H',Inv X pins σ H' s'/\Q b H'
def AP(X:Cx)(pins:List (Addr×Obj))(σ:St)(Q:List V->Hp->Prop)(us:List JJ)(s':JM):Prop:=∃vs H',Inv X pins σ H' s'/\Vals vs us/\Q vs H'
def SP(X:Cx)(pins:List (Addr×Obj))(D:Ends)(f:Flow)(s':JM):Prop:=
 match f with
 | .next=>∃σ' H',Inv X pins σ' H' s'/\D.nx σ' H'
 | .brk=>∃σ' H',Inv X pins σ' H' s'/\D.bk σ' H'
 | .cont=>∃σ' H',Inv X pins σ' H' s'/\D.ct σ' H'
 | .ret u=>∃v σ' H',Inv X pins σ' H' s'/\RelV v u/\D.rt v H'
def PE(X:Cx)(e:Expr)(t:TE):Prop:=
 ∀(pins:List (Addr×Obj))(s:JM)(σ:St)(H:Hp)(Q:VK),Inv X pins σ H s->t σ H Q->JZ (KM X.prog X.w) X.A (L9 e X.env) (EP X pins σ Q) X.xe s
def PT(X:Cx)(e:Expr)(t:TT):Prop:=
 ∀(pins:List (Addr×Obj))(s:JM)(σ:St)(H:Hp)(Q:Bool->Hp->Prop),Inv X pins σ H s->t σ H Q->JZ (KM X.prog X.w) X.A (isTrue e X.env (L9 e X.env)) (TP X pins σ Q) X.xe s
def PW(X:Cx)(e:Expr)(t:TT):Prop:=
 ∀(whole:Sem JJ)(pins:List (Addr×Obj))(s:JM)(σ:St)(H:Hp)(Q:Bool->Hp->Prop),Inv X pins σ H s->t σ H Q->JZ (KM X.prog X.w) X.A (isTrue e X.env whole) (TP X pins σ Q) X.xe s
theorem PW.pt{X:Cx}{e:Expr}{t:TT}(h:PW X e t):PT X e t:=h _
def PA(X:Cx)(es:List Expr)(t:TA):Prop:=
 ∀(pos:La)(pins:List (Addr×Obj))(s:JM)(σ:St)(H:Hp)(Q:List V->Hp->Prop),Inv X pins σ H s->t σ H Q->JZ (KM X.prog X.w) X.A (spliced (MM pos (K1 es X.env))) (AP X pins σ Q) X.xe s
def PS(X:Cx)(st:Stmt)(t:TS):Prop:=
 ∀(pins:List (Addr×Obj))(s:JM)(σ:St)(H:Hp)(D:Ends),Inv X pins σ H s->t D σ H->JZ (KM X.prog X.w) X.A (exec st X.env) (SP X pins D) X.xe s
def PSs(X:Cx)(st:List Stmt)(t:TS):Prop:=
 ∀(pins:List (Addr×Obj))(s:JM)(σ:St)(H:Hp)(D:Ends),Inv X pins σ H s->t D σ H->JZ (KM X.prog X.w) X.A (execs st X.env) (SP X pins D) X.xe s
theorem thn{α:Type}{t:Sem α}{Q Q':α->JM->Prop}{M:Model}{A:KY}{E:JJ->JM->Prop}{s:JM}(h:JZ M A t Q E s)(hQ:∀a s,Q a s->Q' a s):JZ M A t Q' E s:=LZ h hQ fun _ _ x=>x
end L2
namespace L2
open PySem PySem.Spec PyProof.Rows
section
variable{X : Cx}
def Iu(i:Nat):TE:=fun σ H Q=>∃v,σ[i]?=some (some v)/\Q v H
def tC(v:V):TE:=fun _ H Q=>Q v H
theorem eG {i:Nat} {x:Str} {pos:La} (hN:X.N[i]?=some x) (hv:Vis X.env.scope x) (hd:(x == ("__debug__":Str))=false:=by decide) (hcd:(x == ("__classdict__":Str))=false:=by decide):PE X (.Name x pos) (Iu i):=by
 intro pins s σ H Q I h;obtain⟨v,e,h⟩:=h;obtain⟨m,hn,hl⟩:=I.loc;obtain⟨u,r,l⟩:=hl i x v hN e hv;have fin:EP X pins σ Q u s:=⟨v,H,I,r,h⟩;rcases l with⟨hk,hm⟩|⟨hk,c,hc,hcell⟩
 ·exact wpAny_Name (wpAny_loadName_local I.ok.kind hk hn hm fin) hd
 ·rcases hk with hk | hk
  ·exact wpAny_Name (wpAny_loadName_cell I.ok.kind hk hc hcell fin) hd
  ·exact wpAny_Name (wpAny_loadName_free I.ok.kind hk hc hcell fin hcd) hd
theorem Dk{i j pos}:PE X (.Constant (.int i) j pos) (tC (.int i)):=fun _ _ _ H _ I h=>wpAny_Constant_int ⟨.int i,H,I.tok _,⟨_,rfl⟩,h⟩
theorem Gs{b j pos}:PE X (.Constant (.bool b) j pos) (tC (.bl b)):=fun _ _ _ H _ I h=>Constant_bool ⟨.bl b,H,I,rfl,h⟩
theorem Dg{j pos}:PE X (.Constant .none j pos) (tC .non):=fun _ _ _ H _ I h=>Constant_none ⟨.non,H,I,rfl,h⟩
theorem uk{x j pos}:PE X (.Constant (.str x) j pos) (tC (.str x)):=fun _ _ _ H _ I h=>Calls.Constant_str ⟨.str x,H,I.tok _,⟨_,rfl⟩,h⟩
def Gl(X:Cx)(x:Str):Prop:=X.env.kindOf x=some .globalImplicit
theorem qd{E:JJ->JM->Prop}{pins:List (Addr×Obj)}{s:JM}{σ:St}{H:Hp}{x:Str}{u:JJ}{pos:La}{Q:JJ->JM->Prop}(I:Inv X pins σ H s)(hg:Gl X x)(hm:X.mg x=some u)(h:Q u s)
  (hd:(x == ("__debug__":Str))=false:=by decide):JZ (KM X.prog X.w) X.A (L9 (.Name x pos) X.env) Q E s:=
 Pj I.ok.kind hg (Calls.loadGlobal_global (by rw[I.ok.glob];exact I.mod.glob.keeps I.bk) hm h) hd
theorem kj{E:JJ->JM->Prop}{pins:List (Addr×Obj)}{s:JM}{σ:St}{H:Hp}{x:Str}{u:JJ}{pos:La}{Q:JJ->JM->Prop}(I:Inv X pins σ H s)(hg:Gl X x)(hm:X.mg x=none)(hv:MD x=some u)(h:Q u s)
  (hn:x≠"__name__":=by decide) (hd:(x == ("__debug__":Str))=false:=by decide):JZ (KM X.prog X.w) X.A (L9 (.Name x pos) X.env) Q E s:=by
 obtain⟨mb,h1,h2⟩:=I.mod.blt;exact Pj I.ok.kind hg (Calls.loadGlobal_builtin (by rw[I.ok.glob];exact I.mod.glob.keeps I.bk) hm (by rw[I.ok.blt];exact h1.keeps I.bk) ((h2 x hn).trans hv) h) hd
theorem AQ {x:Str} {v:V} {u:JJ} {pos:La} (hg:Gl X x) (hm:X.mg x=some u) (r:RelV v u) (hd:(x == ("__debug__":Str))=false:=by decide):PE X (.Name x pos) (tC v):=
 fun _ _ _ H _ I h=>qd I hg hm ⟨v,H,I,r,h⟩ hd
variable{a b : Expr}{ta tb : TE}{pos : La}
variable{tA tB' : TT}{rest : List Expr}
noncomputable def IJ(t u:TT):TT:=fun σ H Q=>t σ H fun c H1=>if c=true then u σ H1 Q else Q false H1
noncomputable def tOr(t u:TT):TT:=fun σ H Q=>t σ H fun c H1=>if c=true then Q true H1 else u σ H1 Q
def IC(t:TT):TT:=fun σ H Q=>t σ H fun c H1=>Q (!c) H1
theorem AH(ha:PT X a tA):PW X (.BoolOp .And [a] pos) tA:=by
 intro wh pins s σ H Q I h;refine isTrue_and (thn (ha pins s σ H Q I h) fun c s1 e=>?_);cases c with
 | true=>exact isTrue_and_nil e
 | false=>exact e
theorem D5(ha:PT X a tA):PW X (.BoolOp .Or [a] pos) tA:=by
 intro wh pins s σ H Q I h;refine isTrue_or (thn (ha pins s σ H Q I h) fun c s1 e=>?_);cases c with
 | false=>exact isTrue_or_nil e
 | true=>exact e
theorem D6(ha:PT X a tA)(hb:PW X (.BoolOp .And (b::rest) pos) tB'):PW X (.BoolOp .And (a::b::rest) pos) (IJ tA tB'):=by
 intro wh pins s σ H Q I h;refine isTrue_and (thn (ha pins s σ H _ I h) fun c s1 ⟨H1,I1,q1⟩=>?_);cases c with
 | true=>exact hb wh pins s1 σ H1 Q I1 q1
 | false=>exact⟨H1,I1,q1⟩
theorem Gi(ha:PT X a tA)(hb:PW X (.BoolOp .Or (b::rest) pos) tB'):PW X (.BoolOp .Or (a::b::rest) pos) (tOr tA tB'):=by
 intro wh pins s σ H Q I h;refine isTrue_or (thn (ha pins s σ H _ I h) fun c s1 ⟨H1,I1,q1⟩=>?_);cases c with
 | true=>exact⟨H1,I1,q1⟩
 | false=>exact hb wh pins s1 σ H1 Q I1 q1
theorem D8(ha:PT X a tA):PT X (.UnaryOp .Not a pos) (IC tA):=by
 intro pins s σ H Q I h;exact isTrue_not (ha pins s σ H (fun c H1=>Q (!c) H1) I h)
noncomputable def tIf(t:TT)(ta tb:TE):TE:=fun σ H Q=>t σ H fun c H1=>if c=true then ta σ H1 Q else tb σ H1 Q
theorem xx{c:Expr}(hc:PT X c tA)(ha:PE X a ta)(hb:PE X b tb):PE X (.IfExp c a b pos) (tIf tA ta tb):=by
 intro pins s σ H Q I h;refine wpAny_IfExp (thn (hc pins s σ H _ I h) fun d s1 ⟨H1,I1,q1⟩=>?_);cases d with
 | true=>exact ha pins s1 σ H1 Q I1 q1
 | false=>exact hb pins s1 σ H1 Q I1 q1
end
end L2
namespace L2
open PySem PySem.Spec PyProof.Rows
def SqL(K:JH)(H:Hp)(a:Addr)(xs:List V):Prop:=
 Rd H a (.lst xs) ∨
  ∃(o:Obj) (its:Array JJ) (n:Nat),K.lookup a=some o/\o.cls=.type "list"/\o.dict=none/\o.data=.seq its n/\its.size<=sizeLine/\Vals xs its.toList
def SqT(K:JH)(H:Hp)(a:Addr)(xs:List V):Prop:=
 Rd H a (.tup xs) ∨
  ∃(o:Obj) (its:Array JJ) (n:Nat),K.lookup a=some o/\o.cls=.type "tuple"/\o.data=.seq its n/\its.size<=sizeLine/\Vals xs its.toList/\o.dict=none
noncomputable def Js:JJ->Option V
 | .none=>some .non
 | .bool b=>some (.bl b)
 | .int i _=>some (.int i)
 | .str x _=>some (.str x)
 | .bytes b _=>some (.byt b)
 | .float b _=>some (.flt b)
 | .ref a=>some (.ref a)
 | .type n=>some (.ty n)
 | _=>none
theorem RelV.abs{x:V}{u:JJ}(r:RelV x u):Js u=some x:=by
 cases x with
 | non=>cases r;rfl
 | bl _=>cases r;rfl
 | int _=>obtain⟨t,rfl⟩:=r;rfl
 | str _=>obtain⟨t,rfl⟩:=r;rfl
 | byt _=>obtain⟨t,rfl⟩:=r;rfl
 | flt _=>obtain⟨t,rfl⟩:=r;rfl
 | ref _=>cases r;rfl
 | ty _=>cases r;rfl
theorem RelV.inj{x y:V}{u:JJ}(r:RelV x u)(q:RelV y u):x=y:=Kl (r.abs.symm.trans q.abs)
theorem Vals.inj:∀{xs ys:List V}{us:List JJ},Vals xs us->Vals ys us->xs=ys
 | _,_,_,.nil,.nil=>rfl
 | _,_,_,.cons r t,.cons r' t'=>by rw[r.inj r',Vals.inj t t']
section
variable{X : Cx}{pins : List (Addr×Obj)}{σ : St}{H : Hp}{s : JM}{a : Addr}{xs ys : List V}
theorem SqL.of{K:JH}(h:H a=some (.lst xs)):SqL K H a xs:=.inl (.inl h)
theorem Inv.list(I:Inv X pins σ H s)(h:SqL X.K H a xs):∃its:List JJ,Vals xs its/\PlainL s.heap a its.toArray/\xs.length<=sizeLine:=by
 rcases h with h | ⟨o,its,n,hk,hc,hd,hs,hz,r⟩
 ·obtain⟨z,its,n,r,e⟩:=h.ok I.hok
  exact⟨its,r,⟨_,n,e,rfl,rfl,rfl⟩,z⟩
 ·refine⟨its.toList,r,⟨o,n,I.kIn a o hk,hc,hd,by simpa using hs⟩,?_⟩
  have e:=r.length;simp only[Kx] at e;omega
theorem Inv.tuple(I:Inv X pins σ H s)(h:SqT X.K H a xs):∃its:List JJ,Vals xs its/\IsTup s.heap a its.toArray/\xs.length<=sizeLine:=by
 rcases h with h | ⟨o,its,n,hk,hc,hs,hz,r,hdn⟩
 ·obtain⟨z,its,r,p⟩:=h.ok I.hok
  exact⟨its,r,p.up,z⟩
 ·refine⟨its.toList,r,⟨o,I.kIn a o hk,hc,n,by simpa using hs⟩,?_⟩
  have e:=r.length;simp only[Kx] at e;omega
theorem Inv.tupleX(I:Inv X pins σ H s)(h:SqT X.K H a xs):∃its:List JJ,Vals xs its/\yH s.heap a its.toArray/\xs.length<=sizeLine:=by
 rcases h with h | ⟨o,its,n,hk,hc,hs,hz,r,hdn⟩
 ·obtain⟨z,its,r,p⟩:=h.ok I.hok
  exact⟨its,r,p,z⟩
 ·refine⟨its.toList,r,⟨o,I.kIn a o hk,hc,⟨n,by simpa using hs⟩,fun _=>hdn⟩,?_⟩
  have e:=r.length;simp only[Kx] at e;omega
theorem Inv.list_inj(I:Inv X pins σ H s)(h:SqL X.K H a xs)(h':SqL X.K H a ys):xs=ys:=by
 obtain⟨its,r,⟨o,n,e,_,_,d⟩,_⟩:=I.list h;obtain⟨its',r',⟨o',n',e',_,_,d'⟩,_⟩:=I.list h';rw[e] at e';cases e';rw[d] at d';injection d' with d1 _;have:its=its':=by simpa using congrArg Array.toList d1
 subst this;exact r.inj r'
theorem Inv.tuple_inj(I:Inv X pins σ H s)(h:SqT X.K H a xs)(h':SqT X.K H a ys):xs=ys:=by
 obtain⟨its,r,⟨o,e,_,n,d⟩,_⟩:=I.tuple h;obtain⟨its',r',⟨o',e',_,n',d'⟩,_⟩:=I.tuple h';rw[e] at e';cases e';rw[d] at d';injection d' with d1 _;have:its=its':=by simpa using congrArg Array.toList d1
 subst this;exact r.inj r'
end
abbrev Cx.wish(X:Cx)(E:JJ->JM->Prop):Cx:={ X with xe:=E }
abbrev Cx.nox(X:Cx):Cx:=X.wish fun _ _=>False
theorem Cx.Ok.wish{X:Cx}(ok:X.Ok)(E:JJ->JM->Prop):(X.wish E).Ok:=
 ⟨ok.mod,ok.kind,ok.glob,ok.blt,ok.above,ok.inj,ok.has,ok.cab,ok.hd,ok.frames,ok.stk,ok.exf,ok.bs,ok.bsz,ok.noex,ok.exfs,ok.funs,ok.frf⟩
theorem Cx.Ok.unwish{X:Cx}{E:JJ->JM->Prop}(ok:(X.wish E).Ok):X.Ok:=
 ⟨ok.mod,ok.kind,ok.glob,ok.blt,ok.above,ok.inj,ok.has,ok.cab,ok.hd,ok.frames,ok.stk,ok.exf,ok.bs,ok.bsz,ok.noex,ok.exfs,ok.funs,ok.frf⟩
section
variable{X : Cx}{pins : List (Addr×Obj)}{σ : St}{H : Hp}{s : JM}{E : JJ → JM → Prop}
theorem Inv.wish(I:Inv X pins σ H s)(E:JJ->JM->Prop):Inv (X.wish E) pins σ H s:=⟨I.ok.wish E,I.os,I.bare,I.base,I.loc,I.cell,I.free,I.freeC,I.pin,I.hok,I.len⟩
theorem Inv.unwish(I:Inv (X.wish E) pins σ H s):Inv X pins σ H s:=⟨I.ok.unwish,I.os,I.bare,I.base,I.loc,I.cell,I.free,I.freeC,I.pin,I.hok,I.len⟩
theorem SP.unwish{D:Ends}{f:Flow}{s':JM}(h:SP (X.wish E) pins D f s'):SP X pins D f s':=by
 cases f with
 | next=>obtain⟨σ',H',I,q⟩:=h;exact⟨σ',H',I.unwish,q⟩
 | brk=>obtain⟨σ',H',I,q⟩:=h;exact⟨σ',H',I.unwish,q⟩
 | cont=>obtain⟨σ',H',I,q⟩:=h;exact⟨σ',H',I.unwish,q⟩
 | ret u=>obtain⟨v,σ',H',I,r,q⟩:=h;exact⟨v,σ',H',I.unwish,r,q⟩
theorem PSs.nox{st:List Stmt}{t:TS}(h:PSs X.nox st t):PSs X st t:=fun pins s σ H D I hw=>
 LZ (h pins s σ H D (I.wish _) hw) (fun _ _ q=>q.unwish) fun _ _ z=>JP z
end
section
variable{X : Cx}{st : Stmt}{rest : List Stmt}{t u : TS}{e : Expr}{te : TE}{pos : La}
def G0:TS:=fun D σ H=>D.nx σ H
def Iz(t u:TS):TS:=fun D σ H=>t { D with nx:=u D } σ H
theorem u9:PSs X [] G0:=fun _ _ σ H _ I h=>OW ⟨σ,H,I,h⟩
theorem dC(h1:PS X st t)(h2:PSs X rest u):PSs X (st::rest) (Iz t u):=by
 intro pins s σ H D I h;refine wpAny_execs_cons (thn (h1 pins s σ H { D with nx:=u D } I h) fun f s1 q=>?_);cases f with
 | next=>
  obtain⟨σ',H',I',q⟩:=q;exact h2 pins s1 σ' H' D I' q
 | ret v=>exact q
 | brk=>exact q
 | cont=>exact q
theorem iN(h1:PS X st t):PSs X [st] t:=by
 intro pins s σ H D I h;refine wpAny_execs_cons (thn (h1 pins s σ H D I h) fun f s1 q=>?_);cases f with
 | next=>exact OW q
 | ret v=>exact q
 | brk=>exact q
 | cont=>exact q
def CL:TS:=fun D σ H=>D.bk σ H
theorem xr:PS X (.Break pos) CL:=fun _ _ σ H _ I h=>wpAny_Break ⟨σ,H,I,h⟩
theorem Inv.quiet{pins:List (Addr×Obj)}{σ:St}{H:Hp}{s:JM}(I:Inv X pins σ H s):interactive X.env=false:=by simp[interactive,I.ok.kind]
def G3(te:TE):TS:=fun D σ H=>te σ H fun _ H1=>D.nx σ H1
theorem ua(he:PE X e te)(hs:MK e none pos.line X.env=pure false:=by rfl):PS X (.Expr e pos) (G3 te):=by
 intro pins s σ H D I h;exact wpAny_Expr_any (thn (he pins s σ H _ I h) fun v s1 ⟨x,H1,I1,r1,q1⟩=>⟨σ,H1,I1,q1⟩) I.quiet hs
def IA(te:TE):TS:=fun D σ H=>te σ H D.rt
theorem lI(he:PE X e te):PS X (.Return (some e) pos) (IA te):=by
 intro pins s σ H D I h;exact wpAny_Return_some (thn (he pins s σ H _ I h) fun v s1 ⟨x,H1,I1,r1,q1⟩=>⟨x,σ,H1,I1,r1,q1⟩)
noncomputable def IG(c:TT)(t u:TS):TS:=fun D σ H=>c σ H fun b H1=>if b=true then t D σ H1 else u D σ H1
theorem D9{c:Expr}{a b:List Stmt}{tc:TT}(hc:PT X c tc)(ha:PSs X a t)(hb:PSs X b u):PS X (.If c a b pos) (IG tc t u):=by
 intro pins s σ H D I h;refine wpAny_If (thn (hc pins s σ H _ I h) fun d s1 ⟨H1,I1,q1⟩=>?_);cases d with
 | true=>exact ha pins s1 σ H1 D I1 q1
 | false=>exact hb pins s1 σ H1 D I1 q1
end
abbrev TG:=V->St->Hp->(St->Hp->Prop)->Prop
abbrev TGs:=List V->St->Hp->(St->Hp->Prop)->Prop
def PG(X:Cx)(target:Expr)(t:TG):Prop:=
 ∀(pins:List (Addr×Obj))(s:JM)(σ:St)(H:Hp)(v:V)(u:JJ)(Q:St->Hp->Prop),Inv X pins σ H s->RelV v u->t v σ H Q->
  JZ (KM X.prog X.w) X.A (Ot target X.env u) (fun _ s'=>∃σ' H',Inv X pins σ' H' s'/\Q σ' H') X.xe s
def PGs(X:Cx)(ts:List Expr)(t:TGs):Prop:=
 ∀(pins:List (Addr×Obj))(s:JM)(σ:St)(H:Hp)(vs:List V)(us:List JJ)(Q:St->Hp->Prop),Inv X pins σ H s->Vals vs us->t vs σ H Q->
  JZ (KM X.prog X.w) X.A (assignInOrder ((Lo ts X.env).map (·.2)) us) (fun _ s'=>∃σ' H',Inv X pins σ' H' s'/\Q σ' H') X.xe s
abbrev Ju:=V->V->V->Hp->(Hp->Prop)->Prop
abbrev TIp:=V->V->Hp->VK->Prop
def PIp(X:Cx)(op:Operator)(t:TIp):Prop:=
 ∀(pins:List (Addr×Obj))(s:JM)(σ:St)(H:Hp)(x y:V)(v u:JJ)(Q:VK),Inv X pins σ H s->RelV x v->RelV y u->t x y H Q->
  JZ (KM X.prog X.w) X.A (inplaceOp op v u) (EP X pins σ Q) X.xe s
section
variable{X : Cx}{pos : La}
def yc(i:Nat):TG:=fun v σ H Q=>Q (σ.set i (some v)) H
theorem mI{i:Nat}{x:Str}(hN:X.N.Nodup)(hi:X.N[i]?=some x)(hx:Loc X.env.scope x)(hf:X.fn x=true\/X.env.scope.names.lookup x=some .local:=by first | exact .inl rfl | exact .inr rfl | assumption):PG X (.Name x pos) (yc i):=by
 intro pins s σ H v u Q I r h;exact wpAny_assign_Name (jt I hN hi hx r (fun s' I'=>⟨_,H,I',h⟩) hf)
def Jj:TGs:=fun vs σ H Q=>vs=[]/\Q σ H
noncomputable def GW(t:TG)(u:TGs):TGs:=fun vs σ H Q=>∃v r,vs=v::r/\t v σ H fun σ' H'=>u r σ' H' Q
theorem ug:PGs X [] Jj:=by
 intro pins s σ H vs us Q I r h;obtain⟨e,h⟩:=h;subst e;cases r;exact assignInOrder_nil ⟨σ,H,I,h⟩
theorem qS{e:Expr}{es:List Expr}{t:TG}{u:TGs}(h1:PG X e t)(h2:PGs X es u)
  (hs:(Lo (e::es) X.env).map (·.2)=Ot e X.env::(Lo es X.env).map (·.2):=by rfl):PGs X (e::es) (GW t u):=by
 intro pins s σ H vs us Q I r h;obtain⟨v,vr,e1,h⟩:=h;subst e1;cases r with
 | cons r rr=>
  rw[hs];refine assignInOrder_cons (thn (h1 pins s σ H _ _ _ I r h) fun _ s1 ⟨σ1,H1,I1,q1⟩=>?_);exact h2 pins s1 σ1 H1 _ _ Q I1 rr q1
noncomputable def Ji(K:JH)(n:Nat)(t:TGs):TG:=fun v σ H Q=>∃a xs,v=.ref a/\SqT K H a xs/\xs.length=n/\t xs σ H Q
theorem zh{es:List Expr}{k:Nat}{t:TGs}{n:Nat}(hc:X.calm=true)(h:PGs X es t)
  (hn:(Lo es X.env).length=n:=by rfl) (hst:(Lo es X.env).findIdx? (·.1)=none:=by rfl):PG X (.Tuple es k pos) (Ji X.K n t):=by
 intro pins s σ H v u Q I r hw;obtain⟨a,xs,e1,hq,hl,hw⟩:=hw;subst e1;cases r;obtain⟨its,rv,ht,hz⟩:=I.tuple hq;refine assign_Tuple_tuple (I.ok.hd hc) ht (by simp[hn,← hl,rv.length]) hst fun h' hx=>?_;have I1:Inv X pins σ H { s with heap:=h' }:=I.kept (t':=s.toks) fun b o e=>hx b o (K7 (JR e)) e;exact h pins _ σ H xs _ Q I1 (by simpa using rv) hw
noncomputable def Ef(to ti:TE)(t:Ju):TG:=fun v σ H Q=>to σ H fun o H1=>ti σ H1 fun i H2=>t o i v H2 fun H3=>Q σ H3
noncomputable def G7(te:TE)(g:TG):TS:=fun D σ H=>te σ H fun x H1=>g x σ H1 D.nx
theorem qQ{i:Nat}{x:Str}{e:Expr}{te:TE}{pos':La}(hN:X.N.Nodup)(hi:X.N[i]?=some x)(hx:Loc X.env.scope x)(he:PE X e te)(hs:MK e (some (.Name x pos')) pos.line X.env=pure false:=by rfl)(hf:X.fn x=true\/X.env.scope.names.lookup x=some .local:=by first | exact .inl rfl | exact .inr rfl | assumption) :
  PS X (.Assign [.Name x pos'] e pos) (G7 te (yc i)):=by
 intro pins s σ H D I h;refine wpAny_Assign_Name (thn (he pins s σ H _ I h) fun v s1 ⟨y,H1,I1,r1,q1⟩=>?_) hs;exact jt I1 hN hi hx r1 (fun s2 I2=>⟨_,H1,I2,q1⟩) hf
noncomputable def II(i:Nat)(te:TE)(ti:TIp):TS:=fun D σ H=>∃x,σ[i]?=some (some x)/\te σ H fun y H1=>ti x y H1 fun z H2=>D.nx (σ.set i (some z)) H2
theorem Dd{i:Nat}{x:Str}{e:Expr}{te:TE}{op:Operator}{ti:TIp}{pos':La}(hN:X.N.Nodup)(hi:X.N[i]?=some x)(hx:Loc X.env.scope x)(he:PE X e te)(ho:PIp X op ti)(hf:X.fn x=true\/X.env.scope.names.lookup x=some .local:=by first | exact .inl rfl | exact .inr rfl | assumption) :
  PS X (.AugAssign (.Name x pos') op e pos) (II i te ti):=by
 intro pins s σ H D I h;obtain⟨v,e1,h⟩:=h;obtain⟨m,hn,hl⟩:=I.loc;have vis:Vis X.env.scope x:=by rcases hx with k | k;exact .inl k;exact .inr (.inl k)
 obtain⟨u,r,l⟩:=hl i x v hi e1 vis;refine wpAny_AugAssign_Name ?_
 have go:JZ (KM X.prog X.w) X.A (L9 e X.env) (fun w s₂=>JZ (KM X.prog X.w) X.A (inplaceOp op u w) (fun r s₃=>JZ (KM X.prog X.w) X.A (Qm X.env x r) (fun _=>SP X pins D .next) X.xe s₃) X.xe s₂) X.xe s:=by
  refine thn (he pins s σ H _ I h) fun w s1 ⟨y,H1,I1,r1,q1⟩=>?_;refine thn (ho pins s1 σ H1 v y u w _ I1 r r1 q1) fun z s2 ⟨zv,H2,I2,r2,q2⟩=>?_;exact jt I2 hN hi hx r2 (fun s3 I3=>⟨_,H2,I3,q2⟩) hf
 rcases l with⟨hk,hm⟩|⟨hk,c,hc,hcell⟩
 ·exact wpAny_loadName_local I.ok.kind hk hn hm go
 ·rcases hk with hk | hk
  ·exact wpAny_loadName_cell I.ok.kind hk hc hcell go
  ·rcases hx with k | k
   ·have:X.env.scope.names.lookup x=some .free:=hk
    rw[k] at this;cases this
   ·have:X.env.scope.names.lookup x=some .free:=hk
    rw[k] at this;cases this
noncomputable def ipI(f:Int->Int->Int):TIp:=fun x y H Q=>∃i j,x=.int i/\y=.int j/\Q (.int (f i j)) H
theorem Ed:PIp X .Add (ipI fun i j=>i+j):=by
 intro pins s σ H x y v u Q I r1 r2 h;obtain⟨i,j,e1,e2,q⟩:=h;subst e1;subst e2;obtain⟨t,rfl⟩:=r1;obtain⟨t',rfl⟩:=r2;exact iadd_int ⟨.int _,H,I.tok _,⟨_,rfl⟩,q⟩
end
section
variable{X : Cx}{pos : La}
noncomputable def CG(c:TT)(tb:TS):TS:=fun D σ H=>∃W:Nat->St->Hp->Prop,(∃m,W m σ H)/\∀m σ H,W m σ H->
 c σ H fun b H1=>if b=true then ∃N:St->Hp->Prop,(∀σ' H',N σ' H'->∃m',m'<m/\W m' σ' H')/\tb { D with nx:=N,ct:=N,bk:=D.nx } σ H1 else D.nx σ H1
theorem xq{c:Expr}{body:List Stmt}{tc:TT}{tb:TS}(hp:Qr (KM X.prog X.w) X.A X.env X.xe)(hc:PT X c tc)(hb:PSs X body tb):PS X (.While c body [] pos) (CG tc tb):=by
 intro pins s σ H D I h;obtain⟨W,⟨m0,w0⟩,turn⟩:=h;refine wpAny_While (codeAny_whileLoop (fun n s'=>∃σ' H',Inv X pins σ' H' s'/\W n σ' H') ?_ m0 ⟨σ,H,I,w0⟩);rintro n s1 ⟨σ1,H1,I1,w1⟩;refine MH hp (thn (hc pins s1 σ1 H1 _ I1 (turn n σ1 H1 w1)) fun b s2 ⟨H2,I2,q2⟩=>?_);cases b with
 | true=>
  obtain⟨N,hN,q2⟩:=q2;rw[if_pos rfl];refine MH hp (thn (hb pins s2 σ1 H2 _ I2 q2) fun f s3 q3=>?_);cases f with
  | next=>
   obtain⟨σ3,H3,I3,n3⟩:=q3;obtain⟨m',hm,w3⟩:=hN σ3 H3 n3;exact⟨m',hm,σ3,H3,I3,w3⟩
  | cont=>
   obtain⟨σ3,H3,I3,n3⟩:=q3;obtain⟨m',hm,w3⟩:=hN σ3 H3 n3;exact⟨m',hm,σ3,H3,I3,w3⟩
  | brk=>exact q3
  | ret v=>exact q3
 | false=>
  rw[if_neg JU];exact OW ⟨σ1,H2,I2,q2⟩
end
structure It where
 go:Nat->Hp->Prop
 yld:Nat->Hp->V->Hp->Prop
 stop:Nat->Hp->Prop
def rR(X:Cx)(pins:List (Addr×Obj))(H:Hp)(b:Addr):Prop:=
 H b=none/\b≠X.env.locals/\b ∉ X.fs/\(b∈X.ex\/X.s₀.heap.objs.size<=b)/\(∀x c,X.env.cells.lookup x=some c->c≠b)/\∀p∈X.pn++pins,p.1≠b
theorem Inv.fpOk{X:Cx}{pins:List (Addr×Obj)}{σ:St}{H H':Hp}{s:JM}{b:Addr}(I:Inv X pins σ H s)(hb:s.heap.objs.size<=b)(hn:H' b=none):rR X pins H' b:=by
 refine⟨hn,L8 (JY I.lt hb),I.nofs hb,.inr (Ko I.sz hb),fun x c e z=>?_,fun p hp z=>?_⟩
 ·obtain⟨v,q⟩:=I.cell x c e
  exact absurd (JY q.lt (by rw[z];exact hb)) (Kt _)
 ·exact absurd (JY (JR (I.pin p hp).1) (by rw[z];exact hb)) (Kt _)
structure Turn(P:K5)(w:KH)(K:JH)(tg:Expr)(J:It)(fp:List Addr)(it:Addr)(tn:Nat->Heap->Prop):Prop where
 mem:it∈fp
 obj:∀i h,tn i h->∀b∈fp,∃o,h.get? b=some o/\∀v,o.data≠.cell v
 keep:∀i h h',tn i h->(∀b∈fp,∀o,h.get? b=some o->h'.get? b=some o)->tn i h'
 item:∀(X:Cx),X.prog=P->X.w=w->X.K=K->X.calm=true->∀(i:Nat)(pins:List (Addr×Obj))(s:JM)(σ:St)(H:Hp)(E:JJ->JM->Prop),Inv X pins σ H s->(∀b∈fp,rR X pins H b)->tn i s.heap->J.go i H->
  JZ (KM P w) X.A (Nd (.ref it)) (fun r s1=>∃u,r=some u/\
   JZ (KM P w) X.A (OZ tg (.ref it) u) (fun _ s2=>∃x H',Inv X pins σ H' s2/\RelV x u/\J.yld i H x H'/\tn (i+1) s2.heap/\∀b∈fp,H' b=none) E s1) E s
 done:∀(X:Cx),X.prog=P->X.w=w->X.K=K->X.calm=true->∀(i:Nat)(pins:List (Addr×Obj))(s:JM)(σ:St)(H:Hp)(E:JJ->JM->Prop),Inv X pins σ H s->(∀b∈fp,rR X pins H b)->tn i s.heap->J.stop i H->
  JZ (KM P w) X.A (Nd (.ref it)) (fun r s1=>r=none/\Inv X pins σ H s1) E s
 self:∀(A:KY)(i:Nat)(s:JM)(Q:JJ->JM->Prop)(E:JJ->JM->Prop),tn i s.heap->Q (.ref it) s->JZ (KM P w) A (pyIter (.ref it)) Q E s
abbrev TI:=St->Hp->(It->Hp->Prop)->Prop
def PIE(X:Cx)(pins:List (Addr×Obj))(σ:St)(tg:Expr)(R:It->Hp->Prop)(itv:JJ)(s2:JM):Prop:=
 ∃(it:Addr)(fp:List Addr)(tn:Nat->Heap->Prop)(J:It)(H':Hp),itv=.ref it/\Inv X pins σ H' s2/\Turn X.prog X.w X.K tg J fp it tn/\tn 0 s2.heap/\(∀b∈fp,rR X pins H' b)/\R J H'
def PI(X:Cx)(tg iter:Expr)(wi:TI):Prop:=
 ∀(pins:List (Addr×Obj))(s:JM)(σ:St)(H:Hp)(R:It->Hp->Prop),Inv X pins σ H s->wi σ H R->
  JZ (KM X.prog X.w) X.A (L9 iter X.env) (fun v s1=>JZ (KM X.prog X.w) X.A (pyIter v) (PIE X pins σ tg R) X.xe s1) X.xe s
theorem vc{M:Model}{A:KY}{E:JJ->JM->Prop}{s:JM}{tg:Expr}{it:Addr}{u:JJ}{o:Obj}{n:String}{vs:Array JJ}{Q:Unit->JM->Prop}(ho:s.heap.get? it=some o)(hc:o.cls=.type n)(hd:o.data=.fields vs)
    (hn:["enumerate","zip","dict_itemiterator","dict_reverseitemiterator","odict_iterator","itertools.zip_longest","itertools.pairwise"].contains n=false) (hQ:Q () s):JZ M A (OZ tg (.ref it) u) Q E s:=by
  unfold OZ
  cases tg <;> first
    | exact JO hQ
    | (cases u <;> first
        | exact JO hQ
        | (refine JI (wpAny_load ho ?_)
           rw[hc,hd];show JZ M A (if (["enumerate","zip","dict_itemiterator","dict_reverseitemiterator","odict_iterator","itertools.zip_longest","itertools.pairwise"].contains n && vs[0]? == some (Mb _))=true then _ else _) Q E s;rw[if_neg (by intro h;rw[hn,Pr] at h;cases h)];exact JO hQ))
noncomputable def Itl(K:JH)(a:Addr):It:=
 ⟨fun i H=>∃xs x,SqL K H a xs/\xs[i]?=some x,fun i H x H'=>H'=H/\∀xs,SqL K H a xs->xs[i]?=some x,fun i H=>∃xs,SqL K H a xs/\xs.length<=i⟩
noncomputable def Itt(K:JH)(a:Addr):It:=
 ⟨fun i H=>∃xs x,SqT K H a xs/\xs[i]?=some x,fun i H x H'=>H'=H/\∀xs,SqT K H a xs->xs[i]?=some x,fun i H=>∃xs,SqT K H a xs/\xs.length<=i⟩
noncomputable def Itr(lo:Int)(n:Nat):It:=⟨fun i _=>i<n,fun i H x H'=>H'=H/\x=.int (lo+i),fun i _=>n<=i⟩
theorem tx{P:K5}{w:KH}{K:JH}{tg:Expr}(a it:Addr):Turn P w K tg (Itl K a) [it] it (fun i h=>h.IsListIter it a i) where
 mem:=by simp
 obj:=fun i h st b hb=>by
  have e:b=it:=by simpa using hb
  subst e;obtain⟨o,e,c,d⟩:=st;exact⟨o,e,fun v z=>by rw[d] at z;cases z⟩
 keep:=fun i h h' st k=>st.at fun o e=>k it (by simp) o e
 item:=by
  intro X hP hw hK hc i pins s σ H E I hf st hg;subst hP hw hK;obtain⟨xs,x,hq,hx⟩:=hg;obtain⟨its,rv,p,hz⟩:=I.list hq;obtain⟨u,hu,ru⟩:=rv.get hx;obtain⟨f0,f1,f2,f3,f4,f5⟩:=hf it (by simp);refine Qz st p.isList (x:=u) (by simpa using hu) fun h' st' sb=>?_;have I1:Inv X pins σ H { s with heap:=h' }:=I.turned (t':=s.toks) (fun b o hb e=>(sb.2 b hb).trans e) f0 f1 f3 f4 f5;obtain⟨o,e,c,d⟩:=id st';exact⟨u,rfl,vc (s:={ s with heap:=h' }) e c d (by decide) ⟨x,H,I1,ru,⟨rfl,fun ys hy=>by rw[I.list_inj hy hq];exact hx⟩,st',fun b hb=>(hf b hb).1⟩⟩
 done:=by
  intro X hP hw hK hc i pins s σ H E I hf st hg;subst hP hw hK;obtain⟨xs,hq,hx⟩:=hg;obtain⟨its,rv,p,hz⟩:=I.list hq;obtain⟨f0,f1,f2,f3,f4,f5⟩:=hf it (by simp);have hl:=rv.length;exact wpAny_pyNext_list_end (I.ok.hd hc) st p.isList (by simp;omega) fun h' eb=>⟨rfl,I.turned (t':=s.toks) (fun b o hb e=>eb b o hb e) f0 f1 f3 f4 f5⟩
 self:=fun _ _ _ _ _ st h=>wpAny_pyIter_listiter st h
theorem rT{P:K5}{w:KH}{K:JH}{tg:Expr}(a it:Addr):Turn P w K tg (Itt K a) [it] it (fun i h=>h.IsTupleIter it a i) where
 mem:=by simp
 obj:=fun i h st b hb=>by
  have e:b=it:=by simpa using hb
  subst e;obtain⟨o,e,c,d⟩:=st;exact⟨o,e,fun v z=>by rw[d] at z;cases z⟩
 keep:=fun i h h' st k=>st.at fun o e=>k it (by simp) o e
 item:=by
  intro X hP hw hK hc i pins s σ H E I hf st hg;subst hP hw hK;obtain⟨xs,x,hq,hx⟩:=hg;obtain⟨its,rv,p,hz⟩:=I.tuple hq;obtain⟨u,hu,ru⟩:=rv.get hx;obtain⟨f0,f1,f2,f3,f4,f5⟩:=hf it (by simp);refine Ql st (show s.heap.IsTuple a its.toArray from p) (x:=u) (by simpa using hu) fun h' st' sb=>?_;have I1:Inv X pins σ H { s with heap:=h' }:=I.turned (t':=s.toks) (fun b o hb e=>(sb.2 b hb).trans e) f0 f1 f3 f4 f5;obtain⟨o,e,c,d⟩:=id st';exact⟨u,rfl,vc (s:={ s with heap:=h' }) e c d (by decide) ⟨x,H,I1,ru,⟨rfl,fun ys hy=>by rw[I.tuple_inj hy hq];exact hx⟩,st',fun b hb=>(hf b hb).1⟩⟩
 done:=by
  intro X hP hw hK hc i pins s σ H E I hf st hg;subst hP hw hK;obtain⟨xs,hq,hx⟩:=hg;obtain⟨its,rv,p,hz⟩:=I.tuple hq;obtain⟨f0,f1,f2,f3,f4,f5⟩:=hf it (by simp);have hl:=rv.length;exact Qy (I.ok.hd hc) st (show s.heap.IsTuple a its.toArray from p) (by simp;omega) fun h' eb=>⟨rfl,I.turned (t':=s.toks) (fun b o hb e=>eb b o hb e) f0 f1 f3 f4 f5⟩
 self:=fun _ _ _ _ _ st h=>wpAny_pyIter_tupleiter st h
theorem rW{P:K5}{w:KH}{K:JH}{tg:Expr}(it:Addr)(lo:Int)(n:Nat):Turn P w K tg (Itr lo n) [it] it (fun i h=>IsRangeIter h it (lo+(i:Nat) * 1) ((n:Int)-(i:Nat)) 1) where
 mem:=by simp
 obj:=fun i h st b hb=>by
  have e:b=it:=by simpa using hb
  subst e
  exact⟨_,st,fun v z=>by
   have z':PZ _=OU v:=z;cases z'⟩
 keep:=fun i h h' st k=>k it (by simp) _ st
 item:=by
  intro X hP hw hK hc i pins s σ H E I hf st hg;subst hP hw hK;obtain⟨f0,f1,f2,f3,f4,f5⟩:=hf it (by simp);have W:=Walks.range (prog:=X.prog) (w:=X.w) (I.ok.hd hc) it lo 1 n;refine W.item i s _ _ hg st fun v h' tk hv st' kk=>?_;obtain⟨t,rfl⟩:=hv;have I1:Inv X pins σ H { s with heap:=h',toks:=tk }:=I.turned (fun b o hb e=>kk b o (by simpa using hb) e) f0 f1 f3 f4 f5;refine⟨_,rfl,vc (s:={ s with heap:=h',toks:=tk }) (n:="range_iterator") st' rfl rfl (by decide) ⟨.int (lo+i),H,I1,⟨t,?_⟩,⟨rfl,rfl⟩,st',fun b hb=>(hf b hb).1⟩⟩;rw[Int.mul_one]
 done:=by
  intro X hP hw hK hc i pins s σ H E I hf st hg;subst hP hw hK;obtain⟨f0,f1,f2,f3,f4,f5⟩:=hf it (by simp);exact wpAny_pyNext_range_end (I.ok.hd hc) st (by have:n<=i:=hg;omega) fun h' eb=>⟨rfl,I.turned (t':=s.toks) (fun b o hb e=>eb b o hb e) f0 f1 f3 f4 f5⟩
 self:=fun _ _ _ _ _ st h=>wpAny_pyIter_rangeiter st h
end L2
namespace L2
open PySem PySem.Spec PyProof.Rows
section
variable{X : Cx}{tg : Expr}
theorem qN{pins:List (Addr×Obj)}{σ:St}{H:Hp}{s:JM}{R:It->Hp->Prop}{E:JJ->JM->Prop}{lo hi:Int}{t u v:Tok}{tk:Nat}(I:Inv X pins σ H s)(h1:-(2 ^ 62)<=lo)(h2:lo<2 ^ 62)(h3:-(2 ^ 62)<=hi)(h4:hi<2 ^ 62)
  (q:R (Itr lo (hi-lo).toNat) H):JZ (KM X.prog X.w) X.A (pyIter (.ref s.heap.objs.size)) (PIE X pins σ tg R) E { s with heap:=s.heap.push { cls:=.type "range",data:=.fields #[.int lo t,.int hi u,.int 1 v] },toks:=tk }:=by
 refine wpAny_pyIter_range (IsRange.new ..) (small_one h1 h2 h3 h4) ?_;have I1:Inv X pins σ H { s with heap:=s.heap.push { cls:=.type "range",data:=.fields #[.int lo t,.int hi u,.int 1 v] },toks:=tk }:=I.kept fun b o e=>JN _ e
 refine⟨(s.heap.push { cls:=.type "range",data:=.fields #[.int lo t,.int hi u,.int 1 v] }).objs.size,[(s.heap.push { cls:=.type "range",data:=.fields #[.int lo t,.int hi u,.int 1 v] }).objs.size],_,_,H,rfl,
  I1.kept (t':=tk) fun b o e=>JN _ e,rW _ lo (hi-lo).toNat,?_,fun b hb=>?_,q⟩
 ·have e1:lo+((0:Nat):Int) * 1=lo:=by simp
  have e2:(((hi-lo).toNat:Nat):Int)-((0:Nat):Int)=Builtin.Range.rangeSize lo hi 1:=by rw[rangeSize_one];split <;> omega
  show IsRangeIter _ _ (lo+((0:Nat):Int) * 1) ((((hi-lo).toNat:Nat):Int)-((0:Nat):Int)) 1;rw[e1,e2];exact K6 _ rfl
 ·have e:b=(s.heap.push { cls:=.type "range",data:=.fields #[.int lo t,.int hi u,.int 1 v] }).objs.size:=by simpa using hb
  subst e;exact I1.fpOk (K8 _) (I1.hok.fresh (K8 _))
def GU(ta:TA):TI:=fun σ H R=>ta σ H fun vs H1=>∃j:Int,vs=[.int j]/\-(2 ^ 62)<=j/\j<2 ^ 62/\R (Itr 0 j.toNat) H1
def GT(ta:TA):TI:=fun σ H R=>ta σ H fun vs H1=>∃i j:Int,vs=[.int i,.int j]/\(-(2 ^ 62)<=i/\i<2 ^ 62/\-(2 ^ 62)<=j/\j<2 ^ 62)/\R (Itr i (j-i).toNat) H1
theorem uf {a:Expr} {ta:TA} {p pos:La} (hg:Gl X "range") (hm:X.mg "range"=none) (ha:PA X [a] ta) (hs:K1 [a] X.env=[(false,L9 a X.env)]:=by rfl):PI X tg (.Call (.Name "range" p) [a] [] pos) (GU ta):=by
 intro pins s σ H R I h;refine Call_ (kj I hg hm boot_range (LC (thn (ha pos pins s σ H _ I h) fun us s1 ⟨vs,H1,I1,r1,q1⟩=>?_) hs rfl));obtain⟨j,e,q1,q2,q⟩:=q1;subst e;cases r1 with
 | cons r rr=>
  cases rr;obtain⟨t,rfl⟩:=r;exact call_range_1 (qN I1 (by omega) (by omega) q1 q2 (by simpa using q))
theorem ue {a b:Expr} {ta:TA} {p pos:La} (hg:Gl X "range") (hm:X.mg "range"=none) (ha:PA X [a,b] ta) (hs:K1 [a,b] X.env=[(false,L9 a X.env),(false,L9 b X.env)]:=by rfl) (hs2:K1 [b] X.env=[(false,L9 b X.env)]:=by rfl) :
  PI X tg (.Call (.Name "range" p) [a,b] [] pos) (GT ta):=by
 intro pins s σ H R I h;refine Call_ (kj I hg hm boot_range (LC (thn (ha pos pins s σ H _ I h) fun us s1 ⟨vs,H1,I1,r1,q1⟩=>?_) (by rw[hs,hs2]) (by rw[hs2];rfl)));obtain⟨i,j,e,⟨q1,q2,q3,q4⟩,q⟩:=q1;subst e;cases r1 with
 | cons r rr=>
  cases rr with
  | cons r' rr=>
   cases rr;obtain⟨t,rfl⟩:=r;obtain⟨t',rfl⟩:=r';exact call_range_2 (qN I1 q1 q2 q3 q4 q)
noncomputable def IH(wi:TI)(g:TG)(tb:TS):TS:=fun D σ H=>wi σ H fun J H1=>∃W:Nat->Nat->St->Hp->Prop,(∃m,W 0 m σ H1)/\∀i m σ H,W i m σ H->
 (J.stop i H/\D.nx σ H)\/(J.go i H/\∃N:St->Hp->Prop,(∀σ' H',N σ' H'->∃m',m'<m/\W (i+1) m' σ' H')/\∀x H',J.yld i H x H'->g x σ H' fun σ2 H2=>tb { D with nx:=N,ct:=N,bk:=D.nx } σ2 H2)
noncomputable def lK(fp:List Addr)(h:Heap):List (Addr×Obj):=fp.filterMap fun b=>(h.get? b).map fun o=>(b,o)
theorem gr{fp:List Addr}{h:Heap}{b:Addr}{o:Obj}(hb:b∈fp)(e:h.get? b=some o):(b,o)∈lK fp h:=Oj.mpr ⟨b,hb,by rw[e];rfl⟩
theorem uw{fp:List Addr}{h:Heap}{p:Addr×Obj}(hp:p∈lK fp h):p.1∈fp/\h.get? p.1=some p.2:=by
 obtain⟨b,hb,e⟩:=Oj.mp hp;cases q:h.get? b with
 | none=>rw[q] at e;cases e
 | some o=>
  rw[q] at e;have e':(b,o)=p:=Kl e;subst e';exact⟨hb,q⟩
theorem Inv.pinned{pins:List (Addr×Obj)}{σ:St}{H:Hp}{s:JM}{fp:List Addr}(I:Inv X pins σ H s)(hf:∀b∈fp,rR X pins H b)(ho:∀b∈fp,∃o,s.heap.get? b=some o/\∀v,o.data≠.cell v):Inv X (pins++lK fp s.heap) σ H s:=
 I.pins_of fun p hp=>(Kd.mp hp).elim (fun z=>I.pin p (Kc _ z)) fun z=>by
  obtain⟨hb,e⟩:=uw z;obtain⟨f0,f1,f2,_⟩:=hf p.1 hb;obtain⟨o,e',d⟩:=ho p.1 hb;rw[e] at e';cases e';exact⟨e,f0,f1,f2,d⟩
theorem Inv.unpinned{pins pl:List (Addr×Obj)}{σ:St}{H:Hp}{s:JM}(I:Inv X (pins++pl) σ H s):Inv X pins σ H s:=I.pins_of fun p hp=>I.pin p (Kc _ (N9 _ hp))
theorem Dc{iter:Expr}{body:List Stmt}{wi:TI}{g:TG}{tb:TS}{pos:La}(hp:Qr (KM X.prog X.w) X.A X.env X.xe)(hc:X.calm=true)(hi:PI X tg iter wi)(hg:PG X tg g)(hb:PSs X body tb)
  (hs:∀x,N4 iter X.env x=pure x:=by intro _;rfl):PS X (.For tg iter body [] pos) (IH wi g tb):=by
 intro pins s σ H D I h;refine wpAny_For (thn (hi pins s σ H _ I h) fun v s1 h1=>thn h1 fun itv s2 h2=>?_) hs;obtain⟨it,fp,tn,J,H2,e,I2,T,st2,f2,W,⟨m0,w0⟩,turn⟩:=h2;subst e;have stat:∀{H':Hp},(∀b∈fp,H' b=none)->∀b∈fp,rR X pins H' b:=fun hn b hb=>⟨hn b hb,(f2 b hb).2⟩;refine codeAny_forLoop_any (fun n s'=>∃i σ' H',Inv X pins σ' H' s'/\tn i s'.heap/\(∀b∈fp,H' b=none)/\W i n σ' H') ?_ m0 ⟨0,σ,H2,I2,st2,fun b hb=>(f2 b hb).1,w0⟩;rintro n s3 ⟨i,σ3,H3,I3,st3,fr3,w3⟩;rcases turn i n σ3 H3 w3 with⟨stop,qn⟩|⟨go,N,hN,step⟩
 ·refine MH hp (thn (T.done X rfl rfl rfl hc i pins s3 σ3 H3 X.xe I3 (stat fr3) st3 stop) fun r s4 ⟨hr,I4⟩=>?_)
  subst hr;exact OW ⟨σ3,H3,I4,qn⟩
 ·refine MH hp (thn (T.item X rfl rfl rfl hc i pins s3 σ3 H3 X.xe I3 (stat fr3) st3 go) fun r s4 ⟨u,hr,h4⟩=>?_)
  subst hr;refine MH hp (thn h4 fun _ s5 ⟨x,H5,I5,r5,y5,st5,fr5⟩=>?_);have I5':=I5.pinned (stat fr5) (T.obj _ _ st5);refine MH hp (thn (hg _ s5 σ3 H5 x u _ I5' r5 (step x H5 y5)) fun _ s6 ⟨σ6,H6,I6,q6⟩=>?_);refine MH hp (thn (hb _ s6 σ6 H6 _ I6 q6) fun f s7 q7=>?_)
  have again:∀{σ7:St}{H7:Hp},Inv X (pins++lK fp s5.heap) σ7 H7 s7->N σ7 H7->∃m,m<n/\∃i σ' H',Inv X pins σ' H' s7/\tn i s7.heap/\(∀b∈fp,H' b=none)/\W i m σ' H':=fun {σ7 H7} I7 n7=>by
   obtain⟨m',hm,w7⟩:=hN σ7 H7 n7;refine⟨m',hm,i+1,σ7,H7,I7.unpinned,T.keep _ _ _ st5 fun b hb o e=>(I7.pin (b,o) (Kc _ (Kc _ (gr hb e)))).1,fun b hb=>?_,w7⟩;obtain⟨o,e,d⟩:=T.obj _ _ st5 b hb;exact(I7.pin (b,o) (Kc _ (Kc _ (gr hb e)))).2.1
  cases f with
  | next=>obtain⟨σ7,H7,I7,n7⟩:=q7;exact again I7 n7
  | cont=>obtain⟨σ7,H7,I7,n7⟩:=q7;exact again I7 n7
  | brk=>obtain⟨σ7,H7,I7,q7⟩:=q7;exact⟨σ7,H7,I7.unpinned,q7⟩
  | ret v=>obtain⟨x7,σ7,H7,I7,r7,q7⟩:=q7;exact⟨x7,σ7,H7,I7.unpinned,r7,q7⟩
end
end L2
namespace L2
open PySem PySem.Spec PyProof.Rows
abbrev R2:=V->V->Hp->VK->Prop
def OpR(X:Cx)(f:JJ->JJ->Sem JJ)(r:R2):Prop:=
 ∀(pins:List (Addr×Obj))(s:JM)(σ:St)(H:Hp)(x y:V)(v u:JJ)(Q:VK),Inv X pins σ H s->RelV x v->RelV y u->r x y H Q->
  JZ (KM X.prog X.w) X.A (f v u) (EP X pins σ Q) X.xe s
def UnR(X:Cx)(f:JJ->Sem JJ)(r:V->Hp->VK->Prop):Prop:=
 ∀(pins:List (Addr×Obj))(s:JM)(σ:St)(H:Hp)(x:V)(v:JJ)(Q:VK),Inv X pins σ H s->RelV x v->r x H Q->
  JZ (KM X.prog X.w) X.A (f v) (EP X pins σ Q) X.xe s
def gX(X:Cx)(f:JJ)(r:List V->Hp->VK->Prop):Prop:=
 ∀(pins:List (Addr×Obj))(s:JM)(σ:St)(H:Hp)(xs:List V)(us:List JJ)(Q:VK),Inv X pins σ H s->Vals xs us->r xs H Q->
  JZ (KM X.prog X.w) X.A (call f us) (EP X pins σ Q) X.xe s
def Ih(X:Cx)(r:V->Hp->(Bool->Hp->Prop)->Prop):Prop:=
 ∀(pins:List (Addr×Obj))(s:JM)(σ:St)(H:Hp)(x:V)(v:JJ)(Q:Bool->Hp->Prop),Inv X pins σ H s->RelV x v->r x H Q->
  JZ (KM X.prog X.w) X.A (truthy v) (TP X pins σ Q) X.xe s
noncomputable def tOp(r:R2)(ta tb:TE):TE:=fun σ H Q=>ta σ H fun x H1=>tb σ H1 fun y H2=>r x y H2 Q
noncomputable def tUn(r:V->Hp->VK->Prop)(ta:TE):TE:=fun σ H Q=>ta σ H fun x H1=>r x H1 Q
noncomputable def rI(C:Int->Int->Prop)(g:Int->Int->V):R2:=fun x y H Q=>∃i j,x=.int i/\y=.int j/\C i j/\Q (g i j) H
noncomputable def rI0(g:Int->Int->V):R2:=fun x y H Q=>∃i j,x=.int i/\y=.int j/\Q (g i j) H
def rU(g:Int->V):V->Hp->VK->Prop:=fun x H Q=>∃i,x=.int i/\Q (g i) H
section
variable{X : Cx}{a b c : Expr}{ta tb tc : TE}{pos : La}
theorem Hd(ha:PE X a ta)(hb:PE X b tb){pins:List (Addr×Obj)}{s:JM}{σ:St}{H:Hp}{R:V->V->Hp->Prop}(I:Inv X pins σ H s)
  (h:ta σ H fun x H1=>tb σ H1 fun y H2=>R x y H2) {Q:JJ->JM->Prop} {f:JJ->JJ->Sem JJ}
  (hf:∀v u s2 x y H2,Inv X pins σ H2 s2->RelV x v->RelV y u->R x y H2->JZ (KM X.prog X.w) X.A (f v u) Q X.xe s2) :
  JZ (KM X.prog X.w) X.A (L9 a X.env) (fun v s₁=>JZ (KM X.prog X.w) X.A (L9 b X.env) (fun u s₂=>JZ (KM X.prog X.w) X.A (f v u) Q X.xe s₂) X.xe s₁) X.xe s:=by
 refine thn (ha pins s σ H _ I h) fun v s1 ⟨x,H1,I1,r1,q1⟩=>?_;refine thn (hb pins s1 σ H1 _ I1 q1) fun u s2 ⟨y,H2,I2,r2,q2⟩=>?_;exact hf v u s2 x y H2 I2 r1 r2 q2
theorem Gr{op:Operator}{r:R2}(ho:OpR X (MI op) r)(ha:PE X a ta)(hb:PE X b tb):PE X (.BinOp a op b pos) (tOp r ta tb):=by
 intro pins s σ H Q I h;exact wpAny_BinOp (Hd ha hb I h fun v u s2 x y H2 I2 rx ry q=>ho pins s2 σ H2 x y v u Q I2 rx ry q)
theorem Gq{op:UnaryOp}{r:V->Hp->VK->Prop}(ho:UnR X (unaryOp op) r)(ha:PE X a ta):PE X (.UnaryOp op a pos) (tUn r ta):=by
 intro pins s σ H Q I h;exact UnaryOp_ (thn (ha pins s σ H _ I h) fun v s1 ⟨x,H1,I1,r1,q1⟩=>ho pins s1 σ H1 x v Q I1 r1 q1)
theorem opI{f:JJ->JJ->Sem JJ}{C:Int->Int->Prop}{g:Int->Int->Int}
  (rule:∀(i j:Int)(t u:Tok)(s:JM)(Q:JJ->JM->Prop)(E:JJ->JM->Prop),C i j->Q (.int (g i j) s.toks) { s with toks:=s.toks+1 }->JZ (KM X.prog X.w) X.A (f (.int i t) (.int j u)) Q E s) :
  OpR X f (rI C fun i j=>.int (g i j)):=by
 intro pins s σ H x y v u Q I rx ry h;obtain⟨i,j,rfl,rfl,hc,q⟩:=h;obtain⟨t,rfl⟩:=rx;obtain⟨t',rfl⟩:=ry;exact rule i j t t' s _ _ hc ⟨.int (g i j),H,I.tok _,⟨_,rfl⟩,q⟩
theorem HP{f:JJ->JJ->Sem JJ}{g:Int->Int->Int}
  (rule:∀(i j:Int)(t u:Tok)(s:JM)(Q:JJ->JM->Prop)(E:JJ->JM->Prop),Q (.int (g i j) s.toks) { s with toks:=s.toks+1 }->JZ (KM X.prog X.w) X.A (f (.int i t) (.int j u)) Q E s) :
  OpR X f (rI0 fun i j=>.int (g i j)):=by
 intro pins s σ H x y v u Q I rx ry h;obtain⟨i,j,rfl,rfl,q⟩:=h;obtain⟨t,rfl⟩:=rx;obtain⟨t',rfl⟩:=ry;exact rule i j t t' s _ _ ⟨.int (g i j),H,I.tok _,⟨_,rfl⟩,q⟩
theorem HQ{f:JJ->JJ->Sem JJ}{g:Int->Int->Bool}
  (rule:∀(i j:Int)(t u:Tok)(s:JM)(Q:JJ->JM->Prop)(E:JJ->JM->Prop),Q (.bool (g i j)) s->JZ (KM X.prog X.w) X.A (f (.int i t) (.int j u)) Q E s) :
  OpR X f (rI0 fun i j=>.bl (g i j)):=by
 intro pins s σ H x y v u Q I rx ry h;obtain⟨i,j,rfl,rfl,q⟩:=h;obtain⟨t,rfl⟩:=rx;obtain⟨t',rfl⟩:=ry;exact rule i j t t' s _ _ ⟨.bl (g i j),H,I,rfl,q⟩
def Jw(i j:Int):Prop:=0<j/\j<1073741824
def Hg(i j:Int):Prop:=(-(2 ^ 64)<i/\i<2 ^ 64)\/(-(2 ^ 64)<j/\j<2 ^ 64)
theorem Hg.ok{i j:Int}(h:Hg i j):IntMulOk i j:=by
 rcases h with⟨h1,h2⟩|⟨h1,h2⟩
 ·exact .of_left (intBits_le_64 h1 h2)
 ·exact .of_right (intBits_le_64 h1 h2)
theorem Dq:OpR X (MI .Add) (rI0 fun i j=>.int (i+j)):=HP fun _ _ _ _ _ _ _ q=>add_int q
theorem Dl:OpR X (MI .Sub) (rI0 fun i j=>.int (i-j)):=HP fun _ _ _ _ _ _ _ q=>sub_int q
theorem Dm:OpR X (MI .Mult) (rI Hg fun i j=>.int (i * j)):=opI fun _ _ _ _ _ _ _ hc q=>mul_int q hc.ok
theorem AW:OpR X (MI .FloorDiv) (rI Jw fun i j=>.int (i / j)):=opI fun i j _ _ _ _ _ hc q=>by
 have h1:(0:Int)<j:=hc.1;have h2:j<1073741824:=hc.2;exact floordiv_int (by omega) (by rw[Int.fdiv_eq_ediv_of_nonneg i (by omega)];exact q) (.inl (PyProof.noPylong_small (by omega)))
theorem Do:OpR X (MI .Mod) (rI (fun _ j=>0<j) fun i j=>.int (i % j)):=opI fun i j _ _ _ _ _ hc q=>by
 have h1:(0:Int)<j:=hc;exact mod_int' (by omega) (by rw[Int.fmod_eq_emod_of_nonneg i (by omega)];exact q)
theorem unI{f:JJ->Sem JJ}{g:Int->Int}
  (rule:∀(i:Int)(t:Tok)(s:JM)(Q:JJ->JM->Prop)(E:JJ->JM->Prop),Q (.int (g i) s.toks) { s with toks:=s.toks+1 }->JZ (KM X.prog X.w) X.A (f (.int i t)) Q E s) :
  UnR X f (rU fun i=>.int (g i)):=by
 intro pins s σ H x v Q I rx h;obtain⟨i,rfl,q⟩:=h;obtain⟨t,rfl⟩:=rx;exact rule i t s _ _ ⟨.int (g i),H,I.tok _,⟨_,rfl⟩,q⟩
theorem CA:UnR X (unaryOp .USub) (rU fun i=>.int (-i)):=unI fun _ _ _ _ _ q=>neg_int q
end
noncomputable def Aw:V->V->Bool
 | .non,.non=>true | .non,.int _=>true | .int _,.non=>true | .non,.bl _=>true | .bl _,.non=>true | .non,.str _=>true | .str _,.non=>true
 | .int _,.int _=>true | .bl _,.bl _=>true | .str _,.str _=>true | .byt _,.byt _=>true
 | .int _,.str _=>true | .str _,.int _=>true | .bl _,.str _=>true | .str _,.bl _=>true
 | _,_=>false
def rEq:R2:=fun x y H Q=>Aw x y=true/\Q (.bl (decide (x=y))) H
def rNe:R2:=fun x y H Q=>Aw x y=true/\Q (.bl (!decide (x=y))) H
theorem vJ{i j:Int}:decide (V.int i=V.int j)=(i == j):=by
 rw[Lp];simp
theorem zR{i j:Bool}:decide (V.bl i=V.bl j)=(i == j):=by
 rw[Lp];simp
theorem vI{i j:Str}:decide (V.str i=V.str j)=(i == j):=by
 rw[Lp];simp
theorem vK{i j:Array UInt8}:decide (V.byt i=V.byt j)=(i.toList == j.toList):=by
 rw[Lp];cases i;cases j;simp
section
variable{X : Cx}{a b c : Expr}{ta tb tc : TE}{pos : La}
theorem bf{pins:List (Addr×Obj)}{σ:St}{H:Hp}{s:JM}{Q:VK}{k k':Bool}(I:Inv X pins σ H s)(q:Q (.bl k) H)(e:k=k'):EP X pins σ Q (.bool k') s:=by
 subst e;exact⟨.bl k,H,I,rfl,q⟩
theorem Gy:OpR X (Kk .Eq) rEq:=by
 intro pins s σ H x y v u Q I rx ry h;obtain⟨hs,q⟩:=h;cases x with
 | non=>
  cases rx;cases y with
  | non=>cases ry;exact PySem.EqNone.eq_none_none (bf I q (by simp))
  | bl j=>cases ry;exact PySem.EqNone.eq_none_bool (bf I q (by simp))
  | int j=>obtain⟨t',rfl⟩:=ry;exact PySem.EqNone.eq_none_int (bf I q (by simp))
  | str j=>obtain⟨t',rfl⟩:=ry;exact PySem.EqNone.eq_none_str (bf I q (by simp))
  | _=>exact absurd (show false=true from hs) JU
 | bl i=>
  cases rx;cases y with
  | non=>cases ry;exact PySem.EqNone.eq_bool_none (bf I q (by simp))
  | bl j=>cases ry;exact eq_bool (bf I q zR)
  | str j=>obtain⟨t',rfl⟩:=ry;exact PySem.EqMixed.eq_bool_str (bf I q (by simp))
  | _=>exact absurd (show false=true from hs) JU
 | int i=>
  obtain⟨t,rfl⟩:=rx;cases y with
  | non=>cases ry;exact PySem.EqNone.eq_int_none (bf I q (by simp))
  | int j=>obtain⟨t',rfl⟩:=ry;exact eq_int (bf I q vJ)
  | str j=>obtain⟨t',rfl⟩:=ry;exact PySem.EqMixed.eq_int_str (bf I q (by simp))
  | _=>exact absurd (show false=true from hs) JU
 | str i=>
  obtain⟨t,rfl⟩:=rx;cases y with
  | non=>cases ry;exact PySem.EqNone.eq_str_none (bf I q (by simp))
  | bl j=>cases ry;exact PySem.EqMixed.eq_str_bool (bf I q (by simp))
  | int j=>obtain⟨t',rfl⟩:=ry;exact PySem.EqMixed.eq_str_int (bf I q (by simp))
  | str j=>obtain⟨t',rfl⟩:=ry;exact eq_str (bf I q vI)
  | _=>exact absurd (show false=true from hs) JU
 | byt i=>
  obtain⟨t,rfl⟩:=rx;cases y with
  | byt j=>obtain⟨t',rfl⟩:=ry;exact PySem.W.eq_bytes (bf I q vK)
  | _=>exact absurd (show false=true from hs) JU
 | _=>cases y <;> exact absurd (show false=true from hs) JU
theorem Gv:OpR X (Kk .NotEq) rNe:=by
 intro pins s σ H x y v u Q I rx ry h;obtain⟨hs,q⟩:=h;cases x with
 | non=>
  cases rx;cases y with
  | non=>cases ry;exact PySem.EqNone.ne_none_none (bf I q (by simp))
  | bl j=>cases ry;exact PySem.EqNone.ne_none_bool (bf I q (by simp))
  | int j=>obtain⟨t',rfl⟩:=ry;exact PySem.EqNone.ne_none_int (bf I q (by simp))
  | str j=>obtain⟨t',rfl⟩:=ry;exact PySem.EqNone.ne_none_str (bf I q (by simp))
  | _=>exact absurd (show false=true from hs) JU
 | bl i=>
  cases rx;cases y with
  | non=>cases ry;exact PySem.EqNone.ne_bool_none (bf I q (by simp))
  | bl j=>cases ry;exact ne_bool (bf I q (congrArg not zR))
  | str j=>obtain⟨t',rfl⟩:=ry;exact PySem.EqMixed.ne_bool_str (bf I q (by simp))
  | _=>exact absurd (show false=true from hs) JU
 | int i=>
  obtain⟨t,rfl⟩:=rx;cases y with
  | non=>cases ry;exact PySem.EqNone.ne_int_none (bf I q (by simp))
  | int j=>obtain⟨t',rfl⟩:=ry;exact ne_int (bf I q (congrArg not vJ))
  | str j=>obtain⟨t',rfl⟩:=ry;exact PySem.EqMixed.ne_int_str (bf I q (by simp))
  | _=>exact absurd (show false=true from hs) JU
 | str i=>
  obtain⟨t,rfl⟩:=rx;cases y with
  | non=>cases ry;exact PySem.EqNone.ne_str_none (bf I q (by simp))
  | bl j=>cases ry;exact PySem.EqMixed.ne_str_bool (bf I q (by simp))
  | int j=>obtain⟨t',rfl⟩:=ry;exact PySem.EqMixed.ne_str_int (bf I q (by simp))
  | str j=>obtain⟨t',rfl⟩:=ry;exact ne_str (bf I q (congrArg not vI))
  | _=>exact absurd (show false=true from hs) JU
 | byt i=>
  obtain⟨t,rfl⟩:=rx;cases y with
  | byt j=>obtain⟨t',rfl⟩:=ry;exact PySem.W.ne_bytes (bf I q (congrArg not vK))
  | _=>exact absurd (show false=true from hs) JU
 | _=>cases y <;> exact absurd (show false=true from hs) JU
theorem Gw:OpR X (Kk .Lt) (rI0 fun i j=>.bl (decide (i<j))):=HQ fun _ _ _ _ _ _ _ q=>lt_int q
theorem Gx:OpR X (Kk .LtE) (rI0 fun i j=>.bl (decide (i<=j))):=HQ fun _ _ _ _ _ _ _ q=>le_int q
theorem ur:OpR X (Kk .Lt) (fun x y H Q=>∃i j,x=.str i/\y=.str j/\Q (.bl (decide (i.cps.toList<j.cps.toList))) H):=by
 intro pins s σ H x y v u Q I rx ry h;obtain⟨i,j,rfl,rfl,q⟩:=h;obtain⟨t,rfl⟩:=rx;obtain⟨t',rfl⟩:=ry;exact lt_str (bf I q rfl)
theorem uu:OpR X (Kk .In) (fun x y H Q=>∃i j,x=.str i/\y=.str j/\Q (.bl (!(Na j i 0 j.length 1).isEmpty)) H):=by
 intro pins s σ H x y v u Q I rx ry h;obtain⟨i,j,rfl,rfl,q⟩:=h;obtain⟨t,rfl⟩:=rx;obtain⟨t',rfl⟩:=ry;exact in_str (bf I q rfl)
theorem Dp:OpR X (Kk .Is) (fun x y H Q=>y=.non/\Q (.bl (decide (x=.non))) H):=by
 intro pins s σ H x y v u Q I rx ry h;obtain⟨rfl,q⟩:=h;cases ry;refine is_none_gen (bf I q ?_)
 cases x <;> first
  | (cases rx;rfl)
  | (obtain⟨t,rfl⟩:=rx;rfl)
theorem zk(b:Expr){op:CmpOp}(h:op≠.In:=by decide)(h2:op≠.NotIn:=by decide):NT op b=false:=by
 have e1:(op == CmpOp.In)=false:=by cases op <;> first | rfl | exact absurd rfl h
 have e2:(op == CmpOp.NotIn)=false:=by cases op <;> first | rfl | exact absurd rfl h2
 cases b <;> simp[NT,e1,e2]
theorem AS{op:CmpOp}{r:R2}(ho:OpR X (Kk op) r)(ha:PE X a ta)(hb:PE X b tb)(hm:NT op b=false):PE X (.Compare a [op] [b] pos) (tOp r ta tb):=by
 intro pins s σ H Q I h;exact wpAny_Compare1 (Hd ha hb I h fun v u s2 x y H2 I2 rx ry q=>ho pins s2 σ H2 x y v u Q I2 rx ry q) hm
noncomputable def CI(t:TE):TT:=fun σ H Q=>t σ H fun x H'=>∃k,x=.bl k/\Q k H'
theorem AI{op:CmpOp}{r:R2}(ho:OpR X (Kk op) r)(ha:PE X a ta)(hb:PE X b tb)(hm:NT op b=false):PT X (.Compare a [op] [b] pos) (CI (tOp r ta tb)):=by
 intro pins s σ H Q I h
 refine wpAny_isTrue_Compare1 (thn (ha pins s σ H _ I h) fun v s1 ⟨x,H1,I1,r1,q1⟩=>thn (hb pins s1 σ H1 _ I1 q1) fun u s2 ⟨y,H2,I2,r2,q2⟩=>
  thn (ho pins s2 σ H2 x y v u _ I2 r1 r2 q2) fun c s3 ⟨z,H3,I3,r3,k,e,q3⟩=>?_) hm
 subst e;cases r3;exact MQ ⟨H3,I3,q3⟩
noncomputable def CK(r r':R2)(ta tb tc:TE):TE:=fun σ H Q=>ta σ H fun x H1=>tb σ H1 fun y H2=>r x y H2 fun z H3=>∃k,z=.bl k/\
 (if k=true then tc σ H3 fun w' H4=>r' y w' H4 Q else Q (.bl false) H3)
theorem xp{op op':CmpOp}{r r':R2}(ho:OpR X (Kk op) r)(ho':OpR X (Kk op') r')(ha:PE X a ta)(hb:PE X b tb)(hc:PE X c tc)
  (hm:lastMarks [op,op'] [b,c]=false:=by with_unfolding_all rfl):PT X (.Compare a [op,op'] [b,c] pos) (CI (CK r r' ta tb tc)):=by
 intro pins s σ H Q I h
 refine isTrue_chain (thn (ha pins s σ H _ I h) fun v s1 ⟨x,H1,I1,r1,q1⟩=>test_link (thn (hb pins s1 σ H1 _ I1 q1) fun u s2 ⟨y,H2,I2,r2,q2⟩=>
  thn (ho pins s2 σ H2 x y v u _ I2 r1 r2 q2) fun d s3 ⟨z,H3,I3,r3,k,e,q3⟩=>?_)) hm
 subst e;cases r3;refine MQ ?_;cases k with
 | false=>
  obtain⟨k',e',q'⟩:=q3;cases e';exact ite_ff ⟨H3,I3,q'⟩
 | true=>
  refine ite_tt (test_last (thn (hc pins s3 σ H3 _ I3 q3) fun w' s4 ⟨z',H4,I4,r4,q4⟩=>thn (ho' pins s4 σ H4 y z' u w' _ I4 r2 r4 q4) fun d' s5 ⟨z2,H5,I5,r5,k2,e2,q5⟩=>?_));subst e2;cases r5;exact MQ ⟨H5,I5,q5⟩
def Jt(K:JH)(x:V)(H:Hp)(k:Bool):Prop:=
 match x with
 | .non=>k=false
 | .bl b=>k=b
 | .int i=>k=(i != 0)
 | .str y=>y.length<=sizeLine/\k=((y.length:Int) != 0)
 | .byt y=>y.size<=sizeLine/\k=((y.size:Int) != 0)
 | .ref p=>(∃xs,SqL K H p xs/\k=!xs.isEmpty)\/(∃xs,SqT K H p xs/\k=!xs.isEmpty)\/∃kvs,H p=some (.dK kvs)/\k=!kvs.isEmpty
 | _=>False
theorem lU{κ:Type}{kvs:List (κ×V)}{vs:List (κ×JJ)}(r:KV kvs vs):(!vs.isEmpty)=!kvs.isEmpty:=by
 cases r <;> rfl
theorem lT{xs:List V}{its:List JJ}(r:Vals xs its):(!its.toArray.isEmpty)=!xs.isEmpty:=by
 cases r <;> simp
theorem oQ:(sizeLine:Nat)<2 ^ 63:=by rw[Ke];decide
theorem cu:Ih X (fun x H Q=>∃k,Jt X.K x H k/\Q k H):=by
 intro pins s σ H x v Q I rx h;obtain⟨k,e,q⟩:=h;have hl:=oQ;have hs:sizeLine=16777216:=Ke;cases x with
 | non=>
  cases rx;have e':k=false:=e;subst e';exact truthy_none ⟨H,I,q⟩
 | bl b=>
  cases rx;have e':k=b:=e;subst e';exact MQ ⟨H,I,q⟩
 | int i=>
  obtain⟨t,rfl⟩:=rx;have e':k=(i != 0):=e;subst e';exact PySem.P.truthy_int ⟨H,I,q⟩
 | str y=>
  obtain⟨t,rfl⟩:=rx;obtain⟨hy,e'⟩:y.length<=sizeLine/\k=((y.length:Int) != 0):=e;subst e';exact PySem.P.truthy_str (by omega) ⟨H,I.tok _,q⟩
 | byt y=>
  obtain⟨t,rfl⟩:=rx;obtain⟨hy,e'⟩:y.size<=sizeLine/\k=((y.size:Int) != 0):=e;subst e';exact PySem.W.truthy_bytes (by omega) ⟨H,I.tok _,q⟩
 | ref p=>
  cases rx;have e':(∃xs,SqL X.K H p xs/\k=!xs.isEmpty)\/(∃xs,SqT X.K H p xs/\k=!xs.isEmpty)\/∃kvs,H p=some (.dK kvs)/\k=!kvs.isEmpty:=e;rcases e' with⟨xs,hx,e'⟩|⟨xs,hx,e'⟩|⟨kvs,hx,e'⟩
  ·subst e'
   obtain⟨its,r,pl,hz⟩:=I.list hx;have hlen:=r.length;exact wpAny_truthy_list pl.isList (by simp only[KG];omega) ⟨H,I.tok _,by rw[lT r];exact q⟩
  ·subst e'
   obtain⟨its,r,pl,hz⟩:=I.tuple hx;have hlen:=r.length;exact truthy_tuple pl (by simp only[KG];omega) ⟨H,I.tok _,by rw[lT r];exact q⟩
  ·subst e'
   obtain⟨hz,hS,vs,r,m⟩:kvs.length<=sizeLine/\(p == Ku)=false/\∃vs,KV kvs vs/\s.heap.DictOf (ak X.prog X.w) p vs:=I.hok p _ hx;have hlen:kvs.length=vs.length:=Ki r;exact wpAny_truthy_dict hS m (by omega) ⟨H,I.tok _,by rw[lU r];exact q⟩
 | _=>exact(show False from e).elim
theorem sx:OpR X (MI .Add) (fun x y H Q=>∃i j,x=.str i/\y=.str j/\i.length+j.length<=sizeLine/\Q (.str (i++j)) H):=by
 intro pins s σ H x y v u Q I rx ry h;obtain⟨i,j,rfl,rfl,hz,q⟩:=h;obtain⟨t,rfl⟩:=rx;obtain⟨t',rfl⟩:=ry;exact add_str (fun t' tk=>⟨.str (i++j),H,I.tok _,⟨_,rfl⟩,q⟩) hz
theorem vals1{x:V}{us:List JJ}(r:Vals [x] us):∃u,us=[u]/\RelV x u:=by
 cases r with
 | cons r1 r2=>cases r2;exact⟨_,rfl,r1⟩
theorem vals2{x y:V}{us:List JJ}(r:Vals [x,y] us):∃u w',us=[u,w']/\RelV x u/\RelV y w':=by
 cases r with
 | cons r1 r2=>
  cases r2 with
  | cons r3 r4=>cases r4;exact⟨_,_,rfl,r1,r3⟩
theorem pB:gX X (.type "int") (fun xs H Q=>(∃i,xs=[.int i]/\Q (.int i) H)\/∃k,xs=[.bl k]/\Q (.int (if k then 1 else 0)) H):=by
 intro pins s σ H xs us Q I r h;rcases h with⟨i,rfl,q⟩|⟨k,rfl,q⟩
 ·obtain⟨u,rfl,t,rfl⟩:=vals1 r
  exact call_int_int ⟨.int i,H,I,⟨_,rfl⟩,q⟩
 ·obtain⟨u,rfl,r1⟩:=vals1 r
  cases r1;exact call_int_bool ⟨.int (if k then 1 else 0),H,I.tok _,⟨_,rfl⟩,q⟩
def Jv(K:JH)(x:V)(H:Hp)(n:Nat):Prop:=
 match x with
 | .str y=>y.length<=sizeLine/\n=y.length
 | .byt y=>y.size<=sizeLine/\n=y.size
 | .ref p=>(∃xs,SqL K H p xs/\n=xs.length)\/∃xs,SqT K H p xs/\n=xs.length
 | _=>False
theorem nN:gX X (.builtin "len") (fun xs H Q=>∃x n,xs=[x]/\Jv X.K x H n/\Q (.int n) H):=by
 intro pins s σ H xs us Q I r h;obtain⟨x,n,rfl,e,q⟩:=h;obtain⟨u,rfl,rx⟩:=vals1 r;have hl:=oQ;have hs:sizeLine=16777216:=Ke;cases x with
 | str y=>
  obtain⟨t,rfl⟩:=rx;obtain⟨hy,e'⟩:y.length<=sizeLine/\n=y.length:=e;subst e';exact len_str (by omega) ⟨.int _,H,I.tok _,⟨_,rfl⟩,q⟩
 | byt y=>
  obtain⟨t,rfl⟩:=rx;obtain⟨hy,e'⟩:y.size<=sizeLine/\n=y.size:=e;subst e';exact PySem.W.len_bytes (by omega) ⟨.int _,H,I.tok _,⟨_,rfl⟩,q⟩
 | ref p=>
  cases rx;have e':(∃xs,SqL X.K H p xs/\n=xs.length)\/∃xs,SqT X.K H p xs/\n=xs.length:=e;rcases e' with⟨xs,hx,e'⟩|⟨xs,hx,e'⟩
  ·subst e'
   obtain⟨its,r',pl,hz⟩:=I.list hx;have hlen:=r'.length;exact Calls.call_len_list pl.isList (by simp only[KG];omega) ⟨.int xs.length,H,I.tok _,⟨_,by simp only[KG];rw[hlen]⟩,q⟩
  ·subst e'
   obtain⟨its,r',pl,hz⟩:=I.tuple hx;have hlen:=r'.length;exact len_tuple pl (by simp only[KG];omega) ⟨.int xs.length,H,I.tok _,⟨_,by simp only[KG];rw[hlen]⟩,q⟩
 | _=>exact(show False from e).elim
end
end L2
namespace L2
open PySem PySem.Spec PyProof.Rows
noncomputable def so(f:Str)(v:V):List (Str×V)->List (Str×V)
 | []=>[(f,v)]
 | (g,x)::r=>if g=f then (g,v)::r else (g,x)::so f v r
theorem pH.some_of{v:V}{o:Option JJ}(r:pH (some v) o):∃u,o=some u/\RelV v u:=by
 cases o with
 | none=>exact(show False from r).elim
 | some u=>exact⟨u,rfl,r⟩
theorem pH.none_of{o:Option JJ}(r:pH none o):o=none:=by
 cases o with
 | none=>rfl
 | some u=>exact(show False from r).elim
structure Cls(K:JH)(C:Addr):Prop where
 pg:PySem.W.plainGet K C Str.empty=true
 hd:PySem.W.hasDictIn K C=true
 po:PySem.W.plainOver K C=true
 sa:R5 K (.ref C) "__setattr__"=some (some (.builtin "object.__setattr__"))
structure Con(K:JH)(C:Addr)(f:Str)(v:V)(u:JJ):Prop where
 at_:R5 K (.ref C) f=some (some u)
 rel:RelV v u
 get:PySem.W.specialIn K u "__get__"=some none
 cp:PySem.W.copiedNames.contains f=false
end L2
namespace L2
open PySem PySem.Spec PyProof.Rows
structure Room(k:Nat)(A:KY):Prop where
 hd:A.handled=none
 dp:A.depth+3 * k+5<recursionLimit
 un:A.units+16 * k+200<cLine
theorem Room.mono{j k:Nat}{A:KY}(r:Room k A)(h:j<=k):Room j A:=⟨r.hd,by have:=r.dp;omega,by have:=r.un;omega⟩
theorem Room.deeper{k:Nat}{A:KY}(r:Room (k+1) A)(env:Ow):Room k (A.deeper env):=
 ⟨r.hd,by have:=r.dp;show A.depth+1+3 * k+5<_;omega,by have:=r.un;show A.units+3+16 * k+200<_;omega⟩
theorem Room.depth{k:Nat}{A:KY}(r:Room k A):A.depth<recursionLimit:=by have:=r.dp;omega
theorem Room.units{k:Nat}{A:KY}(r:Room k A):A.units+64<cLine:=by have:=r.un;omega
def ID:TA:=fun _ H Q=>Q [] H
noncomputable def G5(ta:TE)(tr:TA):TA:=fun σ H Q=>ta σ H fun x H1=>tr σ H1 fun xs H2=>Q (x::xs) H2
section
variable{X : Cx}{e : Expr}{es : List Expr}{te : TE}{t : TA}{pos : La}
theorem gE:PA X [] ID:=fun _ _ _ _ H Q I h=>Qs ⟨[],H,I,.nil,h⟩
theorem cq(ha:PE X e te)(hr:PA X es t)(hs:K1 (e::es) X.env=(false,L9 e X.env)::K1 es X.env:=by rfl):PA X (e::es) (G5 te t):=by
 intro pos pins s σ H Q I h;rw[hs];show JZ _ _ (spliced ((false,L9 e X.env)::MM pos (K1 es X.env))) _ _ s;refine Qi (thn (ha pins s σ H _ I h) fun u s1 ⟨x,H1,I1,r1,q1⟩=>?_);exact thn (hr pos pins s1 σ H1 _ I1 q1) fun us s2 ⟨xs,H2,I2,r2,q2⟩=>⟨x::xs,H2,I2,.cons r1 r2,q2⟩
def Iv(t:TA):TE:=fun σ H Q=>t σ H fun xs H1=>xs.length<=sizeLine/\∀p,H1 p=none->Q (.ref p) (upd H1 p (.tup xs))
def IE(t:TA):TE:=fun σ H Q=>t σ H fun xs H1=>xs.length<=sizeLine/\∀p,H1 p=none->Q (.ref p) (upd H1 p (.lst xs))
theorem Df{x1}(h:PA X es t):PE X (.Tuple es x1 pos) (Iv t):=by
 intro pins s σ H Q I hq;refine wpAny_Tuple_spliced (thn (h pos pins s σ H _ I hq) fun us s1 ⟨xs,H1,I1,r,z,q⟩=>⟨by rw[← r.length];exact z,?_⟩);have hf:H1 s1.heap.objs.size=none:=I1.hok.fresh (K8 _);refine⟨.ref s1.heap.objs.size,upd H1 s1.heap.objs.size (.tup xs),I1.laid (t':=s1.toks) (fun b u e=>JN _ e) (K8 _) ?_,rfl,q _ hf⟩;exact⟨z,us,r,⟨_,K6 _ rfl,rfl,⟨_,rfl⟩,fun _=>rfl⟩⟩
theorem Dh(h:PA X es t):PE X (.List es pos) (IE t):=by
 intro pins s σ H Q I hq;refine wpAny_List_spliced (thn (h pos pins s σ H _ I hq) fun us s1 ⟨xs,H1,I1,r,z,q⟩=>⟨by rw[← r.length];exact z,?_⟩);have hf:H1 s1.heap.objs.size=none:=I1.hok.fresh (K8 _);refine⟨.ref s1.heap.objs.size,upd H1 s1.heap.objs.size (.lst xs),I1.laid (t':=s1.toks) (fun b u e=>JN _ e) (K8 _) ?_,rfl,q _ hf⟩;exact⟨z,us,0,r,K6 _ rfl⟩
end
abbrev Sp:=List V->Hp->VK->XK->Prop
abbrev CXT:=List Ow->Hp->JM->XK->JJ->JM->Prop
structure Env0(P:K5)(w:KH)(K:JH)(mg:Str->Option JJ)(base:Heap)(A:KY)(outer:List Ow)(s:JM)(H:Hp):Prop where
 frames:A.frames=some outer
 mod:Mod K mg base
 bs:∀b o,base.get? b=some o->s.heap.get? b=some o/\H b=none
 bsz:base.objs.size<=s.heap.objs.size
 funs:s.heap.FunFrames base outer
 frf:∀b∈frs outer,H b=none
 hok:HOk P w H s.heap
 bare:OV s.gens
def CE(outer:List Ow)(P:K5)(w:KH)(H:Hp)(s:JM)(Q:VK)(u:JJ)(s':JM):Prop:=
 ∃v H',s'.os=s.os/\OV s'.gens/\Un (frs outer) [] H H' s.heap s'.heap/\HOk P w H' s'.heap/\RelV v u/\Q v H'
def CR(CX:CXT)(outer:List Ow)(P:K5)(w:KH)(H:Hp)(s:JM)(Q:VK)(E:XK)(r:R8)(s':JM):Prop:=
 match r with
 | .ok (.ret u)=>CE outer P w H s Q u s'
 | .ok _=>False
 | .error e=>CX outer H s E e s'
structure FnOk(P:K5)(w:KH)(K:JH)(mg:Str->Option JJ)(base:Heap)(CX:CXT)(k:Nat)(f:Addr)(fd:FuncData)(ps:List Str)(sp:Sp):Prop where
 len:∀vs H Q E,sp vs H Q E->vs.length=ps.length
 run:∀(A:KY)(outer:List Ow)(s:JM)(H:Hp)(args:Args)(us:List JJ)(vs:List V)(Q:VK)(E:XK),Room k A->Env0 P w K mg base A outer s H->QF s fd args (ps.zip us)->Vals vs us->sp vs H Q E->
  NR (KM P w) A (.call (.ref f) args) (CR CX outer P w H s Q E) s
section
variable{X : Cx}{pins : List (Addr×Obj)}{σ : St}{H : Hp}{s s' : JM}
theorem Inv.env0(I:Inv X pins σ H s):Env0 X.prog X.w X.K X.mg X.base X.A X.stack s H:=
 ⟨I.ok.frames,I.ok.mod,I.bs,Ko I.ok.bsz I.sz,I.stack,I.stkFree,I.hok,I.bare⟩
theorem Inv.after{Q:VK}{u:JJ}(I:Inv X pins σ H s)(h:CE X.stack X.prog X.w H s Q u s'):EP X pins σ Q u s':=by
 obtain⟨v,H',os,bare,un,hok,r,q⟩:=h;obtain⟨hh,g,d,t,os'⟩:=s';obtain rfl:os'=s.os:=os;exact⟨v,H',I.call (h':=hh) (g':=g) (d':=d) (t':=t) (ch:=[]) un hok bare (fun b z=>absurd z (by simp)),r,q⟩
end
noncomputable def G6(sp:Sp)(dvs:List V)(E:XK)(t:TA):TE:=fun σ H Q=>t σ H fun vs H1=>sp (vs++dvs) H1 Q E
def Binds(K:JH)(fd:FuncData)(ps:List Str)(ds:List JJ):Prop:=
 ∀(s:JM)(us:List JJ),K.In s.heap->(us++ds).length=ps.length->QF s fd ⟨us,[]⟩ (ps.zip (us++ds))
theorem Binds.all{K:JH}{fd:FuncData}{ps:List Str}(h:∀us:List JJ,us.length=ps.length->Os fd ⟨us,[]⟩=pure (ps.zip us)):Binds K fd ps []:=fun s us _ hl=>by
 rw[Kq] at hl ⊢;exact .of_eq (h us hl)
def Passes(CX:CXT)(X:Cx)(E:XK):Prop:=∀(pins:List (Addr×Obj))(σ:St)(H:Hp)(s:JM)(e:JJ)(s':JM),Inv X pins σ H s->CX X.stack H s E e s'->X.xe e s'
section
variable{X : Cx}{CX : CXT}{k : Nat}{f C : Addr}{fd : FuncData}{ps : List Str}{sp : Sp}{dvs : List V}{ds : List JJ}{E : XK}{x m : Str}{p pos apos : La}{e o : Expr}{es : List Expr}{ta : TE}{t : TA}
theorem CY{pins:List (Addr×Obj)}{σ:St}{H:Hp}{s:JM}{Q:VK}{us:List JJ}{vs:List V}(F:FnOk X.prog X.w X.K X.mg X.base CX k f fd ps sp)(hr:Room k X.A)(hb:Binds X.K fd ps ds)(hd:Vals dvs ds)(hx:Passes CX X E)
  (I:Inv X pins σ H s) (r:Vals vs us) (h:sp (vs++dvs) H Q E):JZ (KM X.prog X.w) X.A (call (.ref f) us) (EP X pins σ Q) X.xe s:=by
 have r2:Vals (vs++dvs) (us++ds):=r.append hd;have hl:(us++ds).length=ps.length:=by rw[← r2.length];exact F.len _ _ _ _ h
 refine QM (Nl (F.run X.A X.stack s H ⟨us,[]⟩ (us++ds) (vs++dvs) Q E hr I.env0 (hb s us I.kIn hl) r2 h) fun r s' hq=>?_);cases r with
 | error e=>exact hx pins σ H s e s' I hq
 | ok fl=>
  cases fl with
  | ret u=>exact I.after hq
  | next=>exact JP hq
  | brk=>exact JP hq
  | cont=>exact JP hq
theorem pW(F:FnOk X.prog X.w X.K X.mg X.base CX k f fd ps sp)(hr:Room k X.A)(hg:Gl X x)(hm:X.mg x=some (.ref f))(hk:LI X.K (.ref f)=true)(hb:Binds X.K fd ps ds)(hd:Vals dvs ds)(hx:Passes CX X E)
  (ha:PA X (e::es) t) (hdb:(x == ("__debug__":Str))=false:=by decide) (he:K1 (e::es) X.env=(false,L9 e X.env)::K1 es X.env:=by rfl) (hpl:(MM pos (K1 es X.env)).any (·.1)=false:=by rfl) :
  PE X (.Call (.Name x p) (e::es) [] pos) (G6 sp dvs E t):=by
 intro pins s σ H Q I h;refine MC (qd I hg hm ?_ hdb);refine QO (h₀:=X.base) I.ok.mod.kin hk (thn (ha pos pins s σ H _ I h) fun us s1 ⟨vs,H1,I1,r,q⟩=>⟨I1.kIn,?_⟩) he hpl;exact CY F hr hb hd hx I1 r q
end
structure FnScope(N P:List Str)(sc:Scope):Prop where
 kind:sc.kind=.function
 co:sc.isCoroutine=false
 gen:sc.isGenerator=false
 nd:N.Nodup
 pre:N.take P.length=P
 par:∀x∈P,sc.names.lookup x=some .local\/sc.names.lookup x=some .cell
 nofree:∀y∈sc.names,y.2≠.free
theorem pC{kindOf:Str->Option M6}{x:Str}:∀{binds:List (Str×JJ)}{m:Str->Option JJ},(∀v,(x,v) ∉ binds)->Qo kindOf binds m x=m x
 | [],_,_=>rfl
 | (n,v)::r,m,h=>by
  unfold Qo;rw[pC fun w hw=>h w (KI _ hw)]
  split
  ·have:x≠n:=by rintro rfl;exact h v KJ
   simp[this]
  ·rfl
theorem pE{kindOf:Str->Option M6}{x:Str}:∀{binds:List (Str×JJ)}{m:Str->Option JJ},(∀v,(x,v) ∉ binds)->Qp kindOf binds m x=m x
 | [],_,_=>rfl
 | (n,v)::r,m,h=>by
  unfold Qp;rw[pE fun w hw=>h w (KI _ hw)]
  split
  ·rfl
  ·have:x≠n:=by rintro rfl;exact h v KJ
   simp[this]
theorem pD{kindOf:Str->Option M6}{x:Str}{v:JJ}:∀{P:List Str}{vs:List JJ}{i:Nat}{m:Str->Option JJ},P.Nodup->P[i]?=some x->vs[i]?=some v->kindOf x=some .local->
  Qo kindOf (P.zip vs) m x=some v
 | [],_,_,_,_,h,_,_=>by simp at h
 | _::_,[],_,_,_,_,h,_=>by simp at h
 | p::P,w::vs,0,m,nd,h1,h2,hk=>by
  simp at h1 h2;subst h1;subst h2;show Qo kindOf ((p,w)::P.zip vs) m p=_;unfold Qo;rw[pC fun v hv=>(Kf.mp nd).1 (NG hv).1,if_pos hk];simp
 | p::P,w::vs,i+1,m,nd,h1,h2,hk=>by
  show Qo kindOf ((p,w)::P.zip vs) m x=_;unfold Qo;exact pD (i:=i) (Kf.mp nd).2 (by simpa using h1) (by simpa using h2) hk
theorem pF{kindOf:Str->Option M6}{x:Str}{v:JJ}:∀{P:List Str}{vs:List JJ}{i:Nat}{m:Str->Option JJ},P.Nodup->P[i]?=some x->vs[i]?=some v->kindOf x≠some .local->
  Qp kindOf (P.zip vs) m x=some v
 | [],_,_,_,_,h,_,_=>by simp at h
 | _::_,[],_,_,_,_,h,_=>by simp at h
 | p::P,w::vs,0,m,nd,h1,h2,hk=>by
  simp at h1 h2;subst h1;subst h2;show Qp kindOf ((p,w)::P.zip vs) m p=_;unfold Qp;rw[pE fun v hv=>(Kf.mp nd).1 (NG hv).1,if_neg hk];simp
 | p::P,w::vs,i+1,m,nd,h1,h2,hk=>by
  show Qp kindOf ((p,w)::P.zip vs) m x=_;unfold Qp;exact pF (i:=i) (Kf.mp nd).2 (by simpa using h1) (by simpa using h2) hk
noncomputable def start(N:List Str)(vs:List V):St:=vs.map some++KZ (N.length-vs.length) none
noncomputable def zS(CX:CXT)(P:K5)(w:KH)(K:JH)(mg:Str->Option JJ)(base:Heap)(N:List Str)(qual:Str)(scope:Scope)(f:Addr)(cd:JJ)(A:KY)(outer:List Ow)(s:JM)(H:Hp)(E:XK):Cx where
 prog:=P
 w:=w
 K:=K
 mg:=mg
 base:=base
 A:=A.deeper (Mm qual scope s.heap.objs.size f cd)
 N:=N
 s₀:=s
 H₀:=H
 env:=Mm qual scope s.heap.objs.size f cd
 outer:=outer
 stack:=Mm qual scope s.heap.objs.size f cd::outer
 ex:=[]
 calm:=true
 fn:=fun _=>true
 pn:=[]
 xe:=fun e s'=>JZ (KM P w) (A.deeper (Mm qual scope s.heap.objs.size f cd)) (leaving (Mm qual scope s.heap.objs.size f cd) e) (fun _ s''=>CX outer H s E e s'') (fun e' s''=>CX outer H s E e' s'') s'
theorem rO{sc:Scope}{n:Nat}{x:Str}(h:sc.names.lookup x=some .cell):∃c,(cellsFrom n sc.names []).lookup x=some c:=by
 have q:=Py sc.names n [] (.inl h);exact Ni.mp q
theorem uZ{CX:CXT}{P:K5}{w:KH}{K:JH}{mg:Str->Option JJ}{base:Heap}{N ps:List Str}{qual:Str}{scope:Scope}{f:Addr}{cd:JJ}{A:KY}{outer:List Ow}{s s1:JM}{H:Hp}{E:XK}{us:List JJ}{vs:List V}
  (S:FnScope N ps scope) (hd:A.handled=none) (e0:Env0 P w K mg base A outer s H) (hl:vs.length=ps.length) (r:Vals vs us)
  (x:InCallC s s.heap.objs.size (Qo (Mm qual scope s.heap.objs.size f cd).kindOf (ps.zip us) fun _=>none) (cellsFrom (s.heap.objs.size+1) scope.names []) (Qp (Mm qual scope s.heap.objs.size f cd).kindOf (ps.zip us) fun _=>none) s1) :
  Inv (zS CX P w K mg base N qual scope f cd A outer s H E) [] (start N vs) H s1:=by
 have hpl:ps.length<=N.length:=by have:=congrArg Lj S.pre;rw[Lx] at this;omega
 obtain⟨h1,tk,rfl,hk⟩:=x.done;have noA:∀b:Addr,b ∉ (zS CX P w K mg base N qual scope f cd A outer s H E).ex:=fun b z=>absurd (show b∈([]:List Addr) from z) (by simp)
 refine⟨⟨e0.mod,S.kind,rfl,rfl,K8 _,fun y z c h1 h2=>?_,fun y hy=>?_,fun y c _ h=>?_,fun _=>hd,QH e0.frames,.inr ⟨rfl,rfl⟩,fun b z=>absurd z (noA b),e0.bs,e0.bsz,fun b _ _=>noA b,fun b z=>absurd z (noA b),e0.funs,e0.frf⟩,
  rfl,e0.bare,Un.kept hk,⟨_,x.toInCall.ns,fun i y v h1 h2 h3=>?_⟩,fun y c h=>⟨_,x.cell y c h⟩,e0.hok.fresh (K8 _),fun y c h=>?_,fun p hp=>absurd (show p∈([]:List (Addr×Obj)) from hp) (by simp),e0.hok.kept hk,?_⟩
 ·exact name_of_addr x.apart (Ka h1) (Ka h2)
 ·have hy:scope.names.lookup y=some .cell\/scope.names.lookup y=some .free:=hy
  rcases hy with hy | hy
  ·exact rO hy
  ·exact absurd rfl (S.nofree _ (Ka hy))
 ·exact OI (x.above y c (Ka h))
 ·have hi:i<vs.length:=by
   unfold start at h2
   by_cases hi:i<vs.length
   ·exact hi
   ·rw[KN (by simpa using hi)] at h2
    rw[Kr] at h2;split at h2 <;> cases h2
  have ha:vs[i]?=some v:=by
   unfold start at h2;rw[JW (by simpa using hi),K2] at h2;cases e:vs[i]? with
   | none=>rw[e] at h2;cases h2
   | some a=>rw[e] at h2;cases h2;rfl
  obtain⟨u,hu,rv⟩:=r.get ha
  have hp:ps[i]?=some y:=by
   rw[← S.pre,List.getElem?_take_of_lt (by omega)];exact h1
  have ndP:ps.Nodup:=by rw[← S.pre];exact S.nd.sublist (List.take_sublist _ _)
  refine⟨u,rv,?_⟩;rcases S.par y (KA hp) with k | k
  ·exact .inl ⟨k,pD ndP hp hu k⟩
  ·obtain⟨c,e⟩:=rO (n:=s.heap.objs.size+1) k
   refine .inr ⟨.inl k,c,e,?_⟩;have q:=x.cell y c e;rw[pF ndP hp hu (by show scope.names.lookup y≠_;rw[k];decide)] at q;exact q
 ·exact e0.hok.fresh (OI (x.above y c (Ka h)))
 ·unfold start
  show _=N.length;rw[KF,JT,MB];omega
theorem Ek{CX:CXT}{P:K5}{w:KH}{K:JH}{mg:Str->Option JJ}{base:Heap}{k:Nat}{f:Addr}{name qual:Str}{params:Arguments}{body:List Stmt}{scope:Scope}{dV kV doc pm cdv ct oc:JJ}{an od:Option Addr}
  {osl:Array (Option JJ)} {N ps:List Str} {sp:Sp} (lk:K.lookup f=some ⟨oc,od,.func (L6 name qual params body scope dV kV doc pm an cdv ct),osl⟩) (hcd:Lr K cdv qual=true) (S:FnScope N ps scope)
  (len:∀vs H Q E,sp vs H Q E->vs.length=ps.length)
  (hbody:∀(A:KY)(outer:List Ow)(s:JM)(H:Hp)(vs:List V)(Q:VK)(E:XK),Room k (A.deeper (Mm qual scope s.heap.objs.size f cdv))->sp vs H Q E->
   ∃t,PSs (zS CX P w K mg base N qual scope f cdv A outer s H E) body t/\t { nx:=fun _ H'=>Q .non H',rt:=Q } (start N vs) H) :
  FnOk P w K mg base CX (k+1) f (L6 name qual params body scope dV kV doc pm an cdv ct) ps sp:=by
 refine⟨len,fun A outer s H args us vs Q E hr e0 hb r hsp=>?_⟩;have hl:=len _ _ _ _ hsp;have KX:K.In s.heap:=e0.mod.kin.keeps fun b o e=>(e0.bs b o e).1;have lim:s.heap.NoLimit:=e0.mod.nolimit.keeps fun b o e=>(e0.bs b o e).1
 have hkind:∀y∈ps.zip us,scope.names.lookup y.1=some .local\/(scope.names.lookup y.1=some .cell/\((cellsFrom (s.heap.objs.size+1) scope.names []).lookup y.1).isSome=true):=fun ⟨n,v⟩ hy=>by
  rcases S.par n (NG hy).1 with q | q
  ·exact .inl q
  ·exact .inr ⟨q,Py _ _ _ (.inl q)⟩
 refine codeAny_call_function hr.depth (KX _ _ lk) rfl S.co S.gen rfl (PySem.W.codeRec_of KX hcd) (hb _ _ _ _ ?_);refine wpAny_newFunctionEnv_cells S.kind hkind fun env he s1 x=>?_;subst he;refine⟨lim.keeps x.toInCall.keep,codeAny_func ?_⟩;obtain⟨t,ht,hq⟩:=hbody A outer s H vs Q E (hr.deeper _) hsp;have I:Inv (zS CX P w K mg base N qual scope f cdv A outer s H E) [] (start N vs) H s1:=uZ S hr.hd e0 hl r x;refine LZ (ht [] s1 (start N vs) H _ I hq) (fun fl s' hs=>?_) fun e s' hs=>hs
 have fin:∀{σ':St}{H':Hp}{v:V}{u:JJ},Inv (zS CX P w K mg base N qual scope f cdv A outer s H E) [] σ' H' s'->RelV v u->Q v H'->CE outer P w H s Q u s':=
  fun {σ' H' v u} J rv q=>⟨v,H',J.os,J.bare,J.base,J.hok,rv,q⟩
 cases fl with
 | ret u=>
  obtain⟨v,σ',H',J,rv,q⟩:=hs;exact fin J rv q
 | next=>
  obtain⟨σ',H',J,q⟩:=hs;exact fin (v:=V.non) (u:=LF) J rfl q
 | brk=>
  obtain⟨_,_,_,q⟩:=hs;exact JP q
 | cont=>
  obtain⟨_,_,_,q⟩:=hs;exact JP q
end L2
namespace L2
open PySem PySem.Spec PyProof.Rows
section
variable{X : Cx}{x : Str}{p pos : La}{e : Expr}{es : List Expr}{t : TA}{id T : String}{r : List V → Hp → VK → Prop}
noncomputable def tCB(r:List V->Hp->VK->Prop)(t:TA):TE:=fun σ H Q=>t σ H fun vs H1=>r vs H1 Q
theorem xA (hc:gX X (.builtin id) r) (hg:Gl X x) (hm:X.mg x=none) (hv:MD x=some (.builtin id)) (ha:PA X (e::es) t) (hn:x≠"__name__":=by decide) (hdb:(x == ("__debug__":Str))=false:=by decide)
  (he:K1 (e::es) X.env=(false,L9 e X.env)::K1 es X.env:=by rfl) (hpl:(MM pos (K1 es X.env)).any (·.1)=false:=by rfl):PE X (.Call (.Name x p) (e::es) [] pos) (tCB r t):=by
 intro pins s σ H Q I h;refine MC (kj I hg hm hv ?_ hn hdb);exact PyProof.Rows.callWith_builtin1 (thn (ha pos pins s σ H _ I h) fun us s1 ⟨vs,H1,I1,r1,q1⟩=>hc pins s1 σ H1 vs us Q I1 r1 q1) he hpl
theorem oy (hc:gX X (.type T) r) (hg:Gl X x) (hm:X.mg x=none) (hv:MD x=some (.type T)) (ha:PA X (e::es) t) (hn:x≠"__name__":=by decide) (hdb:(x == ("__debug__":Str))=false:=by decide)
  (he:K1 (e::es) X.env=(false,L9 e X.env)::K1 es X.env:=by rfl) (hpl:(MM pos (K1 es X.env)).any (·.1)=false:=by rfl):PE X (.Call (.Name x p) (e::es) [] pos) (tCB r t):=by
 intro pins s σ H Q I h;refine MC (kj I hg hm hv ?_ hn hdb);exact LC (thn (ha pos pins s σ H _ I h) fun us s1 ⟨vs,H1,I1,r1,q1⟩=>hc pins s1 σ H1 vs us Q I1 r1 q1) he hpl
end
end L2
namespace HT
open PySem PyProof.Rows
noncomputable def eY:List Int->List Int->Bool
 | [],[]=>false
 | [],_::_=>true
 | _::_,[]=>false
 | x::xs,y::ys=>if x=y then eY xs ys else decide (x<y)
section
variable{prog : K5}{w : KH}{A : KY}{E : JJ → JM → Prop}{s : JM}
noncomputable def sIx(n d:Nat):Option Int->Nat
 | none=>d
 | some v=>if v<0 then (v+(n:Int)).toNat else min v.toNat n
theorem CW(n d:Nat)(hd:d<=n)(o:Option Int):sIx n d o<=n:=by
 cases o with
 | none=>exact hd
 | some v=>
  show (if v<0 then (v+(n:Int)).toNat else min v.toNat n)<=n
  by_cases hv:v<0
  ·rw[if_pos hv];omega
  ·rw[if_neg hv];exact Nat.min_le_right _ _
theorem vU(v:Int)(n d:Nat):(if v<0 then max (v+(n:Int)) 0 else min v (n:Int))=((sIx n d (some v):Nat):Int):=by
 show (if v<0 then max (v+(n:Int)) 0 else min v (n:Int))=(((if v<0 then (v+(n:Int)).toNat else min v.toNat n):Nat):Int)
 by_cases hv:v<0
 ·simp only[if_pos hv];omega
 ·simp only[if_neg hv];omega
theorem sV(lo hi:Option Int)(n:Nat):N5 lo hi 1 (n:Int)=(((sIx n 0 lo:Nat):Int),((sIx n n hi:Nat):Int)):=by
 have h1:¬ ((1:Int)<0):=by omega
 unfold N5;simp only[h1,if_false];refine Pp ?_ ?_
 ·cases lo with
  | none=>rfl
  | some v=>exact vU v n 0
 ·cases hi with
  | none=>rfl
  | some v=>exact vU v n n
theorem sq(i j:Nat):M7 (i:Int) (j:Int) 1=j-i:=by
 unfold M7;have h1:(1:Int) > 0:=by omega
 simp only[h1,if_true,Int.ediv_one]
 split <;> omega
theorem lG{v:JJ}{o:Option Int}{Q:Option Int->JM->Prop}(p:Ou v o)(h:Q o s):JZ (KM prog w) A (Builtin.Slice.slicePartIndex v) Q E s:=by
 cases p with
 | none=>exact slicePart_none h
 | int i t=>exact slicePart_int h
theorem fH{sl:Addr}{vl vu:JJ}{lo hi:Option Int}{n:Nat}{Q:Int×Int×Nat->JM->Prop}(hs:s.heap.IsSliceOf sl vl vu .none)(pl:Ou vl lo)(pu:Ou vu hi)
  (h:Q (((sIx n 0 lo:Nat):Int),1,sIx n n hi-sIx n 0 lo) s):JZ (KM prog w) A (Oc (.ref sl) (pure (n:Int))) Q E s:=by
 obtain⟨os,hos,hcs,hds⟩:=id hs;unfold Oc Builtin.Slice.sliceFields;refine JI (JI (Oo hos hds (x:=vl) rfl (JI (Oo hos hds (x:=vu) rfl (JI (Oo hos hds (x:=.none) rfl (JO ?_)))))));refine JI (slicePart_none ?_);show JZ _ _ (if ((1:Int) == 0)=true then _ else _) _ _ s;rw[if_neg (by decide)];refine JI (lG pl (JI (lG pu (JI (JO ?_)))));show JZ _ _ (match N5 lo hi 1 (n:Int) with | (lo,hi)=>pure (lo,(1:Int),M7 lo hi 1)) _ _ s;rw[sV lo hi n];show JZ _ _ (pure (((sIx n 0 lo:Nat):Int),(1:Int),M7 ((sIx n 0 lo:Nat):Int) ((sIx n n hi:Nat):Int) 1)) _ _ s;rw[sq];exact JO h
theorem xt(xs:Array JJ)(i k:Nat):((KQ k).filterMap fun (m:Nat)=>xs[((i:Int)+(m:Int) * 1).toNat]?).toArray=((xs.toList.drop i).take k).toArray:=by
 have e:(fun (m:Nat)=>xs[((i:Int)+(m:Int) * 1).toNat]?)=fun m=>xs[i+m]?:=by
  funext m
  have:((i:Int)+(m:Int) * 1).toNat=i+m:=by omega
  rw[this]
 rw[e];have:=pick_run xs i k;rw[List.filterMap_map] at this;have e2:((fun x=>xs[x]?) ∘ fun x=>i+x)=fun m=>xs[i+m]?:=rfl;rw[e2] at this;rw[this]
theorem getItem_tuple_cut{t sl:Addr}{items:Array JJ}{vl vu:JJ}{lo hi:Option Int}{Q:JJ->JM->Prop}(ht:IsTup s.heap t items)(hs:s.heap.IsSliceOf sl vl vu .none)(pl:Ou vl lo)(pu:Ou vu hi)
  (hw:¬ (sIx items.size 0 lo=0/\sIx items.size items.size hi=items.size))
  (h:Q (.ref s.heap.objs.size) { s with heap:=s.heap.push { cls:=.type "tuple",data:=.seq ((items.toList.drop (sIx items.size 0 lo)).take (sIx items.size items.size hi-sIx items.size 0 lo)).toArray } })
  (hsz:items.size<=sizeLine):JZ (KM prog w) A (Pf (.ref t) (.ref sl)) Q E s:=by
 have htake:sizeOk (.seq ((items.toList.drop (sIx items.size 0 lo)).take (sIx items.size items.size hi-sIx items.size 0 lo)).toArray):=by
  show ((items.toList.drop (sIx items.size 0 lo)).take (sIx items.size items.size hi-sIx items.size 0 lo)).toArray.size<=sizeLine;rw[KG,Lx,PN,Kx];omega
 have hj:sIx items.size items.size hi<=items.size:=CW _ _ (K8 _) hi;obtain⟨os,hos,hcs,hds⟩:=id hs;have hTs:s.TypeIs (.ref sl) "slice":=⟨os,hos,hcs⟩;unfold Pf
 try with_reducible refine LR ?_
 first | refine JI (JO ?_) | skip
 refine JI (wpAny_sequenceKey ht.typeIs (by decide) ?_)
 refine JI (Mv (name:=JK "__getitem__") ht.typeIs Ky
  (Md Ky ht.typeIs entry_tuple_getitem ?_ (args_tuple_getitem _ _)))
 show JZ _ _ (Mx (.ref t) >>= _) _ _ s;refine JI (tupleItemsOf_ ht ?_);refine JI (Ll hTs ?_);rw[if_pos (by decide)];refine JI (fH hs pl pu ?_)
 have hno:¬ ((((sIx items.size 0 lo:Nat):Int) == 0 && (1:Int) == 1 && (sIx items.size items.size hi-sIx items.size 0 lo) == items.size)=true):=by
  intro q;rw[Ks,Ks] at q;have q1:((sIx items.size 0 lo:Nat):Int)=0:=Mi q.1.1;have q2:sIx items.size items.size hi-sIx items.size 0 lo=items.size:=Mi q.2;exact hw ⟨by omega,by omega⟩
 show JZ _ _ (if (((sIx items.size 0 lo:Nat):Int) == 0 && (1:Int) == 1 && (sIx items.size items.size hi-sIx items.size 0 lo) == items.size)=true then _ else _) _ _ s;rw[if_neg hno,xt]
 first
  | exact JI (m:=ME _) (Ls (JO ⟨_,rfl,JO h⟩) htake)
  | exact JI (m:=ME _) (Ls (JI (JO (JO ⟨_,rfl,JO h⟩))) htake)
  | exact JI (JI (m:=ME _) (Ls (JO (JO ⟨_,rfl,JO h⟩)) htake))
  | exact JI (JI (m:=ME _) (Ls (JO ⟨_,rfl,JO h⟩) htake))
end
end HT
namespace L2
open PySem PySem.Spec PyProof.Rows
abbrev TO:=St->Hp->(Option Int->Hp->Prop)->Prop
def PO(X:Cx)(e:Option Expr)(t:TO):Prop:=
 ∀(pins:List (Addr×Obj))(s:JM)(σ:St)(H:Hp)(Q:Option Int->Hp->Prop),Inv X pins σ H s->t σ H Q->
  JZ (KM X.prog X.w) X.A (evalPart e X.env) (fun u s'=>∃o H',Inv X pins σ H' s'/\Ou u o/\Q o H') X.xe s
def Al:TO:=fun _ H Q=>Q none H
noncomputable def FZ(t:TE):TO:=fun σ H Q=>t σ H fun x H1=>∃i,x=.int i/\Q (some i) H1
section
variable{X : Cx}{e : Expr}{te : TE}{lo hi : Option Expr}{tl th : TO}{pos p2 : La}
theorem AM:PO X none Al:=by
 intro pins s σ H Q I h;rw[evalPart_none];exact JO ⟨none,H,I,.none,h⟩
theorem AL(h:PE X e te):PO X (some e) (FZ te):=by
 intro pins s σ H Q I hw;rw[evalPart_some];refine thn (h pins s σ H _ I hw) fun u s1 ⟨x,H1,I1,r1,q1⟩=>?_;obtain⟨i,rfl,q⟩:=q1;obtain⟨t,rfl⟩:=r1;exact⟨some i,H1,I1,.int i t,q⟩
def SlR(X:Cx)(r:V->Option Int->Option Int->Hp->VK->Prop):Prop:=
 ∀(pins:List (Addr×Obj))(s:JM)(σ:St)(H:Hp)(x:V)(v vl vu:JJ)(lo hi:Option Int)(sl:Addr)(Q:VK),Inv X pins σ H s->RelV x v->s.heap.IsSliceOf sl vl vu .none->Ou vl lo->Ou vu hi->r x lo hi H Q->
  ∃T id,PQ (.type T) "__getitem__"=pure (some (.builtin id))/\s.TypeIs v T/\JZ (KM X.prog X.w) X.A (Pf v (.ref sl)) (EP X pins σ Q) X.xe s
noncomputable def tSl(r:V->Option Int->Option Int->Hp->VK->Prop)(te:TE)(tl th:TO):TE:=fun σ H Q=>te σ H fun x H1=>tl σ H1 fun l H2=>th σ H2 fun u H3=>r x l u H3 Q
theorem mJ{r:V->Option Int->Option Int->Hp->VK->Prop}(hr:SlR X r)(he:PE X e te)(hl:PO X lo tl)(hu:PO X hi th):PE X (.Subscript e (.Slice lo hi none p2) pos) (tSl r te tl th):=by
 intro pins s σ H Q I h;refine Subscript_ (thn (he pins s σ H _ I h) fun v s1 ⟨x,H1,I1,r1,q1⟩=>?_);refine wpAny_Slice (thn (hl pins s1 σ H1 _ I1 q1) fun vl s2 ⟨l,H2,I2,pl,q2⟩=>thn (hu pins s2 σ H2 _ I2 q2) fun vu s3 ⟨u,H3,I3,pu,q3⟩=>?_);rw[evalPart_none];refine JO ?_;have I4:Inv X pins σ H3 { s3 with heap:=s3.heap.push { cls:=.type "slice",data:=.fields #[vl,vu,.none] } }:=I3.kept (t':=s3.toks) fun b ob q=>JN _ q;obtain⟨T,id,hT,ht,hg⟩:=hr pins { s3 with heap:=s3.heap.push { cls:=.type "slice",data:=.fields #[vl,vu,.none] } } σ H3 x v vl vu l u s3.heap.objs.size Q I4 r1 (Heap.IsSliceOf.new ..) pl pu q3;show JZ (KM X.prog X.w) X.A (subscriptTail e (.Slice lo hi none p2) v (.ref s3.heap.objs.size)) (EP X pins σ Q) X.xe { s3 with heap:=s3.heap.push { cls:=.type "slice",data:=.fields #[vl,vu,.none] } };exact tail_any (ops:=[.ref s3.heap.objs.size,v]) ht hT hg (by with_unfolding_all rfl)
def yu(xs:List V)(lo hi:Option Int):List V:=(xs.drop (HT.sIx xs.length 0 lo)).take (HT.sIx xs.length xs.length hi-HT.sIx xs.length 0 lo)
theorem kT(xs:List V)(lo hi:Option Int):(yu xs lo hi).length<=xs.length:=by
 unfold yu;rw[Lx,PN];omega
def IM(K:JH):V->Option Int->Option Int->Hp->VK->Prop:=fun x lo hi H Q=>∃a xs,x=.ref a/\SqT K H a xs/\
 ¬ (HT.sIx xs.length 0 lo=0/\HT.sIx xs.length xs.length hi=xs.length)/\∀p,H p=none->Q (.ref p) (upd H p (.tup (yu xs lo hi)))
theorem yU:SlR X (IM X.K):=by
 intro pins s σ H x v vl vu lo hi sl Q I rx hs pl pu h;obtain⟨a,xs,rfl,hx,hw,q⟩:=h;cases rx;obtain⟨its,r,ht,hz⟩:=I.tuple hx;have hlen:its.toArray.size=xs.length:=by rw[KG];exact r.length.symm
 refine⟨"tuple",_,Ky.lookup,ht.typeIs,?_⟩;refine HT.getItem_tuple_cut ht hs pl pu (by rw[hlen];exact hw) ?_ (by rw[hlen];exact hz);rw[hlen];refine⟨.ref s.heap.objs.size,_,I.laid (t':=s.toks) (o:=.tup (yu xs lo hi)) (fun b ob q=>JN _ q) (K8 _) ?_,rfl,q _ (I.hok.fresh (K8 _))⟩;exact⟨Ko (kT xs lo hi) hz,_,(r.drop (HT.sIx xs.length 0 lo)).take (HT.sIx xs.length xs.length hi-HT.sIx xs.length 0 lo),yH.new _ _⟩
end
end L2
namespace L2
open PySem PySem.Spec PyProof.Rows
noncomputable def ixN(n:Nat)(i:Int):Option Nat:=if 0<=i then (if i<n then some i.toNat else none) else if -(n:Int)<=i then some (i+n).toNat else none
def atI{α:Type}(xs:List α)(i:Int):Option α:=(ixN xs.length i).bind fun j=>xs[j]?
theorem Bh{n:Nat}{i:Int}{j:Nat}(h:ixN n i=some j):seqIndex? i n=some j/\j<n/\-(n:Int)<=i/\i<n:=by
 unfold ixN at h
 by_cases h0:0<=i
 ·rw[if_pos h0] at h
  by_cases h1:i<n
  ·rw[if_pos h1] at h
   have e:i.toNat=j:=Kl h;exact⟨by rw[seqIndex_of h0 h1,e],by omega,by omega,h1⟩
  ·rw[if_neg h1] at h;cases h
 ·rw[if_neg h0] at h
  by_cases h1:-(n:Int)<=i
  ·rw[if_pos h1] at h
   have e:(i+n).toNat=j:=Kl h;exact⟨by rw[seqIndex_neg (by omega) h1,e],by omega,h1,by omega⟩
  ·rw[if_neg h1] at h;cases h
theorem qA{α:Type}{xs:List α}{i:Int}{v:α}(h:atI xs i=some v):∃j,seqIndex? i xs.length=some j/\xs[j]?=some v/\j<xs.length/\-(xs.length:Int)<=i/\i<xs.length:=by
 unfold atI at h;cases e:ixN xs.length i with
 | none=>rw[e] at h;cases h
 | some j=>
  rw[e] at h;obtain⟨h1,h2,h3,h4⟩:=Bh e;exact⟨j,h1,h,h2,h3,h4⟩
def wd(b:Expr):Prop:=∀o i,subscripted b false o i=operate [o,i] (Pf o i)
def IxR(X:Cx)(r:R2):Prop:=
 ∀(value slice:Expr)(pins:List (Addr×Obj))(s:JM)(σ:St)(H:Hp)(x y:V)(v u:JJ)(Q:VK),Inv X pins σ H s->RelV x v->RelV y u->r x y H Q->
  subscripted slice false v u=operate [v,u] (Pf v u)->JZ (KM X.prog X.w) X.A (subscriptTail value slice v u) (EP X pins σ Q) X.xe s
def MtR(X:Cx)(id:String)(r:V->List V->Hp->VK->Prop):Prop:=
 ∀(pins:List (Addr×Obj))(s:JM)(σ:St)(H:Hp)(x:V)(xs:List V)(v:JJ)(us:List JJ)(Q:VK),Inv X pins σ H s->RelV x v->Vals xs us->r x xs H Q->
  JZ (KM X.prog X.w) X.A (call (.builtin id) (v::us)) (EP X pins σ Q) X.xe s
section
variable{X : Cx}{a b : Expr}{ta tb : TE}{pos : La}
theorem Dj{r:R2}(hr:IxR X r)(ha:PE X a ta)(hb:PE X b tb)(hs:wd b):PE X (.Subscript a b pos) (tOp r ta tb):=by
 intro pins s σ H Q I h;exact Subscript_ (Hd ha hb I h fun v u s2 x y H2 I2 rx ry q=>hr a b pins s2 σ H2 x y v u Q I2 rx ry q (hs _ _))
noncomputable def IY(K:JH):R2:=fun x y H Q=>∃p xs i v,x=.ref p/\y=.int i/\SqL K H p xs/\atI xs i=some v/\Q v H
noncomputable def IV(K:JH):R2:=fun x y H Q=>∃p xs i v,x=.ref p/\y=.int i/\SqT K H p xs/\atI xs i=some v/\Q v H
noncomputable def IW:R2:=fun x y H Q=>∃z i c,x=.str z/\y=.int i/\z.length<=sizeLine/\atI z.cps.toList i=some c/\Q (.str ⟨#[c]⟩) H
theorem Bg:IxR X (IY X.K):=by
 intro value slice pins s σ H x y v u Q I rx ry h hs;obtain⟨p,xs,i,z,rfl,rfl,hq,he,q⟩:=h;cases rx;obtain⟨t,rfl⟩:=ry;obtain⟨its,r,pl,hz⟩:=I.list hq;obtain⟨j,h1,h2,h3,h4,h5⟩:=qA he;obtain⟨w,ew,rw'⟩:=r.get h2;have hl:=r.length;have hn:=oQ;have fin:EP X pins σ Q w s:=⟨z,H,I,rw',q⟩
 by_cases h0:0<=i
 ·have hj:i.toNat=j:=by
   rw[seqIndex_of h0 h5] at h1;exact Kl h1
  exact item_listR pl.isList h0 (by omega) (by rw[hj];simpa using ew) fin hs
 ·have hj:(i+(its.toArray.size:Int)).toNat=j:=by
   rw[seqIndex_neg (by omega) h4] at h1;rw[KG,← hl];exact Kl h1
  exact RA (x:=w) pl.isList.typeIs slot_list_getitem.lookup
   (wpAny_getItem_list_neg (Q:=fun r s'=>r=w/\EP X pins σ Q r s') pl.isList (by omega) (by rw[KG] <;> omega) (by omega) (by rw[hj];simpa using ew) ⟨rfl,fin⟩) hs
theorem E4:IxR X (IV X.K):=by
 intro value slice pins s σ H x y v u Q I rx ry h hs;obtain⟨p,xs,i,z,rfl,rfl,hq,he,q⟩:=h;cases rx;obtain⟨t,rfl⟩:=ry;obtain⟨its,r,pl,hz⟩:=I.tuple hq;obtain⟨j,h1,h2,h3,h4,h5⟩:=qA he;obtain⟨w,ew,rw'⟩:=r.get h2;have hl:=r.length;have hn:=oQ;have fin:EP X pins σ Q w s:=⟨z,H,I,rw',q⟩
 exact RA (x:=w) pl.typeIs slot_tuple_getitem.lookup
  (getItem_tuple (j:=j) (Q:=fun r s'=>r=w/\EP X pins σ Q r s') pl (by omega) (by omega) (by rw[KG,← hl];exact h1) (by simpa using ew) ⟨rfl,fin⟩) hs
theorem E5:IxR X IW:=by
 intro value slice pins s σ H x y v u Q I rx ry h hs;obtain⟨z,i,c,rfl,rfl,hz,he,q⟩:=h;obtain⟨t,rfl⟩:=rx;obtain⟨t',rfl⟩:=ry;obtain⟨j,h1,h2,h3,h4,h5⟩:=qA he;have hl:z.cps.toList.length=z.length:=by simp[Str.length]
 rw[hl] at h1 h4 h5;have hn:=oQ
 exact tail_any (typeIs_str s z t) slot_str_getitem.lookup (getItem_str (c:=c) (by
  have e1:decide (i < -(2 ^ 63:Int))=false:=decide_eq_false (by omega);have e2:decide (i ≥ 2 ^ 63)=false:=decide_eq_false (by omega);rw[e1,e2,Q9]) (by rw[h1];simpa using h2) ⟨.str ⟨#[c]⟩,H,I.tok _,⟨_,rfl⟩,q⟩) hs
theorem oh(lo hi:Option Int)(n:Nat):(NZ lo hi none n).1=((HT.sIx n 0 lo:Nat):Int)/\(NZ lo hi none n).2.1=((HT.sIx n n hi:Nat):Int)/\(NZ lo hi none n).2.2=1:=by
 refine⟨?_,?_,rfl⟩
 ·cases lo with
  | none=>simp[NZ,HT.sIx]
  | some i=>
   simp only[NZ,HT.sIx,Qt,show (1:Int) > 0 by decide,if_true]
   by_cases h:i<0
   ·simp only[h,if_true] <;> omega
   ·simp only[h,if_false] <;> omega
 ·cases hi with
  | none=>simp[NZ,HT.sIx]
  | some i=>
   simp only[NZ,HT.sIx,Qt,show (1:Int) > 0 by decide,if_true]
   by_cases h:i<0
   ·simp only[h,if_true] <;> omega
   ·simp only[h,if_false] <;> omega
theorem mj(its:List JJ)(lo hi:Option Int):slicePick its.toArray lo hi none=((its.drop (HT.sIx its.length 0 lo)).take (HT.sIx its.length its.length hi-HT.sIx its.length 0 lo)).toArray:=by
 obtain⟨h1,h2,h3⟩:=oh lo hi its.toArray.size;unfold slicePick;rw[h1,h2,h3];simp only[sliceRange_one,pick_run,KG] <;> rfl
def IR(K:JH):V->Option Int->Option Int->Hp->VK->Prop:=fun x lo hi H Q=>∃a xs,x=.ref a/\SqL K H a xs/\∀p,H p=none->Q (.ref p) (upd H p (.lst (yu xs lo hi)))
theorem As:SlR X (IR X.K):=by
 intro pins s σ H x v vl vu lo hi sl Q I rx hs pl pu h;obtain⟨a,xs,rfl,hx,q⟩:=h;cases rx;obtain⟨its,r,ht,hz⟩:=I.list hx;have hlen:=r.length;refine⟨"list",_,slot_list_getitem.lookup,ht.isList.typeIs,?_⟩;refine wpAny_getItem_list_slice ht.isList hs pl pu .none (by simp) ?_ (by rw[KG] <;> omega)
 rw[mj,← hlen];refine⟨.ref s.heap.objs.size,_,I.laid (t':=s.toks) (o:=.lst (yu xs lo hi)) (fun b ob q=>JN _ q) (K8 _) ?_,rfl,q _ (I.hok.fresh (K8 _))⟩;exact⟨Ko (kT xs lo hi) hz,_,0,(r.drop (HT.sIx xs.length 0 lo)).take (HT.sIx xs.length xs.length hi-HT.sIx xs.length 0 lo),K6 _ rfl⟩
noncomputable def lr:V->Bool
 | .non=>true
 | .bl _=>true
 | .int _=>true
 | .str _=>true
 | _=>false
noncomputable def eqV:V->V->Bool
 | .non,.non=>true
 | .bl a,.bl b=>a == b
 | .bl a,.int b=>(if a then 1 else 0) == b
 | .int a,.bl b=>a == (if b then 1 else 0)
 | .int a,.int b=>a == b
 | .str a,.str b=>a == b
 | _,_=>false
theorem Er{A:KY}{s:JM}{y x:V}{u v:JJ}(ry:RelV y u)(rx:RelV x v)(fy:lr y=true)(fx:lr x=true):Mf A s u v (eqV y x):=by
 cases y with
 | non=>
  cases ry;cases x with
  | non=>cases rx;exact Of _
  | bl b=>cases rx;exact SeqAt.EqAt.none_bool b
  | int b=>obtain⟨t,rfl⟩:=rx;exact SeqAt.EqAt.none_int b t
  | str b=>obtain⟨t,rfl⟩:=rx;exact SeqAt.EqAt.none_str b t
  | _=>exact absurd (show false=true from fx) JU
 | bl a=>
  cases ry;cases x with
  | non=>cases rx;exact SeqAt.EqAt.bool_none a
  | bl b=>cases rx;exact SeqAt.EqAt.bool_bool a b
  | int b=>obtain⟨t,rfl⟩:=rx;exact SeqAt.EqAt.bool_int a b t
  | str b=>obtain⟨t,rfl⟩:=rx;exact SeqAt.EqAt.bool_str a b t
  | _=>exact absurd (show false=true from fx) JU
 | int a=>
  obtain⟨t',rfl⟩:=ry;cases x with
  | non=>cases rx;exact SeqAt.EqAt.int_none a t'
  | bl b=>cases rx;exact SeqAt.EqAt.int_bool a t' b
  | int b=>obtain⟨t,rfl⟩:=rx;exact SeqAt.EqAt.int_int a t' b t
  | str b=>obtain⟨t,rfl⟩:=rx;exact Q6 a t' b t
  | _=>exact absurd (show false=true from fx) JU
 | str a=>
  obtain⟨t',rfl⟩:=ry;cases x with
  | non=>cases rx;exact SeqAt.EqAt.str_none a t'
  | bl b=>cases rx;exact SeqAt.EqAt.str_bool a t' b
  | int b=>obtain⟨t,rfl⟩:=rx;exact Q4 a t' b t
  | str b=>obtain⟨t,rfl⟩:=rx;exact SeqAt.EqAt.str_str a t' b t
  | _=>exact absurd (show false=true from fx) JU
 | _=>exact absurd (show false=true from fy) JU
def eqU(x:V)(u:JJ):Bool:=match u with
 | .none=>eqV .non x
 | .bool b=>eqV (.bl b) x
 | .int i _=>eqV (.int i) x
 | .str z _=>eqV (.str z) x
 | _=>false
theorem zL{x y:V}{u:JJ}(r:RelV y u)(f:lr y=true):eqU x u=eqV y x:=by
 cases y with
 | non=>cases r;rfl
 | bl b=>cases r;rfl
 | int i=>obtain⟨t,rfl⟩:=r;rfl
 | str z=>obtain⟨t,rfl⟩:=r;rfl
 | _=>exact absurd (show false=true from f) JU
theorem l0{x:V}:∀{xs:List V}{us:List JJ},Vals xs us->xs.all lr=true->us.any (eqU x)=xs.any fun y=>eqV y x
 | _,_,.nil,_=>rfl
 | y::xs,u::us,.cons r t,f=>by
  rw[M9,Ks] at f;rw[LK,LK,zL r f.1,l0 t f.2]
theorem ia{A:KY}{s:JM}{x:V}{v:JJ}(rx:RelV x v)(fx:lr x=true):∀{xs:List V}{us:List JJ},Vals xs us->xs.all lr=true->∀u∈us,Mf A s u v (eqU x u)
 | _,_,.nil,_=>fun u hu=>by cases hu
 | y::xs,u::us,.cons r t,f=>fun u' hu=>by
  rw[M9,Ks] at f;rcases K9.mp hu with rfl | hu
  ·rw[zL r f.1];exact Er r rx f.1 fx
  ·exact ia rx fx t f.2 u' hu
def inV(x:V)(xs:List V):Bool:=xs.any fun y=>eqV y x
def rIn(K:JH)(neg:Bool):R2:=fun x y H Q=>∃p xs,y=.ref p/\(SqL K H p xs\/SqT K H p xs)/\lr x=true/\xs.all lr=true/\Q (.bl (if neg then !inV x xs else inV x xs)) H
theorem oG:OpR X (Kk .In) (rIn X.K false):=by
 intro pins s σ H x y v u Q I rx ry h;obtain⟨p,xs,rfl,hq,fx,fs,q⟩:=h;cases ry;rcases hq with hq | hq
 ·obtain⟨its,r,pl,hz⟩:=I.list hq
  refine SeqAt.in_listAt (eqU x) pl.isList (fun w hw=>ia rx fx r fs w (by simpa using hw)) ⟨.bl _,H,I,rfl,?_⟩;rw[show its.toArray.any (eqU x)=its.any (eqU x) by simp,l0 r fs];exact q
 ·obtain⟨its,r,pl,hz⟩:=I.tuple hq
  refine SeqAt.in_tupleAt (eqU x) pl (fun w hw=>ia rx fx r fs w (by simpa using hw)) ⟨.bl _,H,I,rfl,?_⟩;rw[show its.toArray.any (eqU x)=its.any (eqU x) by simp,l0 r fs];exact q
theorem jd:OpR X (Kk .NotIn) (rIn X.K true):=by
 intro pins s σ H x y v u Q I rx ry h;obtain⟨p,xs,rfl,hq,fx,fs,q⟩:=h;cases ry;rcases hq with hq | hq
 ·obtain⟨its,r,pl,hz⟩:=I.list hq
  refine SeqAt.notIn_listAt (eqU x) pl.isList (fun w hw=>ia rx fx r fs w (by simpa using hw)) ⟨.bl _,H,I,rfl,?_⟩;rw[show its.toArray.any (eqU x)=its.any (eqU x) by simp,l0 r fs];exact q
 ·obtain⟨its,r,pl,hz⟩:=I.tuple hq
  refine SeqAt.notIn_tupleAt (eqU x) pl (fun w hw=>ia rx fx r fs w (by simpa using hw)) ⟨.bl _,H,I,rfl,?_⟩;rw[show its.toArray.any (eqU x)=its.any (eqU x) by simp,l0 r fs];exact q
theorem oE:OpR X (Kk .NotIn) (fun x y H Q=>∃i j,x=.str i/\y=.str j/\Q (.bl (!(!(Na j i 0 j.length 1).isEmpty))) H):=by
 intro pins s σ H x y v u Q I rx ry h;obtain⟨i,j,rfl,rfl,q⟩:=h;obtain⟨t,rfl⟩:=rx;obtain⟨t',rfl⟩:=ry;exact notIn_str ⟨.bl _,H,I,rfl,q⟩
theorem jh:gX X (.type "list") (fun xs H Q=>∃p ys,xs=[.ref p]/\(SqL X.K H p ys\/SqT X.K H p ys)/\∀l,H l=none->Q (.ref l) (upd H l (.lst ys))):=by
 intro pins s σ H xs us Q I r h;obtain⟨p,ys,rfl,hq,q⟩:=h;obtain⟨u,rfl,rx⟩:=vals1 r;cases rx
 have fin:∀(its:List JJ),Vals ys its->ys.length<=sizeLine->∀(h':Heap)(c':Nat),(∀b o',s.heap.get? b=some o'->h'.get? b=some o')->
   h'.get? s.heap.objs.size=some { cls:=.type "list",dict:=none,data:=.seq its.toArray c',slots:=#[] }->EP X pins σ Q (.ref s.heap.objs.size) { s with heap:=h' }:=fun its r' hz h' c' kp e=>
  ⟨.ref s.heap.objs.size,_,I.laid (t':=s.toks) kp (K8 _) (show dw X.prog X.w _ h' _ (.lst ys) from ⟨hz,its,c',r',e⟩),rfl,q _ (I.hok.fresh (K8 _))⟩
 rcases hq with hq | hq
 ·obtain⟨its,r',pl,hz⟩:=I.list hq
  have hlen:=r'.length;obtain⟨o,ho,hc,n,hd⟩:=pl.isList;exact call_list_seq p (.inl rfl) ho hc hd (fun h' c' kp e=>fin its r' hz h' c' kp e) (by simp only[KG] <;> omega)
 ·obtain⟨its,r',pl,hz⟩:=I.tuple hq
  have hlen:=r'.length;obtain⟨o,ho,hc,n,hd⟩:=pl;exact call_list_seq p (.inr rfl) ho hc hd (fun h' c' kp e=>fin its r' hz h' c' kp e) (by simp only[KG] <;> omega)
theorem iE:gX X (.type "tuple") (fun xs H Q=>∃p ys,xs=[.ref p]/\((SqL X.K H p ys/\∀l,H l=none->Q (.ref l) (upd H l (.tup ys)))\/(SqT X.K H p ys/\Q (.ref p) H))):=by
 intro pins s σ H xs us Q I r h;obtain⟨p,ys,rfl,h⟩:=h;obtain⟨u,rfl,rx⟩:=vals1 r;cases rx;rcases h with⟨hq,q⟩|⟨hq,q⟩
 ·obtain⟨its,r',pl,hz⟩:=I.list hq
  have hlen:=r'.length;refine call_tuple_list pl.isList (fun h' kp=>?_) (by simp only[KG] <;> omega)
  have I1:Inv X pins σ H { s with heap:=h' }:=I.kept (t':=s.toks) kp
  have I2:Inv X pins σ (upd H h'.objs.size (.tup ys)) { s with heap:=h'.push { cls:=.type "tuple",data:=.seq its.toArray } }:=
   I1.laid (t':=s.toks) (fun b o e=>JN _ e) (K8 _) (show dw X.prog X.w _ _ _ (.tup ys) from ⟨hz,its,r',yH.new _ _⟩)
  exact⟨.ref h'.objs.size,_,I2,rfl,q _ (I1.hok.fresh (K8 _))⟩
 ·obtain⟨its,r',pl,hz⟩:=I.tuple hq
  exact call_tuple_same pl ⟨.ref p,H,I,rfl,q⟩
def tyV(K:JH)(T:String)(x:V)(H:Hp):Prop:=match x with
 | .str _=>T="str"
 | .int _=>T="int"
 | .ref p=>(T="list"/\∃xs,SqL K H p xs)\/(T="tuple"/\∃o,K.lookup p=some o/\o.cls=.type "tuple"/\o.dict=none) ∨
   (T="dict"/\((∃kvs,H p=some (.dK kvs))\/∃kvs,H p=some (.dT kvs)))\/(T="set"/\∃S n,H p=some (.set S n))
 | _=>False
theorem CD{pins:List (Addr×Obj)}{σ:St}{H:Hp}{s:JM}{T:String}{x:V}{v:JJ}(I:Inv X pins σ H s)(r:RelV x v)(ty:tyV X.K T x H) :
  s.TypeIs v T/\∀a,v=.ref a->∃ob,s.heap.get? a=some ob/\ob.dict=none:=by
 cases x with
 | str z=>
  obtain⟨t,rfl⟩:=r;cases (show T="str" from ty);exact⟨typeIs_str s z t,fun _ e=>nomatch e⟩
 | int i=>
  obtain⟨t,rfl⟩:=r;cases (show T="int" from ty);exact⟨typeIs_int s i t,fun _ e=>nomatch e⟩
 | ref p=>
  cases r;rcases ty with⟨rfl,xs,hq⟩|⟨rfl,o,hk,hc,hd⟩|⟨rfl,hk⟩|⟨rfl,S,n,hk⟩
  ·obtain⟨its,_,pl,_⟩:=I.list hq
   refine⟨pl.isList.typeIs,fun a e=>?_⟩;cases e;obtain⟨o,n,e,c,hd,_⟩:=pl;exact⟨o,e,hd⟩
  ·refine⟨⟨o,I.kIn p o hk,hc⟩,fun a e=>?_⟩
   cases e;exact⟨o,I.kIn _ o hk,hd⟩
  ·have z:∃o,s.heap.get? p=some o/\o.ExactDict:=by
    rcases hk with⟨kvs,hk⟩|⟨kvs,hk⟩
    ·obtain⟨_,_,_,_,o,_,_,e,ex,_⟩:=I.hok p _ hk
     exact⟨o,e,ex⟩
    ·obtain⟨_,_,_,_,o,_,_,e,ex,_⟩:=I.hok p _ hk
     exact⟨o,e,ex⟩
   obtain⟨o,e,ex⟩:=z;refine⟨⟨o,e,ex.1⟩,fun a e2=>?_⟩;cases e2;exact⟨o,e,ex.2.1⟩
  ·obtain⟨o,_,_,_,e,ex,_⟩:=I.hok p _ hk
   refine⟨⟨o,e,ex.1⟩,fun a e2=>?_⟩;cases e2;exact⟨o,e,ex.2.1⟩
 | _=>exact JP ty
noncomputable def tBM(K:JH)(T:String)(r:V->List V->Hp->VK->Prop)(to:TE)(t:TA):TE:=fun σ H Q=>to σ H fun x H1=>tyV K T x H1/\t σ H1 fun xs H2=>r x xs H2 Q
variable{o e : Expr}{es : List Expr}{to : TE}{t : TA}{name : Str}{apos cpos : La}{T id : String}{r : V → List V → Hp → VK → Prop}
theorem AU (pa:PlainAttrs T) (slot:Slot T name id) (hty:typeOf (.builtin id)=pure (.type "method_descriptor")) (hm:MtR X id r) (ho:PE X o to) (ha:PA X (e::es) t)
  (hbase:NU o name X.env (L9 o X.env)=L9 o X.env:=by rfl)
  (hfew:((MM cpos (K1 (e::es) X.env)).all (fun x=>!x.1) && (backToKw cpos (keywordEach [] X.env)).all (fun x=>x.1.isSome)
   && decide ((e::es).length+([]:List Keyword).length+(if ([]:List Keyword).isEmpty then 0 else 1)<30))=true:=by rfl)
  (hline:(apos.endLine == cpos.line)=true:=by rfl) (hs:K1 (e::es) X.env=(false,L9 e X.env)::K1 es X.env:=by rfl) (hplain:(MM cpos (K1 es X.env)).any (·.1)=false:=by rfl) :
  PE X (.Call (.Attribute o name apos) (e::es) [] cpos) (tBM X.K T r to t):=by
 intro pins s σ H Q I h;refine R0 hbase hfew hline rfl (thn (ho pins s σ H _ I h) fun v s1 ⟨x,H1,I1,r1,ty,q1⟩=>?_);obtain⟨h1,h2⟩:=CD I1 r1 ty;refine⟨T,id,pa,slot,hty,h1,h2,?_⟩;have hA:=ha cpos pins s1 σ H1 _ I1 q1;rw[hs] at hA ⊢;refine O8 (by show (false || (MM cpos (K1 es X.env)).any (·.1))=false;rw[hplain] <;> rfl) (QS ?_)
 exact thn hA fun us s2 ⟨vs,H2,I2,r2,q2⟩=>hm pins s2 σ H2 x vs v us Q I2 r1 r2 q2
end
end L2
namespace L2
open PySem PySem.Spec PyProof.Rows
def MtM(X:Cx)(id:String)(r:V->List V->Hp->VK->Prop):Prop:=
 ∀(pins:List (Addr×Obj))(s:JM)(σ:St)(H:Hp)(x:V)(xs:List V)(v:JJ)(us:List JJ)(Q:VK),Inv X pins σ H s->RelV x v->Vals xs us->r x xs H Q->
  JZ (KM X.prog X.w) X.A (call (.builtin id) (v::us)) (EP X pins σ Q) X.xe s
theorem Vals.one:∀{x:V}{us:List JJ},Vals [x] us->∃u,us=[u]/\RelV x u
 | _,_,.cons r .nil=>⟨_,rfl,r⟩
theorem Vals.two:∀{x y:V}{us:List JJ},Vals [x,y] us->∃u v,us=[u,v]/\RelV x u/\RelV y v
 | _,_,_,.cons r (.cons q .nil)=>⟨_,_,rfl,r,q⟩
section
variable{X : Cx}{pins : List (Addr×Obj)}{σ : St}{H : Hp}{s : JM}{l b : Addr}{xs ys zs : List V}
theorem Inv.lset{its its':List JJ}{n:Nat}{f:Array JJ->Array JJ}{t':Nat}(I:Inv X pins σ H s)(hH:H l=some (.lst xs))
  (e:s.heap.get? l=some { cls:=.type "list",data:=.seq its.toArray n }) (hf:f its.toArray=its'.toArray) (hv:Vals ys its') (hz:ys.length<=sizeLine) :
  Inv X pins σ (upd H l (.lst ys)) { s with heap:=s.heap.update l (Kb f),toks:=t' }:=by
 have q:=PySem.IsL.update e f;rw[hf] at q;refine I.write (x:=l) (e:=l) (by rw[hH];exact trivial) (.inl rfl) (fun b' u hb hu=>(L7 s.heap (Kb f) (LY hb)).trans hu) ⟨_,q⟩ ?_;exact⟨hz,its',_,hv,q⟩
theorem Inv.lnew{its:List JJ}{t':Nat}(I:Inv X pins σ H s)(hv:Vals ys its)(hz:ys.length<=sizeLine) :
  Inv X pins σ (upd H s.heap.objs.size (.lst ys)) { s with heap:=s.heap.push { cls:=.type "list",data:=.seq its.toArray },toks:=t' }:=
 I.laid (fun _ _ q=>JN _ q) (K8 _) ⟨hz,its,0,hv,K6 _ rfl⟩
theorem Inv.fresh(I:Inv X pins σ H s):H s.heap.objs.size=none:=I.hok.fresh (K8 _)
theorem Inv.lstM (I:Inv X pins σ H s) (hH:H l=some (.lst xs)):xs.length<=sizeLine/\∃(its:List JJ) (n:Nat),Vals xs its/\xs.length=its.length/\s.heap.get? l=some { cls:=.type "list",data:=.seq its.toArray n }:=by
 obtain⟨z,its,n,r,e⟩:=I.hok l _ hH;exact⟨z,its,n,r,r.length,e⟩
end
section
variable{X : Cx}
def AC:V->List V->Hp->VK->Prop:=fun x vs H Q=>∃l xs y,x=.ref l/\vs=[y]/\H l=some (.lst xs)/\xs.length<sizeLine/\Q .non (upd H l (.lst (xs++[y])))
theorem oK:MtM X "list.append" AC:=by
 intro pins s σ H x vs v us Q I rx rv h;obtain⟨l,xs,y,rfl,rfl,hH,hz,q⟩:=h;cases rx;obtain⟨u,rfl,ru⟩:=rv.one;obtain⟨z,its,n,r,hl,e⟩:=I.lstM hH;refine call_meets QR ⟨_,e,rfl⟩ F.entry_list_append (F.args_list_append_2 _ _) (PySem.list_append l its.toArray n u (by rw[KG];omega)) ⟨e,?_⟩;refine⟨.non,_,I.lset (its':=its++[u]) hH e (by simp) (r.append (.cons ru .nil)) ?_,rfl,q⟩;rw[KF,MA];omega
end
end L2
namespace L2
open PySem PySem.Spec PyProof.Rows
section
variable{κ : Type}[DecidableEq κ]
noncomputable def jo(kvs:List (κ×V))(k:κ):Option V:=(kvs.find? fun kv=>decide (kv.1=k)).map (·.2)
noncomputable def putK(kvs:List (κ×V))(k:κ)(v:V):List (κ×V):=
 if (kvs.any fun kv=>decide (kv.1=k))=true then kvs.map (fun kv=>if kv.1=k then (kv.1,v) else kv) else kvs++[(k,v)]
theorem gj{p:κ×V}{r:List (κ×V)}{k:κ}(e:p.1=k):jo (p::r) k=some p.2:=by simp[jo,Kw,e]
theorem eA{p:κ×V}{r:List (κ×V)}{k:κ}(e:¬ p.1=k):jo (p::r) k=jo r k:=by simp[jo,Kw,e]
theorem gZ(k:κ):∀kvs:List (κ×V),(kvs.any fun kv=>decide (kv.1=k))=(jo kvs k).isSome
 | []=>rfl
 | p::r=>by
  rw[LK]
  by_cases e:p.1=k
  ·simp only[gj e,decide_eq_true e,Bool.true_or,Option.isSome_some]
  ·rw[eA e,decide_eq_false e,Bool.false_or];exact gZ k r
theorem dS(kvs:List (κ×V))(k:κ)(v:V):(putK kvs k v).length<=kvs.length+1:=by
 unfold putK
 split
 ·rw[JT];omega
 ·rw[KF,KU,Lb];omega
theorem pH.isSome_eq{o:Option V}{u:Option JJ}(r:pH o u):o.isSome=u.isSome:=by
 cases o with
 | none=>cases u with
  | none=>rfl
  | some _=>exact(show False from r).elim
 | some _=>cases u with
  | none=>exact(show False from r).elim
  | some _=>rfl
theorem KV.val{kvs:List (κ×V)}{vs:List (κ×JJ)}(r:KV kvs vs)(k:κ):pH (jo kvs k) (LM vs k):=by
 unfold KV at r
 induction r with
 | nil=>exact N1
 | @cons p q ps qs h t ih=>
  obtain⟨h1,h2⟩:=h
  by_cases e:p.1=k
  ·have e':q.1=k:=h1.symm.trans e
   have b:LM (q::qs) k=some q.2:=by simp[LM,Kw,e']
   rw[gj e,b];exact h2
  ·have e':¬ q.1=k:=fun z=>e (h1.trans z)
   have b:LM (q::qs) k=LM qs k:=by simp[LM,Kw,e']
   rw[eA e,b];exact ih
theorem KV.any{kvs:List (κ×V)}{vs:List (κ×JJ)}(r:KV kvs vs)(k:κ):(kvs.any fun kv=>decide (kv.1=k))=vs.any fun kv=>decide (kv.1=k):=by
 unfold KV at r
 induction r with
 | nil=>rfl
 | cons h t ih=>rw[LK,LK,ih,h.1]
theorem KV.repl{kvs:List (κ×V)}{vs:List (κ×JJ)}(r:KV kvs vs)(k:κ){y:V}{u:JJ}(ry:RelV y u) :
  KV (kvs.map fun kv=>if kv.1=k then (kv.1,y) else kv) (vs.map fun kv=>if kv.1=k then (kv.1,u) else kv):=by
 unfold KV at r ⊢
 induction r with
 | nil=>exact .nil
 | @cons p q ps qs h t ih=>
  rw[JQ,JQ];refine .cons ?_ ih;obtain⟨h1,h2⟩:=h
  by_cases e:p.1=k
  ·rw[if_pos e,if_pos (h1.symm.trans e)];exact⟨h1,ry⟩
  ·rw[if_neg e,if_neg (fun z=>e (h1.trans z))];exact⟨h1,h2⟩
theorem KV.put{kvs:List (κ×V)}{vs:List (κ×JJ)}(r:KV kvs vs)(k:κ){y:V}{u:JJ}(ry:RelV y u):KV (putK kvs k y) (Pv vs k u):=by
 unfold putK Pv;rw[r.any k]
 by_cases e:(vs.any fun kv=>decide (kv.1=k))=true
 ·rw[if_pos e,if_pos e];exact r.repl k ry
 ·rw[if_neg e,if_neg e];exact Paired.snoc r ⟨rfl,ry⟩
theorem KV.length{kvs:List (κ×V)}{vs:List (κ×JJ)}(r:KV kvs vs):kvs.length=vs.length:=Ki r
end
theorem ko{P:K5}{w:KH}{k:Key}{u:JJ}(r:RelV (kV k) u):(ak P w).is k u=true:=by
 cases k with
 | inl i=>obtain⟨t,e⟩:=(show ∃t,u=R7 i t from r);subst e;exact q8 P w i t
 | inr x=>obtain⟨t,e⟩:=(show ∃t,u=R6 x t from r);subst e;exact fC P w x t
theorem oV{P:K5}{w:KH}:∀{ks:List Key}{us:List JJ},Vals (ks.map kV) us->ItemsAre (ak P w) ks us
 | [],_,r=>by rw[M3] at r;cases r;exact .nil
 | k::ks,_,r=>by
  rw[JQ] at r;cases r with
  | cons h t=>exact .cons (ko h) (oV t)
abbrev KT(H:Hp):List (cU×V)->List (cU×Addr×JJ)->Prop:=QQ fun p q=>p.1=q.1/\f9 H q.2.1 p.1/\RelV p.2 q.2.2
theorem KT.val{H:Hp}{kvs:List (cU×V)}{xs:List (cU×Addr×JJ)}(r:KT H kvs xs)(k:cU):pH (jo kvs k) ((Qq xs k).map (·.2)):=by
 induction r with
 | nil=>exact N1
 | @cons p q ps qs h t ih=>
  obtain⟨h1,_,h2⟩:=h
  by_cases e:p.1=k
  ·have e':q.1=k:=h1.symm.trans e
   have b:Qq (q::qs) k=some q.2:=by simp[Qq,Kw,e']
   rw[gj e,b];exact h2
  ·have e':¬ q.1=k:=fun z=>e (h1.trans z)
   have b:Qq (q::qs) k=Qq qs k:=by simp[Qq,Kw,e']
   rw[eA e,b];exact ih
theorem KT.repl{H:Hp}{kvs:List (cU×V)}{xs:List (cU×Addr×JJ)}(r:KT H kvs xs)(k:cU){y:V}{u:JJ}(ry:RelV y u) :
  KT H (kvs.map fun kv=>if kv.1=k then (kv.1,y) else kv) (xs.map (putAt k u)):=by
 induction r with
 | nil=>exact .nil
 | @cons p q ps qs h t ih=>
  rw[JQ,JQ];refine .cons ?_ ih;obtain⟨h1,h2,h3⟩:=h;unfold putAt
  by_cases e:p.1=k
  ·rw[if_pos e,if_pos (h1.symm.trans e)];exact⟨h1,h2,ry⟩
  ·rw[if_neg e,if_neg (fun z=>e (h1.trans z))];exact⟨h1,h2,h3⟩
theorem KT.put{H:Hp}{kvs:List (cU×V)}{xs:List (cU×Addr×JJ)}(r:KT H kvs xs)(k:cU){b:Addr}{y:V}{u:JJ}(hb:f9 H b k)(ry:RelV y u) :
  KT H (putK kvs k y) (storedH xs k b u):=by
 have e:(kvs.any fun kv=>decide (kv.1=k))=(Qq xs k).isSome:=by
  rw[gZ,(r.val k).isSome_eq,Og]
 unfold putK storedH;rw[e]
 by_cases q:(Qq xs k).isSome=true
 ·rw[if_pos q,if_pos q];exact r.repl k ry
 ·rw[if_neg q,if_neg q];exact Paired.snoc r ⟨rfl,hb,ry⟩
theorem KT.keeps{H H':Hp}{kvs:List (cU×V)}{xs:List (cU×Addr×JJ)}(r:KT H kvs xs)(ht:∀b ys,H b=some (.tup ys)->H' b=some (.tup ys)):KT H' kvs xs:=
 Paired.mapP r fun _ _ z=>⟨z.1,z.2.1.keeps ht,z.2.2⟩
section
variable{P : K5}{w : KH}{H : Hp}{h : Heap}{a : Addr}
theorem D4{u:HO}(ok:HOk P w H h)(e:Rd H a u):dw P w H h a u:=e.ok ok
theorem BC{kvs:List (Key×V)}(ok:HOk P w H h)(e:Rd H a (.dK kvs)):kvs.length<=sizeLine/\(a == Ku)=false/\∃vs,KV kvs vs/\h.DictOf (ak P w) a vs:=
 show dw P w H h a (.dK kvs) from D4 ok e
theorem BD{kvs:List (Key×V)}(ok:HOk P w H h)(e:H a=some (.dK kvs)):kvs.length<=sizeLine/\(a == Ku)=false/\∃vs,KV kvs vs/\h.DictOf (ak P w) a vs:=BC ok (.inl e)
theorem Bt{ks:List Key}(ok:HOk P w H h)(e:H a=some (.tup (ks.map kV))):PY (ak P w) h ks a:=by
 obtain⟨_,its,r,o,h1,h2,⟨n,h3⟩,_⟩:=(show dw P w H h a (.tup (ks.map kV)) from ok a _ e);exact⟨o,its.toArray,n,h1,h2,h3,by simpa using oV r⟩
theorem k8(ok:HOk P w H h):∀{ks:cU}{vs:List V}{us:List JJ},NV H ks vs->Vals vs us->NItems (ak P w) h ks us
 | [],_,_,e,r=>by cases e;cases r;exact .nil
 | .inl k::ks,_,_,⟨t,e,m⟩,r=>by
  subst e;cases r with
  | cons h1 h2=>exact .sc (ko h1) (k8 ok m h2)
 | .inr l::ks,_,_,⟨c,t,e,hc,m⟩,r=>by
  subst e;cases r with
  | cons h1 h2=>cases h1;exact .tp (Bt ok hc) (k8 ok m h2)
theorem key_of{ks:cU}(ok:HOk P w H h)(e:f9 H a ks):(gq P w).is h ks a:=by
 obtain⟨vs,e,m⟩:=e;obtain⟨_,its,r,o,h1,h2,⟨n,h3⟩,_⟩:=(show dw P w H h a (.tup vs) from ok a _ e);exact⟨o,its.toArray,n,h1,h2,h3,by simpa using k8 ok m r⟩
theorem oJ{A:KY}(hu:A.units+16<cLine):A.in1.units+8<cLine:=show A.units+1+8<cLine by omega
theorem EB{kvs:List (cU×V)}(ok:HOk P w H h)(e:Rd H a (.dT kvs)):kvs.length<=sizeLine/\(a == Ku)=false/\
  ∃xs,KT H kvs xs/\h.DictOfH (gq P w) a xs:=by
 obtain⟨z,y,xs,r,o,es,ep,h1,h2,h3,h4,h5⟩:=(show dw P w H h a (.dT kvs) from D4 ok e);refine⟨z,y,xs,r,o,es,ep,h1,h2,h3,h4,fun x hx=>?_,h5⟩
 have all:∀{l:List (cU×V)}{m:List (cU×Addr×JJ)},KT H l m->∀x∈m,(gq P w).is h x.1 x.2.1:=by
  intro l m q
  induction q with
  | nil=>intro x hx;exact nomatch hx
  | @cons p q ps qs hq t ih=>
   intro x hx;rcases K9.mp hx with e | hx
   ·subst e
    exact key_of ok (by rw[← hq.1];exact hq.2.1)
   ·exact ih x hx
 exact all r x hx
theorem EC{kvs:List (cU×V)}(ok:HOk P w H h)(e:H a=some (.dT kvs)):kvs.length<=sizeLine/\(a == Ku)=false/\
  ∃xs,KT H kvs xs/\h.DictOfH (gq P w) a xs:=EB ok (.inl e)
end
def Ij(H:Hp)(a:Addr)(y:V)(r:Option V):Prop:=
 (∃kvs k,Rd H a (.dK kvs)/\y=kV k/\r=jo kvs k)\/∃kvs k b,Rd H a (.dT kvs)/\y=.ref b/\f9 H b k/\r=jo kvs k
def yI(H:Hp)(a:Addr)(y v:V)(H':Hp):Prop:=
 (∃kvs k,H a=some (.dK kvs)/\y=kV k/\kvs.length<sizeLine/\H'=upd H a (.dK (putK kvs k v))) ∨
 ∃kvs k b,H a=some (.dT kvs)/\y=.ref b/\f9 H b k/\kvs.length<sizeLine/\H'=upd H a (.dT (putK kvs k v))
theorem yI.k{H:Hp}{a:Addr}{kvs:List (Key×V)}{k:Key}{v:V}(e:H a=some (.dK kvs))(hl:kvs.length<sizeLine):yI H a (kV k) v (upd H a (.dK (putK kvs k v))):=.inl ⟨kvs,k,e,rfl,hl,rfl⟩
theorem yI.t{H:Hp}{a b:Addr}{kvs:List (cU×V)}{k:cU}{v:V}(e:H a=some (.dT kvs))(eb:f9 H b k)(hl:kvs.length<sizeLine) :
  yI H a (.ref b) v (upd H a (.dT (putK kvs k v))):=.inr ⟨kvs,k,b,e,rfl,eb,hl,rfl⟩
section
variable{X : Cx}{pins : List (Addr×Obj)}{σ : St}{H : Hp}{s : JM}{a : Addr}{y v : V}{u r : JJ}{o : Option V}{A : KY}{E : JJ → JM → Prop}
theorem Inv.big(I:Inv X pins σ H s):Ku<s.heap.objs.size:=by
 have h:mainGlobals<s.heap.objs.size:=(I.mod.glob.keeps I.bk).lt;exact P8 (by decide) h
theorem BH{Q:JJ->JM->Prop}(hu:A.units+16<cLine)(I:Inv X pins σ H s)(g:Ij H a y o)(ry:RelV y u)(h:∀s',Inv X pins σ H s'->Q (.bool (!o.isSome)) s') :
  JZ (KM X.prog X.w) A (Kk .NotIn u (.ref a)) Q E s:=by
 rcases g with⟨kvs,k,e,ey,l⟩|⟨kvs,k,b,e,ey,eb,l⟩
 ·subst ey
  obtain⟨z,hd,vs,rel,dd⟩:=BC I.hok e;refine wpAny_notIn_of (ko ry) hd dd.mapOf ?_;rw[← (rel.val k).isSome_eq,← l];exact h _ (I.tok _)
 ·subst ey
  cases (show u=Kh b from ry);obtain⟨z,hd,xs,rel,dd⟩:=EB I.hok e;refine wpAny_notIn_heap (oJ hu) (key_of I.hok eb) hd dd ?_;have q:=(rel.val k).isSome_eq;rw[Og] at q;rw[← q,← l];exact h _ (I.tok _)
theorem kR{h':Heap}{t':Nat}{ob:HO}(I:Inv X pins σ H s)(mu:Mut (H a))(hs:Lq a s.heap h')(he:∃q,h'.get? a=some q)(new:dw X.prog X.w (upd H a ob) h' a ob) :
  Inv X pins σ (upd H a ob) { s with heap:=h',toks:=t' }:=
 I.write (x:=a) (e:=a) mu (.inl rfl) (fun b q hb z=>(hs.2 b hb).trans z) he new
theorem vG{P:K5}{w:KH}{H':Hp}{h':Heap}{kvs:List (Key×V)}{vs:List (Key×JJ)}(z:kvs.length<=sizeLine)(hd:(a == Ku)=false)(rel:KV kvs vs)(dd:h'.DictOf (ak P w) a vs) :
  dw P w H' h' a (.dK kvs):=⟨z,hd,vs,rel,dd⟩
theorem vL{H':Hp}{Q:Unit->JM->Prop}(hu:A.units+16<cLine)(I:Inv X pins σ H s)(g:yI H a y v H')(ry:RelV y u)(rv:RelV v r)(h:∀s',Inv X pins σ H' s'->Q () s') :
  JZ (KM X.prog X.w) A (setItem (.ref a) u r) Q E s:=by
 rcases g with⟨kvs,k,e,ey,l,eH⟩|⟨kvs,k,b,e,ey,eb,l,eH⟩
 ·subst ey eH
  obtain⟨z,hd,vs,rel,dd⟩:=BD I.hok e;have hz:vs.length<=sizeLine:=by rw[← rel.length];exact z
  have hl:(putK kvs k v).length<=sizeLine:=by have:=dS kvs k v;omega
  refine wpAny_setItem_pairs (hsz:=hz) (ko ry) dd fun h' dd' hs=>h _ ?_;have he:∃q,h'.get? a=some q:=let ⟨q,_,_,hq,_⟩:=dd';⟨q,hq⟩
  exact kR I (by rw[e];exact N1) hs he (vG hl hd (rel.put k rv) dd')
 ·subst ey eH
  cases (show u=Kh b from ry);obtain⟨z,hd,xs,rel,dd⟩:=EC I.hok e;have hz:xs.length<=sizeLine:=by rw[← Ki rel];exact z
  have hl:(putK kvs k v).length<=sizeLine:=by have:=dS kvs k v;omega
  refine wpAny_setItem_heap (hsz:=hz) (oJ hu) (key_of I.hok eb) dd fun h' dd' hs=>h _ ?_;obtain⟨q,es,ep,hq,h2,h3,h4,_,h5⟩:=dd';refine kR I (by rw[e];exact N1) hs ⟨q,hq⟩ ⟨hl,hd,_,(rel.put k eb rv).keeps fun c ys ec=>?_,q,es,ep,hq,h2,h3,h4,h5⟩;rw[av (DE ec e (fun z=>nomatch z))];exact ec
end
noncomputable def Gc(td ty tv:TE):TS:=fun D σ H=>tv σ H fun v H1=>td σ H1 fun x H2=>ty σ H2 fun y H3=>∃a H4,x=.ref a/\yI H3 a y v H4/\D.nx σ H4
section
variable{X : Cx}{o i e value : Expr}{pos pos' tpos : La}{td ty tv : TE}
theorem pT(hu:X.A.units+16<cLine)(ho:PE X o td)(hi:PE X i ty)(hv:PE X value tv)(hs:MK value (some (.Subscript o i pos')) pos.line X.env=pure false) :
  PS X (.Assign [.Subscript o i pos'] value pos) (Gc td ty tv):=by
 intro pins s σ H D I h;refine wpAny_Assign_Subscript (thn (hv pins s σ H _ I h) fun r s1 ⟨v,H1,I1,rv,q1⟩=>thn (ho pins s1 σ H1 _ I1 q1) fun u s2 ⟨x,H2,I2,rx,q2⟩=>thn (hi pins s2 σ H2 _ I2 q2) fun iv s3 ⟨y,H3,I3,ry,a,H4,ex,g,q3⟩=>?_) hs;subst ex;obtain rfl:u=Kh a:=rx;exact vL hu I3 g ry rv fun s4 I4=>⟨σ,H4,I4,q3⟩
end
theorem rJ {P:K5} {w:KH} {H:Hp} (h:Heap) (hb:Ku<h.objs.size):dw P w H (h.push { cls:=.type "dict",data:=.dict #[] }) h.objs.size (.dK []):=
 ⟨Kz _,beq_eq_false_iff_ne.mpr (LY (K7 hb)),[],.nil,Nh h⟩
theorem yq {P:K5} {w:KH} {H:Hp} (h:Heap) (hb:Ku<h.objs.size):dw P w H (h.push { cls:=.type "dict",data:=.dict #[] }) h.objs.size (.dT []):=
 ⟨Kz _,beq_eq_false_iff_ne.mpr (LY (K7 hb)),[],.nil,_,#[],0,K6 _ rfl,⟨rfl,rfl,rfl⟩,rfl,rfl,List.nodup_nil⟩
def CJ:TE:=fun _ H Q=>∀p,H p=none->Q (.ref p) (upd H p (.dK []))
section
variable{X : Cx}{pos : La}
theorem xy:PE X (.Dict [] [] pos) CJ:=fun pins s σ H Q I h=>
 wpAny_Dict_empty ⟨.ref s.heap.objs.size,_,I.laid (a:=s.heap.objs.size) (o:=.dK []) (t':=s.toks) (fun _ _ q=>JN _ q) (K8 _) (rJ s.heap I.big),rfl,h _ (I.hok.fresh (K8 _))⟩
end
def oe:List (TE×TE)->St->Hp->(List (V×V)->Hp->Prop)->Prop
 | [],_,H,Q=>Q [] H
 | (tk,tv)::r,σ,H,Q=>tk σ H fun x H1=>tv σ H1 fun y H2=>oe r σ H2 fun ps H3=>Q ((x,y)::ps) H3
abbrev VV:List (V×V)->List (JJ×JJ)->Prop:=QQ fun p q=>RelV p.1 q.1/\RelV p.2 q.2
def PPs(X:Cx)(pos:La)(keys:List (Option Expr))(values:List Expr)(trs:List (TE×TE)):Prop:=
 ∀(pins:List (Addr×Obj))(s:JM)(σ:St)(H:Hp)(Q:List (V×V)->Hp->Prop),Inv X pins σ H s->oe trs σ H Q->
  JZ (KM X.prog X.w) X.A (evalPairs (pairTrees keys values X.env pos)) (fun vs s'=>∃ps H',Inv X pins σ H' s'/\VV ps vs/\Q ps H') X.xe s
theorem ub{X:Cx}{pos:La}:PPs X pos [] [] []:=fun pins s σ H Q I h=>pairTrees_nil_walk ⟨[],H,I,.nil,h⟩
theorem mH{X:Cx}{pos:La}{k v:Expr}{ks:List (Option Expr)}{vs:List Expr}{tk tv:TE}{trs:List (TE×TE)}(hk:PE X k tk)(hv:PE X v tv)(hr:PPs X pos ks vs trs) :
  PPs X pos (some k::ks) (v::vs) ((tk,tv)::trs):=fun pins s σ H Q I h=>
 pairTrees_cons_walk (thn (hk pins s σ H _ I h) fun u s1 ⟨x,H1,I1,rx,q1⟩=>thn (hv pins s1 σ H1 _ I1 q1) fun w2 s2 ⟨y,H2,I2,ry,q2⟩=>
  thn (hr pins s2 σ H2 _ I2 q2) fun ws s3 ⟨ps,H3,I3,rel,q3⟩=>⟨(x,y)::ps,H3,I3,.cons ⟨rx,ry⟩ rel,q3⟩)
def cy(kvs more:List (Key×V)):List (Key×V):=more.foldl (fun acc kv=>putK acc kv.1 kv.2) kvs
theorem KV.merge:∀{more:List (Key×V)}{rs:List (Key×JJ)}{kvs:List (Key×V)}{vs:List (Key×JJ)},KV more rs->KV kvs vs->KV (cy kvs more) (merged vs rs):=by
 intro more rs kvs vs r;unfold KV at r
 induction r generalizing kvs vs with
 | nil=>intro q;exact q
 | @cons p q ps qs h t ih=>
  intro r0
  have e:KV (putK kvs p.1 p.2) (Pv vs q.1 q.2):=by
   have:=r0.put p.1 h.2;rw[← h.1];exact this
  exact ih e
theorem ic:∀(more kvs:List (Key×V)),(cy kvs more).length<=kvs.length+more.length
 | [],kvs=>by show kvs.length<=kvs.length+0;omega
 | p::r,kvs=>by
  have h1:=ic r (putK kvs p.1 p.2);have h2:=dS kvs p.1 p.2;show (cy (putK kvs p.1 p.2) r).length<=_;rw[KU];omega
theorem m6{P:K5}{w:KH}:∀{kvs:List (Key×V)}{ws:List (JJ×JJ)},VV (kvs.map fun kv=>(kV kv.1,kv.2)) ws->∃rs,Carries (ak P w) ws rs/\KV kvs rs
 | [],_,r=>by rw[M3] at r;cases r;exact⟨[],N1,.nil⟩
 | p::kvs,_,r=>by
  rw[JQ] at r;cases r with
  | @cons a b as bs h t=>
   obtain⟨rs,c,q⟩:=m6 (P:=P) (w:=w) t;obtain⟨b1,b2⟩:=b;exact⟨(p.1,b2)::rs,⟨ko h.1,rfl,c⟩,.cons ⟨rfl,h.2⟩ q⟩
def G4(trs:List (TE×TE)):TE:=fun σ H Q=>∀p,H p=none->oe trs σ (upd H p (.dK [])) fun ps H2=>H2 p=some (.dK [])/\∃kvs:List (Key×V),ps=kvs.map (fun kv=>(kV kv.1,kv.2))/\kvs.length<=15/\Q (.ref p) (upd H2 p (.dK (cy [] kvs)))
theorem AR{X:Cx}{pos:La}{keys:List (Option Expr)}{values:List Expr}{trs:List (TE×TE)}(h:PPs X pos keys values trs)(hall:keys.all (·.isSome)=true)(hl:keys.length=values.length)(h0:keys≠[])
  (h15:keys.length<=15):PE X (.Dict keys values pos) (G4 trs):=by
 intro pins s σ H Q I q;have hn:=I.hok.fresh (K8 s.heap.objs.size);have I1:=I.laid (a:=s.heap.objs.size) (o:=.dK []) (h':=s.heap.push { cls:=.type "dict",data:=.dict #[] }) (t':=s.toks) (fun _ _ q=>JN _ q) (K8 _) (rJ s.heap I.big);refine wpAny_Dict_walk (knd:=ak X.prog X.w) hall hl h0 h15 (thn (h pins _ σ _ _ I1 (q _ hn)) fun ws s2 ⟨ps,H2,I2,rel,e,kvs,ep,lk,q2⟩=>?_);subst ep;obtain⟨rs,c,rk⟩:=m6 (P:=X.prog) (w:=X.w) rel;obtain⟨z,hd,vs0,r0,dd⟩:=BD I2.hok e;cases r0;refine⟨rs,c,dd,fun h' dd' hs=>⟨.ref s.heap.objs.size,_,?_,rfl,q2⟩⟩
 have hz:(cy [] kvs).length<=sizeLine:=by
  have h1:=ic kvs [];rw[Lb] at h1;rw[Ke];omega
 have he:∃q,h'.get? s.heap.objs.size=some q:=let ⟨q,_,_,hq,_⟩:=dd';⟨q,hq⟩
 exact kR I2 (by rw[e];exact N1) hs he (vG hz hd (rk.merge .nil) dd')
end L2
namespace Att
open PySem PySem.W PySem.Calls PyProof.Rows
theorem ku{P:Params}{h:Heap}:∀(ns:List Int)(vs:List JJ),WellAll P h vs (ns.map WData.int)->RB vs ns:=by
 intro ns
 induction ns with
 | nil=>
  intro vs w;rw[M3] at w;cases w;exact .nil
 | cons n ns ih=>
  intro vs w;rw[JQ] at w;cases w with
  | cons a b=>
   cases a;exact .cons _ _ (ih _ b)
theorem tR{l:OpenLaw}{n:Nat}(hn:l.most=some n){P:Params}{h:Heap}{args:List WData}{vals:List JJ}
  (hpre:l.row.toRowW.claim.pre args=true) (hwl:WellAll P h vals args) :
  ∃a vs ns,vals=[Kh a]/\args=[WData.list (ns.map WData.int)]/\h.get? a=some { cls:=.type "list",data:=.seq vs.toArray }/\RB vs ns/\ns.length<=n:=by
 have hsh:WShape.hasAll [] args [.list .int]=true:=(pre_splitW hpre).1;have hc:l.pre.holds [] { args:=args }=true:=(pre_splitW hpre).2;obtain⟨d,r,rfl,h1,h2⟩:=hasAllW_cons hsh;obtain rfl:=hasAllW_nil h2;obtain⟨xs,rfl,h3⟩:=hasW_list h1;obtain⟨ns,rfl⟩:=items_int h3
 have hlen:ns.length<=n:=by
  unfold OpenLaw.pre at hc
  have h4:(WTm.not (.lt (.lit (.int (n:Int))) (.len (.arg 0)))).holds [] { args:=[.list (ns.map .int)] }=true:=by
   have h4:=(holds_andW hc).1;rw[hn] at h4;exact h4
  have h5:=condW_of h4 (w_not (w_lt w_lit (w_len_list (w_arg rfl))));rw[JT] at h5;refine Pb fun q=>?_;have q':(n:Int)<((ns.length:Nat):Int):=by omega
  first
   | (rw[decide_eq_true q'] at h5;exact absurd h5 (by decide))
   | (simp at h5;omega)
 cases hwl with
 | cons w1 w2=>
  cases w2;cases w1 with
  | list ho hall=>exact⟨_,_,ns,rfl,rfl,ho,ku ns _ hall,hlen⟩
theorem uc(l:OpenLaw)(args:List WData):l.row.toRowW.claim.post args (.bool true) args=true:=
 postW_of (r:=l.row.toRowW) (X:=(true == true))
  (show WShape.has [] (.bool true) .bool=true by first | rfl | decide | simp[WShape.has,WShape.arms,WShape.armsAll])
  (show (WTm.eq .res (.lit (.bool true))).value [] { args:=args,res:=some (.bool true),after:=args }=some (.bool (true == true)) from w_eq_bool (w_res rfl) w_lit) rfl
theorem attach_call{l:OpenLaw}{n:Nat}{q:K5}{loose:List Str}{XP:(Str->Option JJ)->Heap->Prop}{YP:KH->Heap->Prop}{d:DefRec}
  (hn:l.most=some n) (hdf:d.params.defaults=[])
  (call:∀(w:KH)(s₀ s₁:JM)(mg mb:Str->Option JJ)(fa:Addr)(o:Obj)(pm cd doc:JJ)(a:Addr)(vs:List JJ)(ns:List Int),
   Ground q loose [] XP w s₀ mg mb s₁.heap->YP w s₁.heap->
   s₁.heap.get? fa=some o->o.data=.func (docDef d.name d.params d.body d.scope pm cd doc)->s₁.heap.CodeRec cd d.name->mg d.name=some (.ref fa)->
   s₁.heap.get? a=some { cls:=.type "list",data:=.seq vs.toArray }->RB vs ns->ns.length<=n->s₁.gens=#[]->
   NR (KM l.prog w) Pg (.call (.ref fa) ⟨[.ref a],[]⟩) (fun r s'=>r=.ok (.ret (.bool true))/\OldK s₁.heap s'.heap/\s'.os=s₁.os/\OV s'.gens) s₁) :
  WalkO q loose XP YP l.row.toRowW d [] (fun f vs=>Qg f vs):=by
 intro w s₀ s₁ mg mb G Y fa o pm cd doc dV kV ho hd hcd hD hmg hg args vals as hpre hlay hrd hwl hlo;obtain rfl:dV=.none:=Dflts.none hD hdf;obtain rfl:kV=.none:=Dflts.noKw hD;obtain⟨a,vs,ns,rfl,rfl,hobj,hints,hlen⟩:=tR hn hpre hwl;refine enter_call (Nl (call w s₀ s₁ mg mb fa o pm cd doc a vs ns G Y ho (fd_plain hd) hcd hmg hobj hints hlen hg) fun r s' hq=>?_);obtain⟨rfl,h2,h3,h4⟩:=hq;exact⟨.inl ⟨.bool true,.bool true,[],rfl,fun _=>rfl,.bool true,uc l _,fun _=>⟨List.Pairwise.nil,fun _ hm=>(nomatch hm)⟩⟩,h2,h3,h4⟩
end Att
namespace L2
open PySem PySem.Spec PyProof.Rows
theorem nY:∀{vs:List JJ}{ns:List Int},RB vs ns->Vals (ns.map V.int) vs
 | _,_,.nil=>.nil
 | _,_,.cons n t h=>.cons ⟨t,rfl⟩ (nY h)
end L2
namespace L2
open PySem PySem.Spec PyProof.Rows
noncomputable def da(s:Stmt):Arguments:=match s with
 | .FunctionDef _ a _ _ _ _ _ _ _ _=>a
 | _=>{ posonlyargs:=[],args:=[],vararg:=none,kwonlyargs:=[],kw_defaults:=[],kwarg:=none,defaults:=[] }
noncomputable def aW(s:Stmt):List Stmt:=match s with
 | .FunctionDef _ _ b _ _ _ _ _ _ _=>b
 | _=>[]
noncomputable def ae(s:Stmt):Scope:=match s with
 | .FunctionDef _ _ _ _ _ _ sc _ _ _=>sc
 | _=>{ kind:=.function,names:=[],isGenerator:=false,isCoroutine:=false }
abbrev CX0:CXT:=fun _ _ _ _ _ _=>False
abbrev E0:XK:=fun _ _ _=>False
theorem AV{X:Cx}:Passes CX0 X E0:=fun _ _ _ _ _ _ _ h=>h.elim
structure Fun(K:JH)(x qual:Str)(st:Stmt)(f:Addr)(fd:FuncData):Prop where
 ex:∃(oc:JJ)(od:Option Addr)(kV doc pm:JJ)(an:Option Addr)(cdv ct:JJ)(osl:Array (Option JJ)),
  fd=L6 x qual (da st) (aW st) (ae st) .none kV doc pm an cdv ct/\K.lookup f=some ⟨oc,od,.func fd,osl⟩/\Lr K cdv qual=true
 kp:LI K (.ref f)=true
section
variable{P : K5}{w : KH}{K : JH}{mg : Str → Option JJ}{base : Heap}
theorem Fun.ok{x qual:Str}{st:Stmt}{f:Addr}{fd:FuncData}{N ps:List Str}{k:Nat}{sp:Sp}(F:Fun K x qual st f fd)(S:FnScope N ps (ae st))(len:∀vs H Q E,sp vs H Q E->vs.length=ps.length)
  (hbody:∀(cdv:JJ)(A:KY)(outer:List Ow)(s:JM)(H:Hp)(vs:List V)(Q:VK)(E:XK),Room k (A.deeper (Mm qual (ae st) s.heap.objs.size f cdv))->sp vs H Q E->
   ∃t,PSs (zS CX0 P w K mg base N qual (ae st) f cdv A outer s H E).nox (aW st) t/\t { nx:=fun _ H'=>Q .non H',rt:=Q } (start N vs) H):FnOk P w K mg base CX0 (k+1) f fd ps sp:=by
 obtain⟨oc,od,kV,doc,pm,an,cdv,ct,osl,rfl,lk,hcd⟩:=F.ex;refine Ek lk hcd S len fun A outer s H vs Q E hr hsp=>?_;obtain⟨t,h,q⟩:=hbody cdv A outer s H vs Q E hr hsp;exact⟨t,h.nox,q⟩
theorem Fun.binds{x qual:Str}{st:Stmt}{f:Addr}{fd:FuncData}{ps:List Str}(F:Fun K x qual st f fd)
  (h:∀(kV doc pm:JJ)(an:Option Addr)(cdv ct:JJ)(us:List JJ),us.length=ps.length->Os (L6 x qual (da st) (aW st) (ae st) .none kV doc pm an cdv ct) ⟨us,[]⟩=pure (ps.zip us)):Binds K fd ps []:=by
 obtain⟨oc,od,kV,doc,pm,an,cdv,ct,osl,rfl,lk,hcd⟩:=F.ex;exact .all (h kV doc pm an cdv ct)
theorem rA{x qual:Str}{st:Stmt}{f:Addr}{oc:JJ}{od an:Option Addr}{osl:Array (Option JJ)}{kV doc pm cdv ct:JJ}(l:K.lookup f=some ⟨oc,od,.func (L6 x qual (da st) (aW st) (ae st) .none kV doc pm an cdv ct),osl⟩)
  (c:Lr K cdv qual=true) (k:LI K (.ref f)=true):Fun K x qual st f (L6 x qual (da st) (aW st) (ae st) .none kV doc pm an cdv ct):=⟨⟨oc,od,kV,doc,pm,an,cdv,ct,osl,rfl,l,c⟩,k⟩
end
theorem E8{A B:Prop}(h:B):if false=true then A else B:=by
 rw[if_neg JU];exact h
theorem E7{A B:Prop}(h:A):if true=true then A else B:=by
 rw[if_pos rfl];exact h
end L2
end
namespace PU
theorem xS(s:PySem.Str)(l:List PySem.Str):PySem.Txt.join s l=OS s l:=PySem.StrLaws.glued_eq_join s l
end PU
section
namespace PU
open PySem L2
structure Lam where
 qual:Str
 args:Arguments
 body:FuncBody
 scope:Scope
 kept:List Str
 name:Str
inductive PV where
 | non | bl (b:Bool) | int (i:Int) | str (x:Str)
 | tup (ps:List PV) | lst (ps:List PV)
 | dct (ks:List Key) (ps:List PV) | dtt (ks:List cU) (ps:List PV)
 | fn (L:Lam) (cs:List PV)
structure PX where
 cls:Str
 args:List PV
inductive R (α:Type) where
 | ok (a:α) | er (x:PX) | no
namespace R
protected noncomputable def bind{α β:Type}:R α->(α->R β)->R β
 | ok a,f=>f a
 | er x,_=>er x
 | no,_=>no
instance:Monad R where
 pure:=R.ok
 bind:=R.bind
@[simp] theorem ok_bind{α β:Type}(a:α)(f:α->R β):(R.ok a >>= f)=f a:=rfl
@[simp] theorem H8{α β:Type}(x:PX)(f:α->R β):((R.er x:R α) >>= f)=R.er x:=rfl
@[simp] theorem GF{α β:Type}(f:α->R β):((R.no:R α) >>= f)=R.no:=rfl
@[simp] theorem Gm{α:Type}(a:α):(pure a:R α)=R.ok a:=rfl
def ofO{α:Type}:Option α->R α
 | some a=>ok a
 | none=>no
@[simp] theorem ofO_some{α:Type}(a:α):ofO (some a)=R.ok a:=rfl
@[simp] theorem ofO_none{α:Type}:ofO (none:Option α)=R.no:=rfl
theorem bind_assoc{α β γ:Type}(r:R α)(f:α->R β)(g:β->R γ):((r >>= f) >>= g)=(r >>= fun a=>f a >>= g):=by cases r <;> rfl
end R
inductive Sl where
 | no | val (p:PV) | own (p:PV) | pin (ps:List PV) (a:Nat)
abbrev PSt:=List Sl
noncomputable def getV(i:Nat)(ρ:PSt):R PV:=match ρ[i]? with
 | some (.val p)=>.ok p
 | _=>.no
noncomputable def lX(i:Nat)(ρ:PSt):R PV:=match ρ[i]? with
 | some (.val p)=>.ok p
 | some (.own p)=>.ok p
 | some (.pin ps _)=>.ok (.lst ps)
 | _=>.no
def kI(i:Int):PSt->R PV:=fun _=>.ok (.int i)
def kB(b:Bool):PSt->R PV:=fun _=>.ok (.bl b)
def kN:PSt->R PV:=fun _=>.ok .non
def kS(x:Str):PSt->R PV:=fun _=>.ok (.str x)
def kP(p:PV):PSt->R PV:=fun _=>.ok p
def aI:PSt->R (List PV):=fun _=>.ok []
noncomputable def ab(f:PSt->R PV)(fs:PSt->R (List PV)):PSt->R (List PV):=fun ρ=>f ρ >>= fun p=>fs ρ >>= fun ps=>.ok (p::ps)
noncomputable def fJ(ps:List PV):R (List PV):=if ps.length<=16777216 then .ok ps else .no
def dB(fs:PSt->R (List PV)):PSt->R PV:=fun ρ=>fs ρ >>= fun ps=>fJ ps >>= fun ps=>.ok (.tup ps)
def l7(fs:PSt->R (List PV)):PSt->R PV:=fun ρ=>fs ρ >>= fun ps=>fJ ps >>= fun ps=>.ok (.lst ps)
noncomputable def aq(fa fb:PSt->R PV)(g:PV->PV->Option PV):PSt->R PV:=fun ρ=>fa ρ >>= fun p=>fb ρ >>= fun q=>R.ofO (g p q)
noncomputable def rN(fa fb fc:PSt->R PV)(g g':PV->PV->Option PV):PSt->R PV:=fun ρ=>fa ρ >>= fun p=>fb ρ >>= fun q=>R.ofO (g p q) >>= fun z=>match z with
 | .bl true=>fc ρ >>= fun r=>R.ofO (g' q r)
 | .bl false=>.ok (.bl false)
 | _=>.no
noncomputable def tF:PV->Option Bool
 | .non=>some false
 | .bl b=>some b
 | .int i=>some (i != 0)
 | .str y=>if y.length<=16777216 then some ((y.length:Int) != 0) else none
 | .tup ps=>some (!ps.isEmpty)
 | .lst ps=>some (!ps.isEmpty)
 | .dct ks _=>some (!ks.isEmpty)
 | .dtt _ _=>none
 | .fn _ _=>none
def dZ(f:PSt->R PV):PSt->R Bool:=fun ρ=>f ρ >>= fun p=>R.ofO (tF p)
noncomputable def fK:PV->PV->Option PV
 | .int i,.int j=>some (.int (i+j))
 | .str x,.str y=>if x.length+y.length<=16777216 then some (.str (x++y)) else none
 | .lst ps,.lst qs=>if ps.length+qs.length<=16777216 then some (.lst (ps++qs)) else none
 | .tup ps,.tup qs=>if ps.length+qs.length<=16777216 then some (.tup (ps++qs)) else none
 | _,_=>none
noncomputable def Ef:PV->PV->Option PV
 | .int i,.int j=>some (.int (i-j))
 | _,_=>none
noncomputable def ve:PV->PV->Option PV
 | .int i,.int j=>if i.natAbs<18446744073709551616\/j.natAbs<18446744073709551616 then some (.int (i * j)) else none
 | _,_=>none
noncomputable def Eg:PV->PV->Option PV
 | .int i,.int j=>if 0<j/\j<1073741824 then some (.int (i / j)) else none
 | _,_=>none
noncomputable def e9:PV->PV->Option PV
 | .int i,.int j=>if 0<j then some (.int (i % j)) else none
 | _,_=>none
inductive Fl where
 | next (ρ:PSt) | brk (ρ:PSt) | cont (ρ:PSt) | ret (p:PV)
noncomputable def aU(g g':PSt->R Fl):PSt->R Fl:=fun ρ=>g ρ >>= fun fl=>match fl with
 | .next ρ'=>g' ρ'
 | .brk ρ'=>.ok (.brk ρ')
 | .cont ρ'=>.ok (.cont ρ')
 | .ret p=>.ok (.ret p)
def cO:PSt->R Fl:=fun ρ=>.ok (.next ρ)
noncomputable def cG(f:PSt->R PV):PSt->R Fl:=fun ρ=>f ρ >>= fun p=>.ok (.ret p)
noncomputable def ifF(t:PSt->R Bool)(g g':PSt->R Fl):PSt->R Fl:=fun ρ=>t ρ >>= fun k=>if k=true then g ρ else g' ρ
noncomputable def cn(i:Nat)(f:PSt->R PV):PSt->R Fl:=fun ρ=>f ρ >>= fun p=>.ok (.next (ρ.set i (.val p)))
noncomputable def pI(i:Nat)(f:PSt->R PV):PSt->R Fl:=fun ρ=>f ρ >>= fun p=>.ok (.next (ρ.set i (.own p)))
def EY:PSt->R Fl:=fun ρ=>.ok (.brk ρ)
noncomputable def vi(i:Nat)(ρ:PSt):PSt:=match ρ[i]? with
 | some (.own p)=>ρ.set i (.val p)
 | _=>ρ
def zI(i:Nat)(g:PSt->R Fl):PSt->R Fl:=fun ρ=>g (vi i ρ)
abbrev Tgt:=PV->PSt->Option PSt
abbrev wc:=List PV->PSt->Option PSt
def aC(i:Nat):Tgt:=fun p ρ=>some (ρ.set i (.val p))
noncomputable def jv:wc:=fun ps ρ=>match ps with
 | []=>some ρ
 | _::_=>none
def bt(h:Tgt)(h':wc):wc:=fun ps ρ=>match ps with
 | p::r=>(h p ρ).bind fun ρ1=>h' r ρ1
 | []=>none
noncomputable def jq(n:Nat)(h:wc):Tgt:=fun p ρ=>match p with
 | .tup ps=>if ps.length=n then h ps ρ else none
 | _=>none
noncomputable def fO(h:PV->PSt->Option PSt)(g:PSt->R Fl):List PV->PSt->R Fl
 | [],ρ=>.ok (.next ρ)
 | p::ps,ρ=>R.ofO (h p ρ) >>= fun ρ1=>g ρ1 >>= fun fl=>match fl with
  | .next ρ2=>fO h g ps ρ2
  | .cont ρ2=>fO h g ps ρ2
  | .brk ρ2=>.ok (.next ρ2)
  | .ret q=>.ok (.ret q)
def kJ(fi:PSt->R (List PV))(h:Tgt)(g:PSt->R Fl):PSt->R Fl:=fun ρ=>fi ρ >>= fun ps=>fO h g ps ρ
noncomputable def aO(fs:PSt->R (List PV))(F:List PV->Option PV):PSt->R PV:=fun ρ=>fs ρ >>= fun ps=>R.ofO (F ps)
noncomputable def start(n:Nat)(ps:List PV):PSt:=ps.map Sl.val++KZ (n-ps.length) .no
def ff(m n:Nat)(g:PSt->R Fl)(ps:List PV):Option PV:=if ps.length=m then (match g (start n ps) with
 | .ok (.ret p)=>some p
 | .ok (.next _)=>some .non
 | _=>none) else none
def roS:Option Sl->Sl
 | some (.val p)=>.val p
 | _=>.no
noncomputable def cF(nt:Nat)(idx:List Nat)(ρ:PSt):PSt:=KZ nt .no++idx.map fun i=>roS ρ[i]?
noncomputable def de(h:Tgt)(t:PSt->R Bool)(fe:PSt->R PV)(ρ:PSt):List PV->R (List PV)
 | []=>.ok []
 | p::ps=>R.ofO (h p ρ) >>= fun ρ1=>t ρ1 >>= fun b=>if b=true then fe ρ1 >>= fun q=>de h t fe ρ ps >>= fun qs=>.ok (q::qs) else de h t fe ρ ps
def B0{α:Type}:R α->R α
 | .ok a=>.ok a
 | _=>.no
def iB(fi:PSt->R (List PV))(h:Tgt)(t:PSt->R Bool)(fe:PSt->R PV)(nt:Nat)(idx:List Nat):PSt->R PV:=
 fun ρ=>fi ρ >>= fun ps=>B0 (de h t fe (cF nt idx ρ) ps) >>= fun qs=>fJ qs >>= fun qs=>.ok (.lst qs)
def qB:PSt->R Bool:=fun _=>.ok true
mutual
noncomputable def bS:PV->PV->Option Bool
 | .non,q=>match q with
  | .non=>some true | .bl _=>some false | .int _=>some false | .str _=>some false | .tup _=>some false | .lst _=>some false | _=>none
 | .bl a,q=>match q with
  | .bl b=>some (a == b) | .int b=>some ((if a then 1 else 0) == b) | .non=>some false | .str _=>some false | .tup _=>some false | .lst _=>some false | _=>none
 | .int a,q=>match q with
  | .int b=>some (a == b) | .bl b=>some (a == (if b then 1 else 0)) | .non=>some false | .str _=>some false | .tup _=>some false | .lst _=>some false | _=>none
 | .str a,q=>match q with
  | .str b=>some (a == b) | .non=>some false | .bl _=>some false | .int _=>some false | .tup _=>some false | .lst _=>some false | _=>none
 | .tup ps,q=>match q with
  | .tup qs=>cX ps qs | .non=>some false | .bl _=>some false | .int _=>some false | .str _=>some false | .lst _=>some false | _=>none
 | .lst ps,q=>match q with
  | .lst qs=>cX ps qs | .non=>some false | .bl _=>some false | .int _=>some false | .str _=>some false | .tup _=>some false | _=>none
 | _,_=>none
noncomputable def cX:List PV->List PV->Option Bool
 | [],[]=>some true
 | [],_::_=>some false
 | _::_,[]=>some false
 | p::ps,q::qs=>(bS p q).bind fun a=>(cX ps qs).bind fun b=>some (a && b)
end
mutual
noncomputable def xB:PV->Nat
 | .tup ps=>e8 ps+1
 | .lst ps=>e8 ps+1
 | .dct _ ps=>e8 ps+1
 | .dtt _ ps=>e8 ps+1
 | .fn _ ps=>e8 ps+1
 | _=>0
noncomputable def e8:List PV->Nat
 | []=>0
 | p::ps=>max (xB p) (e8 ps)
end
def gQ(ps qs:List PV)(j:Nat):Bool:=match ps[j]?,qs[j]? with
 | some p,some q=>(bS p q).getD false
 | _,_=>false
noncomputable def nV:PV->Bool
 | .non=>true | .bl _=>true | .int _=>true | .str _=>true
 | _=>false
noncomputable def scV:PV->V
 | .bl b=>.bl b | .int i=>.int i | .str x=>.str x
 | _=>.non
noncomputable def bT:List Key->List PV->Key->Option PV
 | k::ks,p::ps,j=>if k=j then some p else bT ks ps j
 | _,_,_=>none
def ky(e:PV->PV->Option Bool):List Key->List PV->List Key->List PV->Option Bool
 | k::ks,p::ps,ls,qs=>match bT ls qs k with
  | none=>some false
  | some q=>(e p q).bind fun a=>(ky e ks ps ls qs).bind fun b=>some (a && b)
 | [],[],_,_=>some true
 | _,_,_,_=>none
def wq:Nat->PV->PV->Option Bool
 | n+1,.dct ks ps,.dct ls qs=>if ks.length=ls.length then ky (wq n) ks ps ls qs else some false
 | _,p,q=>bS p q
def gEq:PV->PV->Option PV
 | .dct ks ps,.dct ls qs=>if e8 ps<=60 then (wq 3 (.dct ks ps) (.dct ls qs)).map .bl else none
 | .tup ps,.tup qs=>if e8 ps<=60 then (cX ps qs).map .bl else none
 | .lst ps,.lst qs=>if e8 ps<=60 then (cX ps qs).map .bl else none
 | p,q=>if nV p=true/\nV q=true/\Aw (scV p) (scV q)=true then some (.bl (decide (scV p=scV q))) else none
def gNe:PV->PV->Option PV
 | .tup ps,.tup qs=>if e8 ps<=60 then (cX ps qs).map fun b=>.bl (!b) else none
 | .lst ps,.lst qs=>if e8 ps<=60 then (cX ps qs).map fun b=>.bl (!b) else none
 | p,q=>if nV p=true/\nV q=true/\Aw (scV p) (scV q)=true then some (.bl (!decide (scV p=scV q))) else none
noncomputable def gLt:PV->PV->Option PV
 | .int i,.int j=>some (.bl (decide (i<j)))
 | .str x,.str y=>some (.bl (decide (x.cps.toList<y.cps.toList)))
 | _,_=>none
noncomputable def gLe:PV->PV->Option PV
 | .int i,.int j=>some (.bl (decide (i<=j)))
 | .str x,.str y=>some (.bl (!decide (y.cps.toList<x.cps.toList)))
 | _,_=>none
noncomputable def gGt:PV->PV->Option PV
 | .int i,.int j=>some (.bl (decide (j<i)))
 | _,_=>none
noncomputable def gGe:PV->PV->Option PV
 | .int i,.int j=>some (.bl (decide (j<=i)))
 | _,_=>none
def Ec:PV->Bool
 | .non=>true
 | _=>false
noncomputable def yd:PV->PV->Option PV
 | p,.non=>some (.bl (Ec p))
 | _,_=>none
noncomputable def e6:PV->Option Key
 | .int i=>some (.inl i)
 | .str x=>some (.inr x)
 | _=>none
def gIx:PV->PV->Option PV
 | .lst ps,.int i=>atI ps i
 | .tup ps,.int i=>atI ps i
 | .str z,.int i=>if z.length<=16777216 then (atI z.cps.toList i).map fun c=>.str ⟨#[c]⟩ else none
 | .dct ks ps,k=>(e6 k).bind fun k=>bT ks ps k
 | _,_=>none
def inS(x y:Str):Bool:=!(Na y x 0 y.length 1).isEmpty
def gIn:PV->PV->Option PV
 | .str x,.str y=>some (.bl (inS x y))
 | p,.lst qs=>if nV p=true/\qs.all nV=true then some (.bl (inV (scV p) (qs.map scV))) else none
 | p,.tup qs=>if nV p=true/\qs.all nV=true then some (.bl (inV (scV p) (qs.map scV))) else none
 | p,.dct ks _=>(e6 p).map fun k=>.bl (ks.any fun j=>decide (j=k))
 | _,_=>none
def c5(p q:PV):Option PV:=(gIn p q).bind fun z=>match z with
 | .bl b=>some (.bl (!b))
 | _=>none
noncomputable def BY(t u:PSt->R Bool):PSt->R Bool:=fun ρ=>t ρ >>= fun c=>if c=true then u ρ else .ok false
noncomputable def orB(t u:PSt->R Bool):PSt->R Bool:=fun ρ=>t ρ >>= fun c=>if c=true then .ok true else u ρ
noncomputable def Dw(t:PSt->R Bool):PSt->R Bool:=fun ρ=>t ρ >>= fun c=>.ok (!c)
noncomputable def ifV(t:PSt->R Bool)(fa fb:PSt->R PV):PSt->R PV:=fun ρ=>t ρ >>= fun c=>if c=true then fa ρ else fb ρ
noncomputable def un1(f:PSt->R PV)(g:PV->Option PV):PSt->R PV:=fun ρ=>f ρ >>= fun p=>R.ofO (g p)
noncomputable def rj:PV->Option PV
 | .lst ps=>some (.int ps.length)
 | .tup ps=>some (.int ps.length)
 | .str x=>if x.length<=16777216 then some (.int x.length) else none
 | .dct ks _=>some (.int ks.length)
 | _=>none
noncomputable def FF:PV->Option PV
 | .int i=>some (.int i)
 | .bl b=>some (.int (if b then 1 else 0))
 | _=>none
noncomputable def ri:PV->Option PV
 | .lst ps=>some (.tup ps)
 | .tup ps=>some (.tup ps)
 | _=>none
def wx:Key->PV
 | .inl i=>.int i
 | .inr x=>.str x
def fQ(x:Str):List PV:=x.cps.toList.map fun c=>.str ⟨#[c]⟩
noncomputable def gz:PV->Option (List PV)
 | .lst ps=>some ps
 | .tup ps=>some ps
 | .dct ks _=>some (ks.map wx)
 | .str x=>some (fQ x)
 | _=>none
def itF(f:PSt->R PV):PSt->R (List PV):=fun ρ=>f ρ >>= fun p=>R.ofO (gz p)
noncomputable def ck(lo:Int)(n:Nat):List PV:=(KQ n).map fun i=>.int (lo+(i:Nat))
def z6(f:PSt->R PV):PSt->R (List PV):=fun ρ=>f ρ >>= fun p=>match p with
 | .int j=>if j.natAbs<1000000000 then .ok (ck 0 j.toNat) else .no
 | _=>.no
def C8(f f2:PSt->R PV):PSt->R (List PV):=fun ρ=>f ρ >>= fun p=>f2 ρ >>= fun q=>match p,q with
 | .int i,.int j=>if i.natAbs<1000000000/\j.natAbs<1000000000 then .ok (ck i (j-i).toNat) else .no
 | _,_=>.no
noncomputable def sS(i:Nat)(f:PSt->R PV):PSt->R Fl:=fun ρ=>match ρ[i]? with
 | some (.own (.lst ps))=>f ρ >>= fun p=>if ps.length<16777216 then .ok (.next (ρ.set i (.own (.lst (ps++[p]))))) else .no
 | _=>.no
noncomputable def zj(ps:List PV):List (List PV):=(KQ ps.length).zipWith (fun (i:Nat) p=>[.int (i:Int),p]) ps
def sL:PV->Option (List PV)
 | .lst ps=>some ((zj ps).map .tup)
 | .str x=>some ((zj (fQ x)).map .tup)
 | _=>none
def yi(f:PSt->R PV):PSt->R (List PV):=fun ρ=>f ρ >>= fun p=>R.ofO (sL p)
noncomputable def jc(ks:List Key)(ps:List PV):List (List PV):=ks.zipWith (fun k p=>[wx k,p]) ps
noncomputable def Ie:PV->Option PV
 | .int i=>if i.natAbs.log2<1920 then some (.str (toString i)) else none
 | .str x=>some (.str x)
 | _=>none
def wB:PV->Option PV
 | .int i=>some (.int (-i))
 | _=>none
def Ea:PV->Bool
 | .str _=>true
 | _=>false
noncomputable def xM(fo fe:PSt->R PV)(g:PV->PV->Option PV):PSt->R PV:=fun ρ=>fo ρ >>= fun p=>if Ea p=true then fe ρ >>= fun q=>R.ofO (g p q) else .no
noncomputable def jk:List PV->Option (List Str)
 | []=>some []
 | .str x::r=>(jk r).map (x::·)
 | _::_=>none
def vg:PV->PV->Option PV
 | .str x,.lst ps=>(jk ps).bind fun ys=>if (ys.map (·.length)).sum+ys.length * x.length<=16777216 then some (.str (Txt.join x ys)) else none
 | .str x,.tup ps=>(jk ps).bind fun ys=>if (ys.map (·.length)).sum+ys.length * x.length<=16777216 then some (.str (Txt.join x ys)) else none
 | _,_=>none
def pL{α:Type}(xs:List α)(lo hi:Option Int):List α:=(xs.drop (HT.sIx xs.length 0 lo)).take (HT.sIx xs.length xs.length hi-HT.sIx xs.length 0 lo)
def gSl:PV->Option Int->Option Int->Option PV
 | .lst ps,lo,hi=>some (.lst (pL ps lo hi))
 | .tup ps,lo,hi=>if HT.sIx ps.length 0 lo=0/\HT.sIx ps.length ps.length hi=ps.length then none else some (.tup (pL ps lo hi))
 | _,_,_=>none
def eX:PSt->R (Option Int):=fun _=>.ok none
noncomputable def j3(f:PSt->R PV):PSt->R (Option Int):=fun ρ=>f ρ >>= fun p=>match p with
 | .int i=>.ok (some i)
 | _=>.no
def jN(f:PSt->R PV)(l h:PSt->R (Option Int)):PSt->R PV:=fun ρ=>f ρ >>= fun p=>l ρ >>= fun lo=>h ρ >>= fun hi=>R.ofO (gSl p lo hi)
noncomputable def jm(ks:List Key)(ps:List PV)(k:Key)(p:PV):List PV:=ks.zipWith (fun j q=>if j=k then p else q) ps
def gD(ks:List Key)(ps:List PV)(k:Key)(p:PV):PV:=if (ks.any fun j=>decide (j=k))=true then .dct ks (jm ks ps k p) else .dct (ks++[k]) (ps++[p])
noncomputable def so(i:Nat)(fk fv:PSt->R PV):PSt->R Fl:=fun ρ=>match ρ[i]? with
 | some (.own (.dct ks ps))=>fv ρ >>= fun p=>fk ρ >>= fun kp=>R.ofO (e6 kp) >>= fun k=>if ks.length<16777216 then .ok (.next (ρ.set i (.own (gD ks ps k p)))) else .no
 | _=>.no
def newD:PSt->R PV:=fun _=>.ok (.dct [] [])
def DA:PSt->R (List (Key×PV)):=fun _=>.ok []
def pq(fk fv:PSt->R PV)(f:PSt->R (List (Key×PV))):PSt->R (List (Key×PV)):=fun ρ=>fk ρ >>= fun kp=>R.ofO (e6 kp) >>= fun k=>fv ρ >>= fun p=>f ρ >>= fun r=>.ok ((k,p)::r)
def i7(kps:List (Key×PV)):PV:=kps.foldl (fun d kp=>match d with
 | .dct ks ps=>gD ks ps kp.1 kp.2
 | d=>d) (.dct [] [])
end PU
end
namespace PU
open PySem PySem.Spec PyProof.Rows L2
def iS:Expr->Bool
 | .Starred ..=>false
 | _=>true
theorem bC{e:Expr}{es:List Expr}{env:Ow}(h:iS e=true):K1 (e::es) env=(false,L9 e env)::K1 es env:=by
 cases e <;> first | rfl | cases h
theorem bX{e:Expr}{env:Ow}(h:iS e=true):K1 [e] env=[(false,L9 e env)]:=bC h
theorem x8{e e2:Expr}{env:Ow}(h:iS e=true)(h2:iS e2=true):K1 [e,e2] env=[(false,L9 e env),(false,L9 e2 env)]:=(bC h).trans (congrArg _ (bX h2))
theorem fg{pos:La}{es:List Expr}{env:Ow}(h:es.all iS=true):(MM pos (K1 es env)).any (·.1)=false:=by
 have:∀es:List Expr,es.all iS=true->(K1 es env).any (·.1)=false:=by
  intro es
  induction es with
  | nil=>intro _;rfl
  | cons e es ih=>
   intro h;simp only[M9,Ks] at h;rw[bC h.1,LK,ih h.2];rfl
 have h2:=this es h
 have h3:(MM pos (K1 es env)).map (·.1)=(K1 es env).map (·.1):=by
  unfold MM;simp[K4,Function.comp_def]
 have:(MM pos (K1 es env)).any (·.1)=((MM pos (K1 es env)).map (·.1)).any id:=by rw[Lg];rfl
 rw[this,h3,Lg];exact h2
class TW where
 w:KH
 tabs:List Addr:=[]
 qual:Nat->Nat->Str:=fun _ _=>⟨#[]⟩
variable[TW]
def dY(c:Addr)(q:Str):HO:=.ext fun h=>h.CodeRec (.ref c) q
def TOk(H:Hp)(ps:Array JJ):Prop:=TriplesOk ps.toList/\∀pos v,Me pos ps.toList=some v->∃c,v=.ref c/\H c=some (dY c (TW.qual pos.line pos.col))
def xW:HO->Bool
 | .tbl _=>true
 | _=>false
structure Same(H H':Hp):Prop where
 at_:∀b o,H b=some o->∀(n:xW o=false:=by rfl),H' b=some o
 tb:∀b ps,H b=some (.tbl ps)->∃ps',H' b=some (.tbl ps')/\(TOk H ps->TOk H' ps')
instance {H H':Hp}:CoeFun (Same H H') (fun _=>∀b o,H b=some o->∀(n:xW o=false:=by rfl),H' b=some o):=⟨@Same.at_ _ H H'⟩
theorem TOk.same{H H':Hp}{ps:Array JJ}(h:∀b o,H b=some o->xW o=false->H' b=some o)(t:TOk H ps):TOk H' ps:=
 ⟨t.1,fun pos v e=>let ⟨c,e1,e2⟩:=t.2 pos v e;⟨c,e1,h _ _ e2 rfl⟩⟩
theorem Same.of{H H':Hp}(h:∀b o,H b=some o->H' b=some o):Same H H':=
 ⟨fun b o e _=>h b o e,fun b ps e=>⟨ps,h b _ e,TOk.same fun b o e _=>h b o e⟩⟩
theorem Same.refl(H:Hp):Same H H:=.of fun _ _ h=>h
theorem Same.trans{H H1 H2:Hp}(a:Same H H1)(b:Same H1 H2):Same H H2:=
 ⟨fun c o h n=>b.at_ c o (a.at_ c o h n) n,fun c ps e=>by
  obtain⟨p1,e1,k1⟩:=a.tb c ps e;obtain⟨p2,e2,k2⟩:=b.tb c p1 e1;exact⟨p2,e2,fun t=>k2 (k1 t)⟩⟩
theorem Same.free{H H':Hp}(e:Same H H'){l:Addr}(h:H' l=Option.none):H l=Option.none:=by
 cases q:H l with
 | none=>rfl
 | some o=>
  cases ho:xW o with
  | false=>rw[e.at_ l o q ho] at h;cases h
  | true=>
   cases o <;> cases ho
   obtain⟨p1,e1,_⟩:=e.tb l _ q;rw[e1] at h;cases h
def rQ(H:Hp):Prop:=∀P∈TW.tabs,∃ps,H P=some (.tbl ps)/\TOk H ps
theorem Same.tabs{H H':Hp}(s:Same H H')(t:rQ H):rQ H':=fun P hP=>by
 obtain⟨ps,e,k⟩:=t P hP;obtain⟨p1,e1,k1⟩:=s.tb P ps e;exact⟨p1,e1,k1 k⟩
def F7(K:JH)(a:Addr)(xs:List V):Prop:=
 ∃(its:List JJ) (n:Nat),K.lookup a=some { cls:=.type "list",data:=.seq its.toArray n }/\xs.length<=sizeLine/\Vals xs its
def we(K:JH)(a:Addr)(kvs:List (Key×V)):Prop:=
 kvs.length<=sizeLine/\(a == Ku)=false/\∃(o:Obj)(es:Array DictEntry)(ep:Nat),K.lookup a=some o/\o.ExactDict/\o.data=.dict es ep/\
  ∀P:K5,∃vs,KV kvs vs/\PySem.KeysOf (ak P TW.w) es/\Pairs (ak P TW.w) es.toList vs/\(vs.map (·.1)).Nodup
theorem we.at{K:JH}{a:Addr}{kvs:List (Key×V)}(h:we K a kvs)(P:K5)(w:KH)(hw:w=TW.w)(hp:Heap)(hk:K.In hp):∃vs,KV kvs vs/\hp.DictOf (ak P w) a vs:=by
 subst hw;obtain⟨_,_,o,es,ep,e,x,d,r⟩:=h;obtain⟨vs,r1,r2⟩:=r P;exact⟨vs,r1,o,es,ep,hk _ _ e,x,d,r2⟩
def SqO(K:JH)(H:Hp)(a:Addr)(xs:List V):Prop:=Rd H a (.lst xs)\/F7 K a xs
theorem SqO.l{K:JH}{H:Hp}{a:Addr}{xs:List V}(h:SqO K H a xs):SqL K H a xs:=by
 rcases h with h | ⟨its,n,e,z,r⟩
 ·exact .inl h
 ·exact .inr ⟨_,its.toArray,n,e,rfl,rfl,rfl,by rw[KG,← r.length];exact z,by simpa using r⟩
theorem SqO.is{X:Cx}{pins:List (Addr×Obj)}{σ:L2.St}{H:Hp}{s:JM}{a:Addr}{xs:List V}(I:Inv X pins σ H s)(h:SqO X.K H a xs) :
  xs.length<=sizeLine/\∃(its:List JJ) (n:Nat),Vals xs its/\s.heap.get? a=some { cls:=.type "list",data:=.seq its.toArray n }:=by
 rcases h with h | ⟨its,n,e,z,r⟩
 ·obtain⟨z,its,n,r,e⟩:=h.ok I.hok
  exact⟨z,its,n,r,e⟩
 ·exact⟨z,its,n,r,I.kIn _ _ e⟩
def SqF(K:JH)(H:Hp)(a:Addr)(xs:List V):Prop:=(∃o,H a=some (.frz o (.lst xs)))\/F7 K a xs
def DkF(K:JH)(H:Hp)(a:Addr)(kvs:List (Key×V)):Prop:=(∃o,H a=some (.frz o (.dK kvs)))\/we K a kvs
def DkR(K:JH)(H:Hp)(a:Addr)(kvs:List (Key×V)):Prop:=Rd H a (.dK kvs)\/we K a kvs
theorem SqF.l{K:JH}{H:Hp}{a:Addr}{xs:List V}(h:SqF K H a xs):SqO K H a xs:=by
 rcases h with h | h
 ·exact .inl (.inr h)
 ·exact .inr h
theorem DkF.r{K:JH}{H:Hp}{a:Addr}{kvs:List (Key×V)}(h:DkF K H a kvs):DkR K H a kvs:=by
 rcases h with h | h
 ·exact .inl (.inr h)
 ·exact .inr h
def FnAt(f:Addr)(o:Obj):HO:=.ext fun h=>h.get? f=some o
abbrev qe(L:Lam)(cl:List (Str×Addr))(pm:JJ×JJ)(cdv ct:JJ):FuncData:=
 { name:=L.name,qualname:=L.qual,params:=L.args,body:=L.body,scope:=L.scope,globals:=mainGlobals,closure:=cl,defaults:=.none,kwdefaults:=.none,doc:=pm.1,pyModule:=pm.2,annotations:=none,code:=cdv,closureTuple:=ct,builtins:=L0 }
abbrev ie (L:Lam) (cl:List (Str×Addr)) (pm:JJ×JJ) (c:Addr) (ct:JJ):Obj:={ cls:=.type "function",data:=.func (qe L cl pm (.ref c) ct) }
def eU(H:Hp):List (Str×Addr)->List V->Prop
 | [],xs=>xs=[]
 | p::cl,xs=>∃x r o u,xs=x::r/\H p.2=some (.frz o (.own 0))/\o.data=.cell (some u)/\RelV x u/\eU H cl r
mutual
def Rep(K:JH)(H:Hp):PV->V->Prop
 | .non,v=>v=.non
 | .bl b,v=>v=.bl b
 | .int i,v=>v=.int i
 | .str x,v=>v=.str x
 | .tup ps,v=>∃a xs,v=.ref a/\H a=some (.tup xs)/\aB K H ps xs
 | .lst ps,v=>∃a xs,v=.ref a/\SqF K H a xs/\aB K H ps xs
 | .dct ks ps,v=>∃a kvs,v=.ref a/\DkF K H a kvs/\kvs.map (·.1)=ks/\aB K H ps (kvs.map (·.2))
 | .dtt ks ps,v=>∃a o kvs,v=.ref a/\H a=some (.frz o (.dT kvs))/\kvs.map (·.1)=ks/\aB K H ps (kvs.map (·.2))
 | .fn L cs,v=>∃f c cl pm ct xs,v=.ref f/\H f=some (FnAt f (ie L cl pm c ct))/\H c=some (dY c L.qual)/\cl.map (·.1)=L.kept/\(cl.map (·.2)).Nodup/\eU H cl xs/\aB K H cs xs
def aB(K:JH)(H:Hp):List PV->List V->Prop
 | [],xs=>xs=[]
 | p::ps,xs=>∃x r,xs=x::r/\Rep K H p x/\aB K H ps r
end
def bg(K:JH)(H:Hp):PV->V->Prop
 | .lst ps,v=>∃a xs,v=.ref a/\SqO K H a xs/\aB K H ps xs
 | .dct ks ps,v=>∃a kvs,v=.ref a/\DkR K H a kvs/\kvs.map (·.1)=ks/\aB K H ps (kvs.map (·.2))
 | .dtt ks ps,v=>∃a kvs,v=.ref a/\Rd H a (.dT kvs)/\kvs.map (·.1)=ks/\aB K H ps (kvs.map (·.2))
 | p,v=>Rep K H p v
def bY(K:JH)(H:Hp)(a:Addr):PV->Prop
 | .lst ps=>∃xs,H a=some (.lst xs)/\aB K H ps xs
 | .dct ks ps=>∃kvs,H a=some (.dK kvs)/\kvs.map (·.1)=ks/\aB K H ps (kvs.map (·.2))
 | .dtt ks ps=>∃kvs,H a=some (.dT kvs)/\kvs.map (·.1)=ks/\aB K H ps (kvs.map (·.2))
 | _=>False
noncomputable def uX:HO->Bool
 | .frz _ _=>true
 | .tup _=>true
 | .ext _=>true
 | _=>false
def Kp(H H':Hp):Prop:=∀b u,H b=some u->uX u=true->H' b=some u
theorem Same.kp{H H':Hp}(h:Same H H'):Kp H H':=fun b u e f=>h.at_ b u e (by cases u <;> first | rfl | cases f)
theorem Kp.refl(H:Hp):Kp H H:=fun _ _ e _=>e
theorem Kp.trans{H H1 H2:Hp}(h:Kp H H1)(k:Kp H1 H2):Kp H H2:=fun b u e f=>k b u (h b u e f) f
theorem Kp.upd{H:Hp}{a:Addr}{u o:HO}(h:H a=some u)(f:uX u=false):Kp H (upd H a o):=fun b w e g=>by
 have:b≠a:=fun z=>by
  subst z;rw[h] at e;cases e;rw[f] at g;cases g
 rw[av this];exact e
theorem Kp.sqT{K:JH}{H H':Hp}(k:Kp H H'){a:Addr}{xs:List V}(h:SqT K H a xs):SqT K H' a xs:=by
 rcases h with (h | ⟨o,h⟩) | h
 ·exact .inl (.inl (k _ _ h rfl))
 ·exact .inl (.inr ⟨o,k _ _ h rfl⟩)
 ·exact .inr h
theorem Kp.sqF{K:JH}{H H':Hp}(k:Kp H H'){a:Addr}{xs:List V}(h:SqF K H a xs):SqF K H' a xs:=by
 rcases h with⟨o,h⟩ | h
 ·exact .inl ⟨o,k _ _ h rfl⟩
 ·exact .inr h
theorem Kp.dkF{K:JH}{H H':Hp}(k:Kp H H'){a:Addr}{kvs:List (Key×V)}(h:DkF K H a kvs):DkF K H' a kvs:=by
 rcases h with⟨o,h⟩ | h
 ·exact .inl ⟨o,k _ _ h rfl⟩
 ·exact .inr h
theorem TOk.kp{H H':Hp}{ps:Array JJ}(k:Kp H H')(t:TOk H ps):TOk H' ps:=
 ⟨t.1,fun pos v e=>let ⟨c,e1,e2⟩:=t.2 pos v e;⟨c,e1,k _ _ e2 rfl⟩⟩
theorem Kp.but{H H':Hp}{a:Addr}(na:∀u,H a=some u->uX u=false)(oth:∀b,b≠a->H' b=H b):Kp H H':=fun b u e f=>by
 have:b≠a:=fun z=>by
  subst z;rw[na u e] at f;cases f
 rw[oth b this];exact e
theorem Same.but{B H H':Hp}{a:Addr}(s:Same B H)(fa:B a=none)(na:∀u,H a=some u->uX u=false)(oth:∀b,b≠a->H' b=H b):Same B H':=
 ⟨fun b o e n=>by rw[oth b (bx e fa)];exact s.at_ b o e n,fun b ps e=>by
  obtain⟨p1,e1,k1⟩:=s.tb b ps e;exact⟨p1,by rw[oth b (bx e fa)];exact e1,fun t=>(k1 t).kp (Kp.but na oth)⟩⟩
theorem rQ.but{H H':Hp}{a:Addr}(t:rQ H)(na:∀u,H a=some u->uX u=false/\xW u=false)(oth:∀b,b≠a->H' b=H b):rQ H':=fun P hP=>by
 obtain⟨ps,e,k⟩:=t P hP
 have:P≠a:=fun z=>by
  subst z;have:=(na _ e).2;cases this
 exact⟨ps,by rw[oth P this];exact e,k.kp (Kp.but (fun u h=>(na u h).1) oth)⟩
theorem tq{K:JH}{H:Hp}{a:Addr}{xs:List V}(h:H a=some (.tup xs)):SqT K H a xs:=.inl (.inl h)
theorem eU.kp{H H':Hp}(k:Kp H H'):∀{cl:List (Str×Addr)}{xs:List V},eU H cl xs->eU H' cl xs
 | [],_,h=>h
 | p::cl,_,⟨x,r,o,u,e,h,d,v,t⟩=>⟨x,r,o,u,e,k _ _ h rfl,d,v,eU.kp k t⟩
mutual
theorem Rep.kp{K:JH}{H H':Hp}(k:Kp H H'):∀(p:PV){v:V},Rep K H p v->Rep K H' p v
 | .non,_,h=>h
 | .bl _,_,h=>h
 | .int _,_,h=>h
 | .str _,_,h=>h
 | .tup ps,_,⟨a,xs,e,h,r⟩=>⟨a,xs,e,k _ _ h rfl,aB.kp k ps r⟩
 | .lst ps,_,⟨a,xs,e,h,r⟩=>⟨a,xs,e,k.sqF h,aB.kp k ps r⟩
 | .dct ks ps,_,⟨a,kvs,e,h,ek,r⟩=>⟨a,kvs,e,k.dkF h,ek,aB.kp k ps r⟩
 | .dtt ks ps,_,⟨a,o,kvs,e,h,ek,r⟩=>⟨a,o,kvs,e,k _ _ h rfl,ek,aB.kp k ps r⟩
 | .fn L cs,_,⟨f,c,cl,pm,ct,xs,e,h1,h2,h3,h5,h4,r⟩=>⟨f,c,cl,pm,ct,xs,e,k _ _ h1 rfl,k _ _ h2 rfl,h3,h5,eU.kp k h4,aB.kp k cs r⟩
theorem aB.kp{K:JH}{H H':Hp}(k:Kp H H'):∀(ps:List PV){xs:List V},aB K H ps xs->aB K H' ps xs
 | [],_,h=>h
 | p::ps,_,⟨x,r,e,h,t⟩=>⟨x,r,e,Rep.kp k p h,aB.kp k ps t⟩
end
section
variable{K : JH}{H H' : Hp}{p : PV}{ps qs : List PV}{v : V}{xs ys : List V}{a : Addr}
theorem Rep.same(h:Rep K H p v)(s:Same H H'):Rep K H' p v:=Rep.kp (Same.kp s) p h
theorem aB.same(h:aB K H ps xs)(s:Same H H'):aB K H' ps xs:=aB.kp (Same.kp s) ps h
theorem bg.same(h:bg K H p v)(s:Same H H'):bg K H' p v:=by
 cases p with
 | lst ps=>
  obtain⟨a,xs,e,q,r⟩:=h;refine⟨a,xs,e,?_,r.same s⟩;rcases q with (q | ⟨o,q⟩) | q
  ·exact .inl (.inl (s _ _ q))
  ·exact .inl (.inr ⟨o,s _ _ q⟩)
  ·exact .inr q
 | dct ks ps=>
  obtain⟨a,kvs,e,q,ek,r⟩:=h;refine⟨a,kvs,e,?_,ek,r.same s⟩;rcases q with (q | ⟨o,q⟩) | q
  ·exact .inl (.inl (s _ _ q))
  ·exact .inl (.inr ⟨o,s _ _ q⟩)
  ·exact .inr q
 | dtt ks ps=>
  obtain⟨a,kvs,e,q,ek,r⟩:=h;refine⟨a,kvs,e,?_,ek,r.same s⟩;rcases q with q | ⟨o,q⟩
  ·exact .inl (s _ _ q)
  ·exact .inr ⟨o,s _ _ q⟩
 | _=>exact Rep.same h s
theorem bY.same(h:bY K H a p)(s:Same H H'):bY K H' a p:=by
 cases p with
 | lst ps=>
  obtain⟨xs,q,r⟩:=h;exact⟨xs,s _ _ q,r.same s⟩
 | dct ks ps=>
  obtain⟨kvs,q,ek,r⟩:=h;exact⟨kvs,s _ _ q,ek,r.same s⟩
 | dtt ks ps=>
  obtain⟨kvs,q,ek,r⟩:=h;exact⟨kvs,s _ _ q,ek,r.same s⟩
 | _=>exact h
theorem Rep.o(h:Rep K H p v):bg K H p v:=by
 cases p with
 | lst ps=>
  obtain⟨a,xs,e,q,r⟩:=h;exact⟨a,xs,e,q.l,r⟩
 | dct ks ps=>
  obtain⟨a,kvs,e,q,ek,r⟩:=h;exact⟨a,kvs,e,q.r,ek,r⟩
 | dtt ks ps=>
  obtain⟨a,o,kvs,e,q,ek,r⟩:=h;exact⟨a,kvs,e,.inr ⟨o,q⟩,ek,r⟩
 | _=>exact h
theorem bY.o(h:bY K H a p):bg K H p (.ref a):=by
 cases p with
 | lst ps=>
  obtain⟨xs,q,r⟩:=h;exact⟨a,xs,rfl,.inl (.inl q),r⟩
 | dct ks ps=>
  obtain⟨kvs,q,ek,r⟩:=h;exact⟨a,kvs,rfl,.inl (.inl q),ek,r⟩
 | dtt ks ps=>
  obtain⟨kvs,q,ek,r⟩:=h;exact⟨a,kvs,rfl,.inl q,ek,r⟩
 | _=>exact JP h
theorem aB.length:∀{ps:List PV}{xs:List V},aB K H ps xs->ps.length=xs.length
 | [],_,h=>by cases h;rfl
 | p::ps,_,⟨x,r,e,_,t⟩=>by subst e;simp[aB.length t]
theorem aB.nil:aB K H [] []:=rfl
theorem aB.cons(h:Rep K H p v)(t:aB K H ps xs):aB K H (p::ps) (v::xs):=⟨v,xs,rfl,h,t⟩
theorem aB.append:∀{ps qs:List PV}{xs ys:List V},aB K H ps xs->aB K H qs ys->aB K H (ps++qs) (xs++ys)
 | [],_,_,_,h,k=>by cases h;exact k
 | p::ps,_,_,_,⟨x,r,e,h,t⟩,k=>by subst e;exact⟨x,_,rfl,h,aB.append t k⟩
theorem aB.get:∀{ps:List PV}{xs:List V}{i:Nat}{p:PV},aB K H ps xs->ps[i]?=some p->∃x,xs[i]?=some x/\Rep K H p x
 | [],_,_,_,_,e=>by simp at e
 | p::ps,_,0,_,⟨x,r,e,h,t⟩,q=>by
  subst e;simp at q;subst q;exact⟨x,rfl,h⟩
 | p::ps,_,i+1,q,⟨x,r,e,h,t⟩,z=>by
  subst e;obtain⟨y,h1,h2⟩:=aB.get (i:=i) (p:=q) t (by simpa using z);exact⟨y,by simpa using h1,h2⟩
theorem aB.getV:∀{ps:List PV}{xs:List V}{i:Nat}{x:V},aB K H ps xs->xs[i]?=some x->∃p,ps[i]?=some p/\Rep K H p x:=fun {ps xs i x} r e=>by
 have h1:i<xs.length:=(JL.mp e).1;rw[← r.length] at h1;obtain⟨y,e2,rp⟩:=r.get (i:=i) (p:=ps[i]) (by simp[h1]);rw[e] at e2;cases e2;exact⟨_,by simp[h1],rp⟩
theorem aB.take:∀{ps:List PV}{xs:List V}(n:Nat),aB K H ps xs->aB K H (ps.take n) (xs.take n)
 | _,_,0,_=>by simp;rfl
 | [],_,n+1,h=>by cases h;rfl
 | p::ps,_,n+1,⟨x,r,e,h,t⟩=>by subst e;exact⟨x,_,rfl,h,aB.take n t⟩
theorem aB.drop:∀{ps:List PV}{xs:List V}(n:Nat),aB K H ps xs->aB K H (ps.drop n) (xs.drop n)
 | _,_,0,h=>by simpa using h
 | [],_,n+1,h=>by cases h;rfl
 | p::ps,_,n+1,⟨x,r,e,h,t⟩=>by subst e;simpa using aB.drop n t
end
theorem _root_.L2.Inv.reH{X:Cx}{pins:List (Addr×Obj)}{σ:L2.St}{H H':Hp}{s:JM}(I:Inv X pins σ H s){a:Addr}{u u':HO}(hu:H a=some u)(h':H'=upd H a u')
  (nf:uX u=false) (nt:∀ps,u≠.tbl ps) (no:∀x,u≠.own x) (hok:dw X.prog X.w H' s.heap a u'):Inv X pins σ H' s:=by
 subst h';have keepT:∀b xs,H b=some (.tup xs)->(upd H a u') b=some (.tup xs):=fun b xs e=>Kp.upd hu nf b _ e rfl
 have keepO:∀b x,H b=some (.own x)->(upd H a u') b=some (.own x):=fun b x e=>by
  have:b≠a:=fun z=>by
   subst z;rw[hu] at e;cases e;exact no x rfl
  rw[av this];exact e
 have hn:∀b,H b=none->(upd H a u') b=none:=fun b e=>by
  have:b≠a:=fun z=>by
   subst z;rw[hu] at e;cases e
  rw[av this];exact e
 refine⟨I.ok,I.os,I.bare,⟨I.base.keep,I.base.slot,fun b o e n x=>hn b (I.base.free b o e n x),I.base.there,fun b xs e=>keepT b xs (I.base.tups b xs e),
  fun b o w e=>Kp.upd hu nf b _ (I.base.frzs b o w e) rfl,fun b ps e=>?_⟩,I.loc,I.cell,hn _ I.free,fun x c e=>hn c (I.freeC x c e),fun p hp=>?_,fun b o e=>?_,I.len⟩
 ·obtain⟨more,q⟩:=I.base.tbls b ps e
  have:b≠a:=fun z=>by
   subst z;rw[hu] at q;cases q;exact nt _ rfl
  exact⟨more,by rw[av this];exact q⟩
 ·obtain⟨h1,h2,h3⟩:=I.pin p hp
  exact⟨h1,hn _ h2,h3⟩
 ·by_cases hb:b=a
  ·subst hb
   rw[ar] at e;cases e;exact hok
  ·rw[av hb] at e
   exact(I.hok b o e).stay (fun c v _ r=>r) (fun c r=>keepO c b r) keepT
theorem _root_.L2.Inv.frz{X:Cx}{pins:List (Addr×Obj)}{σ:L2.St}{H:Hp}{s:JM}{a:Addr}{p:PV}(I:Inv X pins σ H s)(n:bY X.K H a p) :
  ∃H',Inv X pins σ H' s/\Rep X.K H' p (.ref a)/\∀b,b≠a->H' b=H b:=by
 cases p with
 | lst ps=>
  obtain⟨xs,q,r⟩:=n;obtain⟨z,its,m,rv,e⟩:=I.hok a _ q;refine⟨upd H a (.frz _ (.lst xs)),I.reH q rfl rfl (by intro _ h;cases h) (by intro _ h;cases h) ⟨e,z,its,m,rv,e⟩,⟨a,xs,rfl,.inl ⟨_,ar⟩,r.kp (Kp.upd q rfl)⟩,fun b hb=>av hb⟩
 | dct ks ps=>
  obtain⟨kvs,q,ek,r⟩:=n;obtain⟨z,hs,vs,rv,o,es,ep,e,rest⟩:=I.hok a _ q;refine⟨upd H a (.frz o (.dK kvs)),I.reH q rfl rfl (by intro _ h;cases h) (by intro _ h;cases h) ⟨e,z,hs,vs,rv,o,es,ep,e,rest⟩,⟨a,kvs,rfl,.inl ⟨_,ar⟩,ek,r.kp (Kp.upd q rfl)⟩,fun b hb=>av hb⟩
 | dtt ks ps=>
  obtain⟨kvs,q,ek,r⟩:=n;obtain⟨z,hs,ys,rv,o,es,ep,e,rest⟩:=I.hok a _ q;refine⟨upd H a (.frz o (.dT kvs)),I.reH q rfl rfl (by intro _ h;cases h) (by intro _ h;cases h) ⟨e,z,hs,ys,?_,o,es,ep,e,rest⟩,⟨a,o,kvs,rfl,ar,ek,r.kp (Kp.upd q rfl)⟩,fun b hb=>av hb⟩;exact Paired.mapP rv fun p1 q1 ⟨h1,h2,h3⟩=>⟨h1,h2.keeps fun b ys hb=>Kp.upd q rfl _ _ hb rfl,h3⟩
 | _=>exact JP n
theorem bY.nt{K:JH}{H:Hp}{a:Addr}{p:PV}(h:bY K H a p):∀u,H a=some u->uX u=false/\xW u=false:=fun u e=>by
 cases p with
 | lst ps=>obtain⟨_,w,_⟩:=h;rw[w] at e;cases e;exact⟨rfl,rfl⟩
 | dct ks ps=>obtain⟨_,w,_⟩:=h;rw[w] at e;cases e;exact⟨rfl,rfl⟩
 | dtt ks ps=>obtain⟨_,w,_⟩:=h;rw[w] at e;cases e;exact⟨rfl,rfl⟩
 | _=>exact JP h
end PU
namespace PU
open PySem PySem.Spec PyProof.Rows L2
variable[TW]
structure Cn where
 X:Cx
 Ac:PX->Hp->Prop
def Cb(K:JH)(H:Hp)(x:Option (Option V)):Sl->Prop
 | .no=>True
 | .val p=>∃v,x=some (some v)/\Rep K H p v
 | .own p=>∃a,x=some (some (.ref a))/\bY K H a p
 | .pin ps a=>x=some (some (.ref a))/\bY K H a (.lst ps)
structure View(K:JH)(H:Hp)(σ:L2.St)(ρ:PSt):Prop where
 at_:∀(i:Nat)(l:Sl),ρ[i]?=some l->Cb K H σ[i]? l
 tb:rQ H
instance {K:JH} {H:Hp} {σ:L2.St} {ρ:PSt}:CoeFun (View K H σ ρ) (fun _=>∀(i:Nat)(l:Sl),ρ[i]?=some l->Cb K H σ[i]? l):=⟨@View.at_ _ K H σ ρ⟩
theorem Cb.same{K:JH}{H H':Hp}{x:Option (Option V)}{l:Sl}(h:Cb K H x l)(s:Same H H'):Cb K H' x l:=by
 cases l with
 | no=>exact trivial
 | val p=>obtain⟨v,e,r⟩:=h;exact⟨v,e,r.same s⟩
 | own p=>obtain⟨a,e,r⟩:=h;exact⟨a,e,r.same s⟩
 | pin ps a=>exact⟨h.1,bY.same h.2 s⟩
theorem View.same{K:JH}{H H':Hp}{σ:L2.St}{ρ:PSt}(h:View K H σ ρ)(s:Same H H'):View K H' σ ρ:=⟨fun i l e=>(h i l e).same s,s.tabs h.tb⟩
def RQ(C:Cn)(H:Hp){α:Type}(r:R α)(k:α->Prop):Prop:=
 match r with
 | .ok a=>k a
 | .er x=>∀H',Same H H'->C.Ac x H'
 | .no=>False
section
variable{C : Cn}{H H' : Hp}{α β : Type}{r : R α}{k k' : α → Prop}
theorem RQ.imp(h:RQ C H r k)(f:∀a,r=.ok a->k a->k' a):RQ C H r k':=by
 cases r with
 | ok a=>exact f a rfl h
 | er x=>exact h
 | no=>exact h
theorem RQ.same(h:RQ C H r k)(s:Same H H'):RQ C H' r k:=by
 cases r with
 | ok a=>exact h
 | er x=>exact fun H2 s2=>h H2 (s.trans s2)
 | no=>exact h
theorem RQ.bind{f:α->R β}{m:β->Prop}(h:RQ C H (r >>= f) m):RQ C H r fun a=>RQ C H (f a) m:=by
 cases r <;> exact h
theorem RQ.ofO{o:Option α}(h:RQ C H (R.ofO o) k):∃a,o=some a/\k a:=by
 cases o with
 | none=>exact JP h
 | some a=>exact⟨a,rfl,h⟩
end
noncomputable def tV(C:Cn)(f:PSt->R PV):TE:=fun σ H Q=>∃ρ,View C.X.K H σ ρ/\RQ C H (f ρ) fun p=>∀v H',Same H H'->Rep C.X.K H' p v->Q v H'
noncomputable def tO(C:Cn)(f:PSt->R PV):TE:=fun σ H Q=>∃ρ,View C.X.K H σ ρ/\RQ C H (f ρ) fun p=>∀v H',Same H H'->bg C.X.K H' p v->Q v H'
noncomputable def tN(C:Cn)(f:PSt->R PV):TE:=fun σ H Q=>∃ρ,View C.X.K H σ ρ/\RQ C H (f ρ) fun p=>∀a H',Same H H'->H a=none->bY C.X.K H' a p->Q (.ref a) H'
noncomputable def tAs(C:Cn)(f:PSt->R (List PV)):TA:=fun σ H Q=>∃ρ,View C.X.K H σ ρ/\RQ C H (f ρ) fun ps=>∀vs H',Same H H'->aB C.X.K H' ps vs->Q vs H'
noncomputable def tBl(C:Cn)(f:PSt->R Bool):TT:=fun σ H Q=>∃ρ,View C.X.K H σ ρ/\RQ C H (f ρ) fun b=>∀H',Same H H'->Q b H'
def EV(C:Cn)(e:Expr)(f:PSt->R PV):Prop:=PE C.X e (tV C f)
def EO(C:Cn)(e:Expr)(f:PSt->R PV):Prop:=PE C.X e (tO C f)
def EN(C:Cn)(e:Expr)(f:PSt->R PV):Prop:=PE C.X e (tN C f)
def EA(C:Cn)(es:List Expr)(f:PSt->R (List PV)):Prop:=PA C.X es (tAs C f)
def ET(C:Cn)(e:Expr)(f:PSt->R Bool):Prop:=PT C.X e (tBl C f)
def EW(C:Cn)(e:Expr)(f:PSt->R Bool):Prop:=PW C.X e (tBl C f)
section
variable{C : Cn}{e a b c : Expr}{es : List Expr}{f fa fb fc : PSt → R PV}{fs : PSt → R (List PV)}{pos : La}
theorem EV.o(h:EV C e f):EO C e f:=fun pins s σ H Q I ⟨ρ,vw,q⟩=>h pins s σ H Q I ⟨ρ,vw,q.imp fun _ _ k v H' sm r=>k v H' sm r.o⟩
theorem EN.o(h:EN C e f):EO C e f:=fun pins s σ H Q I ⟨ρ,vw,q⟩=>h pins s σ H Q I ⟨ρ,vw,q.imp fun _ _ k a H' sm _ r=>k (.ref a) H' sm r.o⟩
theorem EN.v(h:EN C e f):EV C e f:=by
 intro pins s σ H Q I ⟨ρ,vw,q⟩;cases hf:f ρ with
 | ok p=>
  rw[hf] at q;refine thn (h pins s σ H (fun v H'=>∃a,v=.ref a/\Same H H'/\H a=none/\bY C.X.K H' a p) I ⟨ρ,vw,by rw[hf];exact fun a H' sm n w=>⟨a,rfl,sm,n,w⟩⟩) fun u s' ⟨v,H',I',rv,a,ev,sm,na,w⟩=>?_;obtain⟨H2,I2,rp,oth⟩:=I'.frz w;subst ev;exact⟨.ref a,H2,I2,rv,q _ H2 (sm.but na (fun u h=>(w.nt u h).1) oth) rp⟩
 | er x=>
  rw[hf] at q;exact h pins s σ H Q I ⟨ρ,vw,by rw[hf];exact q⟩
 | no=>
  rw[hf] at q;exact JP q
theorem Em (i:Nat) {x:Str} (hN:C.X.N[i]?=some x) (hv:Vis C.X.env.scope x) (hd:(x == ("__debug__":Str))=false:=by decide) (hcd:(x == ("__classdict__":Str))=false:=by decide):EV C (.Name x pos) (getV i):=by
 intro pins s σ H Q I ⟨ρ,vw,q⟩;unfold getV at q;split at q
 ·rename_i p e
  obtain⟨v,ev,r⟩:=vw i _ e;exact eG hN hv hd hcd pins s σ H Q I ⟨v,ev,q v H (Same.refl H) r⟩
 ·exact JP q
theorem Es (i:Nat) {x:Str} (hN:C.X.N[i]?=some x) (hv:Vis C.X.env.scope x) (hd:(x == ("__debug__":Str))=false:=by decide) (hcd:(x == ("__classdict__":Str))=false:=by decide):EO C (.Name x pos) (lX i):=by
 intro pins s σ H Q I ⟨ρ,vw,q⟩;unfold lX at q;split at q
 ·rename_i p e
  obtain⟨v,ev,r⟩:=vw i _ e;exact eG hN hv hd hcd pins s σ H Q I ⟨v,ev,q v H (Same.refl H) r.o⟩
 ·rename_i p e
  obtain⟨v,ev,r⟩:=vw i _ e;exact eG hN hv hd hcd pins s σ H Q I ⟨_,ev,q _ H (Same.refl H) r.o⟩
 ·rename_i ps a e
  obtain⟨ev,r⟩:=vw i _ e;exact eG hN hv hd hcd pins s σ H Q I ⟨_,ev,q _ H (Same.refl H) r.o⟩
 ·exact JP q
theorem b0{i j}:EV C (.Constant (.int i) j pos) (kI i):=fun pins s σ H Q I ⟨_,_,q⟩=>Dk pins s σ H Q I (q _ H (Same.refl H) rfl)
theorem lu{i j}:EV C (.Constant (.bool i) j pos) (kB i):=fun pins s σ H Q I ⟨_,_,q⟩=>Gs pins s σ H Q I (q _ H (Same.refl H) rfl)
theorem pd{j}:EV C (.Constant .none j pos) kN:=fun pins s σ H Q I ⟨_,_,q⟩=>Dg pins s σ H Q I (q _ H (Same.refl H) rfl)
theorem aK{x j}:EV C (.Constant (.str x) j pos) (kS x):=fun pins s σ H Q I ⟨_,_,q⟩=>uk pins s σ H Q I (q _ H (Same.refl H) rfl)
theorem Bv {x:Str} {v:V} {u:JJ} {p:PV} (hg:Gl C.X x) (hm:C.X.mg x=some u) (r:RelV v u) (rp:∀H,Rep C.X.K H p v) (hd:(x == ("__debug__":Str))=false:=by decide):EV C (.Name x pos) (kP p):=
 fun pins s σ H Q I ⟨_,_,q⟩=>AQ hg hm r hd pins s σ H Q I (q _ H (Same.refl H) (rp H))
theorem ai:EA C [] aI:=fun pos pins s σ H Q I ⟨_,_,q⟩=>gE pos pins s σ H Q I (q [] H (Same.refl H) aB.nil)
theorem aa(ha:EV C e f)(hr:EA C es fs)(hs:K1 (e::es) C.X.env=(false,L9 e C.X.env)::K1 es C.X.env:=by exact bC rfl):EA C (e::es) (ab f fs):=by
 intro pos pins s σ H Q I ⟨ρ,vw,q⟩;refine cq ha hr hs pos pins s σ H Q I ⟨ρ,vw,q.bind.imp fun p _ k v H1 s1 r1=>⟨ρ,vw.same s1,(k.bind.same s1).imp fun ps _ k2 vs H2 s2 r2=>?_⟩⟩;exact k2 (v::vs) H2 (s1.trans s2) (aB.cons (r1.same s2) r2)
noncomputable def tA1(C:Cn)(f:PSt->R PV):TA:=fun σ H Q=>∃ρ,View C.X.K H σ ρ/\RQ C H (f ρ) fun p=>∀v H',Same H H'->bg C.X.K H' p v->Q [v] H'
theorem rG(ha:EO C e f)(hs:K1 [e] C.X.env=[(false,L9 e C.X.env)]:=by exact bX rfl):PA C.X [e] (tA1 C f):=by
 intro pos pins s σ H Q I ⟨ρ,vw,q⟩;exact cq ha gE hs pos pins s σ H Q I ⟨ρ,vw,q⟩
theorem Same.new{H:Hp}{a:Addr}{o:HO}(h:H a=none):Same H (upd H a o):=.of fun b u e=>by
 rw[av (bx e h)];exact e
theorem kz{C:Cn}{H:Hp}{ps:List PV}{β:Type}{g:List PV->R β}{k:β->Prop}(h:RQ C H (fJ ps >>= g) k):ps.length<=sizeLine/\RQ C H (g ps) k:=by
 unfold fJ at h
 by_cases hz:ps.length<=16777216
 ·rw[if_pos hz] at h
  exact⟨by rw[Ke];exact hz,h⟩
 ·rw[if_neg hz] at h
  exact JP h
theorem aS{k}(h:EA C es fs):EV C (.Tuple es k pos) (dB fs):=by
 intro pins s σ H Q I ⟨ρ,vw,q⟩;refine Df h pins s σ H Q I ⟨ρ,vw,q.bind.imp fun ps _ k vs H1 s1 r1=>?_⟩;obtain⟨z,k⟩:=kz k;refine⟨by rw[← r1.length];exact z,fun p hp=>?_⟩;exact k _ _ (s1.trans (Same.new hp)) ⟨p,vs,rfl,ar,r1.same (Same.new hp)⟩
theorem du(h:EA C es fs):EN C (.List es pos) (l7 fs):=by
 intro pins s σ H Q I ⟨ρ,vw,q⟩;refine Dh h pins s σ H Q I ⟨ρ,vw,q.bind.imp fun ps _ k vs H1 s1 r1=>?_⟩;obtain⟨z,k⟩:=kz k;refine⟨by rw[← r1.length];exact z,fun p hp=>?_⟩;exact k p _ (s1.trans (Same.new hp)) (s1.free hp) ⟨vs,ar,r1.same (Same.new hp)⟩
noncomputable def rP(K:JH)(g:PV->PV->Option PV):R2:=fun v u H Q=>∃p q z,bg K H p v/\bg K H q u/\g p q=some z/\∀w H',Same H H'->Rep K H' z w->Q w H'
theorem t2{σ:L2.St}{H:Hp}{Q:VK}{ρ:PSt}{g:PV->PV->Option PV}{r:R2}(vw:View C.X.K H σ ρ)(q:RQ C H (aq fa fb g ρ) fun p=>∀v H',Same H H'->Rep C.X.K H' p v->Q v H')
  (hr:∀v u H' Q',rP C.X.K g v u H' Q'->r v u H' Q'):tOp r (tO C fa) (tO C fb) σ H Q:=by
 refine⟨ρ,vw,q.bind.imp fun p _ k v H1 s1 r1=>⟨ρ,vw.same s1,(k.bind.same s1).imp fun p2 _ k2 u H2 s2 r2=>?_⟩⟩;obtain⟨z,ez,k3⟩:=k2.ofO;exact hr _ _ _ _ ⟨p,p2,z,r1.same s2,r2,ez,fun w H3 s3 r3=>k3 w H3 ((s1.trans s2).trans s3) r3⟩
theorem aD{op:Operator}{g:PV->PV->Option PV}(ho:OpR C.X (MI op) (rP C.X.K g))(ha:EO C a fa)(hb:EO C b fb):EV C (.BinOp a op b pos) (aq fa fb g):=by
 intro pins s σ H Q I ⟨ρ,vw,q⟩;exact Gr ho ha hb pins s σ H Q I (t2 vw q fun _ _ _ _ h=>h)
theorem pj{op:CmpOp}{g:PV->PV->Option PV}(ho:OpR C.X (Kk op) (rP C.X.K g))(ha:EO C a fa)(hb:EO C b fb)(hm:NT op b=false:=by first | exact zk _ | with_unfolding_all rfl):EV C (.Compare a [op] [b] pos) (aq fa fb g):=by
 intro pins s σ H Q I ⟨ρ,vw,q⟩;exact AS ho ha hb hm pins s σ H Q I (t2 vw q fun _ _ _ _ h=>h)
theorem ao{g:PV->PV->Option PV}(ho:IxR C.X (rP C.X.K g))(ha:EO C a fa)(hb:EO C b fb)(hs:wd b:=by exact fun _ _=>rfl):EV C (.Subscript a b pos) (aq fa fb g):=by
 intro pins s σ H Q I ⟨ρ,vw,q⟩;exact Dj ho ha hb hs pins s σ H Q I (t2 vw q fun _ _ _ _ h=>h)
end
end PU
namespace PU
open PySem PySem.Spec PyProof.Rows L2
variable[TW]
section
variable{X : Cx}{pins : List (Addr×Obj)}{σ : L2.St}{H : Hp}{s : JM}
theorem DkR.at{a:Addr}{kvs:List (Key×V)}(hw:X.w=TW.w)(I:Inv X pins σ H s)(h:DkR X.K H a kvs) :
  kvs.length<=sizeLine/\(a == Ku)=false/\∃vs,KV kvs vs/\s.heap.DictOf (ak X.prog X.w) a vs:=by
 rcases h with h | h
 ·exact BC I.hok h
 ·exact⟨h.1,h.2.1,h.at _ _ hw _ I.kIn⟩
theorem B3{ys:List V}{its:List JJ}{ps:List PV}(I:Inv X pins σ H s)(hv:Vals ys its)(hz:ys.length<=sizeLine)(hr:aB X.K H ps ys)(t':Nat) :
  ∃H',Inv X pins σ H' { s with heap:=s.heap.push { cls:=.type "list",data:=.seq its.toArray },toks:=t' }/\Same H H'/\Rep X.K H' (.lst ps) (.ref s.heap.objs.size):=by
 have I1:=I.lnew (t':=t') hv hz;have nf:H s.heap.objs.size=none:=I.fresh;obtain⟨H',I2,rp,oth⟩:=L2.Inv.frz (a:=s.heap.objs.size) (p:=.lst ps) I1 ⟨ys,ar,hr.same (Same.new nf)⟩;refine⟨H',I2,.of fun b o e=>?_,rp⟩;have hb:=bx e nf;rw[oth b hb,av hb];exact e
theorem bg.lst_inv{K:JH}{H:Hp}{ps:List PV}{v:V}(h:bg K H (.lst ps) v):∃a xs,v=.ref a/\SqO K H a xs/\aB K H ps xs:=h
theorem bg.tup_inv{K:JH}{H:Hp}{ps:List PV}{v:V}(h:bg K H (.tup ps) v):∃a xs,v=.ref a/\SqT K H a xs/\aB K H ps xs:=by
 obtain⟨a,xs,e,q,r⟩:=(show ∃a xs,v=.ref a/\H a=some (.tup xs)/\aB K H ps xs from h);exact⟨a,xs,e,.inl (.inl q),r⟩
end
theorem yy{prog:K5}{w:KH}{A:KY}{E:JJ->JM->Prop}{s:JM}{t b:Addr}{vs ws:List JJ}{Q:JJ->JM->Prop}(ht:IsTup s.heap t vs.toArray)(hb:IsTup s.heap b ws.toArray)
  (h0:vs=[]->Q (.ref b) s) (h1:ws=[]->Q (.ref t) s) (h2:Q (.ref s.heap.objs.size) { s with heap:=s.heap.push { cls:=.type "tuple",data:=.seq (vs++ws).toArray } })
  (hsz:vs.length+ws.length<=sizeLine):JZ (KM prog w) A (MI .Add (.ref t) (.ref b)) Q E s:=by
 obtain⟨⟨cls,dd,data,sl⟩,ho,hc,n,hd⟩:=id ht;obtain⟨⟨cls2,dd2,data2,sl2⟩,ho2,hc2,n2,hd2⟩:=id hb;simp only at hc hd hc2 hd2;subst hc hd hc2 hd2;have e:vs.toArray++ws.toArray=(vs++ws).toArray:=by simp
 by_cases hv:vs=[]
 ·exact R3 ⟨_,ho,rfl⟩ ⟨_,ho2,rfl⟩ Pw Qe Nw Nn (Nf _ _)
   (tuple_addW0 t b vs.toArray ws.toArray n n2 dd dd2 sl sl2 (by simp[hv])) ⟨ho,ho2,h0 hv⟩
 ·by_cases hw:ws=[]
  ·exact R3 ⟨_,ho,rfl⟩ ⟨_,ho2,rfl⟩ Pw Qe Nw Nn (Nf _ _)
    (tuple_addW1 t b vs.toArray ws.toArray n n2 dd dd2 sl sl2 (by simpa using hv) (by simp[hw])) ⟨ho,ho2,h1 hw⟩
  ·refine R3 ⟨_,ho,rfl⟩ ⟨_,ho2,rfl⟩ Pw Qe Nw Nn (Nf _ _)
    (tuple_addW2 t b vs.toArray ws.toArray n n2 dd dd2 sl sl2 (by simpa using hv) (by simpa using hw) (by rw[KG,KG];exact hsz)) ⟨ho,ho2,?_⟩
   rw[e];exact h2
section
variable{X : Cx}
theorem qO{f:JJ->JJ->Sem JJ}{g:PV->PV->Option PV}{r:R2}(h:OpR X f r)
  (hg:∀(p q z:PV),g p q=some z->∃i j,p=.int i/\q=.int j/\∃w:V,(∀K H,Rep K H z w)/\∀H Q,Q w H->r (.int i) (.int j) H Q):OpR X f (rP X.K g):=by
 intro pins s σ H x y v u Q I rx ry ⟨p,q,z,hp,hq,e,k⟩;obtain⟨i,j,rfl,rfl,w,hw,hr⟩:=hg p q z e;cases (show x=.int i from hp);cases (show y=.int j from hq);exact h pins s σ H _ _ v u Q I rx ry (hr H Q (k w H (Same.refl H) (hw _ _)))
theorem Gz:OpR X (MI .Sub) (rP X.K Ef):=qO Dl fun p q z e=>by
 unfold Ef at e;split at e
 ·rename_i i j
  cases e;exact⟨i,j,rfl,rfl,_,fun _ _=>rfl,fun H Q q=>⟨i,j,rfl,rfl,q⟩⟩
 ·cases e
theorem xD:OpR X (MI .Mult) (rP X.K ve):=qO Dm fun p q z e=>by
 unfold ve at e;split at e
 ·rename_i i j
  split at e
  ·rename_i hc
   cases e;exact⟨i,j,rfl,rfl,_,fun _ _=>rfl,fun H Q q=>⟨i,j,rfl,rfl,hc.imp (fun h=>⟨by omega,by omega⟩) (fun h=>⟨by omega,by omega⟩),q⟩⟩
  ·cases e
 ·cases e
theorem Ds:OpR X (MI .FloorDiv) (rP X.K Eg):=qO AW fun p q z e=>by
 unfold Eg at e;split at e
 ·rename_i i j
  split at e
  ·rename_i hc
   cases e;exact⟨i,j,rfl,rfl,_,fun _ _=>rfl,fun H Q q=>⟨i,j,rfl,rfl,hc,q⟩⟩
  ·cases e
 ·cases e
theorem dD:OpR X (MI .Mod) (rP X.K e9):=qO Do fun p q z e=>by
 unfold e9 at e;split at e
 ·rename_i i j
  split at e
  ·rename_i hc
   cases e;exact⟨i,j,rfl,rfl,_,fun _ _=>rfl,fun H Q q=>⟨i,j,rfl,rfl,hc,q⟩⟩
  ·cases e
 ·cases e
theorem fA:OpR X (MI .Add) (rP X.K fK):=by
 intro pins s σ H x y v u Q I rx ry ⟨p,q,z,hp,hq,e,k⟩;have hs:=Ke;unfold fK at e;split at e
 ·rename_i i j
  cases e;cases (show x=.int i from hp);cases (show y=.int j from hq);exact Dq pins s σ H _ _ v u Q I rx ry ⟨i,j,rfl,rfl,k _ H (Same.refl H) rfl⟩
 ·rename_i i j
  split at e
  ·rename_i hc
   cases e;cases (show x=.str i from hp);cases (show y=.str j from hq);exact sx pins s σ H _ _ v u Q I rx ry ⟨i,j,rfl,rfl,by omega,k _ H (Same.refl H) rfl⟩
  ·cases e
 ·rename_i ps qs
  split at e
  ·rename_i hc
   cases e;obtain⟨a,xs,rfl,hx,r1⟩:=hp;obtain⟨b,ys,rfl,hy,r2⟩:=hq;cases rx;cases ry;obtain⟨hz,its,n,rv,e1⟩:=hx.is I;obtain⟨hz2,its2,n2,rv2,e2⟩:=hy.is I;have l1:=r1.length;have l2:=r2.length;have l3:=rv.length;have l4:=rv2.length;have ea:its.toArray++its2.toArray=(its++its2).toArray:=by simp
   refine PySem.P.add_list e1 e2 ?_ (by simp only[KG];omega);rw[ea];obtain⟨H',I',sm,rp⟩:=B3 I (rv.append rv2) (by rw[KF];omega) (r1.append r2) s.toks;exact⟨.ref _,H',I',rfl,k _ H' sm rp⟩
  ·cases e
 ·rename_i ps qs
  split at e
  ·rename_i hc
   cases e;obtain⟨a,xs,rfl,hx,r1⟩:=bg.tup_inv hp;obtain⟨b,ys,rfl,hy,r2⟩:=bg.tup_inv hq;cases rx;cases ry;obtain⟨its,rv,pl,hz⟩:=I.tuple hx;obtain⟨its2,rv2,pl2,hz2⟩:=I.tuple hy;have l1:=r1.length;have l2:=r2.length;have l3:=rv.length;have l4:=rv2.length;refine yy pl pl2 (fun z=>?_) (fun z=>?_) ?_ (by omega)
   ·subst z
    have:ps=[]:=Kv (by rw[l1,l3];rfl);subst this;exact⟨.ref b,H,I,rfl,k _ H (Same.refl H) hq⟩
   ·subst z
    have:qs=[]:=Kv (by rw[l2,l4];rfl);subst this;rw[Kq] at k;exact⟨.ref a,H,I,rfl,k _ H (Same.refl H) hp⟩
   ·have nf:H s.heap.objs.size=none:=I.fresh
    refine⟨.ref s.heap.objs.size,_,I.laid (t':=s.toks) (o:=.tup (xs++ys)) (fun b ob q=>JN _ q) (K8 _) ?_,rfl,k _ _ (Same.new nf) ⟨_,xs++ys,rfl,ar,(r1.append r2).same (Same.new nf)⟩⟩;exact⟨by rw[KF];omega,_,rv.append rv2,yH.new _ _⟩
  ·cases e
 ·cases e
end
end PU
namespace PU
open PySem PySem.Spec PyProof.Rows L2
variable[TW]
structure StOk(K:JH)(B:Hp×Hp)(H:Hp)(σ:L2.St)(ρ:PSt):Prop where
 len:ρ.length=σ.length
 same:Same B.1 H
 kp:Kp B.2 H
 vw:View K H σ ρ
 fresh:∀(i:Nat)(p:PV)(a:Addr),ρ[i]?=some (.own p)->σ[i]?=some (some (.ref a))->B.1 a=none
 apart:∀(i j:Nat)(p q:PV)(a:Addr),ρ[i]?=some (.own p)->ρ[j]?=some (.own q)->σ[i]?=some (some (.ref a))->σ[j]?=some (some (.ref a))->i=j
 pinned:∀(i:Nat)(ps:List PV)(a:Addr),ρ[i]?=some (.pin ps a)->B.1 a≠none
section
variable{K : JH}{B : Hp×Hp}{H H' : Hp}{σ : L2.St}{ρ : PSt}{i : Nat}{p q : PV}{v : V}{a : Addr}
theorem StOk.grow(S:StOk K B H σ ρ)(s:Same H H'):StOk K B H' σ ρ:=⟨S.len,S.same.trans s,S.kp.trans (Same.kp s),S.vw.same s,S.fresh,S.apart,S.pinned⟩
theorem bw{α:Type}{l:List α}{i j:Nat}{x y:α}(h:(l.set i x)[j]?=some y):(j=i/\y=x/\i<l.length)\/(j≠i/\l[j]?=some y):=by
 rw[P3] at h
 by_cases e:i=j
 ·subst e
  rw[if_pos rfl] at h;split at h
  ·rename_i hl
   cases h;exact .inl ⟨rfl,rfl,hl⟩
  ·cases h
 ·rw[if_neg e] at h
  exact .inr ⟨fun z=>e z.symm,h⟩
theorem aM{α:Type}{l:List α}{i j:Nat}{x:α}(h:j≠i):(l.set i x)[j]?=l[j]?:=by
 rw[P3,if_neg fun z=>h z.symm]
theorem cE{α:Type}{l:List α}{i:Nat}{x:α}(h:i<l.length):(l.set i x)[i]?=some x:=by
 rw[P3,if_pos rfl,if_pos h]
theorem StOk.setV(S:StOk K B H σ ρ)(r:Rep K H p v):StOk K B H (σ.set i (some v)) (ρ.set i (.val p)):=by
 refine⟨by simp[S.len],S.same,S.kp,⟨fun j l e=>?_,S.vw.tb⟩,fun j q b e f=>?_,fun j k q q' b e1 e2 f1 f2=>?_,fun j qs b e=>?_⟩
 ·rcases bw e with⟨rfl,rfl,hl⟩|⟨hj,e⟩
  ·exact⟨v,cE (by rw[← S.len];exact hl),r⟩
  ·rw[aM hj]
   exact S.vw j l e
 ·rcases bw e with⟨_,z,_⟩|⟨hj,e⟩
  ·cases z
  ·rw[aM hj] at f
   exact S.fresh j q b e f
 ·rcases bw e1 with⟨_,z,_⟩|⟨hj,e1⟩
  ·cases z
  ·rcases bw e2 with⟨_,z,_⟩|⟨hk,e2⟩
   ·cases z
   ·rw[aM hj] at f1
    rw[aM hk] at f2;exact S.apart j k q q' b e1 e2 f1 f2
 ·rcases bw e with⟨_,z,_⟩|⟨hj,e⟩
  ·cases z
  ·exact S.pinned j qs b e
theorem StOk.setNo(S:StOk K B H σ ρ):StOk K B H (σ.set i (some v)) (ρ.set i .no):=by
 refine⟨by simp[S.len],S.same,S.kp,⟨fun j l e=>?_,S.vw.tb⟩,fun j q b e f=>?_,fun j k q q' b e1 e2 f1 f2=>?_,fun j qs b e=>?_⟩
 ·rcases bw e with⟨rfl,rfl,hl⟩|⟨hj,e⟩
  ·exact trivial
  ·rw[aM hj]
   exact S.vw j l e
 ·rcases bw e with⟨_,z,_⟩|⟨hj,e⟩
  ·cases z
  ·rw[aM hj] at f
   exact S.fresh j q b e f
 ·rcases bw e1 with⟨_,z,_⟩|⟨hj,e1⟩
  ·cases z
  ·rcases bw e2 with⟨_,z,_⟩|⟨hk,e2⟩
   ·cases z
   ·rw[aM hj] at f1
    rw[aM hk] at f2;exact S.apart j k q q' b e1 e2 f1 f2
 ·rcases bw e with⟨_,z,_⟩|⟨hj,e⟩
  ·cases z
  ·exact S.pinned j qs b e
theorem StOk.setN(S:StOk K B H σ ρ)(s:Same H H')(n:H a=none)(r:bY K H' a p):StOk K B H' (σ.set i (some (.ref a))) (ρ.set i (.own p)):=by
 have other:∀(j:Nat)(q:PV),ρ[j]?=some (.own q)->σ[j]?≠some (some (.ref a)):=fun j q e f=>by
  obtain⟨b,e2,w⟩:=S.vw j _ e;rw[f] at e2;cases e2;cases q with
  | lst ps=>obtain⟨_,w,_⟩:=w;rw[n] at w;cases w
  | dct ks ps=>obtain⟨_,w,_⟩:=w;rw[n] at w;cases w
  | dtt ks ps=>obtain⟨_,w,_⟩:=w;rw[n] at w;cases w
  | _=>exact w
 refine⟨by simp[S.len],S.same.trans s,S.kp.trans (Same.kp s),⟨fun j l e=>?_,s.tabs S.vw.tb⟩,fun j q b e f=>?_,fun j k q q' b e1 e2 f1 f2=>?_,fun j qs b e=>?_⟩
 ·rcases bw e with⟨rfl,rfl,hl⟩|⟨hj,e⟩
  ·exact⟨a,cE (by rw[← S.len];exact hl),r⟩
  ·rw[aM hj]
   exact(S.vw j l e).same s
 ·rcases bw e with⟨rfl,_,hl⟩|⟨hj,e⟩
  ·rw[cE (by rw[← S.len];exact hl)] at f
   cases f;exact S.same.free n
  ·rw[aM hj] at f
   exact S.fresh j q b e f
 ·rcases bw e1 with⟨h1,_,hl⟩|⟨hj,d1⟩
  ·rcases bw e2 with⟨h2,_,_⟩|⟨hk,d2⟩
   ·rw[h1,h2]
   ·subst h1
    rw[cE (by rw[← S.len];exact hl)] at f1;cases f1;rw[aM hk] at f2;exact absurd f2 (other k q' d2)
  ·rcases bw e2 with⟨h2,_,hl⟩|⟨hk,d2⟩
   ·subst h2
    rw[cE (by rw[← S.len];exact hl)] at f2;cases f2;rw[aM hj] at f1;exact absurd f1 (other j q d1)
   ·rw[aM hj] at f1
    rw[aM hk] at f2;exact S.apart j k q q' b d1 d2 f1 f2
 ·rcases bw e with⟨_,z,_⟩|⟨hj,e⟩
  ·cases z
  ·exact S.pinned j qs b e
theorem bY.obj(h:bY K H a p):∃u,H a=some u/\uX u=false:=by
 cases p with
 | lst ps=>obtain⟨_,w,_⟩:=h;exact⟨_,w,rfl⟩
 | dct ks ps=>obtain⟨_,w,_⟩:=h;exact⟨_,w,rfl⟩
 | dtt ks ps=>obtain⟨_,w,_⟩:=h;exact⟨_,w,rfl⟩
 | _=>exact JP h
theorem bY.kp(k:Kp H H')(e:H' a=H a)(h:bY K H a p):bY K H' a p:=by
 cases p with
 | lst ps=>obtain⟨xs,w,r⟩:=h;exact⟨xs,by rw[e];exact w,r.kp k⟩
 | dct ks ps=>obtain⟨xs,w,z,r⟩:=h;exact⟨xs,by rw[e];exact w,z,r.kp k⟩
 | dtt ks ps=>obtain⟨xs,w,z,r⟩:=h;exact⟨xs,by rw[e];exact w,z,r.kp k⟩
 | _=>exact h
theorem StOk.turn{l':Sl}(S:StOk K B H σ ρ)(e:ρ[i]?=some (.own p))(f:σ[i]?=some (some (.ref a)))(oth:∀b,b≠a->H' b=H b)(hl:Cb K H' (some (some (.ref a))) l')(hn:∀ps b,l'≠.pin ps b:=by intro _ _ h;cases h):StOk K B H' σ (ρ.set i l'):=by
 obtain⟨b,f2,w⟩:=S.vw i _ e;rw[f] at f2;cases f2;obtain⟨u,hu,nf⟩:=w.obj;have fa:=S.fresh i p a e f
 have k:Kp H H':=fun b u' eb fb=>by
  have:b≠a:=fun z=>by
   subst z;rw[hu] at eb;cases eb;rw[nf] at fb;cases fb
  rw[oth b this];exact eb
 have ne:∀(j:Nat)(q:PV)(b:Addr),j≠i->ρ[j]?=some (.own q)->σ[j]?=some (some (.ref b))->b≠a:=fun j q b hj e2 f2 z=>by
  subst z;exact hj (S.apart j i q p b e2 e f2 f)
 refine⟨by simp[S.len],S.same.but fa (fun u h=>(w.nt u h).1) oth,S.kp.trans k,⟨fun j l ej=>?_,S.vw.tb.but w.nt oth⟩,fun j q b ej fj=>?_,fun j m q q' b e1 e2 f1 f2=>?_,fun j qs b e=>?_⟩
 ·rcases bw ej with⟨rfl,rfl,hl2⟩|⟨hj,ej⟩
  ·rw[f]
   exact hl
  ·have:=S.vw j l ej
   cases l with
   | no=>exact trivial
   | val q=>obtain⟨v,e1,r⟩:=this;exact⟨v,e1,r.kp k⟩
   | own q=>
    obtain⟨b,e1,r⟩:=this;exact⟨b,e1,r.kp k (oth b (ne j q b hj ej e1))⟩
   | pin qs b=>
    exact⟨this.1,this.2.kp k (oth b fun z=>S.pinned j qs b ej (by rw[z];exact fa))⟩
 ·rcases bw ej with⟨rfl,_,_⟩|⟨hj,ej⟩
  ·rw[f] at fj
   cases fj;exact fa
  ·exact S.fresh j q b ej fj
 ·have fix:∀(j:Nat)(q:PV),(ρ.set i l')[j]?=some (.own q)->∃q',ρ[j]?=some (.own q'):=fun j q ej=>by
   rcases bw ej with⟨rfl,_,_⟩|⟨hj,ej⟩
   ·exact⟨p,e⟩
   ·exact⟨q,ej⟩
  obtain⟨q1,g1⟩:=fix j q e1;obtain⟨q2,g2⟩:=fix m q' e2;exact S.apart j m q1 q2 b g1 g2 f1 f2
 ·rcases bw e with⟨_,z,_⟩|⟨hj,e⟩
  ·exact absurd z.symm (hn qs b)
  ·exact S.pinned j qs b e
theorem StOk.rebase{B':Hp}(S:StOk K B H σ ρ)(k:Kp B' H):StOk K (B.1,B') H σ ρ:=⟨S.len,S.same,k,S.vw,S.fresh,S.apart,S.pinned⟩
end
def RS(C:Cn)(B:Hp×Hp)(D:Ends):R Fl->Prop
 | .ok (.next ρ)=>∀σ H,StOk C.X.K B H σ ρ->D.nx σ H
 | .ok (.brk ρ)=>∀σ H,StOk C.X.K B H σ ρ->D.bk σ H
 | .ok (.cont ρ)=>∀σ H,StOk C.X.K B H σ ρ->D.ct σ H
 | .ok (.ret p)=>∀v H,Same B.1 H->Rep C.X.K H p v->D.rt v H
 | .er x=>∀H,Same B.1 H->C.Ac x H
 | .no=>False
noncomputable def tS(C:Cn)(g:PSt->R Fl):TS:=fun D σ H=>∃ρ B,StOk C.X.K B H σ ρ/\RS C B D (g ρ)
def SV(C:Cn)(st:Stmt)(g:PSt->R Fl):Prop:=PS C.X st (tS C g)
def SVs(C:Cn)(st:List Stmt)(g:PSt->R Fl):Prop:=PSs C.X st (tS C g)
section
variable{C : Cn}{B : Hp×Hp}{D : Ends}{H : Hp}{α : Type}
theorem RS.bind{r:R α}{g:α->R Fl}(h:RS C B D (r >>= g))(s:Same B.1 H):RQ C H r fun a=>RS C B D (g a):=by
 cases r with
 | ok a=>exact h
 | er x=>exact fun H' s'=>h H' (s.trans s')
 | no=>exact h
theorem RS.ofO{o:Option α}{g:α->R Fl}(h:RS C B D (R.ofO o >>= g)):∃a,o=some a/\RS C B D (g a):=by
 cases o with
 | none=>exact JP h
 | some a=>exact⟨a,rfl,h⟩
end
section
variable{C : Cn}{st : Stmt}{sts a b body : List Stmt}{e tg iter c : Expr}{f fk : PSt → R PV}{g g' : PSt → R Fl}{pos : La}{t : PSt → R Bool}
theorem br:SVs C [] cO:=fun pins s σ H D I ⟨ρ,B,S,h⟩=>u9 pins s σ H D I (h σ H S)
theorem ah(h1:SV C st g)(h2:SVs C sts g'):SVs C (st::sts) (aU g g'):=by
 intro pins s σ H D I ⟨ρ,B,S,h⟩;refine dC h1 h2 pins s σ H D I ⟨ρ,B,S,?_⟩;unfold aU at h;cases hg:g ρ with
 | ok fl=>
  rw[hg] at h;cases fl with
  | next ρ'=>exact fun σ' H' S'=>⟨ρ',B,S',h⟩
  | brk ρ'=>exact h
  | cont ρ'=>exact h
  | ret p=>exact h
 | er x=>rw[hg] at h;exact h
 | no=>rw[hg] at h;exact h
theorem aj(h1:SV C st g):SVs C [st] g:=by
 intro pins s σ H D I ⟨ρ,B,S,h⟩;exact iN h1 pins s σ H D I ⟨ρ,B,S,h⟩
theorem x5:SV C (.Break pos) EY:=fun pins s σ H D I ⟨ρ,B,S,h⟩=>xr pins s σ H D I (h σ H S)
theorem aN(he:EV C e f):SV C (.Return (some e) pos) (cG f):=by
 intro pins s σ H D I ⟨ρ,B,S,h⟩;exact lI he pins s σ H D I ⟨ρ,S.vw,(h.bind S.same).imp fun p _ k v H' s' r=>k v H' (S.same.trans s') r⟩
theorem dM(hc:ET C c t)(ha:SVs C a g)(hb:SVs C b g'):SV C (.If c a b pos) (ifF t g g'):=by
 intro pins s σ H D I ⟨ρ,B,S,h⟩;refine D9 hc ha hb pins s σ H D I ⟨ρ,S.vw,(h.bind S.same).imp fun k _ q H' s'=>?_⟩;cases k with
 | true=>exact E7 ⟨ρ,B,S.grow s',q⟩
 | false=>exact E8 ⟨ρ,B,S.grow s',q⟩
theorem aJ(i:Nat){x:Str}{pos':La}(hN:C.X.N.Nodup)(he:EV C e f)(hs:MK e (some (.Name x pos')) pos.line C.X.env=pure false:=by rfl)
  (hf:C.X.fn x=true\/C.X.env.scope.names.lookup x=some .local:=by first | exact .inl rfl | exact .inr rfl | assumption) (hi:C.X.N[i]?=some x:=by rfl) (hx:Loc C.X.env.scope x:=by first | exact .inl rfl | exact .inr rfl) :
  SV C (.Assign [.Name x pos'] e pos) (cn i f):=by
 intro pins s σ H D I ⟨ρ,B,S,h⟩;exact qQ hN hi hx he hs hf pins s σ H D I ⟨ρ,S.vw,(h.bind S.same).imp fun p _ k v H' s' r=>k _ H' ((S.grow s').setV r)⟩
theorem gC(i:Nat){x:Str}{pos':La}(hN:C.X.N.Nodup)(he:EN C e f)(hs:MK e (some (.Name x pos')) pos.line C.X.env=pure false:=by rfl)
  (hf:C.X.fn x=true\/C.X.env.scope.names.lookup x=some .local:=by first | exact .inl rfl | exact .inr rfl | assumption) (hi:C.X.N[i]?=some x:=by rfl) (hx:Loc C.X.env.scope x:=by first | exact .inl rfl | exact .inr rfl) :
  SV C (.Assign [.Name x pos'] e pos) (pI i f):=by
 intro pins s σ H D I ⟨ρ,B,S,h⟩;exact qQ hN hi hx he hs hf pins s σ H D I ⟨ρ,S.vw,(h.bind S.same).imp fun p _ k a H' s' n r=>k _ H' (S.setN s' n r)⟩
theorem Eh{pins:List (Addr×Obj)}{s:JM}{σ:L2.St}{H:Hp}{B:Hp×Hp}{ρ:PSt}(i:Nat)(I:Inv C.X pins σ H s)(S:StOk C.X.K B H σ ρ):∃H',Inv C.X pins σ H' s/\StOk C.X.K B H' σ (vi i ρ):=by
 unfold vi
 split
 ·rename_i p e
  obtain⟨a,f,w⟩:=S.vw i _ e;obtain⟨H',I',rp,oth⟩:=L2.Inv.frz I w;exact⟨H',I',S.turn e f oth ⟨_,rfl,rp⟩⟩
 ·exact⟨H,I,S⟩
theorem SV.frz(i:Nat)(h:SV C st g):SV C st (zI i g):=by
 intro pins s σ H D I ⟨ρ,B,S,q⟩;obtain⟨H',I',S'⟩:=Eh i I S;exact h pins s σ H' D I' ⟨_,B,S',q⟩
noncomputable def tTg(C:Cn)(h:PV->PSt->Option PSt):TG:=fun v σ H Q=>∃ρ B p ρ',StOk C.X.K B H σ ρ/\Rep C.X.K H p v/\h p ρ=some ρ'/\∀σ',StOk C.X.K B H σ' ρ'->Q σ' H
def TGt(C:Cn)(tg:Expr)(h:PV->PSt->Option PSt):Prop:=PG C.X tg (tTg C h)
noncomputable def Iw(C:Cn)(h:List PV->PSt->Option PSt):TGs:=fun vs σ H Q=>∃ρ B ps ρ',StOk C.X.K B H σ ρ/\aB C.X.K H ps vs/\h ps ρ=some ρ'/\∀σ',StOk C.X.K B H σ' ρ'->Q σ' H
def C0(C:Cn)(ts:List Expr)(h:List PV->PSt->Option PSt):Prop:=PGs C.X ts (Iw C h)
theorem aZ(i:Nat){x:Str}(hN:C.X.N.Nodup)(hf:C.X.fn x=true\/C.X.env.scope.names.lookup x=some .local:=by first | exact .inl rfl | exact .inr rfl | assumption)(hi:C.X.N[i]?=some x:=by rfl)(hx:Loc C.X.env.scope x:=by first | exact .inl rfl | exact .inr rfl) :
  TGt C (.Name x pos) (aC i):=by
 intro pins s σ H v u Q I r ⟨ρ,B,p,ρ',S,rp,e,k⟩;cases e;exact mI hN hi hx hf pins s σ H v u Q I r (k _ (S.setV rp))
theorem gJ:C0 C [] jv:=by
 intro pins s σ H vs us Q I r ⟨ρ,B,ps,ρ',S,rp,e,k⟩;cases ps with
 | nil=>cases e;cases rp;exact ug pins s σ H _ us Q I r ⟨rfl,k _ S⟩
 | cons _ _=>cases e
theorem bO{es:List Expr}{h:PV->PSt->Option PSt}{h':List PV->PSt->Option PSt}(h1:TGt C e h)(h2:C0 C es h')(hs:(Lo (e::es) C.X.env).map (·.2)=Ot e C.X.env::(Lo es C.X.env).map (·.2):=by rfl):C0 C (e::es) (bt h h'):=by
 intro pins s σ H vs us Q I r ⟨ρ,B,ps,ρ',S,rp,ee,k⟩;cases ps with
 | nil=>cases ee
 | cons p qs=>
  obtain⟨x,xs,rfl,rp1,rp2⟩:=rp;have ee:(h p ρ).bind (fun ρ1=>h' qs ρ1)=some ρ':=ee;obtain⟨ρ1,e1,e2⟩:=K3.mp ee;exact qS h1 h2 hs pins s σ H _ us Q I r ⟨x,xs,rfl,ρ,B,p,ρ1,S,rp1,e1,fun σ1 S1=>⟨ρ1,B,qs,ρ',S1,rp2,e2,k⟩⟩
end
end PU
namespace PU
open PySem PySem.Spec PyProof.Rows L2
variable[TW]
section
variable{C : Cn}{st : Stmt}{sts a b body : List Stmt}{e tg iter c : Expr}{f fk : PSt → R PV}{g g' : PSt → R Fl}{pos : La}{t : PSt → R Bool}
theorem jL{es:List Expr}{k n:Nat}{h:List PV->PSt->Option PSt}(hc:C.X.calm=true)(hh:C0 C es h)
  (hn:(Lo es C.X.env).length=n:=by rfl) (hst:(Lo es C.X.env).findIdx? (·.1)=none:=by rfl):TGt C (.Tuple es k pos) (jq n h):=by
 intro pins s σ H v u Q I r ⟨ρ,B,p,ρ',S,rp,e,k⟩;cases p with
 | tup ps=>
  have e:(if ps.length=n then h ps ρ else none)=some ρ':=e
  by_cases hl:ps.length=n
  ·rw[if_pos hl] at e
   obtain⟨a,xs,rfl,hq,r1⟩:=rp;exact zh hc hh hn hst pins s σ H _ u Q I r ⟨a,xs,rfl,tq hq,by rw[← r1.length];exact hl,ρ,B,ps,ρ',S,r1,e,k⟩
  ·rw[if_neg hl] at e
   cases e
 | _=>cases e
def ItP(K:JH)(J:It)(H₁:Hp)(ps:List PV):Prop:=
 ∀(i:Nat)(H:Hp),Kp H₁ H->(i=ps.length->J.stop i H)/\∀p,ps[i]?=some p->J.go i H/\∀x H',J.yld i H x H'->Same H H'/\Rep K H' p x
noncomputable def tI(C:Cn)(f:PSt->R (List PV)):TI:=fun σ H Q=>∃ρ,View C.X.K H σ ρ/\RQ C H (f ρ) fun ps=>∀J H',Same H H'->ItP C.X.K J H' ps->Q J H'
def EI(C:Cn)(tg iter:Expr)(f:PSt->R (List PV)):Prop:=PI C.X tg iter (tI C f)
theorem rH{α:Type}{l:List α}{i:Nat}{x:α}(h:l[i]?=some x):l.drop i=x::l.drop (i+1):=by
 obtain⟨hl,e⟩:=JL.mp h;rw[Nk hl,e]
theorem cW{fi:PSt->R (List PV)}{h:PV->PSt->Option PSt}(hi:EI C tg iter fi)(hg:TGt C tg h)(hb:SVs C body g)
  (hs:∀x,N4 iter C.X.env x=pure x:=by intro _;rfl) (hp:Qr (KM C.X.prog C.X.w) C.X.A C.X.env C.X.xe:=by exact QV) (hc:C.X.calm=true:=by rfl):SV C (.For tg iter body [] pos) (kJ fi h g):=by
 intro pins s σ H D I ⟨ρ,B,S,q⟩;refine Dc hp hc hi hg hb hs pins s σ H D I ⟨ρ,S.vw,(q.bind S.same).imp fun ps _ k J H1 s1 it=>?_⟩;refine⟨fun i m σ' H'=>∃ρ',m=ps.length-i/\i<=ps.length/\StOk C.X.K (B.1,H1) H' σ' ρ'/\RS C B D (fO h g (ps.drop i) ρ'),⟨ps.length,ρ,rfl,Kz _,(S.grow s1).rebase (Kp.refl H1),by simpa using k⟩,?_⟩;rintro i m σ' H' ⟨ρ',rfl,hi',S',q'⟩;have back:∀{σ2:L2.St}{H2:Hp}{ρ2:PSt},StOk C.X.K (B.1,H1) H2 σ2 ρ2->StOk C.X.K B H2 σ2 ρ2:=fun {σ2 H2 ρ2} S2=>⟨S2.len,S2.same,(S.kp.trans (Same.kp s1)).trans S2.kp,S2.vw,S2.fresh,S2.apart,S2.pinned⟩;obtain⟨stp,stepp⟩:=it i H' S'.kp
 by_cases hlt:i<ps.length
 ·have ei:ps[i]?=some ps[i]:=by simp[hlt]
  obtain⟨go,yl⟩:=stepp _ ei;rw[rH ei] at q';obtain⟨ρ1,e1,q1⟩:=RS.ofO q';refine .inr ⟨go,fun σ2 H2=>∃ρ2,StOk C.X.K (B.1,H1) H2 σ2 ρ2/\RS C B D (fO h g (ps.drop (i+1)) ρ2),fun σ2 H2 ⟨ρ2,S2,r2⟩=>⟨ps.length-(i+1),by omega,ρ2,rfl,hlt,S2,r2⟩,fun x H2 y=>?_⟩;obtain⟨s2,rp⟩:=yl x H2 y;refine⟨ρ',(B.1,H1),ps[i],ρ1,S'.grow s2,rp,e1,fun σ3 S3=>⟨ρ1,(B.1,H1),S3,?_⟩⟩;cases hgr:g ρ1 with
  | ok fl=>
   rw[hgr] at q1;cases fl with
   | next ρ2=>exact fun σ4 H4 S4=>⟨ρ2,S4,q1⟩
   | cont ρ2=>exact fun σ4 H4 S4=>⟨ρ2,S4,q1⟩
   | brk ρ2=>exact fun σ4 H4 S4=>q1 σ4 H4 (back S4)
   | ret p=>exact q1
  | er x=>rw[hgr] at q1;exact q1
  | no=>rw[hgr] at q1;exact q1
 ·have e:i=ps.length:=by omega
  subst e;rw[O5] at q';exact .inl ⟨stp rfl,q' σ' H' (back S')⟩
end
end PU
namespace PU
open PySem PySem.Spec PyProof.Rows L2
variable[TW]
noncomputable def spP(K:JH)(n:Nat)(F:List PV->Option PV):Sp:=fun vs H Q _=>vs.length=n/\rQ H/\∃ps p,aB K H ps vs/\F ps=some p/\∀v H',Same H H'->Rep K H' p v->Q v H'
structure PF(P:K5)(w:KH)(K:JH)(mg:Str->Option JJ)(base:Heap)(k:Nat)(x:Str)(F:List PV->Option PV):Prop where
 ex:∃(f:Addr)(fd:FuncData)(ps:List Str),FnOk P w K mg base CX0 k f fd ps (spP K ps.length F)/\mg x=some (.ref f)/\LI K (.ref f)=true/\Binds K fd ps []/\∀qs p,F qs=some p->qs.length=ps.length
section
variable{C : Cn}{e : Expr}{es : List Expr}{fs : PSt → R (List PV)}{x : Str}{k : Nat}{F : List PV → Option PV}{p pos : La}
theorem ay(G:PF C.X.prog C.X.w C.X.K C.X.mg C.X.base k x F){kr:Nat}(hr:Room kr C.X.A)(ha:EA C (e::es) fs)
  (hdb:(x == ("__debug__":Str))=false:=by decide) (he:K1 (e::es) C.X.env=(false,L9 e C.X.env)::K1 es C.X.env:=by exact bC rfl) (hpl:(MM pos (K1 es C.X.env)).any (·.1)=false:=by exact fg rfl) (hk:k<=kr:=by decide) (hg:Gl C.X x:=by exact rfl) :
  EV C (.Call (.Name x p) (e::es) [] pos) (aO fs F):=by
 replace hr:=hr.mono hk;obtain⟨f,fd,ps,a,b,c,d,l⟩:=G.ex;intro pins s σ H Q I ⟨ρ,vw,q⟩;refine pW (dvs:=[]) (ds:=[]) (E:=E0) a hr hg b c d .nil AV ha hdb he hpl pins s σ H Q I ⟨ρ,vw,q.bind.imp fun qs _ k vs H1 s1 r1=>?_⟩;obtain⟨z,ez,k⟩:=k.ofO;rw[Kq];exact⟨by rw[← r1.length];exact l qs z ez,s1.tabs vw.tb,qs,z,r1,ez,fun v H' s' r'=>k v H' (s1.trans s') r'⟩
end
section
variable{P : K5}{w : KH}{K : JH}{mg : Str → Option JJ}{base : Heap}
abbrev zT(P:K5)(w:KH)(K:JH)(mg:Str->Option JJ)(base:Heap)(N:List Str)(qual:Str)(sc:Scope)(f:Addr)(cdv:JJ)(A:KY)(outer:List Ow)(s:JM)(H:Hp)(E:XK):Cn:=
 ⟨(zS CX0 P w K mg base N qual sc f cdv A outer s H E).nox,fun _ _=>False⟩
theorem zm{ps:List PV}{n i:Nat}{p:PV}(e:(start n ps)[i]?=some (.own p)):False:=by
 unfold start at e
 by_cases hi:i<ps.length
 ·rw[JW (by simpa using hi),K2] at e
  cases h:ps[i]? with
  | none=>rw[h] at e;cases e
  | some p=>rw[h] at e;cases e
 ·rw[KN (by simpa using hi),Kr] at e
  split at e <;> cases e
theorem Dx{n i:Nat}{ps qs:List PV}{a:Addr}(e:(start n ps)[i]?=some (.pin qs a)):False:=by
 unfold start at e
 by_cases hi:i<ps.length
 ·rw[JW (by simpa using hi),K2] at e
  cases h:ps[i]? with
  | none=>rw[h] at e;cases e
  | some p=>rw[h] at e;cases e
 ·rw[KN (by simpa using hi),Kr] at e
  split at e <;> cases e
theorem gk{K:JH}{H:Hp}{N:List Str}{ps:List PV}{vs:List V}(tb:rQ H)(r:aB K H ps vs):StOk K (H,H) H (L2.start N vs) (start N.length ps):=by
 have hl:=r.length;refine⟨by simp[start,L2.start,hl],Same.refl H,Kp.refl H,⟨fun i l e=>?_,tb⟩,fun i p a e f=>?_,fun i j p q a e1 e2 f1 f2=>?_,fun i qs a e=>?_⟩
 ·unfold start at e
  by_cases hi:i<ps.length
  ·rw[JW (by simpa using hi),K2] at e
   cases h:ps[i]? with
   | none=>rw[h] at e;cases e
   | some p=>
    rw[h] at e;cases e;obtain⟨v,ev,rp⟩:=r.get h;refine⟨v,?_,rp⟩;unfold L2.start;rw[JW (by rw[JT,← hl];exact hi),K2,ev];rfl
  ·rw[KN (by simpa using hi),Kr] at e
   split at e
   ·cases e
    exact trivial
   ·cases e
 all_goals exfalso
 ·exact zm e
 ·exact zm e1
 ·exact Dx e
theorem Gp{x qual:Str}{st:Stmt}{f:Addr}{fd:FuncData}{N ps:List Str}{k:Nat}{g:PSt->R Fl}(F:Fun K x qual st f fd)(S:FnScope N ps (ae st))(hm:mg x=some (.ref f))(hb:Binds K fd ps [])
  (hbody:∀(cdv:JJ)(A:KY)(outer:List Ow)(s:JM)(H:Hp)(E:XK),Room k (A.deeper (Mm qual (ae st) s.heap.objs.size f cdv))->SVs (zT P w K mg base N qual (ae st) f cdv A outer s H E) (aW st) g) :
  PF P w K mg base (k+1) x (ff ps.length N.length g):=by
 refine⟨f,fd,ps,F.ok S (fun vs H Q E h=>h.1) (fun cdv A outer s H vs Q E hr h=>?_),hm,F.kp,hb,fun qs p h=>?_⟩
 ·obtain⟨hl,tb,qs,p,r,e,k⟩:=h
  refine⟨_,hbody cdv A outer s H E hr,start N.length qs,(H,H),gk tb r,?_⟩;unfold ff at e;rw[if_pos (by rw[r.length];exact hl)] at e;cases hg:g (start N.length qs) with
  | ok fl=>
   rw[hg] at e;cases fl with
   | next ρ=>cases e;exact fun σ H' S'=>k .non H' S'.same rfl
   | ret q=>cases e;exact fun v H' s' r'=>k v H' s' r'
   | brk ρ=>cases e
   | cont ρ=>cases e
  | er x=>rw[hg] at e;cases e
  | no=>rw[hg] at e;cases e
 ·unfold ff at h
  split at h
  ·rename_i hl;exact hl
  ·cases h
end
end PU
namespace PU
open PySem PySem.Spec PyProof.Rows L2
variable[TW]
noncomputable def fM(X:Cx)(N':List Str)(scope:Scope)(cl:List (Str×Addr))(L:Addr)(s₂:JM)(H₂:Hp)(fp:List Addr):Cx where
 prog:=X.prog
 w:=X.w
 K:=X.K
 mg:=X.mg
 base:=X.base
 A:=X.A
 N:=N'
 s₀:=s₂
 H₀:=H₂
 env:=compEnvC scope cl L X.env
 outer:=X.stack
 stack:=X.stack
 ex:=fp
 fn:=fun _=>false
 calm:=true
 pn:=[]
 xe:=fun _ _=>False
abbrev dA(C:Cn)(N':List Str)(scope:Scope)(cl:List (Str×Addr))(L:Addr)(s₂:JM)(H₂:Hp)(fp:List Addr):Cn:=⟨fM C.X N' scope cl L s₂ H₂ fp,fun _ _=>False⟩
noncomputable def tTc(C:Cn)(h:Tgt):TG:=fun v σ H Q=>∃ρ p ρ',ρ.length=σ.length/\View C.X.K H σ ρ/\Rep C.X.K H p v/\h p ρ=some ρ'/\∀σ',ρ'.length=σ'.length->View C.X.K H σ' ρ'->Q σ' H
def TCt(C:Cn)(tg:Expr)(h:Tgt):Prop:=PG C.X tg (tTc C h)
noncomputable def Iy(C:Cn)(h:wc):TGs:=fun vs σ H Q=>∃ρ ps ρ',ρ.length=σ.length/\View C.X.K H σ ρ/\aB C.X.K H ps vs/\h ps ρ=some ρ'/\∀σ',ρ'.length=σ'.length->View C.X.K H σ' ρ'->Q σ' H
def C1(C:Cn)(ts:List Expr)(h:wc):Prop:=PGs C.X ts (Iy C h)
theorem View.setV{K:JH}{H:Hp}{σ:L2.St}{ρ:PSt}{i:Nat}{p:PV}{v:V}(vw:View K H σ ρ)(hl:ρ.length=σ.length)(r:Rep K H p v):View K H (σ.set i (some v)) (ρ.set i (.val p)):=by
 refine⟨fun j l e=>?_,vw.tb⟩;rcases bw e with⟨rfl,rfl,hl2⟩|⟨hj,e⟩
 ·exact⟨v,cE (by rw[← hl];exact hl2),r⟩
 ·rw[aM hj]
  exact vw j l e
section
variable{C : Cn}{e : Expr}{pos : La}
theorem Ak(i:Nat){x:Str}(hN:C.X.N.Nodup)(hi:C.X.N[i]?=some x)(hx:Loc C.X.env.scope x)(hf:C.X.fn x=true\/C.X.env.scope.names.lookup x=some .local:=by first | exact .inl rfl | exact .inr rfl | assumption) :
  TCt C (.Name x pos) (aC i):=by
 intro pins s σ H v u Q I r ⟨ρ,p,ρ',hl,vw,rp,e,k⟩;cases e;exact mI hN hi hx hf pins s σ H v u Q I r (k _ (by simp[hl]) (vw.setV hl rp))
theorem tG:C1 C [] jv:=by
 intro pins s σ H vs us Q I r ⟨ρ,ps,ρ',hl,vw,rp,e,k⟩;cases ps with
 | nil=>cases e;cases rp;exact ug pins s σ H _ us Q I r ⟨rfl,k _ hl vw⟩
 | cons _ _=>cases e
theorem jr{es:List Expr}{h:Tgt}{h':wc}(h1:TCt C e h)(h2:C1 C es h')(hs:(Lo (e::es) C.X.env).map (·.2)=Ot e C.X.env::(Lo es C.X.env).map (·.2):=by rfl):C1 C (e::es) (bt h h'):=by
 intro pins s σ H vs us Q I r ⟨ρ,ps,ρ',hl,vw,rp,ee,k⟩;cases ps with
 | nil=>cases ee
 | cons p qs=>
  obtain⟨x,xs,rfl,rp1,rp2⟩:=rp;have ee:(h p ρ).bind (fun ρ1=>h' qs ρ1)=some ρ':=ee;obtain⟨ρ1,e1,e2⟩:=K3.mp ee;exact qS h1 h2 hs pins s σ H _ us Q I r ⟨x,xs,rfl,ρ,p,ρ1,hl,vw,rp1,e1,fun σ1 hl1 vw1=>⟨ρ1,qs,ρ',hl1,vw1,rp2,e2,k⟩⟩
theorem yS{es:List Expr}{k n:Nat}{h:wc}(hc:C.X.calm=true)(hh:C1 C es h)
  (hn:(Lo es C.X.env).length=n:=by rfl) (hst:(Lo es C.X.env).findIdx? (·.1)=none:=by rfl):TCt C (.Tuple es k pos) (jq n h):=by
 intro pins s σ H v u Q I r ⟨ρ,p,ρ',hl,vw,rp,e,k⟩;cases p with
 | tup ps=>
  have e:(if ps.length=n then h ps ρ else none)=some ρ':=e
  by_cases hl2:ps.length=n
  ·rw[if_pos hl2] at e
   obtain⟨a,xs,rfl,hq,r1⟩:=rp;exact zh hc hh hn hst pins s σ H _ u Q I r ⟨a,xs,rfl,tq hq,by rw[← r1.length];exact hl2,ρ,ps,ρ',hl,vw,r1,e,k⟩
  ·rw[if_neg hl2] at e
   cases e
 | _=>cases e
end
def C2(n:Nat)(h:Tgt):Prop:=∀p ρ ρ1,h p ρ=some ρ1->ρ1.length=ρ.length/\∀i,n<=i->ρ1[i]?=ρ[i]?
def yG(n:Nat)(h:wc):Prop:=∀p ρ ρ1,h p ρ=some ρ1->ρ1.length=ρ.length/\∀i,n<=i->ρ1[i]?=ρ[i]?
theorem mP{n i:Nat}(h:i<n):C2 n (aC i):=fun p ρ ρ1 e=>by
 cases e;exact⟨by simp,fun j hj=>aM (by omega)⟩
theorem qb{n:Nat}:yG n jv:=fun ps ρ ρ1 e=>by
 cases ps with
 | nil=>cases e;exact⟨rfl,fun _ _=>rfl⟩
 | cons _ _=>cases e
theorem mQ{n:Nat}{h:Tgt}{h':wc}(a:C2 n h)(b:yG n h'):yG n (bt h h'):=fun ps ρ ρ2 e=>by
 cases ps with
 | nil=>cases e
 | cons p qs=>
  have e:(h p ρ).bind (fun ρ1=>h' qs ρ1)=some ρ2:=e;obtain⟨ρ1,e1,e2⟩:=K3.mp e;obtain⟨l1,g1⟩:=a p ρ ρ1 e1;obtain⟨l2,g2⟩:=b qs ρ1 ρ2 e2;exact⟨l2.trans l1,fun i hi=>(g2 i hi).trans (g1 i hi)⟩
theorem qa{n m:Nat}{h:wc}(a:yG n h):C2 n (jq m h):=fun p ρ ρ1 e=>by
 cases p with
 | tup ps=>
  have e:(if ps.length=m then h ps ρ else none)=some ρ1:=e;split at e
  ·exact a ps ρ ρ1 e
  ·cases e
 | _=>cases e
def ETs(C:Cn)(ifs:List Expr)(t:PSt->R Bool):Prop:=(ifs=[]/\t=qB)\/∃c,ifs=[c]/\ET C c t
theorem qu{C:Cn}:ETs C [] qB:=.inl ⟨rfl,rfl⟩
noncomputable def dv(cells:List (Str×Addr)):List (Str×M6)->List (Str×Addr)->List (Str×Addr)
 | [],acc=>acc
 | (n,k)::r,acc=>if (k == .free)=true then (match cells.lookup n with
  | some c=>dv cells r ((n,c)::acc)
  | none=>dv cells r acc) else dv cells r acc
theorem bu{scope:Scope}{env:Ow}(h:∀y∈scope.names,y.2=.free->∃c,env.cells.lookup y.1=some c):closureFor scope env=pure (dv env.cells scope.names []):=by
 have gen:∀(l:List (Str×M6))(acc:List (Str×Addr)),(∀y∈l,y.2=.free->∃c,env.cells.lookup y.1=some c)->
   (forIn l acc fun x r=>(match x with | (name,kind)=>if (kind == Kn)=true then do let a<- QN env name;pure (Lk ((name,a)::r)) else pure (Lk r):Sem (ForInStep (List (Str×Addr)))))=pure (dv env.cells l acc):=by
  intro l
  induction l with
  | nil=>intro acc _;rfl
  | cons y r ih=>
   intro acc hy;obtain⟨n,k⟩:=y;rw[List.forIn_cons];have hr:=fun z hz=>hy z (KI _ hz)
   by_cases hk:(k == Kn)=true
   ·obtain⟨c,hc⟩:=hy (n,k) KJ (by simpa using hk)
    have hc:env.cells.lookup n=some c:=hc;have e1:QN env n=pure c:=by unfold QN;rw[hc]
    simp only[hk,if_true,e1,dv,hc];exact ih _ hr
   ·simp only[hk,if_false,dv]
    exact ih _ hr
 have:=gen scope.names [] h;have e:closureFor scope env=((forIn scope.names ([]:List (Str×Addr)) fun x r=>(match x with | (name,kind)=>if (kind == Kn)=true then do let a<- QN env name;pure (Lk ((name,a)::r)) else pure (Lk r):Sem (ForInStep (List (Str×Addr))))) >>= fun cs=>pure cs):=rfl;rw[e,this];rfl
theorem dh{cells:List (Str×Addr)}{x:Str}{c:Addr}:∀{l:List (Str×M6)}{acc:List (Str×Addr)},(dv cells l acc).lookup x=some c->cells.lookup x=some c\/acc.lookup x=some c
 | [],acc,h=>.inr h
 | (n,k)::r,acc,h=>by
  unfold dv at h;split at h
  ·split at h
   ·rename_i d hd
    rcases dh h with z | z
    ·exact .inl z
    ·rw[KR] at z
     by_cases e:(x == n)=true
     ·rw[e] at z
      cases z;rw[Mi e];exact .inl hd
     ·simp only[MX] at e
      rw[e] at z;exact .inr z
   ·exact dh h
  ·exact dh h
theorem iD{cells:List (Str×Addr)}{x:Str}:∀{l:List (Str×M6)}{acc:List (Str×Addr)},(acc.lookup x).isSome=true->((dv cells l acc).lookup x).isSome=true
 | [],acc,h=>h
 | (n,k)::r,acc,h=>by
  unfold dv
  split
  ·split
   ·refine iD ?_
    rw[KR]
    split
    ·rfl
    ·exact h
   ·exact iD h
  ·exact iD h
theorem rM{cells:List (Str×Addr)}{x:Str}{c:Addr}(hc:cells.lookup x=some c):∀{l:List (Str×M6)}{acc:List (Str×Addr)},(x,Kn)∈l->(dv cells l acc).lookup x=some c:=by
 have fin:∀{l:List (Str×M6)}{acc:List (Str×Addr)},(∀d,acc.lookup x=some d->d=c)->((dv cells l acc).lookup x).isSome=true->(dv cells l acc).lookup x=some c:=fun {l acc} ha h=>by
  obtain⟨d,hd⟩:=Ni.mp h;rcases dh hd with z | z
  ·rw[hc] at z;cases z;exact hd
  ·rw[hd,ha d z]
 intro l
 induction l with
 | nil=>intro acc h;cases h
 | cons y r ih=>
  intro acc h;obtain⟨n,k⟩:=y;have rest:∀acc,(x,Kn)∈r->(dv cells r acc).lookup x=some c:=fun acc hr=>ih hr;rcases K9.mp h with z | z
  ·cases z
   unfold dv;rw[if_pos (show (Kn == Kn)=true from rfl),hc];show (dv cells r ((x,c)::acc)).lookup x=some c;have hs:(((x,c)::acc).lookup x)=some c:=by rw[KR,beq_self_eq_true]
   exact fin (fun d hd=>by rw[hs] at hd;cases hd;rfl) (iD (by rw[hs];rfl))
  ·unfold dv
   split
   ·split
    ·exact rest _ z
    ·exact rest _ z
   ·exact rest _ z
theorem gG{env:Ow}{x:Str}:∀{names:List (Str×M6)},names.lookup x=some .free->
  (names.map fun (n,k)=>if (k == Kn && env.scope.kind == .function && env.kindOf n == some .cell) then (n,OM) else (n,k)).lookup x=some .cell ∨
  (names.map fun (n,k)=>if (k == Kn && env.scope.kind == .function && env.kindOf n == some .cell) then (n,OM) else (n,k)).lookup x=some .free
 | [],h=>by simp at h
 | (n,k)::r,h=>by
  have ih:=@gG env x r;cases hx:x == n with
  | true=>
   simp only[KR,hx] at h;cases h
   by_cases hc:(Kn == Kn && env.scope.kind == .function && env.kindOf n == some .cell)=true
   ·left
    simp only[JQ,hc,if_true,KR,hx]
   ·right
    simp only[MX] at hc;simp only[JQ,hc,Km,if_false,KR,hx]
  | false=>
   simp only[KR,hx] at h
   by_cases hc:(k == Kn && env.scope.kind == .function && env.kindOf n == some .cell)=true
   ·simp only[JQ,hc,if_true,KR,hx]
    exact ih h
   ·simp only[MX] at hc
    simp only[JQ,hc,KR,Km,if_false,hx];exact ih h
theorem pz{prog:K5}{w:KH}{A:KY}{R:R8->JM->Prop}{s:JM}{elt target iter:Expr}{ifs:List Expr}{scope:Scope}{pos:La}{it acc:JJ}{env:Ow}(I:Nat->JM->Prop)
  (turn:∀n s,I n s->JZ (KM prog w) A (Nd it) (fun r s₁=>match r with
   | none=>R (.ok .next) s₁
   | some v=>JZ (KM prog w) A (OZ target it v) (fun _ s₁=>JZ (KM prog w) A (Ot target env v) (fun _ s₂=>
     JZ (KM prog w) A (forIn ifs true fun c r=>if r=true then do let ok<- isTrue c env (L9 c env);pure (Lk ok) else pure (Lk r)) (fun ok s₃=>
      if ok=true then JZ (KM prog w) A (L9 elt env) (fun x s₄=>
       JZ (KM prog w) A (call (.builtin "list.append") [acc,x]) (fun _ s₅=>∃m,m<n/\I m s₅) (fun _ _=>False) s₄) (fun _ _=>False) s₃
      else ∃m,m<n/\I m s₃) (fun _ _=>False) s₂) (fun _ _=>False) s₁) (fun _ _=>False) s₁) (fun _ _=>False) s)
  (n:Nat) (h:I n s) :
  NR (KM prog w) A (.compLoop (.ListComp elt [⟨target,iter,ifs,0⟩] scope pos) 0 it acc env) R s:=by
 refine codeAny_loop rfl I (fun n s hI=>?_) n h;show JZ _ A ((compTurn (.ListComp elt [⟨target,iter,ifs,0⟩] scope pos) 0 it acc env).onRaise (fun x=>do noteFrame x env;theTreesLotGoes x)) _ _ s;refine wpAny_noted ?_;rw[compTurn_list];refine JI (Qd (JI (LZ (turn n s hI) (fun r s₁ h₁=>?_) fun _ _ h'=>h'.elim)));cases r with
 | none=>exact JO h₁
 | some v=>
  refine JI (LZ h₁ (fun _ s₁ h₁=>?_) fun _ _ h'=>h'.elim);refine JI (LZ h₁ (fun _ s₂ h₂=>JI (LZ h₂ (fun ok s₃ h₃=>?_) fun _ _ h'=>h'.elim)) fun _ _ h'=>h'.elim);cases ok with
  | false=>exact JO ⟨rfl,h₃⟩
  | true=>
   exact JI (JI (LZ h₃ (fun x s₄ h₄=>JI (LZ h₄ (fun _ s₅ h₅=>JO (JO ⟨rfl,h₅⟩)) fun _ _ h'=>h'.elim)) fun _ _ h'=>h'.elim))
end PU
namespace PU
open PySem PySem.Spec PyProof.Rows L2
variable[TW]
structure CompOk(NX:List Str)(scX:Scope)(scope:Scope)(N':List Str)(nt:Nat)(idx:List Nat):Prop where
 kind:scope.kind=.function
 cell:∀y∈scope.names,y.2≠.cell
 names:∀y∈scope.names,y.2=.local->scope.names.lookup y.1=some .local
 free:∀y∈scope.names,y.2=.free->scX.names.lookup y.1=some .cell\/scX.names.lookup y.1=some .free
 len:N'.length=nt+idx.length
 ix:(idx.zip (N'.drop nt)).all (fun p=>decide (NX[p.1]?=some p.2) && decide (scope.names.lookup p.2=some .free))=true
theorem CompOk.at{NX:List Str}{scX:Scope}{scope:Scope}{N':List Str}{nt:Nat}{idx:List Nat}(O:CompOk NX scX scope N' nt idx){k:Nat}{x:Str}(h:N'[nt+k]?=some x) :
  ∃i,idx[k]?=some i/\NX[i]?=some x/\scope.names.lookup x=some .free:=by
 have hk:k<idx.length:=by
  have:=(JL.mp h).1;have:=O.len;omega
 have e1:idx[k]?=some idx[k]:=by simp[hk]
 have e2:(N'.drop nt)[k]?=some x:=by rw[List.getElem?_drop];exact h
 have e3:(idx.zip (N'.drop nt))[k]?=some (idx[k],x):=by
  rw[Q3];exact⟨e1,e2⟩
 have:=N2.mp O.ix _ (KA e3);simp only[Ks,decide_eq_true_eq] at this;exact⟨_,e1,this.1,this.2⟩
section
variable{C : Cn}{elt tg iter : Expr}{ifs : List Expr}{scope : Scope}{pos : La}{N' : List Str}{nt : Nat}{idx : List Nat}{h : Tgt}{t : PSt → R Bool}{fe : PSt → R PV}
theorem sQ{pins:List (Addr×Obj)}{σ:L2.St}{H₂:Hp}{s₂:JM}{J:It}{fp:List Addr}{it:Addr}{tn:Nat->Heap->Prop}{ρ:PSt}(O:CompOk C.X.N C.X.env.scope scope N' nt idx)(hc:C.X.calm=true)
  (I:Inv C.X pins σ H₂ s₂) (T:Turn C.X.prog C.X.w C.X.K tg J fp it tn) (st:tn 0 s₂.heap) (hf:∀b∈fp,rR C.X pins H₂ b) (vw:View C.X.K H₂ σ ρ)
  {L D:Addr} {h₁:Heap} {tk:Nat} (hD:D=s₂.heap.objs.size) (hL:s₂.heap.objs.size<=L) (hDL:D≠L) (ns:h₁.Ns L (fun _=>none)) (keep:∀b o,s₂.heap.get? b=some o->h₁.get? b=some o)
  (acc:h₁.get? D=some { cls:=.type "list",data:=.seq ([]:List JJ).toArray }) :
  ∃σ',Inv (fM C.X N' scope (dv C.X.env.cells scope.names []) L s₂ H₂ fp) [] σ' (upd H₂ D (.lst [])) { s₂ with heap:=h₁,toks:=tk }/\View C.X.K (upd H₂ D (.lst [])) σ' (cF nt idx ρ)/\(cF nt idx ρ).length=σ'.length/\
   ∀b∈fp,b<s₂.heap.objs.size:=by
 have fl:∀b∈fp,b<s₂.heap.objs.size:=fun b hb=>by
  obtain⟨o,e,_⟩:=T.obj 0 _ st b hb;exact JR e
 have nD:H₂ D=none:=by rw[hD];exact I.fresh
 have frC:∀y∈scope.names,y.2=.free->∃c,C.X.env.cells.lookup y.1=some c:=fun y hy hk=>I.ok.has y.1 (O.free y hy hk)
 have clS:∀x c,(dv C.X.env.cells scope.names []).lookup x=some c->C.X.env.cells.lookup x=some c:=fun x c e=>by
  rcases dh e with z | z
  ·exact z
  ·cases z
 have cne:∀x c,(dv C.X.env.cells scope.names []).lookup x=some c->c<s₂.heap.objs.size:=fun x c e=>by
  obtain⟨v,q⟩:=I.cell x c (clS x c e);exact q.lt
 refine⟨KZ nt none++idx.map (fun i=>(σ[i]?).getD none),⟨⟨I.ok.mod,O.kind,I.ok.glob,I.ok.blt,hL,fun x y c e1 e2=>I.ok.inj x y c (clS x c e1) (clS y c e2),fun x hx=>?_,(fun x c z=>absurd (show false=true from z) JU),fun _=>I.ok.hd hc,I.ok.frames,.inl rfl,
  fun b hb=>⟨K7 (JY (fl b hb) hL),fun x c e=>(hf b hb).2.2.2.2.1 x c (clS x c e)⟩,I.bs,Ko I.ok.bsz I.sz,fun b o e hb=>?_,fun b hb z=>?_,I.stack,I.stkFree⟩,
  rfl,I.bare,Un.laid keep (QU hD.symm) nD,⟨_,ns,fun i x v hN hσ hv=>?_⟩,fun x c e=>?_,?_,fun x c e=>?_,fun p hp=>absurd (show p∈([]:List (Addr×Obj)) from hp) (by simp),?_,?_⟩,?_,?_,fl⟩
 ·-- has
  have hx:(relabel scope C.X.env).names.lookup x=some .cell\/(relabel scope C.X.env).names.lookup x=some .free:=hx
  have:scope.names.lookup x=some .free:=by
   have gen:∀(l:List (Str×M6)),(∀y∈l,y.2≠.cell)->((l.map fun (n,k)=>if (k == Kn && C.X.env.scope.kind == .function && C.X.env.kindOf n == some .cell) then (n,OM) else (n,k)).lookup x=some .cell ∨
     (l.map fun (n,k)=>if (k == Kn && C.X.env.scope.kind == .function && C.X.env.kindOf n == some .cell) then (n,OM) else (n,k)).lookup x=some .free)->l.lookup x=some .free:=by
    intro l
    induction l with
    | nil=>intro _ z;simp at z
    | cons y r ih=>
     intro hy z;obtain⟨n,k⟩:=y;have hk:k≠.cell:=hy (n,k) KJ;have ih:=ih fun y' hy'=>hy y' (KI _ hy');rw[KR]
     by_cases hc':(k == Kn && C.X.env.scope.kind == .function && C.X.env.kindOf n == some .cell)=true
     ·simp only[JQ,hc',if_true,KR] at z
      cases hx':x == n with
      | true=>
       have:k=.free:=by
        simp only[Ks] at hc';exact Mi hc'.1.1
       rw[this]
      | false=>
       rw[hx'] at z;exact ih z
     ·simp only[MX] at hc'
      simp only[JQ,hc',Km,if_false,KR] at z;cases hx':x == n with
      | true=>
       rw[hx'] at z;rcases z with z | z
       ·cases z;exact absurd rfl hk
       ·cases z;rfl
      | false=>
       rw[hx'] at z;exact ih z
   exact gen scope.names O.cell hx
  obtain⟨c,e⟩:=frC (x,.free) (Ka this) rfl;exact⟨c,rM e (Ka this)⟩
 ·-- noex
  obtain⟨e1,e2⟩:=I.bs b o e;obtain⟨g1,g2,g3,g4,_⟩:=hf b hb;rcases g4 with z | z
  ·exact I.ok.noex b o e z
  ·exact absurd (JR (I.ok.bs b o e).1) (OH.mpr z)
 ·-- exfs
  obtain⟨g1,g2,g3,_⟩:=hf b hb;exact(K9.mp (I.stkSub b z)).elim g2 g3
 ·-- loc
  by_cases hi:i<nt
  ·rw[JW (by simpa using hi),Kr,if_pos hi] at hσ
   cases hσ
  ·obtain⟨k,rfl⟩:∃k,i=nt+k:=⟨i-nt,by omega⟩
   have hN:N'[nt+k]?=some x:=hN;obtain⟨j,ej,ex,el⟩:=O.at hN;rw[KN (by simp),MB,QI,K2,ej] at hσ;have hσ:some ((σ[j]?).getD none)=some (some v):=hσ
   have hσ:σ[j]?=some (some v):=by
    cases q:σ[j]? with
    | none=>rw[q] at hσ;cases hσ
    | some z=>rw[q] at hσ;cases hσ;rfl
   obtain⟨m,hn,hl⟩:=I.loc;have hfr:=O.free (x,.free) (Ka el) rfl;obtain⟨u,ru,lk⟩:=hl j x v ex hσ (by rcases hfr with z | z;exact .inr (.inl z);exact .inr (.inr z));refine⟨u,ru,.inr ?_⟩;rcases lk with⟨z,_⟩|⟨_,c,ec,hcell⟩
   ·exfalso
    have z:C.X.env.scope.names.lookup x=some .local:=z;rcases hfr with q | q <;> (rw[show C.X.env.scope.names.lookup x=_ from q] at z;cases z)
   ·refine⟨gG (env:=C.X.env) el,c,rM ec (Ka el),?_⟩
    obtain⟨o,ho,hd⟩:=hcell;exact⟨o,keep c o ho,hd⟩
 ·obtain⟨v,o,ho,hd⟩:=I.cell x c (clS x c e)
  exact⟨v,o,keep c o ho,hd⟩
 ·-- free
  show upd H₂ D _ L=none;rw[av (LY hDL)];exact I.hok.fresh hL
 ·show upd H₂ D _ c=none
  rw[av (by rw[hD];exact K7 (cne x c e))];exact I.freeC x c (clS x c e)
 ·exact I.hok.laid keep (QU hD.symm) ⟨by simp,[],0,.nil,acc⟩
 ·show _=N'.length
  rw[O.len];simp
 ·refine⟨fun i l e=>?_,(Same.new (o:=.lst []) nD).tabs vw.tb⟩
  unfold cF at e
  by_cases hi:i<nt
  ·rw[JW (by simpa using hi),Kr,if_pos hi] at e
   cases e;exact trivial
  ·obtain⟨k,rfl⟩:∃k,i=nt+k:=⟨i-nt,by omega⟩
   rw[KN (by simp),MB,QI,K2] at e ⊢;cases ej:idx[k]? with
   | none=>rw[ej] at e;cases e
   | some j=>
    rw[ej] at e;have e:some (roS ρ[j]?)=some l:=e;cases e;cases q:ρ[j]? with
    | none=>exact trivial
    | some l'=>
     have:=(vw j l' q).same (Same.new (o:=.lst []) nD);cases l' with
     | no=>exact trivial
     | val p=>
      obtain⟨v,ev,r⟩:=this;exact⟨v,by show some ((σ[j]?).getD none)=_;rw[ev];rfl,r⟩
     | own p=>exact trivial
     | pin qs a=>exact trivial
 ·simp[cF]
theorem sR{ρ:PSt}{p:PV}{ps rest:List PV}(e:de h t fe ρ (p::ps)=.ok rest):∃ρ1 b,h p ρ=some ρ1/\t ρ1=.ok b/\
  ((b=true/\∃q r,fe ρ1=.ok q/\de h t fe ρ ps=.ok r/\rest=q::r)\/(b=false/\de h t fe ρ ps=.ok rest)):=by
 unfold de at e;cases h1:h p ρ with
 | none=>rw[h1] at e;cases e
 | some ρ1=>
  rw[h1] at e;simp only[R.ofO_some,R.ok_bind] at e;cases h2:t ρ1 with
  | ok b=>
   rw[h2] at e;simp only[R.ok_bind] at e;refine⟨ρ1,b,rfl,h2,?_⟩;cases b with
   | true=>
    rw[if_pos rfl] at e;cases h3:fe ρ1 with
    | ok q=>
     rw[h3] at e;simp only[R.ok_bind] at e;cases h4:de h t fe ρ ps with
     | ok r=>
      rw[h4] at e;cases e;exact .inl ⟨rfl,q,r,rfl,rfl,rfl⟩
     | er x=>rw[h4] at e;cases e
     | no=>rw[h4] at e;cases e
    | er x=>rw[h3] at e;cases e
    | no=>rw[h3] at e;cases e
   | false=>
    rw[if_neg JU] at e;exact .inr ⟨rfl,e⟩
  | er x=>rw[h2] at e;cases e
  | no=>rw[h2] at e;cases e
theorem View.weak{K:JH}{H:Hp}{σ:L2.St}{ρ ρ1:PSt}{n:Nat}(vw:View K H σ ρ1)(low:∀i,n<=i->ρ1[i]?=ρ[i]?)(no:∀i l,i<n->ρ[i]?=some l->l=.no):View K H σ ρ:=by
 refine⟨fun i l e=>?_,vw.tb⟩
 by_cases hi:i<n
 ·rw[no i l hi e];exact trivial
 ·exact vw i l (by rw[low i (by omega)];exact e)
theorem vQ{idx:List Nat}{nt:Nat}{ρ:PSt}{i:Nat}{l:Sl}(hi:i<nt)(e:(cF nt idx ρ)[i]?=some l):l=.no:=by
 unfold cF at e;rw[JW (by simpa using hi),Kr,if_pos hi] at e;cases e;rfl
theorem vP{idx:List Nat}{nt:Nat}{ρ:PSt}{i:Nat}{p:PV}(e:(cF nt idx ρ)[i]?=some (.own p)):False:=by
 unfold cF at e
 by_cases hi:i<nt
 ·rw[JW (by simpa using hi),Kr,if_pos hi] at e
  cases e
 ·rw[KN (by simpa using hi),K2] at e
  cases q:idx[i-(KZ nt Sl.no).length]? with
  | none=>rw[q] at e;cases e
  | some j=>
   rw[q] at e;have e:some (roS ρ[j]?)=some (Sl.own p):=e;unfold roS at e;split at e <;> cases e
theorem vO{idx:List Nat}{nt:Nat}{ρ:PSt}{i:Nat}{p:List PV}{a:Addr}(e:(cF nt idx ρ)[i]?=some (.pin p a)):False:=by
 unfold cF at e
 by_cases hi:i<nt
 ·rw[JW (by simpa using hi),Kr,if_pos hi] at e
  cases e
 ·rw[KN (by simpa using hi),K2] at e
  cases q:idx[i-(KZ nt Sl.no).length]? with
  | none=>rw[q] at e;cases e
  | some j=>
   rw[q] at e;have e:some (roS ρ[j]?)=some (Sl.pin p a):=e;unfold roS at e;split at e <;> cases e
theorem View.noOwn{K:JH}{H H':Hp}{σ:L2.St}{ρ:PSt}(vw:View K H σ ρ)(no:∀(i:Nat)(p:PV),ρ[i]?≠some (Sl.own p))(np:∀(i:Nat)(ps:List PV)(a:Addr),ρ[i]?≠some (Sl.pin ps a))(k:Kp H H')(tb:rQ H'):View K H' σ ρ:=by
 refine⟨fun i l e=>?_,tb⟩;have:=vw i l e;cases l with
 | no=>exact trivial
 | val p=>obtain⟨v,ev,r⟩:=this;exact⟨v,ev,r.kp k⟩
 | own p=>exact absurd e (no i p)
 | pin ps a=>exact absurd e (np i ps a)
theorem kW{pins:List (Addr×Obj)}{σ:L2.St}{H₂:Hp}{s₂:JM}{J:It}{fp:List Addr}{it:Addr}{tn:Nat->Heap->Prop}{ρ:PSt}{ps qs:List PV}{RR:JJ->Addr->R8->JM->Prop}{E:JJ->JM->Prop}
  (O:CompOk C.X.N C.X.env.scope scope N' nt idx) (hc:C.X.calm=true)
  (hg:∀cl L s H fp,TCt (dA C N' scope cl L s H fp) tg h) (hlow:C2 nt h) (ht:∀cl L s H fp,ETs (dA C N' scope cl L s H fp) ifs t) (he:∀cl L s H fp,EV (dA C N' scope cl L s H fp) elt fe)
  (I:Inv C.X pins σ H₂ s₂) (T:Turn C.X.prog C.X.w C.X.K tg J fp it tn) (st:tn 0 s₂.heap) (hf:∀b∈fp,rR C.X pins H₂ b) (vw:View C.X.K H₂ σ ρ) (ip:ItP C.X.K J H₂ ps)
  (hq:de h t fe (cF nt idx ρ) ps=.ok qs) (hz:qs.length<=sizeLine)
  (hRR:∀D L σ' H' s' xs,Inv (fM C.X N' scope (dv C.X.env.cells scope.names []) L s₂ H₂ fp) [] σ' H' s'->Same H₂ H'->H₂ D=none->H' D=some (.lst xs)->aB C.X.K H' qs xs->s₂.heap.objs.size<=L->RR (.ref D) L (.ok .next) s') :
  JZ (KM C.X.prog C.X.w) C.X.A (newList []) (fun acc s₃=>JZ (KM C.X.prog C.X.w) C.X.A (newFunctionEnv scope C.X.env.globals (dv C.X.env.cells scope.names []) [] C.X.env.qual none .none (some C.X.env)) (fun cenv s₄=>
   NR (KM C.X.prog C.X.w) C.X.A (.compStart (.ListComp elt [⟨tg,iter,ifs,0⟩] scope pos) 0 (.ref it) acc { cenv with scope:=relabel scope C.X.env }) (RR acc cenv.locals) s₄) E s₃) E s₂:=by
 refine Ls (wpAny_newFunctionEnv O.cell (by intro y hy;simp at hy) (fun h₁ hns₁ hsb₁=>?_) O.kind);dsimp only at hns₁ hsb₁ ⊢;generalize hG:s₂.heap.push { cls:=.type "list",dict:=none,data:=.seq ([]:List JJ).toArray }=G at hns₁ hsb₁ ⊢;have hC:G.objs.size=s₂.heap.objs.size+1:=by rw[← hG,OP]
 have hDL:s₂.heap.objs.size≠G.objs.size:=by rw[hC];exact K7 (Nat.lt_succ_self _)
 have keep:∀b o,s₂.heap.get? b=some o->h₁.get? b=some o:=fun b o e=>
  hsb₁.extBut b o (by rw[hC];exact K7 (Mt (JR e))) (JN _ (hG▸JN _ e))
 have acc:h₁.get? s₂.heap.objs.size=some { cls:=.type "list",data:=.seq ([]:List JJ).toArray }:=hsb₁.extBut _ _ hDL (JN _ (hG▸K6 _ rfl));have nD:H₂ s₂.heap.objs.size=none:=I.fresh;have hGe:s₂.heap.objs.size<=G.objs.size:=by rw[hC];exact Qj _
 obtain⟨σ0,I0,vw0,hl0,fl⟩:=sQ O hc I T st hf vw (L:=G.objs.size) (tk:=s₂.toks+([]:List (Str×JJ)).length) rfl hGe hDL (by simpa using hns₁) keep acc
 have fpk:∀{H':Hp}{pins':List (Addr×Obj)},(∀b∈fp,H' b=none)->(∀p∈pins',p.1 ∉ fp)->∀b∈fp,rR (fM C.X N' scope (dv C.X.env.cells scope.names []) G.objs.size s₂ H₂ fp) pins' H' b:=fun {H' pins'} hn hp b hb=>by
  obtain⟨g1,g2,g3,g4,g5,g6⟩:=hf b hb;refine⟨hn b hb,K7 (JY (fl b hb) hGe),fun z=>?_,.inl hb,fun x c e=>?_,fun p hp' z=>?_⟩
  ·exact(K9.mp (I.stkSub b z)).elim g2 g3
  ·rcases dh e with z | z
   ·exact g5 x c z
   ·cases z
  ·subst z
   exact hp p ((show p∈([]:List (Addr×Obj))++pins' from hp')) hb
 have loop:NR (KM C.X.prog C.X.w) C.X.A (.compLoop (.ListComp elt [⟨tg,iter,ifs,0⟩] scope pos) 0 (.ref it) (.ref s₂.heap.objs.size) (compEnvC scope (dv C.X.env.cells scope.names []) G.objs.size C.X.env))
   (RR (.ref s₂.heap.objs.size) G.objs.size) { s₂ with heap:=h₁,toks:=s₂.toks+([]:List (Str×JJ)).length }:=by
  refine pz (fun n s=>∃i σ' H' xs dn rest,n=ps.length-i/\i<=ps.length/\Inv (fM C.X N' scope (dv C.X.env.cells scope.names []) G.objs.size s₂ H₂ fp) [] σ' H' s/\tn i s.heap/\(∀b∈fp,H' b=none)/\Same H₂ H'/\
   H' s₂.heap.objs.size=some (.lst xs)/\aB C.X.K H' dn xs/\View C.X.K H' σ' (cF nt idx ρ)/\(cF nt idx ρ).length=σ'.length/\de h t fe (cF nt idx ρ) (ps.drop i)=.ok rest/\dn++rest=qs) ?_ ps.length
   ⟨0,σ0,_,[],[],qs,rfl,Kz _,I0,T.keep _ _ _ st fun b _ o e=>keep b o e,fun b hb=>?_,Same.new nD,ar,aB.nil,vw0,hl0,by simpa using hq,rfl⟩
  ·rintro n s ⟨i,σ',H',xs,dn,rest,rfl,hi,I',st',fr',sm',hD',rp',vw',hl',e',ea⟩
   obtain⟨stp,stepp⟩:=ip i H' (Same.kp sm')
   by_cases hlt:i<ps.length
   ·have ei:ps[i]?=some ps[i]:=by simp[hlt]
    obtain⟨go,yl⟩:=stepp _ ei;rw[rH ei] at e';obtain⟨ρ1,b,e1,e2,e3⟩:=sR e';obtain⟨l1,low1⟩:=hlow _ _ _ e1;refine thn (T.item (fM C.X N' scope (dv C.X.env.cells scope.names []) G.objs.size s₂ H₂ fp) rfl rfl rfl rfl i [] s σ' H' _ I' (fpk fr' (by simp)) st' go) fun r s1 ⟨u,hr,h4⟩=>?_;subst hr;refine thn h4 fun _ s2 ⟨x,H3,I3,r3,y3,st3,fr3⟩=>?_;obtain⟨sm3,rp3⟩:=yl x H3 y3;have I3':=I3.pinned (fpk fr3 (by simp)) (T.obj _ _ st3);refine thn (hg _ _ _ _ _ _ s2 σ' H3 x u (fun σ4 H4=>H4=H3/\ρ1.length=σ4.length/\View C.X.K H4 σ4 ρ1) I3' r3 ⟨_,_,ρ1,hl',vw'.same sm3,rp3,e1,fun σ4 hl4 vw4=>⟨rfl,hl4,vw4⟩⟩) fun _ s4 ⟨σ4,H4,I4,q4⟩=>?_;obtain⟨rfl,hl4,vw4⟩:=q4
    have tests:JZ (KM C.X.prog C.X.w) C.X.A (forIn ifs true fun c r=>if r=true then do let ok<- isTrue c (compEnvC scope (dv C.X.env.cells scope.names []) G.objs.size C.X.env) (L9 c (compEnvC scope (dv C.X.env.cells scope.names []) G.objs.size C.X.env));pure (Lk ok) else pure (Lk r))
      (TP (fM C.X N' scope (dv C.X.env.cells scope.names []) G.objs.size s₂ H₂ fp) ([]++lK fp s2.heap) σ4 (fun b' H5=>b'=b/\Same H4 H5)) (fun _ _=>False) s4:=by
     rcases ht (dv C.X.env.cells scope.names []) G.objs.size s₂ H₂ fp with⟨ez,et⟩|⟨c,ez,et⟩
     ·subst ez
      subst et;cases e2;exact wpAny_tests_nil ⟨H4,I4,rfl,Same.refl _⟩
     ·subst ez
      exact wpAny_tests_one (et _ s4 σ4 H4 _ I4 ⟨ρ1,vw4,by rw[e2];exact fun H' s'=>⟨rfl,s'⟩⟩)
    refine thn tests fun b' s5 ⟨H5,I5,eb,sm5⟩=>?_;subst eb
    have fin:∀{H7:Hp}{s7:JM},Inv (fM C.X N' scope (dv C.X.env.cells scope.names []) G.objs.size s₂ H₂ fp) ([]++lK fp s2.heap) σ4 H7 s7->Inv (fM C.X N' scope (dv C.X.env.cells scope.names []) G.objs.size s₂ H₂ fp) [] σ4 H7 s7/\tn (i+1) s7.heap/\∀b∈fp,H7 b=none:=fun {H7 s7} I7=>by
     refine⟨I7.unpinned,T.keep _ _ _ st3 fun b hb o e=>(I7.pin (b,o) (Kc _ (Kc _ (gr hb e)))).1,fun b hb=>?_⟩;obtain⟨o,e,_⟩:=T.obj _ _ st3 b hb;exact(I7.pin (b,o) (Kc _ (Kc _ (gr hb e)))).2.1
    have sm25:Same H₂ H5:=(sm'.trans sm3).trans sm5;have smd:Same H' H5:=sm3.trans sm5;have vw5:View C.X.K H5 σ4 (cF nt idx ρ):=View.weak (vw4.same sm5) low1 fun i l hi e=>vQ hi e;have hl5:(cF nt idx ρ).length=σ4.length:=by rw[← l1];exact hl4
    rcases e3 with⟨rfl,q,r,e4,e5,rfl⟩|⟨rfl,e4⟩
    ·rw[if_pos rfl]
     refine thn (he _ _ _ _ _ _ s5 σ4 H5 (fun v H6=>Same H5 H6/\Rep C.X.K H6 q v) I5 ⟨ρ1,vw4.same sm5,by rw[e4];exact fun v H' s' r=>⟨s',r⟩⟩) fun u6 s6 ⟨v,H6,I6,r6,sm6,rp6⟩=>?_;have hD6:H6 s₂.heap.objs.size=some (.lst xs):=sm6 _ _ (smd _ _ hD')
     have hx:xs.length<sizeLine:=by
      have a1:=rp'.length;have a2:qs.length=dn.length+(r.length+1):=by rw[← ea];simp
      omega
     refine thn (oK (X:=fM C.X N' scope (dv C.X.env.cells scope.names []) G.objs.size s₂ H₂ fp) _ s6 σ4 H6 (.ref s₂.heap.objs.size) [v] (.ref s₂.heap.objs.size) [u6] (fun _ H7=>H7=upd H6 s₂.heap.objs.size (.lst (xs++[v]))) I6 rfl (.cons r6 .nil) ⟨_,xs,v,rfl,rfl,hD6,hx,rfl⟩) fun _ s7 ⟨_,H7,I7,_,e7⟩=>?_;subst e7;obtain⟨J7,st7,fr7⟩:=fin I7;have kp7:Kp H6 (upd H6 s₂.heap.objs.size (.lst (xs++[v]))):=Kp.upd hD6 rfl;refine⟨ps.length-(i+1),by omega,i+1,σ4,_,xs++[v],dn++[q],r,rfl,hlt,J7,st7,fr7,(sm25.trans sm6).but nD (fun u h=>by rw[hD6] at h;cases h;rfl) (fun b hb=>av hb),ar,?_,?_,hl5,e5,by rw[← ea];simp⟩
     ·exact aB.append (aB.kp kp7 _ ((rp'.same smd).same sm6)) (aB.cons (Rep.kp kp7 _ rp6) aB.nil)
     ·exact(vw5.same sm6).noOwn (fun i p e=>vP e) (fun i p a e=>vO e) kp7 ((vw5.same sm6).tb.but (fun u h=>by rw[hD6] at h;cases h;exact⟨rfl,rfl⟩) (fun b hb=>av hb))
    ·rw[if_neg JU]
     obtain⟨J7,st7,fr7⟩:=fin I5;exact⟨ps.length-(i+1),by omega,i+1,σ4,H5,xs,dn,rest,rfl,hlt,J7,st7,fr7,sm25,smd _ _ hD',rp'.same smd,vw5,hl5,e4,ea⟩
   ·have e:i=ps.length:=by omega
    subst e;rw[O5] at e';cases e';rw[Kq] at ea;subst ea;refine thn (T.done (fM C.X N' scope (dv C.X.env.cells scope.names []) G.objs.size s₂ H₂ fp) rfl rfl rfl rfl ps.length [] s σ' H' _ I' (fpk fr' (by simp)) st' (stp rfl)) fun r s1 ⟨hr,I1⟩=>?_;subst hr;exact hRR _ _ σ' H' s1 xs I1 sm' nD hD' rp' hGe
  ·show upd H₂ _ _ b=none
   rw[av (K7 (fl b hb))];exact(hf b hb).1
 exact codeAny_compStart_list loop (T.self _ 0 _ _ _ (T.keep _ _ _ st fun b _ o e=>keep b o e) loop)
end
end PU
namespace PU
open PySem PySem.Spec PyProof.Rows L2
variable[TW]
section
variable{C : Cn}{elt tg iter : Expr}{ifs : List Expr}{scope : Scope}{pos : La}{N' : List Str}{nt : Nat}{idx : List Nat}{fi : PSt → R (List PV)}{h : Tgt}{t : PSt → R Bool}{fe : PSt → R PV}
theorem kX{pins:List (Addr×Obj)}{σ σ':L2.St}{H₂ H':Hp}{s₂ s':JM}{fp:List Addr}{cl:List (Str×Addr)}{L:Addr}(I:Inv C.X pins σ H₂ s₂)(hf:∀b∈fp,rR C.X pins H₂ b)
  (I':Inv (fM C.X N' scope cl L s₂ H₂ fp) [] σ' H' s'):Inv C.X pins σ H' s':=
 I.call' (ch:=fp) I'.os I'.base I'.hok I'.bare fun b hb=>by
  obtain⟨g1,g2,g3,g4,g5,g6⟩:=hf b hb;exact⟨g4,g2,g5,g6⟩
theorem AZ{α:Type}{H:Hp}{r:R α}{k:α->Prop}(q:RQ C H (B0 r) k):∃a,r=.ok a/\k a:=by
 cases r with
 | ok a=>exact⟨a,rfl,q⟩
 | er x=>exact JP q
 | no=>exact JP q
theorem kU{pins:List (Addr×Obj)}{σ:L2.St}{H:Hp}{s:JM}{L:Addr}{h':Heap}(I:Inv C.X pins σ H s)(hn:H L=none)(hL:L≠C.X.env.locals)(h1:C.X.s₀.heap.objs.size<=L)(h2:∀x c,C.X.env.cells.lookup x=some c->c≠L)
  (h3:∀p∈C.X.pn++pins,p.1≠L) (sb:Lq L s.heap h'):Inv C.X pins σ H { s with heap:=h' }:=
 I.turned (t':=s.toks) (fun b o hb e=>(sb.2 b hb).trans e) hn hL (.inr h1) h2 h3
theorem Bz(O:CompOk C.X.N C.X.env.scope scope N' nt idx)(hi:EI C tg iter fi)
  (hg:∀cl L s H fp,TCt (dA C N' scope cl L s H fp) tg h) (he:∀cl L s H fp,EV (dA C N' scope cl L s H fp) elt fe)
  (hs:∀x,N4 iter C.X.env x=pure x:=by intro _;rfl) (hc:C.X.calm=true:=by rfl) (hlow:C2 nt h:=by repeat' (first | exact qb | exact mP (by decide) | apply qa | apply mQ)) (ht:∀cl L s H fp,ETs (dA C N' scope cl L s H fp) ifs t:=by exact fun _ _ _ _ _=>qu):EN C (.ListComp elt [⟨tg,iter,ifs,0⟩] scope pos) (iB fi h t fe nt idx):=by
 intro pins s σ H Q I ⟨ρ,vw,q⟩;rw[eval_ListComp];refine OG (use:=none) rfl hs (bu fun y hy hk=>I.ok.has y.1 (O.free y hy hk)) O.kind O.names ?_
 refine thn (hi pins s σ H (fun J H'=>∃ps qs,Same H H'/\ItP C.X.K J H' ps/\de h t fe (cF nt idx ρ) ps=.ok qs/\qs.length<=sizeLine/\∀a H'',Same H H''->H a=none->bY C.X.K H'' a (.lst qs)->Q (.ref a) H'') I
  ⟨ρ,vw,q.bind.imp fun ps _ k J H' s' ip=>?_⟩) fun v s1 h1=>thn h1 fun itv s2 h2=>?_
 ·obtain⟨qs,e1,k⟩:=AZ k.bind
  obtain⟨z,k⟩:=kz k;exact⟨ps,qs,s',ip,e1,z,k⟩
 ·obtain⟨it,fp,tn,J,H2,e,I2,T,st2,f2,ps,qs,sm,ip,e1,hz,k⟩:=h2
  subst e;refine kW O hc hg hlow ht he I2 T st2 f2 (vw.same sm) ip e1 hz fun D L σ' H' s' xs I' sm' nD hD rp hL=>?_;obtain⟨m,hn,_⟩:=id I'.loc;have IB:=kX I2 f2 I';refine⟨m,hn,fun h' sb=>⟨.ref D,H',kU IB I'.free ?_ (Ko I2.sz hL) ?_ ?_ sb,rfl,k D H' (sm.trans sm') (sm.free nD) ⟨xs,hD,rp⟩⟩⟩
  ·exact L8 (JY I2.lt hL)
  ·intro x c ec z
   obtain⟨v,qc⟩:=I2.cell x c ec;have z:c=L:=z;exact Kt _ (JY (z▸qc.lt) hL)
  ·intro p hp z
   have z:p.1=L:=z;exact Kt _ (JY (z▸JR (I2.pin p hp).1) hL)
theorem RS.bind'{C:Cn}{B:Hp×Hp}{D:Ends}{H:Hp}{fi:PSt->R (List PV)}{h:Tgt}{t:PSt->R Bool}{fe:PSt->R PV}{nt:Nat}{idx:List Nat}{ρ:PSt}{g:PV->Sl}{i:Nat}
  (q:RS C B D (iB fi h t fe nt idx ρ >>= fun p=>.ok (.next (ρ.set i (g p))))) (s:Same B.1 H) :
  RQ C H (fi ρ) fun ps=>∃qs,de h t fe (cF nt idx ρ) ps=.ok qs/\qs.length<=sizeLine/\∀σ' H'',StOk C.X.K B H'' σ' (ρ.set i (g (.lst qs)))->D.nx σ' H'':=by
 unfold iB at q;rw[R.bind_assoc] at q;refine(q.bind s).imp fun ps _ k=>?_;rw[R.bind_assoc] at k;cases hc:de h t fe (cF nt idx ρ) ps with
 | ok qs=>
  rw[hc] at k;have k:RS C B D ((fJ qs >>= fun qs=>R.ok (.lst qs)) >>= fun p=>.ok (.next (ρ.set i (g p)))):=k;unfold fJ at k
  by_cases hz:qs.length<=16777216
  ·rw[if_pos hz] at k
   exact⟨qs,rfl,by rw[Ke];exact hz,k⟩
  ·rw[if_neg hz] at k
   exact JP k
 | er x=>rw[hc] at k;exact JP k
 | no=>rw[hc] at k;exact JP k
theorem tK(own:Bool)(i:Nat){x:Str}{px:La}{spos:La}(hN:C.X.N.Nodup)(O:CompOk C.X.N C.X.env.scope scope N' nt idx)(hi:EI C tg iter fi)
  (hg:∀cl L s H fp,TCt (dA C N' scope cl L s H fp) tg h) (he:∀cl L s H fp,EV (dA C N' scope cl L s H fp) elt fe)
  (hsw:MK (.ListComp elt [⟨tg,iter,ifs,0⟩] scope pos) (some (.Name x px)) spos.line C.X.env=pure true:=by rfl)
  (hs:∀x,N4 iter C.X.env x=pure x:=by intro _;rfl)
  (hf:C.X.fn x=true\/C.X.env.scope.names.lookup x=some .local:=by first | exact .inl rfl | exact .inr rfl | assumption) (hc:C.X.calm=true:=by rfl) (hlow:C2 nt h:=by repeat' (first | exact qb | exact mP (by decide) | apply qa | apply mQ)) (ht:∀cl L s H fp,ETs (dA C N' scope cl L s H fp) ifs t:=by exact fun _ _ _ _ _=>qu) (hi':C.X.N[i]?=some x:=by rfl) (hx:Loc C.X.env.scope x:=by first | exact .inl rfl | exact .inr rfl) :
  SV C (.Assign [.Name x px] (.ListComp elt [⟨tg,iter,ifs,0⟩] scope pos) spos) ((if own=true then pI else cn) i (iB fi h t fe nt idx)):=by
 intro pins s σ H D I ⟨ρ,B,S,q⟩;rw[exec_Assign_Name_used _ _ _ _ hsw];refine JI (Qd (JI ?_));show JZ _ C.X.A (do let _<- comprehension (.ListComp elt [⟨tg,iter,ifs,0⟩] scope pos) scope C.X.env _ (newList []) false (L9 iter C.X.env) (some (Ot (.Name x px) C.X.env))) _ _ s
 refine JI (LZ (OG (use:=some (Ot (.Name x px) C.X.env)) (Q:=fun _ s'=>SP C.X pins D .next s') rfl hs (bu fun y hy hk=>I.ok.has y.1 (O.free y hy hk)) O.kind O.names ?_)
  (fun _ s' hq=>JO (JO hq)) fun _ _ e=>e)
 have q':RS C B D (iB fi h t fe nt idx ρ >>= fun p=>.ok (.next (ρ.set i (if own=true then .own p else .val p)))):=by
  cases own with
  | true=>exact q
  | false=>exact q
 refine thn (hi pins s σ H (fun J H'=>∃ps qs,Same H H'/\ItP C.X.K J H' ps/\de h t fe (cF nt idx ρ) ps=.ok qs/\qs.length<=sizeLine/\∀σ' H'',StOk C.X.K B H'' σ' (ρ.set i (if own=true then .own (.lst qs) else .val (.lst qs)))->D.nx σ' H'') I
  ⟨ρ,S.vw,(RS.bind' q' S.same).imp fun ps _ k J H' s' ip=>?_⟩) fun v s1 h1=>thn h1 fun itv s2 h2=>?_
 ·obtain⟨qs,e1,z,k⟩:=k
  exact⟨ps,qs,s',ip,e1,z,k⟩
 ·obtain⟨it,fp,tn,J,H2,e,I2,T,st2,f2,ps,qs,sm,ip,e1,hz,k⟩:=h2
  subst e;refine kW O hc hg hlow ht he I2 T st2 f2 (S.vw.same sm) ip e1 hz fun Da L σ' H' s' xs I' sm' nD hD rp hL=>?_;obtain⟨m,⟨o,es,ep,ho,hrest⟩,_⟩:=id I'.loc;have IB:=kX I2 f2 I';have nL:L≠C.X.env.locals:=L8 (JY I2.lt hL)
  have nC:∀x c,C.X.env.cells.lookup x=some c->c≠L:=fun x c ec z=>by
   obtain⟨v,qc⟩:=I2.cell x c ec;have z:c=L:=z;exact Kt _ (JY (z▸qc.lt) hL)
  have nP:∀p∈C.X.pn++pins,p.1≠L:=fun p hp z=>by
   have z:p.1=L:=z;exact Kt _ (JY (z▸JR (I2.pin p hp).1) hL)
  have IP:Inv C.X (pins++[(L,o)]) σ H' s':=IB.pins_of fun p hp=>by
   rcases Kd.mp hp with z | z
   ·exact IB.pin p (Kc _ z)
   ·have:p=(L,o):=by simpa using z
    subst this;exact⟨ho,I'.free,nL,I2.nofs hL,fun v z=>by rw[hrest.1] at z;cases z⟩
  have S2:=S.grow (sm.trans sm')
  have fin:∀{H3:Hp}{v:V},Inv C.X (pins++[(L,o)]) σ H3 s'->v=.ref Da->(∀σ3,σ3=σ.set i (some v)->D.nx σ3 H3)->
    JZ (KM C.X.prog C.X.w) C.X.A (Ot (.Name x px) C.X.env (.ref Da)) (fun _ s''=>∃m,s''.heap.Ns L m/\∀h',Lq L s''.heap h'->SP C.X pins D .next { s'' with heap:=h' }) C.X.xe s':=fun {H3 v} I3 ev k3=>by
   refine thn (mI hN hi' hx hf (pins++[(L,o)]) s' σ H3 v (.ref Da) (fun σ4 H4=>σ4=σ.set i (some v)/\H4=H3) I3 (by subst ev;rfl) ⟨rfl,rfl⟩) fun _ s4 ⟨σ4,H4,I4,e4,e5⟩=>?_;have hp:=I4.pin (L,o) (by simp);have IU:Inv C.X pins σ4 H4 s4:=I4.unpinned;refine⟨m,⟨o,es,ep,hp.1,hrest⟩,fun h' sb=>⟨σ4,H4,kU IU hp.2.1 nL (Ko I2.sz hL) nC nP sb,?_⟩⟩;subst e5;exact k3 σ4 e4
  cases own with
  | true=>
   exact fin IP rfl fun σ3 e3=>by
    subst e3;exact k _ _ (S.setN (sm.trans sm') (sm.free nD) ⟨xs,hD,rp⟩)
  | false=>
   obtain⟨H3,I3,rp3,oth⟩:=L2.Inv.frz (a:=Da) (p:=.lst qs) IP ⟨xs,hD,rp⟩;refine fin I3 rfl fun σ3 e3=>?_;subst e3;exact k _ _ ((S.grow ((sm.trans sm').but (sm.free nD) (fun u h=>by rw[hD] at h;cases h;rfl) oth)).setV rp3)
end
end PU
namespace PU
open PySem PySem.Spec PyProof.Rows L2 PySem.SeqAt
variable[TW]
section
variable{X : Cx}{pins : List (Addr×Obj)}{σ : L2.St}{H : Hp}{s : JM}
theorem jb{a:Addr}{xs ys:List V}(I:Inv X pins σ H s)(h1:SqT X.K H a xs)(h2:SqO X.K H a ys):False:=by
 obtain⟨its,_,⟨o,e,c,_⟩,_⟩:=I.tuple h1;obtain⟨_,its2,n,_,e2⟩:=h2.is I;rw[e] at e2;cases e2;have c:M1 "list"=M1 "tuple":=c;exact absurd c (by decide)
theorem Ar{a:Addr}{xs ys:List V}(I:Inv X pins σ H s)(h1:SqO X.K H a xs)(h2:SqO X.K H a ys):xs=ys:=I.list_inj h1.l h2.l
mutual
theorem i5(I:Inv X pins σ H s):∀(p q:PV)(v:V)(b:Bool),bg X.K H p v->bg X.K H q v->bS p q=some b->b=true
 | .non,q,v,b,h1,h2,e=>by
  cases (show v=.non from h1);cases q with
  | non=>simpa [bS] using e.symm
  | bl j=>cases (show V.non=.bl j from h2)
  | int j=>cases (show V.non=.int j from h2)
  | str j=>cases (show V.non=.str j from h2)
  | tup qs=>obtain⟨a,xs,z,_⟩:=bg.tup_inv h2;cases z
  | lst qs=>obtain⟨a,xs,z,_⟩:=bg.lst_inv h2;cases z
  | _=>simp[bS] at e
 | .bl i,q,v,b,h1,h2,e=>by
  cases (show v=.bl i from h1);cases q with
  | bl j=>cases (show V.bl i=.bl j from h2);simpa [bS] using e.symm
  | non=>cases (show V.bl i=.non from h2)
  | int j=>cases (show V.bl i=.int j from h2)
  | str j=>cases (show V.bl i=.str j from h2)
  | tup qs=>obtain⟨a,xs,z,_⟩:=bg.tup_inv h2;cases z
  | lst qs=>obtain⟨a,xs,z,_⟩:=bg.lst_inv h2;cases z
  | _=>simp[bS] at e
 | .int i,q,v,b,h1,h2,e=>by
  cases (show v=.int i from h1);cases q with
  | int j=>cases (show V.int i=.int j from h2);simpa [bS] using e.symm
  | bl j=>cases (show V.int i=.bl j from h2)
  | non=>cases (show V.int i=.non from h2)
  | str j=>cases (show V.int i=.str j from h2)
  | tup qs=>obtain⟨a,xs,z,_⟩:=bg.tup_inv h2;cases z
  | lst qs=>obtain⟨a,xs,z,_⟩:=bg.lst_inv h2;cases z
  | _=>simp[bS] at e
 | .str i,q,v,b,h1,h2,e=>by
  cases (show v=.str i from h1);cases q with
  | str j=>cases (show V.str i=.str j from h2);simpa [bS] using e.symm
  | bl j=>cases (show V.str i=.bl j from h2)
  | non=>cases (show V.str i=.non from h2)
  | int j=>cases (show V.str i=.int j from h2)
  | tup qs=>obtain⟨a,xs,z,_⟩:=bg.tup_inv h2;cases z
  | lst qs=>obtain⟨a,xs,z,_⟩:=bg.lst_inv h2;cases z
  | _=>simp[bS] at e
 | .tup ps,q,v,b,h1,h2,e=>by
  obtain⟨a,xs,rfl,g1,r1⟩:=bg.tup_inv h1;cases q with
  | tup qs=>
   obtain⟨a2,ys,z,g2,r2⟩:=bg.tup_inv h2;cases z;cases I.tuple_inj g1 g2;exact jZ I ps qs xs b r1 r2 (by simpa [bS] using e)
  | lst qs=>
   obtain⟨a2,ys,z,g2,r2⟩:=bg.lst_inv h2;cases z;exact(jb I g1 g2).elim
  | non=>cases (show V.ref a=.non from h2)
  | bl j=>cases (show V.ref a=.bl j from h2)
  | int j=>cases (show V.ref a=.int j from h2)
  | str j=>cases (show V.ref a=.str j from h2)
  | _=>simp[bS] at e
 | .lst ps,q,v,b,h1,h2,e=>by
  obtain⟨a,xs,rfl,g1,r1⟩:=bg.lst_inv h1;cases q with
  | lst qs=>
   obtain⟨a2,ys,z,g2,r2⟩:=bg.lst_inv h2;cases z;cases Ar I g1 g2;exact jZ I ps qs xs b r1 r2 (by simpa [bS] using e)
  | tup qs=>
   obtain⟨a2,ys,z,g2,r2⟩:=bg.tup_inv h2;cases z;exact(jb I g2 g1).elim
  | non=>cases (show V.ref a=.non from h2)
  | bl j=>cases (show V.ref a=.bl j from h2)
  | int j=>cases (show V.ref a=.int j from h2)
  | str j=>cases (show V.ref a=.str j from h2)
  | _=>simp[bS] at e
 | .dct _ _,_,_,_,_,_,e=>by simp[bS] at e
 | .dtt _ _,_,_,_,_,_,e=>by simp[bS] at e
 | .fn _ _,_,_,_,_,_,e=>by simp[bS] at e
theorem jZ(I:Inv X pins σ H s):∀(ps qs:List PV)(xs:List V)(b:Bool),aB X.K H ps xs->aB X.K H qs xs->cX ps qs=some b->b=true
 | [],qs,xs,b,r1,r2,e=>by
  cases r1;cases qs with
  | nil=>simpa [cX] using e.symm
  | cons q qs=>obtain⟨x,r,z,_⟩:=r2;cases z
 | p::ps,qs,xs,b,r1,r2,e=>by
  obtain⟨x,r,rfl,h1,t1⟩:=r1;cases qs with
  | nil=>cases (show x::r=[] from r2)
  | cons q qs=>
   obtain⟨x2,r2',z,h2,t2⟩:=r2;cases z;simp only[cX] at e;obtain⟨b1,e1,e⟩:=K3.mp e;obtain⟨b2,e2,e⟩:=K3.mp e;cases e;rw[i5 I p q x b1 h1.o h2.o e1,jZ I ps qs r b2 t1 t2 e2];rfl
end
theorem lN{p q:PV}{ps qs:List PV}{j:Nat}:gQ (p::ps) (q::qs) (j+1)=gQ ps qs j:=by simp[gQ]
theorem ju:∀(ps qs:List PV)(b:Bool),cX ps qs=some b->((KQ (min ps.length qs.length)).all (gQ ps qs) && ps.length == qs.length)=b
 | [],[],b,e=>by simp[cX] at e;simp[e]
 | [],_::_,b,e=>by simp[cX] at e;simp[e]
 | _::_,[],b,e=>by simp[cX] at e;simp[e]
 | p::ps,q::qs,b,e=>by
  simp only[cX] at e;obtain⟨b1,e1,e⟩:=K3.mp e;obtain⟨b2,e2,e⟩:=K3.mp e;cases e;have ih:=ju ps qs b2 e2;have hm:min (p::ps).length (q::qs).length=min ps.length qs.length+1:=by simp only[KU];omega
  rw[hm,QJ,M9,List.all_map];have h0:gQ (p::ps) (q::qs) 0=b1:=by simp[gQ,e1]
  have hs:(gQ (p::ps) (q::qs) ∘ Nat.succ)=gQ ps qs:=by funext j;exact lN
  rw[h0,hs,← ih,KU,KU];simp[Bool.and_assoc]
theorem mK:∀{ps:List PV}{j:Nat}{p:PV},ps[j]?=some p->xB p<=e8 ps
 | [],_,_,h=>by simp at h
 | p::ps,0,_,h=>by simp at h;subst h;simp only[e8];omega
 | p::ps,j+1,q,h=>by
  have:=mK (ps:=ps) (j:=j) (p:=q) (by simpa using h);simp only[e8];omega
mutual
theorem vD(I:Inv X pins σ H s):∀(p q:PV)(A:KY)(v u:V)(v' u':JJ)(b:Bool),bg X.K H p v->bg X.K H q u->RelV v v'->RelV u u'->bS p q=some b->A.units+xB p<cLine->EqAt A s v' u' b
 | .non,q,A,v,u,v',u',b,h1,h2,e1,e2,e,hu=>by
  cases (show v=.non from h1);cases e1;have hu:=Mn (OA _ _) hu;cases q with
  | non=>cases (show u=.non from h2);cases e2;simp[bS] at e;subst e;exact EqAt.same _
  | bl j=>cases (show u=.bl j from h2);cases e2;simp[bS] at e;subst e;exact EqAt.none_bool j
  | int j=>cases (show u=.int j from h2);obtain⟨t,rfl⟩:=e2;simp[bS] at e;subst e;exact EqAt.none_int j t
  | str j=>cases (show u=.str j from h2);obtain⟨t,rfl⟩:=e2;simp[bS] at e;subst e;exact EqAt.none_str j t
  | tup qs=>obtain⟨a,xs,rfl,g,_⟩:=bg.tup_inv h2;cases e2;obtain⟨its,_,pl,_⟩:=I.tuple g;simp[bS] at e;subst e;exact EqAt.none_tuple pl hu
  | lst qs=>obtain⟨a,xs,rfl,g,_⟩:=bg.lst_inv h2;cases e2;obtain⟨its,_,pl,_⟩:=I.list g.l;simp[bS] at e;subst e;exact EqAt.none_list pl.isList hu
  | _=>simp[bS] at e
 | .bl i,q,A,v,u,v',u',b,h1,h2,e1,e2,e,hu=>by
  cases (show v=.bl i from h1);cases e1;have hu:=Mn (OA _ _) hu;cases q with
  | non=>cases (show u=.non from h2);cases e2;simp[bS] at e;subst e;exact EqAt.bool_none i
  | bl j=>cases (show u=.bl j from h2);cases e2;simp only[bS,Mc] at e;subst e;exact EqAt.bool_bool i j
  | int j=>cases (show u=.int j from h2);obtain⟨t,rfl⟩:=e2;simp only[bS,Mc] at e;subst e;exact EqAt.bool_int i j t
  | str j=>cases (show u=.str j from h2);obtain⟨t,rfl⟩:=e2;simp[bS] at e;subst e;exact EqAt.bool_str i j t
  | tup qs=>obtain⟨a,xs,rfl,g,_⟩:=bg.tup_inv h2;cases e2;obtain⟨its,_,pl,_⟩:=I.tuple g;simp[bS] at e;subst e;exact EqAt.bool_tuple i pl hu
  | lst qs=>obtain⟨a,xs,rfl,g,_⟩:=bg.lst_inv h2;cases e2;obtain⟨its,_,pl,_⟩:=I.list g.l;simp[bS] at e;subst e;exact EqAt.bool_list i pl.isList hu
  | _=>simp[bS] at e
 | .int i,q,A,v,u,v',u',b,h1,h2,e1,e2,e,hu=>by
  cases (show v=.int i from h1);obtain⟨t',rfl⟩:=e1;have hu:=Mn (OA _ _) hu;cases q with
  | non=>cases (show u=.non from h2);cases e2;simp[bS] at e;subst e;exact EqAt.int_none i t'
  | bl j=>cases (show u=.bl j from h2);cases e2;simp only[bS,Mc] at e;subst e;exact EqAt.int_bool i t' j
  | int j=>cases (show u=.int j from h2);obtain⟨t,rfl⟩:=e2;simp only[bS,Mc] at e;subst e;exact EqAt.int_int i t' j t
  | str j=>cases (show u=.str j from h2);obtain⟨t,rfl⟩:=e2;simp[bS] at e;subst e;exact EqAt.int_str i t' j t
  | tup qs=>obtain⟨a,xs,rfl,g,_⟩:=bg.tup_inv h2;cases e2;obtain⟨its,_,pl,_⟩:=I.tuple g;simp[bS] at e;subst e;exact EqAt.int_tuple i t' pl hu
  | lst qs=>obtain⟨a,xs,rfl,g,_⟩:=bg.lst_inv h2;cases e2;obtain⟨its,_,pl,_⟩:=I.list g.l;simp[bS] at e;subst e;exact EqAt.int_list i t' pl.isList hu
  | _=>simp[bS] at e
 | .str i,q,A,v,u,v',u',b,h1,h2,e1,e2,e,hu=>by
  cases (show v=.str i from h1);obtain⟨t',rfl⟩:=e1;have hu:=Mn (OA _ _) hu;cases q with
  | non=>cases (show u=.non from h2);cases e2;simp[bS] at e;subst e;exact EqAt.str_none i t'
  | bl j=>cases (show u=.bl j from h2);cases e2;simp[bS] at e;subst e;exact EqAt.str_bool i t' j
  | int j=>cases (show u=.int j from h2);obtain⟨t,rfl⟩:=e2;simp[bS] at e;subst e;exact EqAt.str_int i t' j t
  | str j=>cases (show u=.str j from h2);obtain⟨t,rfl⟩:=e2;simp only[bS,Mc] at e;subst e;exact EqAt.str_str i t' j t
  | tup qs=>obtain⟨a,xs,rfl,g,_⟩:=bg.tup_inv h2;cases e2;obtain⟨its,_,pl,_⟩:=I.tuple g;simp[bS] at e;subst e;exact EqAt.str_tuple i t' pl hu
  | lst qs=>obtain⟨a,xs,rfl,g,_⟩:=bg.lst_inv h2;cases e2;obtain⟨its,_,pl,_⟩:=I.list g.l;simp[bS] at e;subst e;exact EqAt.str_list i t' pl.isList hu
  | _=>simp[bS] at e
 | .tup ps,q,A,v,u,v',u',b,h1,h2,e1,e2,e,hu=>by
  obtain⟨a,xs,rfl,g1,r1⟩:=bg.tup_inv h1;cases e1;obtain⟨its,rv,pl,_⟩:=I.tuple g1;simp only[xB] at hu;have hu0:A.units<cLine:=by omega
  cases q with
  | non=>cases (show u=.non from h2);cases e2;simp[bS] at e;subst e;exact EqAt.tuple_none pl hu0
  | bl j=>cases (show u=.bl j from h2);cases e2;simp[bS] at e;subst e;exact EqAt.tuple_bool j pl hu0
  | int j=>cases (show u=.int j from h2);obtain⟨t,rfl⟩:=e2;simp[bS] at e;subst e;exact EqAt.tuple_int j t pl hu0
  | str j=>cases (show u=.str j from h2);obtain⟨t,rfl⟩:=e2;simp[bS] at e;subst e;exact EqAt.tuple_str j t pl hu0
  | lst qs=>obtain⟨a2,ys,rfl,g,_⟩:=bg.lst_inv h2;cases e2;obtain⟨its2,_,pl2,_⟩:=I.list g.l;simp[bS] at e;subst e;exact EqAt.tuple_list pl pl2.isList hu0
  | tup qs=>
   by_cases hv:V.ref a=u
   ·subst hv
    rw[i5 I _ _ _ b h1 h2 e];cases e2;exact EqAt.same _
   ·obtain⟨a2,ys,rfl,g2,r2⟩:=bg.tup_inv h2
    cases e2;obtain⟨its2,rv2,pl2,_⟩:=I.tuple g2;have l1:=r1.length;have l2:=r2.length;have l3:=rv.length;have l4:=rv2.length;have e':cX ps qs=some b:=by simpa [bS] using e
    rw[← ju ps qs b e',show ps.length=its.toArray.size by simp;omega,show qs.length=its2.toArray.size by simp;omega];refine EqAt.of_refs (fun z=>hv (by rw[z])) (RcAt.tuples pl pl2 hu0 fun j j1 j2=>?_);have:=kM I ps qs A.in1 xs ys its its2 b r1 r2 rv rv2 e' (by show A.units+1+_<_;omega) j (by simpa using j1) (by simpa using j2);simpa using this
  | _=>simp[bS] at e
 | .lst ps,q,A,v,u,v',u',b,h1,h2,e1,e2,e,hu=>by
  obtain⟨a,xs,rfl,g1,r1⟩:=bg.lst_inv h1;cases e1;obtain⟨its,rv,pl,_⟩:=I.list g1.l;simp only[xB] at hu;have hu0:A.units<cLine:=by omega
  cases q with
  | non=>cases (show u=.non from h2);cases e2;simp[bS] at e;subst e;exact EqAt.list_none pl.isList hu0
  | bl j=>cases (show u=.bl j from h2);cases e2;simp[bS] at e;subst e;exact EqAt.list_bool j pl.isList hu0
  | int j=>cases (show u=.int j from h2);obtain⟨t,rfl⟩:=e2;simp[bS] at e;subst e;exact EqAt.list_int j t pl.isList hu0
  | str j=>cases (show u=.str j from h2);obtain⟨t,rfl⟩:=e2;simp[bS] at e;subst e;exact EqAt.list_str j t pl.isList hu0
  | tup qs=>obtain⟨a2,ys,rfl,g,_⟩:=bg.tup_inv h2;cases e2;obtain⟨its2,_,pl2,_⟩:=I.tuple g;simp[bS] at e;subst e;exact EqAt.list_tuple pl.isList pl2 hu0
  | lst qs=>
   by_cases hv:V.ref a=u
   ·subst hv
    rw[i5 I _ _ _ b h1 h2 e];cases e2;exact EqAt.same _
   ·obtain⟨a2,ys,rfl,g2,r2⟩:=bg.lst_inv h2
    cases e2;obtain⟨its2,rv2,pl2,_⟩:=I.list g2.l;have l1:=r1.length;have l2:=r2.length;have l3:=rv.length;have l4:=rv2.length;have e':cX ps qs=some b:=by simpa [bS] using e
    have hp:=ju ps qs b e';refine EqAt.of_refs (fun z=>hv (by rw[z])) ?_
    by_cases hl:ps.length=qs.length
    ·have hb:(KQ its.toArray.size).all (gQ ps qs)=b:=by
      rw[← hp,hl,Nat.min_self,beq_self_eq_true,Oe,show its.toArray.size=qs.length by simp;omega]
     rw[← hb];refine RcAt.lists pl.isList pl2.isList (by simp;omega) hu0 fun j j1 j2=>?_;have:=kM I ps qs A.in1 xs ys its its2 b r1 r2 rv rv2 e' (by show A.units+1+_<_;omega) j (by simpa using j1) (by simpa using j2);simpa using this
    ·have hb:b=false:=by
      rw[← hp,beq_eq_false_iff_ne.mpr hl,Nb]
     rw[hb];exact RcAt.lists_lengths pl.isList pl2.isList (by simp;omega) hu0
  | _=>simp[bS] at e
 | .dct _ _,_,_,_,_,_,_,_,_,_,_,_,e,_=>by simp[bS] at e
 | .dtt _ _,_,_,_,_,_,_,_,_,_,_,_,e,_=>by simp[bS] at e
 | .fn _ _,_,_,_,_,_,_,_,_,_,_,_,e,_=>by simp[bS] at e
theorem kM(I:Inv X pins σ H s):∀(ps qs:List PV)(A:KY)(xs ys:List V)(vs ws:List JJ)(b:Bool),aB X.K H ps xs->aB X.K H qs ys->Vals xs vs->Vals ys ws->cX ps qs=some b->A.units+e8 ps<cLine->
  ∀j (h1:j<vs.length) (h2:j<ws.length),EqAt A s vs[j] ws[j] (gQ ps qs j)
 | [],qs,A,xs,ys,vs,ws,b,r1,r2,rv,rw',e,hu,j,h1,h2=>by
  cases r1;cases rv;exact absurd h1 (M8 _)
 | p::ps,[],A,xs,ys,vs,ws,b,r1,r2,rv,rw',e,hu,j,h1,h2=>by
  cases r2;cases rw';exact absurd h2 (M8 _)
 | p::ps,q::qs,A,xs,ys,vs,ws,b,r1,r2,rv,rw',e,hu,j,h1,h2=>by
  obtain⟨x,r,rfl,p1,t1⟩:=r1;obtain⟨y,r',rfl,p2,t2⟩:=r2;cases rv with
  | cons a1 c1=>
   cases rw' with
   | cons a2 c2=>
    simp only[cX] at e;obtain⟨b1,e1,e⟩:=K3.mp e;obtain⟨b2,e2,e⟩:=K3.mp e;simp only[e8] at hu;cases j with
    | zero=>
     have:gQ (p::ps) (q::qs) 0=b1:=by simp[gQ,e1]
     rw[this];exact vD I p q A x y _ _ b1 p1.o p2.o a1 a2 e1 (by omega)
    | succ j=>
     rw[lN];exact kM I ps qs A r r' _ _ b2 t1 t2 c1 c2 e2 (by omega) j (QT h1) (QT h2)
end
end
end PU
namespace PU
open PySem PySem.Spec PyProof.Rows L2 PySem.SeqAt PySem.Calls PyProof.V
variable[TW]
def EqW(P:K5)(w:KH)(A:KY)(s:JM)(y x:JJ)(b:Bool):Prop:=∀(E:JJ->JM->Prop)(Q:Bool->JM->Prop),Q b s->JZ (KM P w) A (eqBool y x) Q E s
theorem EqW.of{P:K5}{w:KH}{A:KY}{s:JM}{y x:JJ}{b:Bool}(h:EqAt A s y x b):EqW P w A s y x b:=fun E Q q=>h P w E Q q
section
variable{P : K5}{w : KH}{κ : Type}[DecidableEq κ]{kd : KeyKind P w κ}{A : KY}{E : JJ → JM → Prop}{s : JM}
inductive HitW (P:K5) (w:KH) (A:KY) (s:JM) (other:List (κ×JJ)):List (κ×JJ)->Bool->Prop
 | done:HitW P w A s other [] true
 | lacks {k:κ} {v:JJ} {t:List (κ×JJ)}:LM other k=none->HitW P w A s other ((k,v)::t) false
 | meets {k:κ} {v y:JJ} {t:List (κ×JJ)} {e b:Bool}:LM other k=some y->EqW P w A s v y e->HitW P w A s other t b->HitW P w A s other ((k,v)::t) (e && b)
theorem HitW.split{other:List (κ×JJ)}{k:κ}{v:JJ}{t:List (κ×JJ)}{b:Bool}(h:HitW P w A s other ((k,v)::t) b) :
  (LM other k=none/\b=false)\/∃y e c,LM other k=some y/\EqW P w A s v y e/\HitW P w A s other t c/\b=(e && c):=by
 cases h with
 | lacks n=>exact .inl ⟨n,rfl⟩
 | meets y1 y2 y3=>exact .inr ⟨_,_,_,y1,y2,y3,rfl⟩
theorem sf{nm:String}{d1 d2:Addr}{l1 l2:List (κ×JJ)}{r:Bool}{Q:Bool->JM->Prop}(n1:(d1 == Ku)=false)(n2:(d2 == Ku)=false)(D1:s.heap.DictOf kd d1 l1)(D2:s.heap.DictOf kd d2 l2)
  (hh:l1.length=l2.length->HitW P w A s l2 l1 r) (q:Q (l1.length == l2.length && r) s):JZ (KM P w) A (PH nm d1 d2) Q E s:=by
 obtain⟨o1,es1,c1,get1,_,dat1,ks1,prs1,_⟩:=D1;obtain⟨o2,es2,c2,get2,_,dat2,ks2,prs2,_⟩:=D2;have len1:l1.length=es1.size:=by rw[← prs1.length];exact Kx
 have len2:l2.length=es2.size:=by rw[← prs2.length];exact Kx
 have seek:∀k,findBy kd.is es2 k=LM l2 k:=fun k=>by
  rw[← prs2.find k];clear len2 prs2 ks2 dat2 get2;cases es2;simp[findBy]
 rw[len1,len2] at q;unfold PH Builtin.Dict.showsAll;rw[if_neg (by rw[n1];exact JU),if_neg (by rw[n2];exact JU)];refine JI (JO (JI (JO (JI (MR get1 dat1 ?_)))));dsimp only;refine JI (MR get2 dat2 ?_)
 by_cases sz:es1.size=es2.size
 case neg=>
  rw[if_pos (by simpa using sz)];have no:(es1.size == es2.size)=false:=by simpa using sz
  rw[no,Pr] at q;exact JI (Nt (JO q))
 case pos=>
  have q':Q r s:=by simpa [sz] using q
  have hh':=hh (by rw[len1,len2];exact sz);rw[if_neg (by rw[sz];simp)];refine JI (OX get1 dat1 (JI ?_));rw[Std.Legacy.Range.forIn_eq_forIn_range'];simp only[Std.Legacy.Range.size,Nat.sub_zero,Nat.add_sub_cancel,Nat.div_one];refine Pu _ (fun todo z s'=>s'=s/\z=(none,())/\∃j,todo=QY j (es1.size-j)/\j<=es1.size/\HitW P w A s l2 (l1.drop j) r) _ ?_ ?_ _ _ ⟨rfl,rfl,0,by simp,Kz _,hh'⟩
  ·rintro x todo z s' ⟨rfl,rfl,j,et,hj,rest⟩
   have lt:j<es1.size:=by
    rcases Li j es1.size with g | g
    ·exact g
    ·rw[Nat.sub_eq_zero_of_le g] at et;simp at et
   have e1:es1.size-j=(es1.size-(j+1))+1:=by omega
   rw[e1,PL] at et;injection et with ex et;subst ex;refine JI (MR get1 dat1 ?_);rw[Ln lt];have lt':x<l1.length:=by rw[len1];exact lt
   obtain⟨k,v,ekv⟩:∃k v,l1[x]=(k,v):=⟨_,_,rfl⟩;have cut:l1.drop x=(k,v)::l1.drop (x+1):=by rw[← ekv];exact Nk lt'
   obtain⟨isk,isv⟩:=prs1.get? (i:=x) (e:=es1[x]) (k:=k) (v:=v) (by rw[QK];exact Ln lt) (by rw[KO lt',ekv]);obtain⟨k',isk',hs⟩:=ks1 es1[x] (Array.getElem_mem lt);have ek:k'=k:=kd.inj _ _ _ isk' isk;rw[ek] at hs;rw[cut] at rest;show JZ _ _ (R1 [es1[x].key,es1[x].val] _ >>= _) _ _ _;rw[hs];refine JI (LR (JI (wpAny_dictFind_of isk get2 dat2 ks2 ?_)));cases at2:es2.findIdx? fun e=>kd.is k e.key with
   | none=>
    have nn:LM l2 k=none:=by rw[← seek k,findBy_of_findIdx?,at2]
    rcases rest.split with⟨_,er⟩|⟨y,_,_,hy,_⟩
    ·rw[er] at q'
     refine JO ?_;show JZ _ _ (if (!false)=true then _ else _) _ _ _;rw[if_pos (by decide)];exact JO (JO q')
    ·rw[nn] at hy;cases hy
   | some m=>
    obtain⟨mlt,_,_⟩:=Array.findIdx?_eq_some_iff_getElem.mp at2
    have vv:LM l2 k=some es2[m].val:=by
     rw[← seek k,findBy_of_findIdx?,at2];simp[Ln mlt]
    refine JI (MR get2 dat2 ?_);rw[Ln mlt];rcases rest.split with⟨nn,_⟩|⟨y,e,c,hy,he,ht,er⟩
    ·rw[vv] at nn;cases nn
    ·have ey:es2[m].val=y:=Kl (vv.symm.trans hy)
     rw[← ey,← isv] at he;refine LR (he _ _ ?_);cases e with
     | false=>
      rw[er,Pr] at q';show JZ _ _ (if (!false)=true then _ else _) _ _ _;rw[if_pos (by decide)];exact JO (JO q')
     | true=>
      rw[Nr] at er;rw[← er] at ht;show JZ _ _ (if (!true)=true then _ else _) _ _ _;rw[if_neg (by decide)];refine JI (OX get1 dat1 ?_);rw[if_neg (by simp)];exact JO ⟨rfl,rfl,x+1,et,lt,ht⟩
  ·rintro z s' ⟨rfl,rfl,j,et,hj,rest⟩
   have ej:j=es1.size:=by
    rcases Li j es1.size with g | g
    ·have e1:es1.size-j=(es1.size-(j+1))+1:=by omega
     rw[e1,PL] at et;cases et
    ·exact Nat.le_antisymm hj g
   refine JO ?_;rw[ej,← len1,O5] at rest;cases rest;exact q'
theorem jF{d1 d2:Addr}{l1 l2:List (κ×JJ)}{r:Bool}{Q:JJ->JM->Prop}(n1:(d1 == Ku)=false)(n2:(d2 == Ku)=false)(D1:s.heap.DictOf kd d1 l1)(D2:s.heap.DictOf kd d2 l2)(hu:A.units<cLine)
  (hh:l1.length=l2.length->HitW P w A.in1 s l2 l1 r) (q:Q (.bool (l1.length == l2.length && r)) s):JZ (KM P w) A (richCompare .Eq (.ref d1) (.ref d2)) Q E s:=by
 refine wpAny_richCompare_same_room (op:=.Eq) D1.typeIs D2.typeIs QC (Md QC D1.typeIs PySem.F.entry_dict_eq ?_ (PySem.F.args_dict_eq_2 _ _)) hu;show JZ _ _ (Ov "__eq__" ⟨[.ref d1,.ref d2],[]⟩ >>= _) _ _ s;unfold Ov;refine JI (JI (Oa D1.typeIs ?_));show JZ _ _ (pure (Kh d1,Kh d2)) _ _ s;refine JO (JI (NJ (T:="dict") D2.typeIs PySem.F.sub_dict_dict ?_));simp only[QA,Km,if_false];refine JI (JO (JI (JO (JI (sf n1 n2 D1 D2 hh (JO ⟨_,rfl,(fun z=>nomatch z),?_⟩))))));simpa using q
end
section
variable{X : Cx}{pins : List (Addr×Obj)}{σ : L2.St}{H : Hp}{s : JM}
theorem lD{kvs:List (Key×V)}{vs:List (Key×JJ)}(r:KV kvs vs)(k:Key):(jo kvs k=none/\LM vs k=none)\/∃v u,jo kvs k=some v/\LM vs k=some u/\RelV v u:=by
 induction r with
 | nil=>exact .inl ⟨rfl,rfl⟩
 | @cons p q ps qs h t ih=>
  obtain⟨h1,h2⟩:=h
  by_cases e:p.1=k
  ·refine .inr ⟨p.2,q.2,gj e,?_,h2⟩
   simp[LM,Kw,← h1,e]
  ·rw[eA e]
   have e2:LM (q::qs) k=LM qs k:=by simp[LM,Kw,← h1,e]
   rw[e2];exact ih
theorem lR{k:Key}:∀{ks:List Key}{ps:List PV}{kvs:List (Key×V)},kvs.map (·.1)=ks->ps.length=kvs.length->bT ks ps k=none->jo kvs k=none
 | [],_,kvs,e,_,_=>by
  have:kvs=[]:=by simpa using e
  subst this;rfl
 | j::ks,[],kvs,e,hl,_=>by
  have:kvs.length=0:=by simpa using hl.symm
  have:kvs=[]:=Kv this;subst this;cases e
 | j::ks,p::ps,kv::kvs,e,hl,h=>by
  have e1:kv.1=j:=by simpa using congrArg Ol e
  have e2:kvs.map (·.1)=ks:=by simpa using congrArg PK e
  have h:(if j=k then some p else bT ks ps k)=none:=h;split at h
  ·cases h
  ·rename_i hn
   rw[eA (by rw[e1];exact hn)];exact lR e2 (by simpa using hl) h
 | j::ks,p::ps,[],e,_,_=>by cases e
theorem ib{K:JH}{H:Hp}{k:Key}:∀{ks:List Key}{ps:List PV}{kvs:List (Key×V)}{p:PV},kvs.map (·.1)=ks->aB K H ps (kvs.map (·.2))->bT ks ps k=some p->∃v,jo kvs k=some v/\Rep K H p v
 | _,_,[],_,h1,h2,e=>by
  subst h1;simp only[M3,bT] at e;cases e
 | _,[],kv::kvs,_,h1,h2,e=>by
  cases h2
 | _,q::ps,kv::kvs,p,h1,h2,e=>by
  subst h1;obtain⟨x,r,ex,hx,ht⟩:=h2;simp only[JQ,M0] at ex;obtain⟨rfl,rfl⟩:=ex;simp only[JQ,bT] at e
  by_cases hk:kv.1=k
  ·rw[if_pos hk] at e
   cases e;exact⟨kv.2,gj hk,hx⟩
  ·rw[if_neg hk] at e
   rw[eA hk];exact ib rfl ht e
theorem nj(A:KY)(eqf:PV->PV->Option Bool)(I:Inv X pins σ H s){ls:List Key}{qs:List PV}{kvs2:List (Key×V)}{vs2:List (Key×JJ)}(e2:kvs2.map (·.1)=ls)(r2:aB X.K H qs (kvs2.map (·.2)))(kv2:KV kvs2 vs2) :
  ∀(ks:List Key)(ps:List PV)(kvs1:List (Key×V))(vs1:List (Key×JJ))(b:Bool),kvs1.map (·.1)=ks->aB X.K H ps (kvs1.map (·.2))->KV kvs1 vs1->ky eqf ks ps ls qs=some b->
   (∀p∈ps,∀(q:PV)(v u:V)(v' u':JJ)(c:Bool),bg X.K H p v->bg X.K H q u->RelV v v'->RelV u u'->eqf p q=some c->EqW X.prog X.w A s v' u' c)->HitW X.prog X.w A s vs2 vs1 b
 | [],[],kvs1,vs1,b,e1,r1,kv1,h,_=>by
  have:kvs1=[]:=by simpa using e1
  subst this;cases kv1;have h:some true=some b:=h;cases h;exact .done
 | k::ks,p::ps,kvs1,vs1,b,e1,r1,kv1,h,he=>by
  cases kvs1 with
  | nil=>cases e1
  | cons kv kvs=>
   have ek:kv.1=k:=by simpa using congrArg Ol e1
   have et:kvs.map (·.1)=ks:=by simpa using congrArg PK e1
   obtain⟨x,r,ex,rp,rt⟩:=r1;have exx:kv.2=x:=by simpa using congrArg Ol ex
   have err:kvs.map (·.2)=r:=by simpa using congrArg PK ex
   cases kv1 with
   | @cons _ q _ qs' hd tl=>
    obtain⟨k',u1⟩:=q;obtain⟨h1,h2⟩:=hd;have h1:kv.1=k':=h1;have h2:RelV kv.2 u1:=h2;subst err;rw[← h1,ek];unfold ky at h;cases hl:bT ls qs k with
    | none=>
     rw[hl] at h;have h:some false=some b:=h;cases h;have:=lR e2 (by rw[r2.length,JT]) hl;rcases lD kv2 k with⟨_,z⟩|⟨v,u,z,_⟩
     ·exact .lacks z
     ·rw[this] at z;cases z
    | some q2=>
     rw[hl] at h;have h:((eqf p q2).bind fun a=>(ky eqf ks ps ls qs).bind fun b=>some (a && b))=some b:=h;obtain⟨c1,g1,h⟩:=K3.mp h;obtain⟨c2,g2,h⟩:=K3.mp h;cases h;obtain⟨v2,ev2,rp2⟩:=ib e2 r2 hl;rcases lD kv2 k with⟨z,_⟩|⟨v,u,z,z2,z3⟩
     ·rw[ev2] at z;cases z
     ·rw[ev2] at z
      cases z;exact .meets z2 (he p KJ q2 kv.2 v2 u1 u c1 (exx▸rp.o) rp2.o h2 z3 g1) (nj A eqf I e2 r2 kv2 ks ps kvs qs' c2 et rt tl g2 fun p' hp'=>he p' (KI _ hp'))
 | [],_::_,_,_,_,_,_,_,h,_=>by cases h
 | _::_,[],_,_,_,_,_,_,h,_=>by cases h
theorem uD{k:Key}{r:PV}:∀(ks:List Key)(ps:List PV),ks.length=ps.length->k ∉ ks->∀(ls:List Key)(qs:List PV),bT (ks++k::ls) (ps++r::qs) k=some r
 | [],[],_,_,ls,qs=>by
  show (if k=k then some r else _)=_;rw[if_pos rfl]
 | j::ks,p::ps,hl,hn,ls,qs=>by
  show (if j=k then some p else bT (ks++k::ls) (ps++r::qs) k)=_;rw[if_neg (fun e=>hn (by rw[e];exact KJ))];exact uD ks ps (by simpa using hl) (fun h=>hn (KI _ h)) ls qs
 | [],_::_,h,_,_,_=>by simp at h
 | _::_,[],h,_,_,_=>by simp at h
theorem oz{P:K5}{w:KH}{κ:Type}[DecidableEq κ]{kd:KeyKind P w κ}:∀{es:List DictEntry}{l1 l2:List (κ×JJ)},Pairs kd es l1->Pairs kd es l2->l1=l2
 | _,_,_,.nil,.nil=>rfl
 | _,_,_,.cons a b c,.cons a' b' c'=>by
  rw[oz c c'];have h1:=kd.inj _ _ _ a a';have h2:=b.symm.trans b';rw[Pp h1 h2]
theorem sN{P:K5}{w:KH}{κ:Type}[DecidableEq κ]{kd:KeyKind P w κ}{h:Heap}{a:Addr}{l1 l2:List (κ×JJ)}(d1:h.DictOf kd a l1)(d2:h.DictOf kd a l2):l1=l2:=by
 obtain⟨o1,es1,c1,get1,_,dat1,_,prs1,_⟩:=d1;obtain⟨o2,es2,c2,get2,_,dat2,_,prs2,_⟩:=d2;rw[get1] at get2;cases get2;rw[dat1] at dat2;cases dat2;exact oz prs1 prs2
theorem zB:∀{l1 l2:List (Key×V)}{vs:List (Key×JJ)},KV l1 vs->KV l2 vs->l1=l2
 | _,_,_,.nil,.nil=>rfl
 | _,_,_,.cons a c,.cons a' c'=>by
  rw[zB c c'];rw[Pp (a.1.trans a'.1.symm) (RelV.inj a.2 a'.2)]
theorem uO:∀{l:List (Key×V)}{vs:List (Key×JJ)},KV l vs->l.map (·.1)=vs.map (·.1)
 | _,_,.nil=>rfl
 | _,_,.cons a c=>by rw[JQ,JQ,uO c,a.1]
theorem oY(eqf:PV->PV->Option Bool)(he:∀(p q:PV)(v:V)(c:Bool),Rep X.K H p v->Rep X.K H q v->eqf p q=some c->c=true):∀(kvs kvs0:List (Key×V))(qs0 qs ps:List PV)(b:Bool),
  ((kvs0++kvs).map (·.1)).Nodup->aB X.K H qs0 (kvs0.map (·.2))->aB X.K H qs (kvs.map (·.2))->aB X.K H ps (kvs.map (·.2))->ky eqf (kvs.map (·.1)) ps ((kvs0++kvs).map (·.1)) (qs0++qs)=some b->b=true
 | [],kvs0,qs0,qs,ps,b,nd,r0,rq,rp,h=>by
  have:ps=[]:=Kv (by rw[rp.length];rfl);subst this;have h:some true=some b:=h;cases h;rfl
 | kv::kvs,kvs0,qs0,[],ps,b,nd,r0,rq,rp,h=>by
  have:=rq.length;simp at this
 | kv::kvs,kvs0,qs0,q::qs,[],b,nd,r0,rq,rp,h=>by
  have:=rp.length;simp at this
 | kv::kvs,kvs0,qs0,q::qs,p::ps,b,nd,r0,rq,rp,h=>by
  obtain⟨x,r,ex,rp1,rpt⟩:=rp;obtain⟨y,r',ey,rq1,rqt⟩:=rq;have exx:kv.2=x:=by simpa using congrArg Ol ex
  have err:kvs.map (·.2)=r:=by simpa using congrArg PK ex
  have eyy:kv.2=y:=by simpa using congrArg Ol ey
  have err':kvs.map (·.2)=r':=by simpa using congrArg PK ey
  subst exx eyy err;rw[← err'] at rqt
  have nk:kv.1 ∉ kvs0.map (·.1):=fun z=>by
   rw[KL,LA] at nd;exact nd.2.2 _ z _ (by simp) rfl
  have lk:bT ((kvs0++kv::kvs).map (·.1)) (qs0++q::qs) kv.1=some q:=by
   rw[KL,JQ];exact uD _ _ (by rw[JT,r0.length,JT]) nk _ _
  rw[JQ] at h;unfold ky at h;rw[lk] at h;have h:((eqf p q).bind fun a=>(ky eqf (kvs.map (·.1)) ps ((kvs0++kv::kvs).map (·.1)) (qs0++q::qs)).bind fun b=>some (a && b))=some b:=h;obtain⟨c1,g1,h⟩:=K3.mp h;obtain⟨c2,g2,h⟩:=K3.mp h;cases h;rw[he p q kv.2 c1 rp1 rq1 g1];have:=oY eqf he kvs (kvs0++[kv]) (qs0++[q]) qs ps c2 (by simpa using nd) (by rw[KL];exact r0.append (aB.cons rq1 aB.nil)) rqt rpt (by simpa using g2);rw[this];rfl
theorem uh(hw:X.w=TW.w)(I:Inv X pins σ H s):∀(n:Nat)(p q:PV)(v:V)(b:Bool),bg X.K H p v->bg X.K H q v->wq n p q=some b->b=true:=by
 intro n
 induction n with
 | zero=>
  intro p q v b h1 h2 e;have e:bS p q=some b:=by cases p <;> exact e
  exact i5 I p q v b h1 h2 e
 | succ n ih=>
  intro p q v b h1 h2 e
  by_cases hd:∃ks ps ls qs,p=.dct ks ps/\q=.dct ls qs
  ·obtain⟨ks,ps,ls,qs,rfl,rfl⟩:=hd
   have e:(if ks.length=ls.length then ky (wq n) ks ps ls qs else some false)=some b:=e;obtain⟨a1,kvs1,rfl,d1,k1,r1⟩:=h1;obtain⟨a2,kvs2,ea,d2,k2,r2⟩:=h2;cases ea;obtain⟨_,n1,vs1,kv1,D1⟩:=DkR.at hw I d1;obtain⟨_,n2,vs2,kv2,D2⟩:=DkR.at hw I d2;have:=sN D1 D2;subst this;have:=zB kv1 kv2;subst this;subst k1;subst k2;rw[if_pos rfl] at e;obtain⟨_,_,_,_,_,_,_,_,nd⟩:=D1;exact oY (wq n) (fun p q v c g1 g2 g=>ih p q v c g1.o g2.o g) kvs1 [] [] qs ps b (by rw[Mh,uO kv1];exact nd) aB.nil r2 r1 (by simpa using e)
  ·have e:bS p q=some b:=by
    rw[← e];cases p with
    | dct ks ps=>
     cases q with
     | dct ls qs=>exact absurd ⟨ks,ps,ls,qs,rfl,rfl⟩ hd
     | _=>rfl
    | _=>rfl
   exact i5 I p q v b h1 h2 e
theorem Bx(hw:X.w=TW.w)(I:Inv X pins σ H s):∀(n:Nat)(p q:PV)(A:KY)(v u:V)(v' u':JJ)(b:Bool),bg X.K H p v->bg X.K H q u->RelV v v'->RelV u u'->wq n p q=some b->A.units+xB p<cLine->EqW X.prog X.w A s v' u' b:=by
 intro n
 induction n with
 | zero=>
  intro p q A v u v' u' b h1 h2 e1 e2 e hu;have e:bS p q=some b:=by cases p <;> exact e
  exact .of (vD I p q A v u v' u' b h1 h2 e1 e2 e hu)
 | succ n ih=>
  intro p q A v u v' u' b h1 h2 e1 e2 e hu
  by_cases hd:∃ks ps ls qs,p=.dct ks ps/\q=.dct ls qs
  ·obtain⟨ks,ps,ls,qs,rfl,rfl⟩:=hd
   have e0:=e;have h10:=h1;have h20:=h2;have e:(if ks.length=ls.length then ky (wq n) ks ps ls qs else some false)=some b:=e;obtain⟨a1,kvs1,rfl,d1,k1,r1⟩:=h1;obtain⟨a2,kvs2,rfl,d2,k2,r2⟩:=h2;cases e1;cases e2;obtain⟨_,n1,vs1,kv1,D1⟩:=DkR.at hw I d1;obtain⟨_,n2,vs2,kv2,D2⟩:=DkR.at hw I d2;have l1:vs1.length=ks.length:=by rw[← k1,JT];exact(Ki kv1).symm
   have l2:vs2.length=ls.length:=by rw[← k2,JT];exact(Ki kv2).symm
   simp only[xB] at hu;have hu0:A.units<cLine:=by omega
   have dep:∀p∈ps,xB p<=e8 ps:=fun p hp=>by
    obtain⟨j,hj⟩:=Mz.mp hp;exact mK hj
   by_cases same:a1=a2
   ·subst same
    rw[uh hw I (n+1) _ _ _ b h10 h20 e0];exact .of (EqAt.same _)
   ·intro E Q hq
    unfold eqBool;refine LR (wpAny_ite_split (fun hab=>absurd (by have:=Mi hab;injection this) same) fun _=>JI ?_)
    by_cases hl:ks.length=ls.length
    ·rw[if_pos hl] at e
     refine jF (r:=b) n1 n2 D1 D2 hu0 (fun _=>nj A.in1 (wq n) I k2 r2 kv2 ks ps kvs1 vs1 b k1 r1 kv1 e fun p hp q v u v' u' c g1 g2 g3 g4 g5=>ih p q A.in1 v u v' u' c g1 g2 g3 g4 g5 ?_) (MQ ?_)
     ·have:=dep p hp
      show A.units+1+_<_;omega
     ·have:(vs1.length == vs2.length)=true:=by rw[l1,l2,hl];simp
      rw[this,Nr];exact hq
    ·rw[if_neg hl] at e
     cases e;refine jF (r:=false) n1 n2 D1 D2 hu0 (fun z=>absurd (by rw[← l1,← l2];exact z) hl) (MQ ?_);rw[Nb];exact hq
  ·have e:bS p q=some b:=by
    rw[← e];cases p with
    | dct ks ps=>
     cases q with
     | dct ls qs=>exact absurd ⟨ks,ps,ls,qs,rfl,rfl⟩ hd
     | _=>rfl
    | _=>rfl
   exact .of (vD I p q A v u v' u' b h1 h2 e1 e2 e hu)
end
end PU
namespace PU
open PySem PySem.Spec PyProof.Rows L2 PySem.SeqAt
variable[TW]
theorem cb{K:JH}{H:Hp}{p:PV}{v:V}(h:nV p=true)(r:bg K H p v):v=scV p:=by
 cases p with
 | non=>exact r
 | bl b=>exact r
 | int i=>exact r
 | str x=>exact r
 | _=>cases h
section
variable{X : Cx}
theorem qJ{pins:List (Addr×Obj)}{σ:L2.St}{H:Hp}{s:JM}{ps qs:List PV}{v u:V}{v' u':JJ}{b:Bool}(hu:X.A.units+64<cLine)(I:Inv X pins σ H s)(e:cX ps qs=some b)(hd:e8 ps<=60) :
  (bg X.K H (.tup ps) v->bg X.K H (.tup qs) u->RelV v v'->RelV u u'->RcAt X.A s v' u' b/\RcNeAt X.A s v' u' (!b))/\
  (bg X.K H (.lst ps) v->bg X.K H (.lst qs) u->RelV v v'->RelV u u'->RcAt X.A s v' u' b/\RcNeAt X.A s v' u' (!b)):=by
 have hu0:X.A.units<cLine:=by omega
 have hp:=ju ps qs b e;constructor
 ·intro h1 h2 e1 e2
  obtain⟨a,xs,rfl,g1,r1⟩:=bg.tup_inv h1;obtain⟨a2,ys,rfl,g2,r2⟩:=bg.tup_inv h2;cases e1;cases e2;obtain⟨its,rv,pl,_⟩:=I.tuple g1;obtain⟨its2,rv2,pl2,_⟩:=I.tuple g2;have l1:=r1.length;have l2:=r2.length;have l3:=rv.length;have l4:=rv2.length
  have each:∀j (j1:j<its.toArray.size) (j2:j<its2.toArray.size),EqAt X.A.in1 s its.toArray[j] its2.toArray[j] (gQ ps qs j):=fun j j1 j2=>by
   have:=kM I ps qs X.A.in1 xs ys its its2 b r1 r2 rv rv2 e (by show X.A.units+1+_<_;omega) j (by simpa using j1) (by simpa using j2);simpa using this
  rw[← hp,show ps.length=its.toArray.size by simp;omega,show qs.length=its2.toArray.size by simp;omega];exact⟨RcAt.tuples pl pl2 hu0 each,RcNeAt.tuples pl pl2 hu0 each⟩
 ·intro h1 h2 e1 e2
  obtain⟨a,xs,rfl,g1,r1⟩:=bg.lst_inv h1;obtain⟨a2,ys,rfl,g2,r2⟩:=bg.lst_inv h2;cases e1;cases e2;obtain⟨its,rv,pl,_⟩:=I.list g1.l;obtain⟨its2,rv2,pl2,_⟩:=I.list g2.l;have l1:=r1.length;have l2:=r2.length;have l3:=rv.length;have l4:=rv2.length
  have each:∀j (j1:j<its.toArray.size) (j2:j<its2.toArray.size),EqAt X.A.in1 s its.toArray[j] its2.toArray[j] (gQ ps qs j):=fun j j1 j2=>by
   have:=kM I ps qs X.A.in1 xs ys its its2 b r1 r2 rv rv2 e (by show X.A.units+1+_<_;omega) j (by simpa using j1) (by simpa using j2);simpa using this
  by_cases hl:ps.length=qs.length
  ·have hb:(KQ its.toArray.size).all (gQ ps qs)=b:=by
    rw[← hp,hl,Nat.min_self,beq_self_eq_true,Oe,show its.toArray.size=qs.length by simp;omega]
   rw[← hb];exact⟨RcAt.lists pl.isList pl2.isList (by simp;omega) hu0 each,RcNeAt.lists pl.isList pl2.isList (by simp;omega) hu0 each⟩
  ·have hb:b=false:=by
    rw[← hp,beq_eq_false_iff_ne.mpr hl,Nb]
   rw[hb];exact⟨RcAt.lists_lengths pl.isList pl2.isList (by simp;omega) hu0,RcNeAt.lists_lengths pl.isList pl2.isList (by simp;omega) hu0⟩
theorem pJ(hu:X.A.units+64<cLine)(hw:X.w=TW.w:=by rfl):OpR X (Kk .Eq) (rP X.K gEq):=by
 intro pins s σ H x y v u Q I rx ry ⟨p,q,z,hp,hq,e,k⟩;unfold gEq at e;split at e
 ·rename_i ks ps ls qs
  split at e
  ·rename_i hd
   obtain⟨b,eb,ez⟩:=JV.mp e;subst ez;have eb:(if ks.length=ls.length then ky (wq 2) ks ps ls qs else some false)=some b:=eb;obtain⟨a1,kvs1,rfl,d1,k1,r1⟩:=hp;obtain⟨a2,kvs2,rfl,d2,k2,r2⟩:=hq;cases rx;cases ry;obtain⟨_,n1,vs1,kv1,D1⟩:=DkR.at hw I d1;obtain⟨_,n2,vs2,kv2,D2⟩:=DkR.at hw I d2;have l1:vs1.length=ks.length:=by rw[← k1,JT];exact(Ki kv1).symm
   have l2:vs2.length=ls.length:=by rw[← k2,JT];exact(Ki kv2).symm
   have fin:EP X pins σ Q (.bool b) s:=⟨.bl b,H,I,rfl,k _ H (Same.refl H) rfl⟩;have hu0:X.A.units<cLine:=by omega
   by_cases hl:ks.length=ls.length
   ·rw[if_pos hl] at eb
    refine jF (r:=b) n1 n2 D1 D2 hu0 (fun _=>nj X.A.in1 (wq 2) I k2 r2 kv2 ks ps kvs1 vs1 b k1 r1 kv1 eb fun p hp q v u v' u' c g1 g2 g3 g4 g5=>Bx hw I 2 p q X.A.in1 v u v' u' c g1 g2 g3 g4 g5 ?_) ?_
    ·obtain⟨j,hj⟩:=Mz.mp hp
     have:=mK hj;show X.A.units+1+_<_;omega
    ·have:(vs1.length == vs2.length)=true:=by rw[l1,l2,hl];simp
     rw[this,Nr];exact fin
   ·rw[if_neg hl] at eb
    cases eb;refine jF (r:=false) n1 n2 D1 D2 hu0 (fun z=>absurd (by rw[← l1,← l2];exact z) hl) ?_;rw[Nb];exact fin
  ·cases e
 ·split at e
  ·rename_i hd
   obtain⟨b,eb,ez⟩:=JV.mp e;subst ez;exact((qJ hu I eb hd).1 hp hq rx ry).1 _ _ _ _ ⟨.bl b,H,I,rfl,k _ H (Same.refl H) rfl⟩
  ·cases e
 ·split at e
  ·rename_i hd
   obtain⟨b,eb,ez⟩:=JV.mp e;subst ez;exact((qJ hu I eb hd).2 hp hq rx ry).1 _ _ _ _ ⟨.bl b,H,I,rfl,k _ H (Same.refl H) rfl⟩
  ·cases e
 ·split at e
  ·rename_i hc
   obtain⟨h1,h2,h3⟩:=hc;cases e;rw[cb h1 hp] at rx;rw[cb h2 hq] at ry;exact Gy pins s σ H _ _ v u Q I rx ry ⟨h3,k _ H (Same.refl H) rfl⟩
  ·cases e
theorem Dr(hu:X.A.units+64<cLine):OpR X (Kk .NotEq) (rP X.K gNe):=by
 intro pins s σ H x y v u Q I rx ry ⟨p,q,z,hp,hq,e,k⟩;unfold gNe at e;split at e
 ·split at e
  ·rename_i hd
   obtain⟨b,eb,ez⟩:=JV.mp e;subst ez;exact((qJ hu I eb hd).1 hp hq rx ry).2 _ _ _ _ ⟨.bl (!b),H,I,rfl,k _ H (Same.refl H) rfl⟩
  ·cases e
 ·split at e
  ·rename_i hd
   obtain⟨b,eb,ez⟩:=JV.mp e;subst ez;exact((qJ hu I eb hd).2 hp hq rx ry).2 _ _ _ _ ⟨.bl (!b),H,I,rfl,k _ H (Same.refl H) rfl⟩
  ·cases e
 ·split at e
  ·rename_i hc
   obtain⟨h1,h2,h3⟩:=hc;cases e;rw[cb h1 hp] at rx;rw[cb h2 hq] at ry;exact Gv pins s σ H _ _ v u Q I rx ry ⟨h3,k _ H (Same.refl H) rfl⟩
  ·cases e
theorem GA:OpR X (Kk .Lt) (rP X.K gLt):=by
 intro pins s σ H x y v u Q I rx ry ⟨p,q,z,hp,hq,e,k⟩;unfold gLt at e;split at e
 ·rename_i i j
  cases e;cases (show x=.int i from hp);cases (show y=.int j from hq);exact Gw pins s σ H _ _ v u Q I rx ry ⟨i,j,rfl,rfl,k _ H (Same.refl H) rfl⟩
 ·rename_i i j
  cases e;cases (show x=.str i from hp);cases (show y=.str j from hq);exact ur pins s σ H _ _ v u Q I rx ry ⟨i,j,rfl,rfl,k _ H (Same.refl H) rfl⟩
 ·cases e
theorem IZ:OpR X (Kk .LtE) (rP X.K gLe):=by
 intro pins s σ H x y v u Q I rx ry ⟨p,q,z,hp,hq,e,k⟩;unfold gLe at e;split at e
 ·rename_i i j
  cases e;cases (show x=.int i from hp);cases (show y=.int j from hq);exact Gx pins s σ H _ _ v u Q I rx ry ⟨i,j,rfl,rfl,k _ H (Same.refl H) rfl⟩
 ·rename_i i j
  cases e;cases (show x=.str i from hp);cases (show y=.str j from hq);obtain⟨t,rfl⟩:=rx;obtain⟨t',rfl⟩:=ry;exact PySem.P.le_str ⟨.bl _,H,I,rfl,k _ H (Same.refl H) rfl⟩
 ·cases e
theorem AB{K:JH}{H:Hp}{p:PV}{v:V}(r:bg K H p v):decide (v=.non)=Ec p:=by
 cases p with
 | non=>cases (show v=.non from r);rfl
 | bl b=>cases (show v=.bl b from r);rfl
 | int b=>cases (show v=.int b from r);rfl
 | str b=>cases (show v=.str b from r);rfl
 | tup ps=>obtain⟨a,xs,rfl,_⟩:=bg.tup_inv r;rfl
 | lst ps=>obtain⟨a,xs,rfl,_⟩:=bg.lst_inv r;rfl
 | dct ks ps=>obtain⟨a,kvs,rfl,_⟩:=r;rfl
 | dtt ks ps=>obtain⟨a,kvs,rfl,_⟩:=r;rfl
 | fn L cs=>obtain⟨f,_,_,_,_,_,rfl,_⟩:=(show Rep K H (.fn L cs) v from r);rfl
theorem GB:OpR X (Kk .Is) (rP X.K yd):=by
 intro pins s σ H x y v u Q I rx ry ⟨p,q,z,hp,hq,e,k⟩;unfold yd at e;split at e
 ·cases e
  cases (show y=.non from hq);refine Dp pins s σ H _ _ v u Q I rx ry ⟨rfl,?_⟩;rw[AB hp];exact k _ H (Same.refl H) rfl
 ·cases e
end
end PU
namespace PU
open PySem PySem.Spec PyProof.Rows L2 PySem.SeqAt
variable[TW]
theorem cH{K:JH}{H:Hp}{p:PV}{v:V}{k:Key}(e:e6 p=some k)(r:bg K H p v):v=kV k:=by
 cases p with
 | int i=>cases e;exact r
 | str i=>cases e;exact r
 | _=>cases e
theorem qM{K:JH}{H:Hp}{ps:List PV}{xs:List V}{i:Int}{p:PV}(r:aB K H ps xs)(e:atI ps i=some p):∃v,atI xs i=some v/\Rep K H p v:=by
 unfold atI at e ⊢;rw[← r.length];obtain⟨j,ej,e2⟩:=K3.mp e;obtain⟨v,ev,rp⟩:=r.get e2;exact⟨v,by rw[ej];exact ev,rp⟩
section
variable{X : Cx}
theorem ixP(hu:X.A.units+64<cLine)(hw:X.w=TW.w:=by rfl):IxR X (rP X.K gIx):=by
 intro value slice pins s σ H x y v u Q I rx ry ⟨p,q,z,hp,hq,e,k⟩ hs;have h16:=Ke;unfold gIx at e;split at e
 ·rename_i ps i
  obtain⟨a,xs,rfl,g,r⟩:=bg.lst_inv hp;cases (show y=.int i from hq);obtain⟨w,ew,rp⟩:=qM r e;exact Bg value slice pins s σ H _ _ v u Q I rx ry ⟨a,xs,i,w,rfl,rfl,g.l,ew,k w H (Same.refl H) rp⟩ hs
 ·rename_i ps i
  obtain⟨a,xs,rfl,g,r⟩:=bg.tup_inv hp;cases (show y=.int i from hq);obtain⟨w,ew,rp⟩:=qM r e;exact E4 value slice pins s σ H _ _ v u Q I rx ry ⟨a,xs,i,w,rfl,rfl,g,ew,k w H (Same.refl H) rp⟩ hs
 ·rename_i t i
  split at e
  ·rename_i hl
   obtain⟨c,ec,ez⟩:=JV.mp e;subst ez;cases (show x=.str t from hp);cases (show y=.int i from hq);exact E5 value slice pins s σ H _ _ v u Q I rx ry ⟨t,i,c,rfl,rfl,by omega,ec,k _ H (Same.refl H) rfl⟩ hs
  ·cases e
 ·rename_i ks ps
  obtain⟨kk,ek,e⟩:=K3.mp e;obtain⟨a,kvs,rfl,g,e1,r⟩:=hp;cases rx;have hy:=cH ek hq;subst hy;obtain⟨w,ew,rp⟩:=ib e1 r e;obtain⟨zz,hd,vs,rel,dd⟩:=DkR.at hw I g;obtain⟨w',hw,rw'⟩:=pH.some_of (v:=w) (o:=LM vs kk) (by rw[← ew];exact rel.val kk);exact tail_any dd.typeIs Pc.lookup (wpAny_getItem_of (ko ry) dd.mapOf hw ⟨w,H,I.tok _,rw',k w H (Same.refl H) rp⟩) hs
 ·cases e
theorem l5{K:JH}{H:Hp}:∀{qs:List PV}{xs:List V},qs.all nV=true->aB K H qs xs->xs=qs.map scV/\xs.all lr=true
 | [],_,_,r=>by cases r;exact⟨rfl,rfl⟩
 | q::qs,_,h,⟨x,t,e,h1,h2⟩=>by
  subst e;simp only[M9,Ks] at h;obtain⟨e1,e2⟩:=l5 h.2 h2;have hx:=cb h.1 h1.o;refine⟨by rw[JQ,hx,e1],?_⟩;rw[M9,e2,Oe,hx];cases q <;> first | rfl | cases h.1
theorem ml{p:PV}(h:nV p=true):lr (scV p)=true:=by
 cases p <;> first | rfl | cases h
theorem FB(hu:X.A.units+64<cLine)(hw:X.w=TW.w:=by rfl):OpR X (Kk .In) (rP X.K gIn):=by
 intro pins s σ H x y v u Q I rx ry ⟨p,q,z,hp,hq,e,k⟩;unfold gIn at e;split at e
 ·rename_i i j
  cases e;cases (show x=.str i from hp);cases (show y=.str j from hq);exact uu pins s σ H _ _ v u Q I rx ry ⟨i,j,rfl,rfl,k _ H (Same.refl H) rfl⟩
 ·rename_i qs _
  split at e
  ·rename_i hc
   cases e;obtain⟨a,xs,rfl,g,r⟩:=bg.lst_inv hq;obtain⟨e1,e2⟩:=l5 hc.2 r;refine oG pins s σ H _ _ v u Q I rx ry ⟨a,xs,rfl,.inl g.l,by rw[cb hc.1 hp];exact ml hc.1,e2,?_⟩;rw[cb hc.1 hp,e1];exact k _ H (Same.refl H) rfl
  ·cases e
 ·rename_i qs _
  split at e
  ·rename_i hc
   cases e;obtain⟨a,xs,rfl,g,r⟩:=bg.tup_inv hq;obtain⟨e1,e2⟩:=l5 hc.2 r;refine oG pins s σ H _ _ v u Q I rx ry ⟨a,xs,rfl,.inr g,by rw[cb hc.1 hp];exact ml hc.1,e2,?_⟩;rw[cb hc.1 hp,e1];exact k _ H (Same.refl H) rfl
  ·cases e
 ·rename_i ks ps _
  obtain⟨kk,ek,ez⟩:=JV.mp e;subst ez;obtain⟨a,kvs,rfl,g,e1,r⟩:=hq;cases ry;have hx:=cH ek hp;subst hx;obtain⟨zz,hd,vs,rel,dd⟩:=DkR.at hw I g;refine wpAny_in_of (ko rx) hd dd.mapOf ?_;rw[← (rel.val kk).isSome_eq,← gZ];refine⟨.bl _,H,I.tok _,rfl,k _ H (Same.refl H) ?_⟩;subst e1;rw[Lg];rfl
 ·cases e
theorem uv(hu:X.A.units+64<cLine)(hw:X.w=TW.w:=by rfl):OpR X (Kk .NotIn) (rP X.K c5):=by
 intro pins s σ H x y v u Q I rx ry ⟨p,q,z,hp,hq,e,k⟩;have e:=e;obtain⟨z0,e1,ez⟩:=K3.mp e;clear e;have e:=e1;clear e1;unfold gIn at e;split at e
 ·rename_i i j _
  cases e;cases ez;cases (show x=.str i from hp);cases (show y=.str j from hq);exact oE pins s σ H _ _ v u Q I rx ry ⟨i,j,rfl,rfl,k _ H (Same.refl H) rfl⟩
 ·rename_i qs _
  split at e
  ·rename_i hc
   cases e;cases ez;obtain⟨a,xs,rfl,g,r⟩:=bg.lst_inv hq;obtain⟨e1,e2⟩:=l5 hc.2 r;refine jd pins s σ H _ _ v u Q I rx ry ⟨a,xs,rfl,.inl g.l,by rw[cb hc.1 hp];exact ml hc.1,e2,?_⟩;rw[cb hc.1 hp,e1];exact k _ H (Same.refl H) rfl
  ·cases e
 ·rename_i qs _
  split at e
  ·rename_i hc
   cases e;cases ez;obtain⟨a,xs,rfl,g,r⟩:=bg.tup_inv hq;obtain⟨e1,e2⟩:=l5 hc.2 r;refine jd pins s σ H _ _ v u Q I rx ry ⟨a,xs,rfl,.inr g,by rw[cb hc.1 hp];exact ml hc.1,e2,?_⟩;rw[cb hc.1 hp,e1];exact k _ H (Same.refl H) rfl
  ·cases e
 ·rename_i ks ps _
  obtain⟨kk,ek,ez'⟩:=JV.mp e;subst ez';cases ez;obtain⟨a,kvs,rfl,g,e1,r⟩:=hq;cases ry;have hx:=cH ek hp;subst hx;obtain⟨zz,hd,vs,rel,dd⟩:=DkR.at hw I g;refine wpAny_notIn_of (ko rx) hd dd.mapOf ?_;rw[← (rel.val kk).isSome_eq,← gZ];refine⟨.bl _,H,I.tok _,rfl,k _ H (Same.refl H) ?_⟩;subst e1;rw[Lg];rfl
 ·cases e
theorem tE(hw:X.w=TW.w):Ih X (fun v H Q=>∃p b,bg X.K H p v/\tF p=some b/\Q b H):=by
 intro pins s σ H x v Q I rx ⟨p,b,rp,e,q⟩;have h16:=Ke;cases p with
 | non=>
  cases (show x=.non from rp);cases e;exact cu pins s σ H _ v Q I rx ⟨_,rfl,q⟩
 | bl i=>
  cases (show x=.bl i from rp);cases e;exact cu pins s σ H _ v Q I rx ⟨_,rfl,q⟩
 | int i=>
  cases (show x=.int i from rp);cases e;exact cu pins s σ H _ v Q I rx ⟨_,rfl,q⟩
 | str i=>
  cases (show x=.str i from rp);simp only[tF] at e;split at e
  ·cases e
   exact cu pins s σ H _ v Q I rx ⟨_,⟨by omega,rfl⟩,q⟩
  ·cases e
 | tup ps=>
  obtain⟨a,xs,rfl,g,r⟩:=bg.tup_inv rp;cases e;have:ps.isEmpty=xs.isEmpty:=by have:=r.length;cases ps <;> cases xs <;> simp_all
  exact cu pins s σ H _ v Q I rx ⟨_,.inr (.inl ⟨xs,g,by rw[this]⟩),q⟩
 | lst ps=>
  obtain⟨a,xs,rfl,g,r⟩:=bg.lst_inv rp;cases e;have:ps.isEmpty=xs.isEmpty:=by have:=r.length;cases ps <;> cases xs <;> simp_all
  exact cu pins s σ H _ v Q I rx ⟨_,.inl ⟨xs,g.l,by rw[this]⟩,q⟩
 | dct ks ps=>
  obtain⟨a,kvs,rfl,g,e1,r⟩:=rp;cases rx;cases e;obtain⟨hz,hS,vs,rel,m⟩:=DkR.at hw I g;have hlen:kvs.length=vs.length:=Ki rel;refine wpAny_truthy_dict hS m (by omega) ⟨H,I.tok _,?_⟩;rw[lU rel];subst e1;have:(kvs.map (·.1)).isEmpty=kvs.isEmpty:=by cases kvs <;> rfl
  rw[this] at q;exact q
 | dtt ks ps=>cases e
 | fn L cs=>cases e
end
section
variable{C : Cn}{a b c e : Expr}{f fa fb fc : PSt → R PV}{t u : PSt → R Bool}{rest : List Expr}{pos : La}
theorem jE(ha:EO C a f)(he:∀whole,isTrue a C.X.env whole=(do let v<- whole;standAt a.pos;R1 [v] (truthy v)):=by intro _;rfl)(hw:C.X.w=TW.w:=by rfl):ET C a (dZ f):=by
 intro pins s σ H Q I ⟨ρ,vw,q⟩;refine isTrue_plain (thn (ha pins s σ H (fun v H'=>∃p b,bg C.X.K H' p v/\tF p=some b/\Q b H') I ⟨ρ,vw,q.bind.imp fun p _ k v H' s' r=>?_⟩) fun v s1 ⟨x,H1,I1,r1,q1⟩=>tE hw pins s1 σ H1 x v Q I1 r1 q1) (he _);obtain⟨b,eb,k⟩:=k.ofO;exact⟨p,b,r,eb,k H' s'⟩
def uY(g:PV->PV->Option PV):Prop:=∀p q z,g p q=some z->∃b,z=.bl b
theorem bN{op:CmpOp}{g:PV->PV->Option PV}(ho:OpR C.X (Kk op) (rP C.X.K g))(hg:uY g)(ha:EO C a fa)(hb:EO C b fb)(hm:NT op b=false:=by first | exact zk _ | with_unfolding_all rfl):ET C (.Compare a [op] [b] pos) (dZ (aq fa fb g)):=by
 intro pins s σ H Q I ⟨ρ,vw,q⟩;refine AI ho ha hb hm pins s σ H Q I ?_;refine t2 vw (g:=g) (q.bind.imp fun p e k v H' s' r=>?_) fun _ _ _ _ h=>h
 have:∃b,p=.bl b:=by
  unfold aq at e;cases h1:fa ρ with
  | ok x=>
   rw[h1] at e;cases h2:fb ρ with
   | ok y=>
    rw[h2] at e;cases h3:g x y with
    | some z=>
     simp only[R.ok_bind,h3,R.ofO_some] at e;cases e;exact hg x y _ h3
    | none=>simp only[R.ok_bind,h3,R.ofO_none] at e;cases e
   | er x=>rw[h2] at e;cases e
   | no=>rw[h2] at e;cases e
  | er x=>rw[h1] at e;cases e
  | no=>rw[h1] at e;cases e
 obtain⟨b,rfl⟩:=this;cases (show v=.bl b from r);exact⟨b,rfl,k H' s'⟩
theorem EW.et(h:EW C e t):ET C e t:=PW.pt h
theorem qt(ha:ET C a t):EW C (.BoolOp .And [a] pos) t:=AH ha
theorem El(ha:ET C a t):EW C (.BoolOp .Or [a] pos) t:=D5 ha
theorem vy(ha:ET C a t)(hb:EW C (.BoolOp .And (b::rest) pos) u):EW C (.BoolOp .And (a::b::rest) pos) (BY t u):=by
 intro wh pins s σ H Q I ⟨ρ,vw,q⟩;refine D6 ha hb wh pins s σ H Q I ⟨ρ,vw,q.bind.imp fun c _ k H' s'=>?_⟩;cases c with
 | true=>exact E7 ⟨ρ,vw.same s',(k.same s').imp fun b _ k2 H2 s2=>k2 H2 (s'.trans s2)⟩
 | false=>exact E8 (k H' s')
theorem GZ(ha:ET C a t)(hb:EW C (.BoolOp .Or (b::rest) pos) u):EW C (.BoolOp .Or (a::b::rest) pos) (orB t u):=by
 intro wh pins s σ H Q I ⟨ρ,vw,q⟩;refine Gi ha hb wh pins s σ H Q I ⟨ρ,vw,q.bind.imp fun c _ k H' s'=>?_⟩;cases c with
 | true=>exact E7 (k H' s')
 | false=>exact E8 ⟨ρ,vw.same s',(k.same s').imp fun b _ k2 H2 s2=>k2 H2 (s'.trans s2)⟩
theorem Ep(ha:ET C a t):ET C (.UnaryOp .Not a pos) (Dw t):=by
 intro pins s σ H Q I ⟨ρ,vw,q⟩;exact D8 ha pins s σ H Q I ⟨ρ,vw,q.bind.imp fun c _ k H' s'=>k H' s'⟩
theorem Eo(hc:ET C c t)(ha:EV C a fa)(hb:EV C b fb):EV C (.IfExp c a b pos) (ifV t fa fb):=by
 intro pins s σ H Q I ⟨ρ,vw,q⟩;refine xx hc ha hb pins s σ H Q I ⟨ρ,vw,q.bind.imp fun c _ k H' s'=>?_⟩;cases c with
 | true=>exact E7 ⟨ρ,vw.same s',(RQ.same k s').imp fun z _ k2 v2 H2 s2 r2=>k2 v2 H2 (s'.trans s2) r2⟩
 | false=>exact E8 ⟨ρ,vw.same s',(RQ.same k s').imp fun z _ k2 v2 H2 s2 r2=>k2 v2 H2 (s'.trans s2) r2⟩
end
theorem cZ:uY gEq:=fun p q z e=>by
 unfold gEq at e;split at e
 ·split at e
  ·obtain⟨b,_,ez⟩:=JV.mp e
   exact⟨b,ez.symm⟩
  ·cases e
 ·split at e
  ·obtain⟨b,_,ez⟩:=JV.mp e
   exact⟨b,ez.symm⟩
  ·cases e
 ·split at e
  ·obtain⟨b,_,ez⟩:=JV.mp e
   exact⟨b,ez.symm⟩
  ·cases e
 ·split at e
  ·cases e
   exact⟨_,rfl⟩
  ·cases e
theorem qk:uY gNe:=fun p q z e=>by
 unfold gNe at e;split at e
 ·split at e
  ·obtain⟨b,_,ez⟩:=JV.mp e;exact⟨_,ez.symm⟩
  ·cases e
 ·split at e
  ·obtain⟨b,_,ez⟩:=JV.mp e;exact⟨_,ez.symm⟩
  ·cases e
 ·split at e
  ·cases e;exact⟨_,rfl⟩
  ·cases e
theorem qm:uY gLt:=fun p q z e=>by unfold gLt at e;split at e <;> cases e <;> exact⟨_,rfl⟩
theorem Bm:uY gLe:=fun p q z e=>by unfold gLe at e;split at e <;> cases e <;> exact⟨_,rfl⟩
theorem xX:uY yd:=fun p q z e=>by unfold yd at e;split at e <;> cases e <;> exact⟨_,rfl⟩
theorem mZ:uY gIn:=fun p q z e=>by
 unfold gIn at e;split at e
 ·cases e;exact⟨_,rfl⟩
 ·split at e <;> cases e;exact⟨_,rfl⟩
 ·split at e <;> cases e;exact⟨_,rfl⟩
 ·obtain⟨b,_,ez⟩:=JV.mp e;exact⟨_,ez.symm⟩
 ·cases e
theorem lV:uY c5:=fun p q z e=>by
 obtain⟨z0,e,ez⟩:=K3.mp e;cases z0 <;> cases ez
 exact⟨_,rfl⟩
end PU
namespace PU
open PySem PySem.Spec PyProof.Rows L2 PySem.SeqAt
variable[TW]
def r1(K:JH)(g:PV->Option PV):List V->Hp->VK->Prop:=fun vs H Q=>∃v p z,vs=[v]/\bg K H p v/\g p=some z/\∀w H',Same H H'->Rep K H' z w->Q w H'
def rn1(K:JH)(g:PV->Option PV):List V->Hp->VK->Prop:=fun vs H Q=>∃v p z,vs=[v]/\bg K H p v/\g p=some z/\∀a H',Same H H'->H a=none->bY K H' a z->Q (.ref a) H'
section
variable{C : Cn}{e : Expr}{f : PSt → R PV}{g : PV → Option PV}{x : Str}{p pos : La}{id T : String}
theorem t1{σ:L2.St}{H:Hp}{Q:VK}{ρ:PSt}(vw:View C.X.K H σ ρ)(q:RQ C H (un1 f g ρ) fun p=>∀v H',Same H H'->Rep C.X.K H' p v->Q v H'):tCB (r1 C.X.K g) (tA1 C f) σ H Q:=by
 refine⟨ρ,vw,q.bind.imp fun p _ k v H1 s1 r1=>?_⟩;obtain⟨z,ez,k⟩:=k.ofO;exact⟨v,p,z,rfl,r1,ez,fun w H' s' r'=>k w H' (s1.trans s') r'⟩
theorem tn1{σ:L2.St}{H:Hp}{Q:VK}{ρ:PSt}(vw:View C.X.K H σ ρ)(q:RQ C H (un1 f g ρ) fun p=>∀a H',Same H H'->H a=none->bY C.X.K H' a p->Q (.ref a) H'):tCB (rn1 C.X.K g) (tA1 C f) σ H Q:=by
 refine⟨ρ,vw,q.bind.imp fun p _ k v H1 s1 r1=>?_⟩;obtain⟨z,ez,k⟩:=k.ofO;exact⟨v,p,z,rfl,r1,ez,fun a H' s' n' r'=>k a H' (s1.trans s') (s1.free n') r'⟩
theorem vB (hc:gX C.X (.builtin id) (r1 C.X.K g)) (hg:Gl C.X x) (hm:C.X.mg x=none) (hv:MD x=some (.builtin id)) (ha:EO C e f) (hn:x≠"__name__":=by decide) (hdb:(x == ("__debug__":Str))=false:=by decide)
  (hs:K1 [e] C.X.env=[(false,L9 e C.X.env)]:=by exact bX rfl):EV C (.Call (.Name x p) [e] [] pos) (un1 f g):=by
 intro pins s σ H Q I ⟨ρ,vw,q⟩;exact xA hc hg hm hv (rG ha hs) hn hdb hs (by rfl) pins s σ H Q I (t1 vw q)
theorem En (hc:gX C.X (.type T) (r1 C.X.K g)) (hg:Gl C.X x) (hm:C.X.mg x=none) (hv:MD x=some (.type T)) (ha:EO C e f) (hn:x≠"__name__":=by decide) (hdb:(x == ("__debug__":Str))=false:=by decide)
  (hs:K1 [e] C.X.env=[(false,L9 e C.X.env)]:=by exact bX rfl):EV C (.Call (.Name x p) [e] [] pos) (un1 f g):=by
 intro pins s σ H Q I ⟨ρ,vw,q⟩;exact oy hc hg hm hv (rG ha hs) hn hdb hs (by rfl) pins s σ H Q I (t1 vw q)
theorem ym (hc:gX C.X (.type T) (rn1 C.X.K g)) (hg:Gl C.X x) (hm:C.X.mg x=none) (hv:MD x=some (.type T)) (ha:EO C e f) (hn:x≠"__name__":=by decide) (hdb:(x == ("__debug__":Str))=false:=by decide)
  (hs:K1 [e] C.X.env=[(false,L9 e C.X.env)]:=by exact bX rfl):EN C (.Call (.Name x p) [e] [] pos) (un1 f g):=by
 intro pins s σ H Q I ⟨ρ,vw,q⟩;exact oy hc hg hm hv (rG ha hs) hn hdb hs (by rfl) pins s σ H Q I (tn1 vw q)
end
section
variable{X : Cx}
theorem ES (hw:X.w=TW.w:=by rfl):gX X (.builtin "len") (r1 X.K rj):=by
 intro pins s σ H xs us Q I r ⟨v,p,z,e1,rp,ez,k⟩;have h16:=Ke;subst e1;cases p with
 | lst ps=>
  obtain⟨a,xs,rfl,g,rr⟩:=bg.lst_inv rp;cases ez;exact nN pins s σ H _ us Q I r ⟨_,_,rfl,.inl ⟨xs,g.l,rfl⟩,by rw[← rr.length];exact k _ H (Same.refl H) rfl⟩
 | tup ps=>
  obtain⟨a,xs,rfl,g,rr⟩:=bg.tup_inv rp;cases ez;exact nN pins s σ H _ us Q I r ⟨_,_,rfl,.inr ⟨xs,g,rfl⟩,by rw[← rr.length];exact k _ H (Same.refl H) rfl⟩
 | str x=>
  simp only[rj] at ez;split at ez
  ·cases ez
   cases (show v=.str x from rp);exact nN pins s σ H _ us Q I r ⟨_,_,rfl,⟨by omega,rfl⟩,k _ H (Same.refl H) rfl⟩
  ·cases ez
 | dct ks ps=>
  obtain⟨a,kvs,rfl,g,e1,rr⟩:=rp;cases ez;obtain⟨u,rfl,ru⟩:=vals1 r;cases ru;obtain⟨hz,hS,vs,rel,m⟩:=DkR.at hw I g;have hlen:kvs.length=vs.length:=Ki rel;subst e1;rw[JT,hlen] at k;exact call_len_dict hS m (by omega) ⟨.int vs.length,H,I.tok _,⟨_,rfl⟩,k _ H (Same.refl H) rfl⟩
 | _=>cases ez
theorem cInt:gX X (.type "int") (r1 X.K FF):=by
 intro pins s σ H xs us Q I r ⟨v,p,z,e1,rp,ez,k⟩;subst e1;cases p with
 | int i=>cases ez;cases (show v=.int i from rp);exact pB pins s σ H _ us Q I r (.inl ⟨i,rfl,k _ H (Same.refl H) rfl⟩)
 | bl i=>cases ez;cases (show v=.bl i from rp);exact pB pins s σ H _ us Q I r (.inr ⟨i,rfl,k _ H (Same.refl H) rfl⟩)
 | _=>cases ez
theorem EK:gX X (.type "tuple") (r1 X.K ri):=by
 intro pins s σ H xs us Q I r ⟨v,p,z,e1,rp,ez,k⟩;subst e1;cases p with
 | lst ps=>
  obtain⟨a,xs,rfl,g,rr⟩:=bg.lst_inv rp;cases ez;exact iE pins s σ H _ us Q I r ⟨a,xs,rfl,.inl ⟨g.l,fun l hl=>k _ _ (Same.new hl) ⟨l,xs,rfl,ar,rr.same (Same.new hl)⟩⟩⟩
 | tup ps=>
  obtain⟨a,xs,rfl,g,rr⟩:=bg.tup_inv rp;cases ez;exact iE pins s σ H _ us Q I r ⟨a,xs,rfl,.inr ⟨g,k _ H (Same.refl H) rp⟩⟩
 | _=>cases ez
end
section
variable{C : Cn}{e tg : Expr}{f : PSt → R PV}{pos : La}
theorem Bi{K:JH}{H:Hp}{a:Addr}{xs:List V}{ps:List PV}(g:SqF K H a xs)(r:aB K H ps xs):ItP K (Itl K a) H ps:=fun i H' k=>by
 have g':=(k.sqF g).l.l;have r':=aB.kp k ps r;have hl:=r'.length;refine⟨fun h=>⟨xs,g',by omega⟩,fun p e=>?_⟩;obtain⟨x,ex,rp⟩:=r'.get e
 exact⟨⟨xs,x,g',ex⟩,fun y H2 ⟨eh,hy⟩=>by
  subst eh;have:=hy xs g';rw[ex] at this;cases this;exact⟨Same.refl _,rp⟩⟩
theorem E9{K:JH}{H:Hp}{a:Addr}{xs:List V}{ps:List PV}(g:SqT K H a xs)(r:aB K H ps xs):ItP K (Itt K a) H ps:=fun i H' k=>by
 have g':=k.sqT g;have r':=aB.kp k ps r;have hl:=r'.length;refine⟨fun h=>⟨xs,g',by omega⟩,fun p e=>?_⟩;obtain⟨x,ex,rp⟩:=r'.get e
 exact⟨⟨xs,x,g',ex⟩,fun y H2 ⟨eh,hy⟩=>by
  subst eh;have:=hy xs g';rw[ex] at this;cases this;exact⟨Same.refl _,rp⟩⟩
theorem rg{K:JH}{H:Hp}{lo:Int}{n:Nat}:ItP K (Itr lo n) H (ck lo n):=fun i H' k=>by
 refine⟨fun h=>?_,fun p e=>?_⟩
 ·have:n<=i:=by simp[ck] at h;omega
  exact this
 ·unfold ck at e
  rw[K2] at e
  have hi:i<n:=by
   by_cases hi:i<n
   ·exact hi
   ·rw[OL (by simpa using hi)] at e
    cases e
  rw[NQ hi] at e;cases e;exact⟨hi,fun y H2 ⟨eh,hy⟩=>by subst eh hy;exact⟨Same.refl _,rfl⟩⟩
theorem gd {p:La} (hg:Gl C.X "range") (hm:C.X.mg "range"=none) (he:EV C e f) (hs:K1 [e] C.X.env=[(false,L9 e C.X.env)]:=by exact bX rfl):EI C tg (.Call (.Name "range" p) [e] [] pos) (z6 f):=by
 intro pins s σ H Rk I ⟨ρ,vw,q⟩;refine uf hg hm (cq he gE hs) hs pins s σ H Rk I ⟨ρ,vw,q.bind.imp fun p _ k v H1 s1 r1=>?_⟩;cases p with
 | int j=>
  cases (show v=.int j from r1)
  by_cases hj:j.natAbs<1000000000
  ·have k:RQ C H (if j.natAbs<1000000000 then R.ok (ck 0 j.toNat) else R.no) fun ps=>∀J H',Same H H'->ItP C.X.K J H' ps->Rk J H':=k
   rw[if_pos hj] at k;exact⟨j,rfl,by omega,by omega,k _ H1 s1 rg⟩
  ·have k:RQ C H (if j.natAbs<1000000000 then R.ok (ck 0 j.toNat) else R.no) fun ps=>∀J H',Same H H'->ItP C.X.K J H' ps->Rk J H':=k
   rw[if_neg hj] at k;exact JP k
 | _=>exact JP k
end
section
variable{C : Cn}{e : Expr}{f : PSt → R PV}{pos apos cpos : La}
theorem fP(i:Nat){x:Str}{np:La}(he:EV C e f)(hs:K1 [e] C.X.env=[(false,L9 e C.X.env)]:=by exact bX rfl)
  (hb:NU (.Name x np) "append" C.X.env (L9 (.Name x np) C.X.env)=L9 (.Name x np) C.X.env:=by rfl) (hline:(apos.endLine == cpos.line)=true:=by rfl)
  (hd:(x == ("__debug__":Str))=false:=by decide) (hcd:(x == ("__classdict__":Str))=false:=by decide) (hN:C.X.N[i]?=some x:=by rfl) (hv:Vis C.X.env.scope x:=by first | exact .inl rfl | exact .inr (.inl rfl) | exact .inr (.inr rfl)):SV C (.Expr (.Call (.Attribute (.Name x np) "append" apos) [e] [] cpos) pos) (sS i f):=by
 intro pins s σ H D I ⟨ρ,B,S,q⟩;unfold sS at q;split at q
 ·rename_i ps e1
  obtain⟨a,e2,xs,hx,rr⟩:=S.vw i _ e1;refine ua (AU PySem.F.plainAttrs_list QR PySem.F.type_list_append oK (eG hN hv hd hcd) (cq he gE hs) hb (by rw[hs];rfl) hline hs (by rfl)) (by rfl) pins s σ H D I ?_;refine⟨_,e2,.inl ⟨rfl,xs,SqL.of hx⟩,ρ,S.vw,(RS.bind q S.same).imp fun p _ q' v H1 s1 r1=>?_⟩
  by_cases hl:ps.length<16777216
  ·rw[if_pos hl] at q'
   refine⟨a,xs,v,rfl,rfl,s1 _ _ hx,by rw[Ke,← rr.length];exact hl,?_⟩;refine q' σ _ ((S.grow s1).turn e1 e2 (fun b hb=>av hb) ?_);have kp:Kp H1 (upd H1 a (.lst (xs++[v]))):=Kp.upd (s1 _ _ hx) rfl;exact⟨a,rfl,xs++[v],ar,aB.append (aB.kp kp _ (rr.same s1)) (aB.cons (Rep.kp kp _ r1) aB.nil)⟩
  ·rw[if_neg hl] at q'
   exact JP q'
 ·exact JP q
end
end PU
namespace PU
open PySem PySem.Spec PyProof.Rows L2 PySem.SeqAt
variable[TW]
section
variable{C : Cn}
theorem aH(i:Nat){x:Str}{pos:La}(hN:C.X.N[i]?=some x:=by rfl)(hv:Vis C.X.env.scope x:=by first | exact NY rfl | exact N7 (NY rfl) | exact N7 (N7 rfl))
  (hd:(x == ("__debug__":Str))=false:=by decide) (hcd:(x == ("__classdict__":Str))=false:=by decide):EV C (.Name x pos) (getV i):=Em i hN hv hd hcd
theorem zM(i:Nat){x:Str}{pos:La}(hN:C.X.N[i]?=some x:=by rfl)(hv:Vis C.X.env.scope x:=by first | exact NY rfl | exact N7 (NY rfl) | exact N7 (N7 rfl))
  (hd:(x == ("__debug__":Str))=false:=by decide) (hcd:(x == ("__classdict__":Str))=false:=by decide):EO C (.Name x pos) (lX i):=Es i hN hv hd hcd
variable{a b c : Expr}{fa fb fc : PSt → R PV}{pos : La}
end
end PU
namespace PU
open PySem PySem.Spec PyProof.Rows L2 PySem.SeqAt
variable[TW]
section
variable{X : Cx}{pins : List (Addr×Obj)}{σ : L2.St}{H : Hp}{s : JM}
theorem _root_.L2.Inv.turnedL{wr:List Addr}{h':Heap}{t':Nat}(I:L2.Inv X pins σ H s)(k:∀b o,b ∉ wr->s.heap.get? b=some o->h'.get? b=some o)(hw:∀b∈wr,rR X pins H b):L2.Inv X pins σ H { s with heap:=h',toks:=t' }:=by
 have nw:∀b u,H b=some u->b ∉ wr:=fun b u e z=>by rw[(hw b z).1] at e;cases e
 refine I.step (g':=s.gens) (d':=s.drawn) (ch:=wr) (fun b hb=>?_) (fun b o _ _ hc e _=>k b o hc e) (fun b o _ _ hc e _=>⟨o.slots,k b o hc e⟩) (fun _ _ _ _ n=>n)
  (fun b o hc e=>⟨o,k b o hc e⟩) (fun _ _ e=>e) (fun _ _ _ e=>e) (fun b ps e=>⟨#[],by rw[e];simp⟩) (fun m hm=>?_) (fun b u e=>?_) I.bare
 ·obtain⟨g1,g2,g3,g4,g5,g6⟩:=hw b hb
  exact⟨g4,g2,g5,g6⟩
 ·obtain⟨o,es,ep,ho,r⟩:=hm
  exact⟨o,es,ep,k _ o (fun z=>(hw _ z).2.1 rfl) ho,r⟩
 ·refine(I.hok b u e).stay (fun c v hc q=>k c v ?_ q) (fun _ q=>q) fun _ _ q=>q
  rcases hc with z | z
  ·rw[z];exact nw b u e
  ·exact nw c _ z
theorem _root_.L2.Inv.tupled{wr:List Addr}{h':Heap}{t':Nat}{T:Addr}{vals:List JJ}{xs:List V}(I:L2.Inv X pins σ H s)(k:∀b o,b ∉ wr->s.heap.get? b=some o->h'.get? b=some o)(hw:∀b∈wr,rR X pins H b)(hws:∀b∈wr,b<s.heap.objs.size)
  (hT:s.heap.objs.size<=T) (ht:h'.IsTuple T vals.toArray) (rv:Vals xs vals) (hz:xs.length<=sizeLine) (hnr:¬ ∀v∈vals,∃b,v=Kh b):L2.Inv X pins σ (upd H T (.tup xs)) { s with heap:=h',toks:=t' }:=by
 have nw:∀b u,H b=some u->b ∉ wr:=fun b u e z=>by rw[(hw b z).1] at e;cases e
 have nT:H T=none:=I.hok.fresh hT;have neT:∀b u,H b=some u->b≠T:=fun b u e=>bx e nT
 have lo:∀b o,s.heap.get? b=some o->b≠T:=fun b o e z=>by
  subst z;exact absurd (JR e) (OH.mpr hT)
 have hlt:X.env.locals≠T:=fun z=>absurd I.lt (by rw[z];exact OH.mpr hT)
 refine I.step (g':=s.gens) (d':=s.drawn) (ch:=wr) (fun b hb=>?_) (fun b o _ _ hc e _=>k b o hc e) (fun b o _ _ hc e _=>⟨o.slots,k b o hc e⟩) (fun b o _ e n=>by rw[av (lo b o e)];exact n)
  (fun b o hc e=>⟨o,k b o hc e⟩) (fun b xs e=>by rw[av (neT _ _ e)];exact e) (fun b o u e=>by rw[av (neT _ _ e)];exact e) (fun b ps e=>⟨#[],by rw[av (neT _ _ e),e];simp⟩) (fun m hm=>?_) (fun b u e=>?_) I.bare
 ·obtain⟨g1,g2,g3,g4,g5,g6⟩:=hw b hb
  exact⟨g4,g2,g5,g6⟩
 ·obtain⟨o,es,ep,ho,r⟩:=hm
  exact⟨o,es,ep,k _ o (fun z=>(hw _ z).2.1 rfl) ho,r⟩
 ·by_cases hb:b=T
  ·subst hb
   rw[ar] at e;cases e;obtain⟨o,e1,e2,e3⟩:=ht;exact⟨hz,vals,rv,o,e1,e2,e3,fun h=>absurd h hnr⟩
  ·rw[av hb] at e
   refine(I.hok b u e).stay (fun c v hc q=>k c v ?_ q) (fun c q=>by rw[av (neT _ _ q)];exact q) fun c ys q=>by rw[av (neT _ _ q)];exact q
   rcases hc with z | z
   ·rw[z];exact nw b u e
   ·exact nw c _ z
end
theorem tD{P:K5}{w:KH}{K:JH}{elts:List Expr}{kk:Nat}{tp:La}{it:Addr}{fp wr:List Addr}{n:Nat}{own:Nat->Heap->Prop}{J:It}
  (W:∀(X:Cx)(pins:List (Addr×Obj))(σ:L2.St)(H:Hp)(s:JM)(i:Nat),X.prog=P->X.w=w->X.K=K->X.calm=true->L2.Inv X pins σ H s->own i s.heap->J.go i H\/J.stop i H->
   ∃(more:List Addr)(Pt:Nat->Array JJ->Prop)(St:Nat->Heap->Prop)(Mid:Nat->Addr->Heap->Prop),WalksT P w X.A it more wr n Pt St Mid/\St i s.heap/\(∀j h,St j h->own j h)/\
    ∀vals,Pt i vals->∃xs,Vals xs vals.toList/\xs.length<=sizeLine/\(¬ ∀v∈vals.toList,∃b,v=Kh b)/\∀T,H T=none->J.yld i H (.ref T) (upd H T (.tup xs)))
  (hI:it∈fp) (hwr:∀b∈wr,b∈fp)
  (obj:∀i h,own i h->∀b∈fp,∃o,h.get? b=some o/\∀v,o.data≠.cell v) (keep:∀i h h',own i h->(∀b∈fp,∀o,h.get? b=some o->h'.get? b=some o)->own i h')
  (hgo:∀i H,J.go i H->i<n) (hstop:∀i H,J.stop i H->i=n)
  (self:∀(A:KY)(i:Nat)(s:JM)(Q:JJ->JM->Prop)(E:JJ->JM->Prop),own i s.heap->Q (.ref it) s->JZ (KM P w) A (pyIter (.ref it)) Q E s) :
  Turn P w K (.Tuple elts kk tp) J fp it own where
 mem:=hI
 obj:=obj
 keep:=keep
 item:=by
  intro X hP hw hK hc i pins s σ H E I hf st hg;obtain⟨more,Pt,St,Mid,W',st',ofSt,hval⟩:=W X pins σ H s i hP hw hK hc I st (.inl hg);subst hP hw hK;refine W'.item i s _ _ (hgo i H hg) st' fun T vals h' tk hPt hT hTup hMid hk=>?_;obtain⟨xs,rv,hz,hnr,hy⟩:=hval vals hPt;have nT:H T=none:=I.hok.fresh hT;have hfw:∀b∈wr,rR X pins H b:=fun b hb=>hf b (hwr b hb)
  have hws:∀b∈wr,b<s.heap.objs.size:=fun b hb=>by
   obtain⟨o,e,_⟩:=obj i _ st b (hwr b hb);exact JR e
  have I1:L2.Inv X pins σ (upd H T (.tup xs)) { s with heap:=h',toks:=tk }:=I.tupled (vals:=vals.toList) hk hfw hws hT (by simpa using hTup) rv hz hnr;refine⟨_,rfl,W'.go elts kk tp i T _ _ _ hMid fun h'' st'' hk''=>?_⟩
  have fne:∀b∈fp,upd H T (.tup xs) b=none:=fun b hb=>by
   obtain⟨o,e,_⟩:=obj i _ st b hb;rw[av (K7 (JY (JR e) hT))];exact(hf b hb).1
  have I2:L2.Inv X pins σ (upd H T (.tup xs)) { s with heap:=h'',toks:=tk }:=L2.Inv.turnedL (s:={ s with heap:=h',toks:=tk }) (wr:=wr) (t':=tk) I1 hk'' fun b hb=>⟨fne b (hwr b hb),(hfw b hb).2⟩;exact⟨.ref T,_,I2,rfl,hy T nT,ofSt _ _ st'',fne⟩
 done:=by
  intro X hP hw hK hc i pins s σ H E I hf st hg;obtain⟨more,Pt,St,Mid,W',st',ofSt,hval⟩:=W X pins σ H s i hP hw hK hc I st (.inr hg);subst hP hw hK;have e:=hstop i H hg;subst e;refine W'.done s _ _ st' fun h' tk hk=>⟨rfl,?_⟩;exact I.turnedL hk fun b hb=>hf b (hwr b hb)
 self:=self
def nU(n:Nat)(Gd:Hp->Prop)(xs:List (List V)):It:=
 ⟨fun i H=>i<n/\Gd H,fun i H x H'=>∃T ys,x=.ref T/\H T=none/\xs[i]?=some ys/\H'=upd H T (.tup ys),fun i H=>i=n/\Gd H⟩
theorem qi{K:JH}{H₁:Hp}{n:Nat}{Gd:Hp->Prop}{xs:List (List V)}{pss:List (List PV)}(hn:pss.length=n)(hg:∀H,Kp H₁ H->Gd H)(r:∀(i:Nat)(ps:List PV)(ys:List V),pss[i]?=some ps->xs[i]?=some ys->aB K H₁ ps ys) :
  ItP K (nU n Gd xs) H₁ (pss.map PV.tup):=fun i H k=>by
 refine⟨fun h=>⟨by rw[h,JT,hn],hg H k⟩,fun p e=>?_⟩;rw[K2] at e;cases hp:pss[i]? with
 | none=>rw[hp] at e;cases e
 | some ps=>
  rw[hp] at e;cases e;have hi:i<n:=by rw[← hn];exact(JL.mp hp).1
  refine⟨⟨hi,hg H k⟩,fun x H' ⟨T,ys,ex,nT,ey,eH⟩=>?_⟩;subst ex eH;refine⟨Same.new nT,T,ys,rfl,ar,?_⟩;exact(aB.kp k ps (r i ps ys hp ey)).same (Same.new nT)
end PU
namespace PU
open PySem PySem.Spec PyProof.Rows L2 PySem.SeqAt
variable[TW]
theorem lz:MD "enumerate"=some (.type "enumerate"):=by decide +kernel
def om(x:Str):List V:=x.cps.toList.map fun c=>.str ⟨#[c]⟩
theorem s8{K:JH}{H:Hp}(x:Str):aB K H (fQ x) (om x):=by
 unfold fQ om
 induction x.cps.toList with
 | nil=>rfl
 | cons c r ih=>exact⟨_,_,rfl,rfl,ih⟩
noncomputable def C9(xs:List V):List (List V):=(KQ xs.length).zipWith (fun (i:Nat) x=>[.int (i:Int),x]) xs
theorem pY{α β:Type}(f:Nat->α->β)(l:List α)(i:Nat):((KQ l.length).zipWith f l)[i]?=l[i]?.map (f i):=by
 rw[N0]
 by_cases hi:i<l.length
 ·rw[NQ hi]
  simp[hi]
 ·rw[OL (by simpa using hi)]
  simp[hi]
theorem qT{K:JH}{H:Hp}{ps:List PV}{xs:List V}(r:aB K H ps xs):∀(i:Nat)(qs:List PV)(ys:List V),(zj ps)[i]?=some qs->(C9 xs)[i]?=some ys->aB K H qs ys:=fun i qs ys h1 h2=>by
 unfold zj at h1;unfold C9 at h2;rw[pY] at h1 h2;cases e:ps[i]? with
 | none=>rw[e] at h1;cases h1
 | some p=>
  rw[e] at h1;obtain⟨x,ex,rp⟩:=r.get e;rw[ex] at h2;cases h1;cases h2;exact⟨_,_,rfl,rfl,_,_,rfl,rp,rfl⟩
theorem qU(ps:List PV):(zj ps).length=ps.length:=by simp[zj]
section
variable{P : K5}{w : KH}{K : JH}{elts : List Expr}{kk : Nat}{tp : La}
theorem rY(a it e:Addr)(xs:List V)(hne:e≠it)(hae:a≠e)(hai:a≠it) :
  Turn P w K (.Tuple elts kk tp) (nU xs.length (fun H=>SqL K H a xs) (C9 xs)) [e,it] e (fun i h=>(∃old,IsEnum h e it i old)/\h.IsListIter it a i):=by
 refine tD (wr:=[e,it]) (n:=xs.length) (fun X pins σ H s i hP hw hK hc I st hg=>?_) (by simp) (fun b hb=>hb) (fun i h st b hb=>?_) (fun i h h' st k=>?_) (fun i H h=>h.1) (fun i H h=>h.1) fun A i s Q E st h=>OB st.1.choose_spec h
 ·subst hP hw hK
  have hq:SqL X.K H a xs:=by rcases hg with h | h <;> exact h.2
  obtain⟨its,rv,pl,hz⟩:=I.list hq;have hl:=rv.length;have W:=Qh (A:=X.A) (Draws.list (prog:=X.prog) (w:=X.w) (A:=X.A.in1) (I.ok.hd hc) it a hai its.toArray) e hne (by simp[hne,LY hae]) (by simp);rw[show its.toArray.size=xs.length by simp[hl]] at W;refine⟨_,_,_,_,W,⟨st.1,st.2,pl.isList⟩,fun j h st=>⟨st.1,st.2.1⟩,fun vals hv=>?_⟩;obtain⟨t,x,hx,rfl⟩:=hv;have hx:its[i]?=some x:=by simpa using hx
  have hi:i<xs.length:=by rw[hl];exact(JL.mp hx).1
  have e1:xs[i]?=some xs[i]:=by simp[hi]
  obtain⟨u,eu,ru⟩:=rv.get e1;rw[hx] at eu;cases eu;refine⟨[.int i,xs[i]],.cons ⟨t,rfl⟩ (.cons ru .nil),by show 2<=sizeLine;decide,fun z=>(by obtain⟨b,z⟩:=z _ KJ;cases z),fun T hT=>⟨T,_,rfl,hT,?_,rfl⟩⟩;unfold C9;rw[pY,e1];rfl
 ·obtain⟨⟨old,he⟩,o,ho,hc,hd⟩:=st
  rcases K9.mp hb with rfl | hb
  ·exact⟨_,he,fun v z=>by cases (show PZ _=OU v from z)⟩
  ·have:b=it:=by simpa using hb
   subst this;exact⟨o,ho,fun v z=>by rw[hd] at z;cases z⟩
 ·obtain⟨⟨old,he⟩,hi⟩:=st
  exact⟨⟨old,k e (by simp) _ he⟩,hi.at fun o x=>k it (by simp) o x⟩
theorem vF{prog:K5}{w:KH}{A:KY}(hh:A.handled=none)(it:Addr)(x:Str)(t:Tok) :
  Draws prog w A it [it] x.cps.size (fun i v=>∃c u,x.cps[i]?=some c/\v=.str ⟨#[c]⟩ u) (fun i h=>h.IsStrIter it (Ma x) x t i):=by
 unfold Ma
 split
 ·exact Draws.strAscii hh it x t
 ·exact Draws.strWide hh it x t
theorem rX(it e:Addr)(x:Str)(t:Tok)(hne:e≠it) :
  Turn P w K (.Tuple elts kk tp) (nU x.cps.size (fun _=>True) (C9 (om x))) [e,it] e (fun i h=>(∃old,IsEnum h e it i old)/\h.IsStrIter it (Ma x) x t i):=by
 refine tD (wr:=[e,it]) (n:=x.cps.size) (fun X pins σ H s i hP hw hK hc I st hg=>?_) (by simp) (fun b hb=>hb) (fun i h st b hb=>?_) (fun i h h' st k=>?_) (fun i H h=>h.1) (fun i H h=>h.1) fun A i s Q E st h=>OB st.1.choose_spec h
 ·subst hP hw hK
  refine⟨_,_,_,_,Qh (A:=X.A) (vF (A:=X.A.in1) (I.ok.hd hc) it x t) e hne (by simp[hne]) (by simp),⟨st.1,st.2⟩,fun j h st=>⟨st.1,st.2⟩,fun vals hv=>?_⟩;obtain⟨t',v,⟨c,u,hc',rfl⟩,rfl⟩:=hv
  have e1:(om x)[i]?=some (.str ⟨#[c]⟩):=by
   unfold om;rw[K2];simp[hc']
  refine⟨[.int i,.str ⟨#[c]⟩],.cons ⟨t',rfl⟩ (.cons ⟨u,rfl⟩ .nil),by show 2<=sizeLine;decide,fun z=>(by obtain⟨b,z⟩:=z _ KJ;cases z),fun T hT=>⟨T,_,rfl,hT,?_,rfl⟩⟩;unfold C9;rw[pY,e1];rfl
 ·obtain⟨⟨old,he⟩,o,ho,hc,hd⟩:=st
  rcases K9.mp hb with rfl | hb
  ·exact⟨_,he,fun v z=>by cases (show PZ _=OU v from z)⟩
  ·have:b=it:=by simpa using hb
   subst this;exact⟨o,ho,fun v z=>by rw[hd] at z;cases z⟩
 ·obtain⟨⟨old,he⟩,o,ho,r⟩:=st
  exact⟨⟨old,k e (by simp) _ he⟩,o,k it (by simp) o ho,r⟩
end
theorem BB {C:Cn} {e:Expr} {elts:List Expr} {kk:Nat} {tp p pos:La} {f:PSt->R PV} (hg:Gl C.X "enumerate") (hm:C.X.mg "enumerate"=none) (he:EV C e f) (hs:K1 [e] C.X.env=[(false,L9 e C.X.env)]:=by exact bX rfl) :
  EI C (.Tuple elts kk tp) (.Call (.Name "enumerate" p) [e] [] pos) (yi f):=by
 intro pins s σ H Rk I ⟨ρ,vw,q⟩
 refine Call_ (kj I hg hm lz (LC (thn ((cq he gE hs) pos pins s σ H (fun vs H'=>∃v p ps,vs=[v]/\Same H H'/\Rep C.X.K H' p v/\sL p=some ps/\∀J H2,Same H' H2->ItP C.X.K J H2 ps->Rk J H2) I ⟨ρ,vw,q.bind.imp fun p _ k v H' s' r=>?_⟩)
  fun us s1 ⟨vs,H1,I1,r1,v,p,ps,ev,sm,rp,ep,k⟩=>?_) hs rfl))
 ·obtain⟨ps,ep,k⟩:=k.ofO
  exact⟨v,p,ps,rfl,s',r,ep,fun J H2 s2 it=>k J H2 (s'.trans s2) it⟩
 ·subst ev
  obtain⟨u,rfl,ru⟩:=vals1 r1;have hne:s1.heap.objs.size+1≠s1.heap.objs.size:=Pa _
  have fp:∀{h':Heap},(∀b o,s1.heap.get? b=some o->h'.get? b=some o)->L2.Inv C.X pins σ H1 { s1 with heap:=h' }/\∀b∈[s1.heap.objs.size+1,s1.heap.objs.size],rR C.X pins H1 b:=fun {h'} hk=>by
   refine⟨I1.kept (t':=s1.toks) hk,fun b hb=>?_⟩
   have hb:s1.heap.objs.size<=b:=by
    simp only[K9,O1,or_false] at hb;rcases hb with rfl | rfl
    ·exact Qj _
    ·exact K8 _
   exact I1.fpOk hb (I1.hok.fresh hb)
  cases p with
  | lst qs=>
   cases ep;obtain⟨a,xs,rfl,g,rr⟩:=rp;cases ru;obtain⟨its,rv,pl,hz⟩:=I1.list g.l.l;have ha:a<s1.heap.objs.size:=by obtain⟨o,n,ho,_⟩:=pl;exact JR ho
   refine call_enumerate_list pl.isList fun h' he' hi' hsz hk=>OB he' ?_;obtain⟨I2,hf⟩:=fp hk;refine⟨_,_,_,_,H1,rfl,I2,rY a s1.heap.objs.size (s1.heap.objs.size+1) xs hne (K7 (Mt ha)) (K7 ha),⟨⟨_,he'⟩,hi'⟩,hf,k _ H1 (Same.refl H1) ?_⟩;exact qi (by rw[qU,rr.length]) (fun H2 k2=>(k2.sqF g).l.l) (qT rr)
  | str x=>
   cases ep;cases (show v=.str x from rp);obtain⟨t,rfl⟩:=ru;refine call_enumerate_str fun h' he' hi' hsz hk=>OB he' ?_;obtain⟨I2,hf⟩:=fp hk;refine⟨_,_,_,_,H1,rfl,I2,rX s1.heap.objs.size (s1.heap.objs.size+1) x t hne,⟨⟨_,he'⟩,hi'⟩,hf,k _ H1 (Same.refl H1) ?_⟩;exact qi (by rw[qU];simp[fQ]) (fun H2 k2=>trivial) (qT (s8 x))
  | _=>cases ep
end PU
namespace PU
open PySem PySem.Spec PyProof.Rows L2 PySem.SeqAt
variable[TW]
noncomputable def um(kvs:List (Key×V)):List (List V):=kvs.map fun kv=>[kV kv.1,kv.2]
theorem rf{K:JH}{H:Hp}(k:Key):Rep K H (wx k) (kV k):=by
 cases k <;> rfl
theorem sr{K:JH}{H:Hp}:∀{kvs:List (Key×V)}{ps:List PV},aB K H ps (kvs.map (·.2))->∀(i:Nat)(qs:List PV)(ys:List V),(jc (kvs.map (·.1)) ps)[i]?=some qs->(um kvs)[i]?=some ys->aB K H qs ys:=fun {kvs ps} r i qs ys h1 h2=>by
 unfold jc at h1;unfold um at h2;rw[N0,K2] at h1;rw[K2] at h2;cases e:kvs[i]? with
 | none=>rw[e] at h2;cases h2
 | some kv=>
  rw[e] at h1 h2;cases h2;obtain⟨p,ep,rp⟩:=r.getV (i:=i) (x:=kv.2) (by rw[K2,e];rfl);rw[ep] at h1;cases h1;exact⟨_,_,rfl,rf kv.1,_,_,rfl,rp,rfl⟩
section
variable{P : K5}{w : KH}{K : JH}{elts : List Expr}{kk : Nat}{tp : La}
theorem lM{kvs:List (Key×V)}{vs:List (Key×JJ)}(rel:KV kvs vs):∀{i:Nat}{a:Key×V}{b:Key×JJ},kvs[i]?=some a->vs[i]?=some b->a.1=b.1/\RelV a.2 b.2:=by
  induction rel with
  | nil=>intro i a b h _;simp at h
  | cons h t ih=>
   intro i a b h1 h2;cases i with
   | zero=>simp at h1 h2;subst h1 h2;exact h
   | succ i=>exact ih (by simpa using h1) (by simpa using h2)
def yJ(K:JH)(H:Hp)(d:Addr)(o:Obj)(kvs:List (Key×V)):Prop:=H d=some (.frz o (.dK kvs))\/(K.lookup d=some o/\we K d kvs)
theorem yJ.at{X:Cx}{pins:List (Addr×Obj)}{σ:L2.St}{H:Hp}{s:JM}{d:Addr}{o:Obj}{kvs:List (Key×V)}{es:Array DictEntry}{ep:Nat}(hw:X.w=TW.w)(I:L2.Inv X pins σ H s)(h:yJ X.K H d o kvs)(ho:o.data=.dict es ep) :
  ∃vs,KV kvs vs/\s.heap.DictAt (ak X.prog X.w) d vs ep/\s.heap.get? d=some o/\o.ExactDict:=by
 rcases h with hq | ⟨hk,_,_,o2,es2,ep2,e,x,d2,r⟩
 ·obtain⟨e0,z,_,vs,rel,o',es',ep',e1,x1,d1,rest⟩:=I.hok d _ hq
  rw[e0] at e1;cases e1;rw[ho] at d1;cases d1;exact⟨vs,rel,⟨o,es,e0,x1,ho,rest⟩,e0,x1⟩
 ·rw[hk] at e
  cases e;rw[ho] at d2;cases d2;obtain⟨vs,rel,rest⟩:=r X.prog;rw[← hw] at rest;exact⟨vs,rel,⟨o,es,I.kIn _ _ hk,x,ho,rest⟩,I.kIn _ _ hk,x⟩
end
end PU
namespace PU
open PySem PySem.Spec PyProof.Rows L2 PySem.SeqAt
variable[TW]
section
variable{P : K5}{w : KH}{K : JH}{tg : Expr}
noncomputable def Aa(K:JH)(d:Addr)(o:Obj)(kvs:List (Key×V)):It:=
 ⟨fun i H=>i<kvs.length/\yJ K H d o kvs,fun i H x H'=>H'=H/\∃kv,kvs[i]?=some kv/\x=kV kv.1,fun i H=>i=kvs.length/\yJ K H d o kvs⟩
theorem yJ.kp{H H':Hp}{d:Addr}{o:Obj}{kvs:List (Key×V)}(k:Kp H H')(h:yJ K H d o kvs):yJ K H' d o kvs:=by
 rcases h with h | h
 ·exact .inl (k _ _ h rfl)
 ·exact .inr h
theorem Bj{H:Hp}{d:Addr}{o:Obj}{kvs:List (Key×V)}{ks:List Key}(g:yJ K H d o kvs)(e:kvs.map (·.1)=ks):ItP K (Aa K d o kvs) H (ks.map wx):=fun i H' k=>by
 subst e;refine⟨fun h=>⟨by simpa using h,g.kp k⟩,fun p ep=>?_⟩;rw[K2,K2] at ep;cases hk:kvs[i]? with
 | none=>rw[hk] at ep;cases ep
 | some kv=>
  rw[hk] at ep;cases ep;refine⟨⟨(JL.mp hk).1,g.kp k⟩,fun x H2 ⟨eh,kv',e1,e2⟩=>?_⟩;rw[hk] at e1;cases e1;subst eh e2;exact⟨Same.refl _,rf kv.1⟩
theorem tB(d it:Addr)(o:Obj)(es:Array DictEntry)(ep:Nat)(ho:o.data=.dict es ep)(kvs:List (Key×V))(hw:w=TW.w):Turn P w K tg (Aa K d o kvs) [it] it (fun i h=>h.IsKeyIter it d i kvs.length ep) where
 mem:=by simp
 obj:=fun i h st b hb=>by
  have e:b=it:=by simpa using hb
  subst e;obtain⟨o,e,c,dd⟩:=st;exact⟨o,e,fun v z=>by rw[dd] at z;cases z⟩
 keep:=fun i h h' st k=>st.at fun o e=>k it (by simp) o e
 item:=by
  intro X hP hw hK hc i pins s σ H E I hf st hg;subst hP hw hK;obtain⟨hi,hq⟩:=hg;obtain⟨vs,rel,dat,_,_⟩:=hq.at hw I ho;have hl:kvs.length=vs.length:=Ki rel;obtain⟨f0,f1,f2,f3,f4,f5⟩:=hf it (by simp);have eg:vs[i]?=some vs[i]:=by simp[← hl,hi]
  have egk:kvs[i]?=some kvs[i]:=by simp[hi]
  obtain⟨hk1,hk2⟩:kvs[i].1=vs[i].1/\RelV kvs[i].2 vs[i].2:=lM rel egk eg;rw[hl] at st;refine wpAny_pyNext_dict_item st dat (k:=vs[i].1) (v:=vs[i].2) eg fun key h' hkey st' sb=>?_;have I1:Inv X pins σ H { s with heap:=h' }:=I.turned (t':=s.toks) (fun b o hb e=>(sb.2 b hb).trans e) f0 f1 f3 f4 f5;obtain⟨oi,e,c,dd⟩:=id st'
  have rk:RelV (kV kvs[i].1) key:=by
   rw[hk1];rcases b9 hkey with⟨j,t,e1,e2⟩|⟨y,t,e1,e2⟩
   ·rw[e1,e2];exact⟨t,rfl⟩
   ·rw[e1,e2];exact⟨t,rfl⟩
  exact⟨key,rfl,vc (s:={ s with heap:=h' }) e c dd (by decide) ⟨kV kvs[i].1,H,I1,rk,⟨rfl,_,egk,rfl⟩,by rw[hl];exact st',fun b hb=>(hf b hb).1⟩⟩
 done:=by
  intro X hP hw hK hc i pins s σ H E I hf st hg;subst hP hw hK;obtain⟨hi,hq⟩:=hg;obtain⟨vs,rel,dat,_,_⟩:=hq.at hw I ho;have hl:kvs.length=vs.length:=Ki rel;obtain⟨f0,f1,f2,f3,f4,f5⟩:=hf it (by simp);rw[hl] at st;exact wpAny_pyNext_dict_end (I.ok.hd hc) st dat (by simp[← hl,hi]) fun h' eb=>⟨rfl,I.turned (t':=s.toks) (fun b o hb e=>eb b o hb e) f0 f1 f3 f4 f5⟩
 self:=fun _ _ _ _ _ st h=>wpAny_pyIter_keyiter st h
noncomputable def wg(x:Str):It:=⟨fun i _=>i<x.cps.size,fun i H y H'=>H'=H/\∃c,x.cps[i]?=some c/\y=.str ⟨#[c]⟩,fun i _=>i=x.cps.size⟩
theorem xV{H:Hp}{x:Str}:ItP K (wg x) H (fQ x):=fun i H' k=>by
 refine⟨fun h=>show i=x.cps.size by simpa [fQ] using h,fun p ep=>?_⟩;unfold fQ at ep;rw[K2] at ep;cases hk:x.cps.toList[i]? with
 | none=>rw[hk] at ep;cases ep
 | some c=>
  rw[hk] at ep;cases ep;refine⟨show i<x.cps.size by simpa using (JL.mp hk).1,fun y H2 ⟨eh,c',e1,e2⟩=>?_⟩
  have:c'=c:=by
   rw[QK] at hk;rw[hk] at e1;exact(Kl e1).symm
  subst this eh e2;exact⟨Same.refl _,rfl⟩
theorem nX{A:KY}(hh:A.handled=none)(it:Addr)(x:Str)(t:Tok):Walks P w A it [it] [it] x.cps.size (SignAt x) (fun i h=>h.IsStrIter it (Ma x) x t i):=by
 unfold Ma
 split
 ·exact Walks.strAscii hh it x t
 ·exact Walks.strWide hh it x t
theorem pP (x:Str):["enumerate","zip","dict_itemiterator","dict_reverseitemiterator","odict_iterator","itertools.zip_longest","itertools.pairwise"].contains (Ma x)=false:=by
 unfold Ma
 split <;> decide
theorem rV(it:Addr)(x:Str)(t:Tok):Turn P w K tg (wg x) [it] it (fun i h=>h.IsStrIter it (Ma x) x t i) where
 mem:=by simp
 obj:=fun i h st b hb=>by
  have e:b=it:=by simpa using hb
  subst e;obtain⟨o,e,c,dd⟩:=st;exact⟨o,e,fun v z=>by rw[dd] at z;cases z⟩
 keep:=fun i h h' st k=>by
  obtain⟨o,e,r⟩:=st;exact⟨o,k it (by simp) o e,r⟩
 item:=by
  intro X hP hw hK hc i pins s σ H E I hf st hg;subst hP hw hK;obtain⟨f0,f1,f2,f3,f4,f5⟩:=hf it (by simp);have W:=nX (P:=X.prog) (w:=X.w) (I.ok.hd hc) it x t;refine W.item i s _ _ hg st fun v h' tk hv st' kk=>?_;obtain⟨c,u,ec,rfl⟩:=hv;have I1:Inv X pins σ H { s with heap:=h',toks:=tk }:=I.turned (fun b o hb e=>kk b o (by simpa using hb) e) f0 f1 f3 f4 f5;obtain⟨oi,e,cc,dd⟩:=id st';exact⟨_,rfl,vc (s:={ s with heap:=h',toks:=tk }) e cc dd (pP x) ⟨.str ⟨#[c]⟩,H,I1,⟨u,rfl⟩,⟨rfl,c,ec,rfl⟩,st',fun b hb=>(hf b hb).1⟩⟩
 done:=by
  intro X hP hw hK hc i pins s σ H E I hf st hg;subst hP hw hK;obtain⟨f0,f1,f2,f3,f4,f5⟩:=hf it (by simp);have W:=nX (P:=X.prog) (w:=X.w) (I.ok.hd hc) it x t;have hg:i=x.cps.size:=hg;subst hg;refine W.done s _ _ st fun h' tk hk=>⟨rfl,I.turned (fun b o hb e=>hk b o (by simpa using hb) e) f0 f1 f3 f4 f5⟩
 self:=fun A i s Q E st h=>by
  unfold Ma at st;split at st
  ·exact wpAny_pyIter_striter_ascii st h
  ·exact wpAny_pyIter_striter_wide st h
end
section
variable{C : Cn}{e tg : Expr}{f : PSt → R PV}
theorem fL(he:EV C e f)(hw:C.X.w=TW.w:=by rfl):EI C tg e (itF f):=by
 intro pins s σ H R I ⟨ρ,vw,q⟩;refine thn (he pins s σ H (fun v H'=>∃p ps,Same H H'/\Rep C.X.K H' p v/\gz p=some ps/\∀J H2,Same H' H2->ItP C.X.K J H2 ps->R J H2) I ⟨ρ,vw,q.bind.imp fun p _ k v H' s' r=>?_⟩) fun v s1 ⟨x,H1,I1,r1,p,ps,sm,rp,ep,k⟩=>?_
 ·obtain⟨ps,ep,k⟩:=k.ofO
  exact⟨p,ps,s',r,ep,fun J H2 s2 it=>k J H2 (s'.trans s2) it⟩
 ·cases p with
  | lst qs=>
   cases ep;obtain⟨a,xs,rfl,g,rr⟩:=rp;cases r1;obtain⟨its,rv,pl,hz⟩:=I1.list g.l.l;refine wpAny_pyIter_list pl.isList ?_;refine⟨s1.heap.objs.size,[s1.heap.objs.size],_,_,H1,rfl,I1.kept (t':=s1.toks) fun b o e=>JN _ e,tx a _,⟨_,K6 _ rfl,rfl,rfl⟩,fun b hb=>?_,k _ H1 (Same.refl H1) (Bi g rr)⟩;have e:b=s1.heap.objs.size:=by simpa using hb
   subst e;exact I1.fpOk (K8 _) (I1.hok.fresh (K8 _))
  | tup qs=>
   cases ep;obtain⟨a,xs,rfl,g,rr⟩:=rp;cases r1;obtain⟨its,rv,pl,hz⟩:=I1.tuple (tq g);refine wpAny_pyIter_tuple (show s1.heap.IsTuple a its.toArray from pl) ?_;refine⟨s1.heap.objs.size,[s1.heap.objs.size],_,_,H1,rfl,I1.kept (t':=s1.toks) fun b o e=>JN _ e,rT a _,⟨_,K6 _ rfl,rfl,rfl⟩,fun b hb=>?_,k _ H1 (Same.refl H1) (E9 (tq g) rr)⟩;have e:b=s1.heap.objs.size:=by simpa using hb
   subst e;exact I1.fpOk (K8 _) (I1.hok.fresh (K8 _))
  | dct ks qs=>
   cases ep;obtain⟨a,kvs,rfl,g,ek,rr⟩:=rp;cases r1
   obtain⟨o,es,ep,ho,hq,hs⟩:∃o es ep,o.data=.dict es ep/\yJ C.X.K H1 a o kvs/\(a == Ku)=false:=by
    rcases g with⟨o,g⟩ | g
    ·obtain⟨e0,z,hs,vs,rel,o',es',ep',e1,x1,d1,rest⟩:=I1.hok a _ g
     rw[e0] at e1;cases e1;exact⟨o,es',ep',d1,.inl g,hs⟩
    ·obtain⟨_,hs,o,es,ep,e,x,d,r⟩:=id g
     exact⟨o,es,ep,d,.inr ⟨e,g⟩,hs⟩
   obtain⟨vs,rel,dat,_,_⟩:=hq.at hw I1 ho;have hl:kvs.length=vs.length:=Ki rel;refine wpAny_pyIter_dict hs dat ?_;refine⟨s1.heap.objs.size,[s1.heap.objs.size],_,_,H1,rfl,I1.kept (t':=s1.toks) fun b o e=>JN _ e,tB a _ o es ep ho kvs hw,⟨_,K6 _ rfl,rfl,by rw[hl];rfl⟩,fun b hb=>?_,k _ H1 (Same.refl H1) (Bj hq ek)⟩;have e:b=s1.heap.objs.size:=by simpa using hb
   subst e;exact I1.fpOk (K8 _) (I1.hok.fresh (K8 _))
  | str y=>
   cases ep;cases (show x=.str y from rp);obtain⟨t,rfl⟩:=r1;refine wpAny_pyIter_strU ?_;refine⟨s1.heap.objs.size,[s1.heap.objs.size],_,_,H1,rfl,I1.kept (t':=s1.toks) fun b o e=>JN _ e,rV _ y t,⟨_,K6 _ rfl,rfl,rfl⟩,fun b hb=>?_,k _ H1 (Same.refl H1) xV⟩;have e:b=s1.heap.objs.size:=by simpa using hb
   subst e;exact I1.fpOk (K8 _) (I1.hok.fresh (K8 _))
  | _=>cases ep
end
end PU
namespace PU
open PySem PySem.Spec PyProof.Rows L2 PySem.SeqAt
variable[TW]
theorem vA{C:Cn}{e:Expr}{f:PSt->R PV}{pos:La}(h:EV C e f):EV C (.UnaryOp .USub e pos) (un1 f wB):=by
 intro pins s σ H Q I ⟨ρ,vw,q⟩;refine Gq CA h pins s σ H Q I ⟨ρ,vw,q.bind.imp fun p _ k v H1 s1 r1=>?_⟩;obtain⟨z,ez,k⟩:=k.ofO;cases p with
 | int i=>cases ez;cases (show v=.int i from r1);exact⟨i,rfl,k _ H1 s1 rfl⟩
 | _=>cases ez
def rM1(K:JH)(g:PV->PV->Option PV):V->List V->Hp->VK->Prop:=fun v vs H Q=>∃p q z u,vs=[u]/\bg K H p v/\bg K H q u/\g p q=some z/\∀w H',Same H H'->Rep K H' z w->Q w H'
structure StrM(name:Str)(id:String):Prop where
 slot:Slot "str" name id
 ty:typeOf (.builtin id)=pure (.type "method_descriptor")
theorem H0{C:Cn}{o e:Expr}{fo fe:PSt->R PV}{g:PV->PV->Option PV}{name:Str}{id:String}{apos cpos:La}(S:StrM name id)(hm:MtR C.X id (rM1 C.X.K g))(ho:EV C o fo)(he:EO C e fe)
  (hbase:NU o name C.X.env (L9 o C.X.env)=L9 o C.X.env:=by rfl) (hline:(apos.endLine == cpos.line)=true:=by rfl) (hs:K1 [e] C.X.env=[(false,L9 e C.X.env)]:=by exact bX rfl) :
  EV C (.Call (.Attribute o name apos) [e] [] cpos) (xM fo fe g):=by
 intro pins s σ H Q I ⟨ρ,vw,q⟩;refine AU PySem.F.plainAttrs_str S.slot S.ty hm ho (rG he hs) hbase (by rw[hs];rfl) hline hs (by rfl) pins s σ H Q I ⟨ρ,vw,q.bind.imp fun p _ k v H1 s1 r1=>?_⟩;cases p with
 | str x=>
  cases (show v=.str x from r1);have k:RQ C H (fe ρ >>= fun q=>R.ofO (g (.str x) q)) fun p=>∀v H',Same H H'->Rep C.X.K H' p v->Q v H':=k;refine⟨rfl,ρ,vw.same s1,(k.bind.same s1).imp fun p2 _ k2 u H2 s2 r2=>?_⟩;obtain⟨z,ez,k3⟩:=k2.ofO;exact⟨.str x,p2,z,u,rfl,rfl,r2,ez,fun w H3 s3 r3=>k3 w H3 ((s1.trans s2).trans s3) r3⟩
 | _=>exact JP k
theorem iZ{K:JH}{H:Hp}:∀{ps:List PV}{xs:List V}{us:List JJ}{ys:List Str},jk ps=some ys->aB K H ps xs->Vals xs us->StrsAre us ys
 | [],_,_,_,e,r,rv=>by cases e;cases r;cases rv;exact .nil
 | p::ps,_,_,_,e,⟨x,t,ex,h1,h2⟩,rv=>by
  subst ex;cases p with
  | str y=>
   obtain⟨r,er,ez⟩:=JV.mp (show (jk ps).map (y::·)=some _ from e);subst ez;cases (show x=.str y from h1);cases rv with
   | cons a b=>
    obtain⟨tt,rfl⟩:=a;exact .cons y tt (iZ er h2 b)
  | _=>cases e
theorem Gb:StrM "join" "str.join":=⟨PySem.F.slot_str_join,PySem.F.type_str_join⟩
theorem GH {X:Cx}:MtR X "str.join" (rM1 X.K vg):=by
 intro pins s σ H x xs v us Q I rx rs ⟨p,q,z,u,e1,rp,rq,ez,k⟩;subst e1;obtain⟨u',rfl,ru⟩:=vals1 rs;unfold vg at ez;split at ez
 ·rename_i y ps
  obtain⟨ys,ey,ez⟩:=K3.mp ez;split at ez
  ·rename_i hl
   cases ez;cases (show x=.str y from rp);obtain⟨t,rfl⟩:=rx;obtain⟨a,zs,rfl,g,rr⟩:=bg.lst_inv rq;cases ru;obtain⟨_,its,n,rv,e⟩:=g.is I;exact join_list (items:=its.toArray) ⟨_,e,rfl,_,rfl⟩ (iZ ey rr (by simpa using rv)) hl fun t' k'=>⟨.str _,H,I.tok _,⟨_,rfl⟩,k _ H (Same.refl H) rfl⟩
  ·cases ez
 ·rename_i y ps
  obtain⟨ys,ey,ez⟩:=K3.mp ez;split at ez
  ·rename_i hl
   cases ez;cases (show x=.str y from rp);obtain⟨t,rfl⟩:=rx;obtain⟨a,zs,rfl,g,rr⟩:=bg.tup_inv rq;cases ru;obtain⟨its,rv,pl,_⟩:=I.tuple g;exact join_tuple (items:=its.toArray) pl (iZ ey rr (by simpa using rv)) hl fun t' k'=>⟨.str _,H,I.tok _,⟨_,rfl⟩,k _ H (Same.refl H) rfl⟩
  ·cases ez
 ·cases ez
end PU
namespace PU
open PySem PySem.Spec PyProof.Rows L2 PySem.SeqAt
variable[TW]
def IQ(K:JH):V->Option Int->Option Int->Hp->VK->Prop:=fun v lo hi H Q=>∃p z,bg K H p v/\gSl p lo hi=some z/\∀w H',Same H H'->Rep K H' z w->Q w H'
noncomputable def tOI(C:Cn)(f:PSt->R (Option Int)):TO:=fun σ H Q=>∃ρ,View C.X.K H σ ρ/\RQ C H (f ρ) fun o=>∀H',Same H H'->Q o H'
def EOI(C:Cn)(e:Option Expr)(f:PSt->R (Option Int)):Prop:=PO C.X e (tOI C f)
theorem nJ{K:JH}{H:Hp}{ps:List PV}{xs:List V}(r:aB K H ps xs)(lo hi:Option Int):aB K H (pL ps lo hi) (yu xs lo hi):=by
 unfold pL yu;rw[r.length];exact(r.drop _).take _
section
variable{C : Cn}{e : Expr}{f : PSt → R PV}{lo hi : Option Expr}{l h : PSt → R (Option Int)}{pos p2 : La}
theorem eM:EOI C none eX:=fun pins s σ H Q I ⟨ρ,vw,q⟩=>AM pins s σ H Q I (q H (Same.refl H))
theorem eL(he:EV C e f):EOI C (some e) (j3 f):=by
 intro pins s σ H Q I ⟨ρ,vw,q⟩;refine AL he pins s σ H Q I ⟨ρ,vw,q.bind.imp fun p _ k v H1 s1 r1=>?_⟩;cases p with
 | int i=>cases (show v=.int i from r1);exact⟨i,rfl,k H1 s1⟩
 | _=>exact JP k
theorem slP{X:Cx}:SlR X (IQ X.K):=by
 intro pins s σ H x v vl vu lo hi sl Q I rx hs pl pu ⟨p,z,rp,ez,k⟩;cases p with
 | lst ps=>
  cases ez;obtain⟨a,xs,rfl,g,rr⟩:=bg.lst_inv rp;obtain⟨T,id,h1,h2,h3⟩:=As pins s σ H _ v vl vu lo hi sl (fun w H'=>∃b,w=.ref b/\H b=none/\H'=upd H b (.lst (yu xs lo hi))) I rx hs pl pu ⟨a,xs,rfl,g.l,fun b hb=>⟨b,rfl,hb,rfl⟩⟩;refine⟨T,id,h1,h2,thn h3 fun u s' ⟨w,H',I',rw',b,ew,nb,eH⟩=>?_⟩;subst ew eH;obtain⟨H2,I2,rp2,oth⟩:=L2.Inv.frz (a:=b) (p:=.lst (pL ps lo hi)) I' ⟨_,ar,(nJ rr lo hi).same (Same.new nb)⟩;refine⟨.ref b,H2,I2,rw',k _ H2 (.of fun c o ec=>?_) rp2⟩;have hc:=bx ec nb;rw[oth c hc,av hc];exact ec
 | tup ps=>
  simp only[gSl] at ez;obtain⟨a,xs,rfl,g,rr⟩:=bg.tup_inv rp
  by_cases hw:HT.sIx ps.length 0 lo=0/\HT.sIx ps.length ps.length hi=ps.length
  ·rw[if_pos hw] at ez
   cases ez
  ·rw[if_neg hw] at ez
   cases ez;exact yU pins s σ H _ v vl vu lo hi sl Q I rx hs pl pu ⟨a,xs,rfl,g,by rw[← rr.length];exact hw,fun b hb=>k _ _ (Same.new hb) ⟨b,_,rfl,ar,(nJ rr lo hi).same (Same.new hb)⟩⟩
 | _=>cases ez
theorem jD(ha:EO C e f)(hl:EOI C lo l)(hh:EOI C hi h):EV C (.Subscript e (.Slice lo hi none p2) pos) (jN f l h):=by
 intro pins s σ H Q I ⟨ρ,vw,q⟩;refine mJ slP ha hl hh pins s σ H Q I ⟨ρ,vw,q.bind.imp fun p _ k v H1 s1 r1=>⟨ρ,vw.same s1,(k.bind.same s1).imp fun o1 _ k2 H2 s2=>⟨ρ,(vw.same s1).same s2,(k2.bind.same (s1.trans s2)).imp fun o2 _ k3 H3 s3=>?_⟩⟩⟩;obtain⟨z,ez,k4⟩:=k3.ofO;exact⟨p,z,(r1.same s2).same s3,ez,fun w H4 s4 r4=>k4 w H4 (((s1.trans s2).trans s3).trans s4) r4⟩
end
theorem ot{K:JH}{H:Hp}{k:Key}{p:PV}{v:V}(rp:Rep K H p v):∀{kvs:List (Key×V)}{ps:List PV},aB K H ps (kvs.map (·.2))->aB K H (jm (kvs.map (·.1)) ps k p) ((kvs.map fun kv=>if kv.1=k then (kv.1,v) else kv).map (·.2))
 | [],ps,r=>by
  cases ps with
  | nil=>rfl
  | cons q qs=>obtain⟨x,t,e,_⟩:=r;cases e
 | kv::kvs,ps,r=>by
  cases ps with
  | nil=>cases r
  | cons q qs=>
   obtain⟨x,t,e,h1,h2⟩:=r;simp only[JQ,M0] at e;obtain⟨rfl,rfl⟩:=e;have ih:=ot (k:=k) rp h2;simp only[JQ,jm,Lf]
   by_cases hk:kv.1=k
   ·rw[if_pos hk,if_pos hk];exact⟨_,_,rfl,rp,ih⟩
   ·rw[if_neg hk,if_neg hk];exact⟨_,_,rfl,h1,ih⟩
theorem qP{K:JH}{H:Hp}{kvs:List (Key×V)}{ps:List PV}{k:Key}{p:PV}{v:V}(rr:aB K H ps (kvs.map (·.2)))(rp:Rep K H p v) :
  ∃ks' ps',gD (kvs.map (·.1)) ps k p=.dct ks' ps'/\(putK kvs k v).map (·.1)=ks'/\aB K H ps' ((putK kvs k v).map (·.2)):=by
 unfold gD;have e:((kvs.map (·.1)).any fun j=>decide (j=k))=(kvs.any fun kv=>decide (kv.1=k)):=by rw[Lg];rfl
 rw[e];unfold putK
 split
 ·refine⟨_,_,rfl,?_,ot rp rr⟩
  rw[K4];apply NO;intro kv _;simp only[MW]
  split <;> rfl
 ·refine⟨_,_,rfl,by simp,?_⟩
  rw[KL];exact aB.append rr ⟨_,_,rfl,rp,rfl⟩
theorem gO{K:JH}{H:Hp}{a:Addr}{kvs:List (Key×V)}{ps:List PV}{k:Key}{p:PV}{v:V}(rr:aB K H ps (kvs.map (·.2)))(rp:Rep K H p v)(ha:H a=some (.dK (putK kvs k v))):bY K H a (gD (kvs.map (·.1)) ps k p):=by
 obtain⟨ks',ps',e,e1,e2⟩:=qP (k:=k) rr rp;rw[e];exact⟨_,ha,e1,e2⟩
theorem og{C:Cn}(i:Nat){x:Str}{ke e:Expr}{fk fv:PSt->R PV}{np pos' pos:La}(hu:C.X.A.units+64<cLine)(hk:EV C ke fk)(hv:EV C e fv)(hN:C.X.N[i]?=some x:=by rfl)(hvis:Vis C.X.env.scope x:=by first | exact NY rfl | exact N7 (NY rfl))
  (hs:MK e (some (.Subscript (.Name x np) ke pos')) pos.line C.X.env=pure false:=by rfl) (hd:(x == ("__debug__":Str))=false:=by decide) (hcd:(x == ("__classdict__":Str))=false:=by decide) :
  SV C (.Assign [.Subscript (.Name x np) ke pos'] e pos) (so i fk fv):=by
 intro pins s σ H D I ⟨ρ,B,S,q⟩;unfold so at q;split at q
 ·rename_i ks ps e1
  obtain⟨a,e2,kvs,hx,ek,rr⟩:=S.vw i _ e1;refine pT (by omega) (eG hN hvis hd hcd) hk hv hs pins s σ H D I ⟨ρ,S.vw,(q.bind S.same).imp fun p _ q1 v H1 s1 r1=>⟨_,e2,ρ,S.vw.same s1,(q1.bind (S.same.trans s1)).imp fun kp _ q2 y H2 s2 r2=>?_⟩⟩;obtain⟨k,e3,q3⟩:=RS.ofO q2
  by_cases hl:ks.length<16777216
  ·rw[if_pos hl] at q3
   have hy:=cH e3 r2.o;subst hy;subst ek;have hx2:H2 a=some (.dK kvs):=s2 _ _ (s1 _ _ hx);refine⟨a,_,rfl,yI.k hx2 (by rw[Ke];simpa using hl),?_⟩;have kp:Kp H2 (upd H2 a (.dK (putK kvs k v))):=Kp.upd hx2 rfl;refine q3 σ _ (((S.grow s1).grow s2).turn e1 e2 (fun b hb=>av hb) ⟨a,rfl,?_⟩);exact gO (aB.kp kp _ ((rr.same s1).same s2)) (Rep.kp kp _ (r1.same s2)) ar
  ·rw[if_neg hl] at q3
   exact JP q3
 ·exact JP q
theorem iW{C:Cn}{pos:La}:EN C (.Dict [] [] pos) newD:=fun pins s σ H Q I ⟨ρ,vw,q⟩=>xy pins s σ H Q I fun p hp=>q p _ (Same.new hp) hp ⟨[],ar,rfl,rfl⟩
def gh(K:JH)(H:Hp):List (Key×PV)->List (Key×V)->Prop
 | [],xs=>xs=[]
 | kp::r,xs=>∃v t,xs=(kp.1,v)::t/\Rep K H kp.2 v/\gh K H r t
theorem gh.kp{K:JH}{H H':Hp}(k:Kp H H'):∀{kps:List (Key×PV)}{xs:List (Key×V)},gh K H kps xs->gh K H' kps xs
 | [],_,h=>h
 | kp::r,_,⟨v,t,e,h1,h2⟩=>⟨v,t,e,Rep.kp k _ h1,gh.kp k h2⟩
def ED(C:Cn)(pos:La)(ks:List (Option Expr))(vs:List Expr)(f:PSt->R (List (Key×PV))):Prop:=∃trs,PPs C.X pos ks vs trs/\
 ∀σ H Q,(∃ρ,View C.X.K H σ ρ/\RQ C H (f ρ) fun kps=>∀kvs H',Same H H'->gh C.X.K H' kps kvs->Q (kvs.map fun kv=>(kV kv.1,kv.2)) H')->oe trs σ H Q
def wb(d:PV)(kp:Key×PV):PV:=match d with
 | .dct ks ps=>gD ks ps kp.1 kp.2
 | d=>d
theorem qZ(kps:List (Key×PV)):i7 kps=kps.foldl wb (.dct [] []):=rfl
theorem kg{K:JH}{H:Hp}:∀{kps:List (Key×PV)}{kvs acc:List (Key×V)}{ps:List PV},gh K H kps kvs->aB K H ps (acc.map (·.2))->
  ∃ks' ps',kps.foldl wb (PV.dct (acc.map (·.1)) ps)=PV.dct ks' ps'/\(cy acc kvs).map (·.1)=ks'/\aB K H ps' ((cy acc kvs).map (·.2))
 | [],kvs,acc,ps,h,r=>by cases h;exact⟨_,_,rfl,rfl,r⟩
 | kp::kps,kvs,acc,ps,⟨v,t,e,h1,h2⟩,r=>by
  subst e;obtain⟨ks',ps',g,g1,g2⟩:=qP (k:=kp.1) r h1;obtain⟨ks2,ps2,f,f1,f2⟩:=kg (acc:=putK acc kp.1 v) h2 g2;refine⟨ks2,ps2,?_,f1,f2⟩;rw[Lc]
  have:wb (PV.dct (acc.map (·.1)) ps) kp=PV.dct ((putK acc kp.1 v).map (·.1)) ps':=by
   show gD _ _ _ _=_;rw[g,g1]
  rw[this];exact f
theorem gh.length{K:JH}{H:Hp}:∀{kps:List (Key×PV)}{xs:List (Key×V)},gh K H kps xs->kps.length=xs.length
 | [],_,h=>by cases h;rfl
 | kp::r,_,⟨v,t,e,h1,h2⟩=>by subst e;simp[gh.length h2]
end PU
namespace PU
open PySem PySem.Spec PyProof.Rows L2 PySem.SeqAt
variable[TW]
structure Con(K:JH)(mg:Str->Option JJ)(x:Str)(c:PV):Prop where
 ex:∃v u,mg x=some u/\RelV v u/\∀H,Rep K H c v
theorem rE {C:Cn} {x:Str} {c:PV} {pos:La} (hg:Gl C.X x) (h:Con C.X.K C.X.mg x c) (hd:(x == ("__debug__":Str))=false:=by decide):EV C (.Name x pos) (kP c):=by
 obtain⟨v,u,hm,r,rp⟩:=h.ex;exact Bv hg hm r rp hd
noncomputable def Eu(p:Params)(e:Str×Tok×JJ):DictEntry:={ hash:=PyData.keyHash p e.1,key:=.str e.1 e.2.1,val:=e.2.2 }
omit [TW] in
theorem sG(w:KH)(x:Str):PyData.keyHash w.params x=hashStr w x:=rfl
omit [TW] in
theorem lL{P:K5}{w:KH}:∀(es:List (Str×Tok×JJ)),Pairs (ak P w) (es.map (Eu w.params)) (es.map fun e=>((LW e.1:Key),e.2.2))
 | []=>.nil
 | e::es=>.cons (fC P w e.1 e.2.1) rfl (lL es)
omit [TW] in
theorem uP:∀{xs:List V}{es:List (Str×Tok×JJ)},Vals xs (es.map (·.2.2))->KV ((es.map fun e=>(LW e.1:Key)).zip xs) (es.map fun e=>((LW e.1:Key),e.2.2))
 | [],[],_=>.nil
 | x::xs,e::es,r=>by
  cases r with
  | cons a b=>exact .cons ⟨rfl,a⟩ (uP b)
 | [],_::_,r=>by cases r
 | _::_,[],r=>by cases r
omit [TW] in
theorem con_dct{w:KH}{tabs:List Addr}{qual:Nat->Nat->Str}{K:JH}{h:Heap}{mg:Str->Option JJ}{x:Str}{a:Addr}{o:Obj}(es:List (Str×Tok×JJ)){ep:Nat}{ps:List PV}{xs:List V}(X:K.In h)(G:h.Ns mainGlobals mg)
  (n1:L5 K mainGlobals x=some (some (.ref a))) (n2:K.lookup a=some o) (n3:o={ cls:=.type "dict",data:=.dict (es.map (Eu w.params)).toArray ep }) (hs:(a == Ku)=false)
  (nd:(es.map (·.1)).Nodup) (hz:es.length<=sizeLine) (vals:Vals xs (es.map (·.2.2))) (reps:∀H,@aB ⟨w,tabs,qual⟩ K H ps xs):@Con ⟨w,tabs,qual⟩ K mg x (.dct (es.map fun e=>.inr e.1) ps):=by
 letI:TW:=⟨w,tabs,qual⟩
 have hl:xs.length=es.length:=by rw[vals.length,JT]
 have e1:((es.map fun e=>(LW e.1:Key)).zip xs).map (·.1)=es.map fun e=>.inr e.1:=List.map_fst_zip (by rw[JT];omega);have e2:((es.map fun e=>(LW e.1:Key)).zip xs).map (·.2)=xs:=List.map_snd_zip (by rw[JT];omega);refine⟨.ref a,_,Mw X G n1,rfl,fun H=>⟨a,(es.map fun e=>(LW e.1:Key)).zip xs,rfl,.inr ⟨?_,hs,o,_,_,n2,?_,by rw[n3],fun P=>⟨es.map fun e=>((LW e.1:Key),e.2.2),uP vals,?_,?_,?_⟩⟩,e1,by rw[e2];exact reps H⟩⟩
 ·rw[List.length_zip,JT,hl]
  omega
 ·rw[n3]
  exact⟨rfl,rfl,rfl⟩
 ·intro e he
  have he:e∈es.map (Eu w.params):=by simpa using he
  obtain⟨z,_,rfl⟩:=JS.mp he;exact⟨.inr z.1,fC P w z.1 z.2.1,sG w z.1⟩
 ·have e3:(es.map (Eu w.params)).toArray.toList=es.map (Eu w.params):=by simp
  rw[e3];exact lL (P:=P) (w:=w) es
 ·rw[K4]
  have:((·.1) ∘ fun e:Str×Tok×JJ=>((LW e.1:Key),e.2.2))=LW ∘ (·.1):=rfl;rw[this,← K4];exact Pq _ (fun a b hab e=>hab (Lw e)) nd
theorem GC{P:K5}{w:KH}{K:JH}{mg:Str->Option JJ}{base:Heap}{x qual:Str}{st:Stmt}{f:Addr}{fd:FuncData}{N ps:List Str}{k:Nat}{g:PSt->R Fl}(F:Fun K x qual st f fd)(S:FnScope N ps (ae st))
  (hbody:∀(cdv:JJ)(A:KY)(outer:List Ow)(s:JM)(H:Hp)(E:XK),Room k (A.deeper (Mm qual (ae st) s.heap.objs.size f cdv))->SVs (zT P w K mg base N qual (ae st) f cdv A outer s H E) (aW st) g) :
  FnOk P w K mg base CX0 (k+1) f fd ps (spP K ps.length (ff ps.length N.length g)):=by
 refine F.ok S (fun vs H Q E h=>h.1) (fun cdv A outer s H vs Q E hr h=>?_);obtain⟨hl,tb,qs,p,r,e,k⟩:=h;refine⟨_,hbody cdv A outer s H E hr,start N.length qs,(H,H),gk tb r,?_⟩;unfold ff at e;rw[if_pos (by rw[r.length];exact hl)] at e;cases hg:g (start N.length qs) with
 | ok fl=>
  rw[hg] at e;cases fl with
  | next ρ=>cases e;exact fun σ H' S'=>k .non H' S'.same rfl
  | ret q=>cases e;exact fun v H' s' r'=>k v H' s' r'
  | brk ρ=>cases e
  | cont ρ=>cases e
 | er x=>rw[hg] at e;cases e
 | no=>rw[hg] at e;cases e
theorem sd{K:JH}{H:Hp}{a:Addr}{ns:List Int}(h:SqF K H a (ns.map V.int)):aB K H [.lst (ns.map .int)] [.ref a]:=by
 have:∀l:List Int,aB K H (l.map PV.int) (l.map V.int):=by
  intro l
  induction l with
  | nil=>rfl
  | cons x l ih=>exact⟨_,_,rfl,rfl,ih⟩
 exact⟨_,_,rfl,⟨a,_,rfl,h,this ns⟩,rfl⟩
end PU
namespace PU
open PySem PySem.Spec PyProof.Rows L2 PySem.SeqAt
section
variable{P : K5}{w : KH}{A : KY}{E : JJ → JM → Prop}{s : JM}{it a : Addr}{i n ep slot : Nat}
def Tells(P:K5)(w:KH)(s:JM)(a:Addr)(slot i ep:Nat)(r:Option (JJ×Nat)):Prop:=∀(A:KY)(E:JJ->JM->Prop)(Q:Option (JJ×Nat)->JM->Prop),Q r s->JZ (KM P w) A (setNext a slot i ep) Q E s
end
end PU
section
namespace PU
noncomputable def whF(t:PSt->R Bool)(g:PSt->R Fl):Nat->PSt->R Fl
 | 0,_=>.no
 | n+1,ρ=>t ρ >>= fun b=>if b=true then g ρ >>= fun fl=>(match fl with
  | .next ρ2=>whF t g n ρ2
  | .cont ρ2=>whF t g n ρ2
  | .brk ρ2=>.ok (.next ρ2)
  | .ret q=>.ok (.ret q)) else .ok (.next ρ)
def whS(n:Nat)(t:PSt->R Bool)(g:PSt->R Fl):PSt->R Fl:=whF t g n
end PU
namespace PU
open PySem PySem.Spec PyProof.Rows L2 PySem.SeqAt
variable[TW]
theorem qG{C:Cn}{c:Expr}{body:List Stmt}{t:PSt->R Bool}{g:PSt->R Fl}{pos:La}(n:Nat)(hc:ET C c t)(hb:SVs C body g)(hp:Qr (KM C.X.prog C.X.w) C.X.A C.X.env C.X.xe:=by exact QV):SV C (.While c body [] pos) (whS n t g):=by
 intro pins s σ H D I ⟨ρ,B,S,q⟩;refine xq hp hc hb pins s σ H D I ⟨fun m σ' H'=>∃ρ',StOk C.X.K B H' σ' ρ'/\RS C B D (whF t g m ρ'),⟨n,ρ,S,q⟩,?_⟩;rintro m σ' H' ⟨ρ',S',q'⟩;cases m with
 | zero=>exact JP q'
 | succ m=>
  have q':RS C B D (t ρ' >>= fun b=>if b=true then g ρ' >>= fun fl=>(match fl with
   | .next ρ2=>whF t g m ρ2
   | .cont ρ2=>whF t g m ρ2
   | .brk ρ2=>.ok (.next ρ2)
   | .ret q=>.ok (.ret q)) else .ok (.next ρ')):=q'
  refine⟨ρ',S'.vw,(q'.bind S'.same).imp fun b _ k H1 s1=>?_⟩;cases b with
  | false=>
   rw[if_neg JU] at k ⊢;exact k σ' H1 (S'.grow s1)
  | true=>
   rw[if_pos rfl] at k ⊢;refine⟨fun σ2 H2=>∃ρ2,StOk C.X.K B H2 σ2 ρ2/\RS C B D (whF t g m ρ2),fun σ2 H2 z=>⟨m,Nat.lt_succ_self m,z⟩,ρ',B,S'.grow s1,?_⟩;cases hgr:g ρ' with
   | ok fl=>
    rw[hgr] at k;cases fl with
    | next ρ2=>exact fun σ4 H4 S4=>⟨ρ2,S4,k⟩
    | cont ρ2=>exact fun σ4 H4 S4=>⟨ρ2,S4,k⟩
    | brk ρ2=>exact fun σ4 H4 S4=>k σ4 H4 S4
    | ret p=>exact k
   | er x=>rw[hgr] at k;exact k
   | no=>rw[hgr] at k;exact k
end PU
end
namespace PU
open PySem PySem.Spec PyProof.Rows L2 PySem.SeqAt
variable[TW]
theorem kO {C:Cn} {tg a b:Expr} {f f2:PSt->R PV} {p pos:La} (hg:Gl C.X "range") (hm:C.X.mg "range"=none) (ha:EV C a f) (hb:EV C b f2) (hs:K1 [a,b] C.X.env=[(false,L9 a C.X.env),(false,L9 b C.X.env)]:=by rfl)
  (hs2:K1 [b] C.X.env=[(false,L9 b C.X.env)]:=by exact bX rfl):EI C tg (.Call (.Name "range" p) [a,b] [] pos) (C8 f f2):=by
 intro pins s σ H Rk I ⟨ρ,vw,q⟩;refine ue hg hm (cq ha (cq hb gE hs2) (by rw[hs,hs2])) hs hs2 pins s σ H Rk I ⟨ρ,vw,q.bind.imp fun p _ k v H1 s1 r1=>⟨ρ,vw.same s1,(k.bind.same s1).imp fun p2 _ k2 v2 H2 s2 r2=>?_⟩⟩;cases p with
 | int i=>
  cases p2 with
  | int j=>
   cases (show v=.int i from r1);cases (show v2=.int j from r2);have k2:RQ C H (if i.natAbs<1000000000/\j.natAbs<1000000000 then R.ok (ck i (j-i).toNat) else R.no) fun ps=>∀J H',Same H H'->ItP C.X.K J H' ps->Rk J H':=k2
   by_cases hj:i.natAbs<1000000000/\j.natAbs<1000000000
   ·rw[if_pos hj] at k2
    exact⟨i,j,rfl,⟨by omega,by omega,by omega,by omega⟩,k2 _ H2 (s1.trans s2) rg⟩
   ·rw[if_neg hj] at k2
    exact JP k2
  | _=>exact JP k2
 | _=>exact JP k2
end PU
section
namespace PU
def Bl:PV->Bool
 | .dct _ _=>true
 | _=>false
end PU
namespace PU
open PySem PySem.Spec PyProof.Rows L2 PySem.SeqAt
variable[TW]
theorem lQ{K:JH}{H:Hp}{k:Key}:∀{ks:List Key}{ps:List PV}{kvs:List (Key×V)},kvs.map (·.1)=ks->aB K H ps (kvs.map (·.2))->bT ks ps k=none->jo kvs k=none
 | _,_,[],h1,h2,e=>rfl
 | _,[],kv::kvs,h1,h2,e=>by
  cases h2
 | _,q::ps,kv::kvs,h1,h2,e=>by
  subst h1;obtain⟨x,r,ex,hx,ht⟩:=h2;simp only[JQ,M0] at ex;obtain⟨rfl,rfl⟩:=ex;simp only[JQ,bT] at e
  by_cases hk:kv.1=k
  ·rw[if_pos hk] at e
   cases e
  ·rw[if_neg hk] at e
   rw[eA hk];exact lQ rfl ht e
end PU
end
namespace PU
open PySem PySem.Spec PyProof.Rows L2 PySem.SeqAt
theorem mf:isSubtype (.type "dict") (.type "dict")=pure true:=by rw[isSubtype_type];kernel_rfl
section
variable{P : K5}{w : KH}{A : KY}{E : JJ → JM → Prop}{s : JM}{d : Addr}{kvs : List (Key×JJ)}{ep : Nat}
theorem oP{Q:JJ->JM->Prop}(hh:A.handled=none)(hd:(d == Ku)=false)(m:s.heap.DictAt (ak P w) d kvs ep)(hz:kvs.length<=sizeLine)
  (q:∀(h':Heap) (tk:Nat) (acc:Array JJ) (c:Nat),(∀b o,s.heap.get? b=some o->h'.get? b=some o)->h'.get? s.heap.objs.size=some { cls:=.type "list",data:=.seq acc c }->
   ItemsOf (fun i v=>∃k x,kvs[i]?=some (k,x)/\(ak P w).is k v=true) acc kvs.length->Q (.ref s.heap.objs.size) { s with heap:=h',toks:=tk }):JZ (KM P w) A (call (.type "list") [.ref d]) Q E s:=by
 have ld:d<s.heap.objs.size:=by obtain⟨o,es,ho,_⟩:=m;exact JR ho
 refine Oq (Q₁:=fun obj s₁=>obj=.ref s.heap.objs.size/\s₁={ s with heap:=s.heap.push { cls:=.type "list",data:=.seq #[] } }) QE (Pm _) Po (code_list_new _ ⟨rfl,rfl⟩) fun obj s₁ h₁=>?_;obtain⟨rfl,rfl⟩:=h₁;have g0:(s.heap.push { cls:=.type "list",data:=.seq #[] }).get? s.heap.objs.size=some { cls:=.type "list",data:=.seq #[] }:=K6 _ rfl;refine⟨⟨_,g0,rfl⟩,Pi _ _,?_⟩;show JZ _ _ (do let old<- MZ (.ref s.heap.objs.size);P7 (.ref s.heap.objs.size) (fun _=>#[]);letGo old.toList.reverse;LB (.ref s.heap.objs.size) (.ref d) .none) _ _ _;refine JI ?_;unfold MZ;refine JI (QL g0 rfl (JO ?_));show JZ _ _ (updateSeq s.heap.objs.size (fun _=>#[]) >>= fun _=>letGo (#[]:Array JJ).toList.reverse >>= fun _=>LB (.ref s.heap.objs.size) (.ref d) .none) _ _ _;refine JI (MG g0 rfl ?_ (Kz _) (Kz _));have g1:=LU (Kb (fun _=>(#[]:Array JJ))) g0 rfl
 have k1:∀b o,s.heap.get? b=some o->((s.heap.push { cls:=.type "list",data:=.seq #[] }).update s.heap.objs.size (Kb (fun _=>(#[]:Array JJ)))).get? b=some o:=
  fun b o e=>(L7 _ _ (L8 (JR e))).trans (JN _ e)
 have z1:((s.heap.push { cls:=.type "list",data:=.seq #[] }).update s.heap.objs.size (Kb (fun _=>(#[]:Array JJ)))).objs.size=s.heap.objs.size+1:=by rw[Heap.size_update,OP]
 refine JI (wpAny_letGo ?_);generalize (s.heap.push { cls:=.type "list",data:=.seq #[] }).update s.heap.objs.size (Kb (fun _=>(#[]:Array JJ)))=h1 at g1 k1 z1 ⊢
 have m1:h1.DictAt (ak P w) d kvs ep:=by
  obtain⟨o,es,ho,r⟩:=m;exact⟨o,es,k1 _ _ ho,r⟩
 have t1:({ s with heap:=h1 }:JM).TypeIs (.ref d) "dict":=m1.dictOf.typeIs;unfold LB;refine JI (Ll (T:="dict") t1 ?_)
 have r1:Ox (.ref s.heap.objs.size) (.ref d)=false:=by
  show (s.heap.objs.size == d)=false;simpa using L8 ld
 have r2:(M1 "dict" == M1 "list")=false:=by decide
 have r3:(M1 "dict" == M1 "tuple")=false:=by decide
 simp only[r1,r2,r3,Q9,Km,if_false];refine JI (wpAny_pyIter_dict (knd:=ak P w) (s:={ s with heap:=h1 }) hd m1 ?_);refine JI (LR ?_)
 have m2:(h1.push { cls:=.type "dict_keyiterator",data:=.fields #[.ref d,.int 0 0,.int kvs.length 0,.int ep 0] }).DictAt (ak P w) d kvs ep:=by
  obtain⟨o,es,ho,r⟩:=m1;exact⟨o,es,JN _ ho,r⟩
 have t2:=(show ({ s with heap:=h1.push { cls:=.type "dict_keyiterator",data:=.fields #[.ref d,.int 0 0,.int kvs.length 0,.int ep 0] } }:JM).TypeIs (.ref d) "dict" from m2.dictOf.typeIs);unfold Od;refine JI (Nc (T:="dict") (v:=.ref d) t2 PySem.F.slot_dict_len.lookup ?_)
 wp_delta
 refine JI (NJ (T:="dict") (v:=.ref d) (b:=true) t2 mf ?_);show JZ _ _ (typeOf (Kh d) >>= _) _ _ _;refine JI (Ll (T:="dict") (v:=.ref d) t2 (JO ?_));rw[if_pos (by decide)];refine JI (Nt (JI ?_));unfold PD;have nI:h1.objs.size≠s.heap.objs.size:=by rw[z1];exact Pa _
 have gL2:(h1.push { cls:=.type "dict_keyiterator",data:=.fields #[.ref d,.int 0 0,.int kvs.length 0,.int ep 0] }).get? s.heap.objs.size=some _:=JN _ g1;have gI2:(h1.push { cls:=.type "dict_keyiterator",data:=.fields #[.ref d,.int 0 0,.int kvs.length 0,.int ep 0] }).get? h1.objs.size=some _:=K6 _ rfl;have k2:∀b o,s.heap.get? b=some o->(h1.push { cls:=.type "dict_keyiterator",data:=.fields #[.ref d,.int 0 0,.int kvs.length 0,.int ep 0] }).get? b=some o:=fun b o e=>JN _ (k1 b o e);refine JI (MG gL2 rfl ?_ (Kz _) (by show 1<=_;rw[Ke];decide));have g3:=LU (Kb (·.push LF)) gL2 rfl;refine MG g3 rfl ?_ (by show 1<=_;rw[Ke];decide) (Kz _);have g4:=LU (Kb (·.pop)) g3 rfl
 have k4:∀b ob,b≠s.heap.objs.size->(h1.push { cls:=.type "dict_keyiterator",data:=.fields #[.ref d,.int 0 0,.int kvs.length 0,.int ep 0] }).get? b=some ob->(((h1.push { cls:=.type "dict_keyiterator",data:=.fields #[.ref d,.int 0 0,.int kvs.length 0,.int ep 0] }).update s.heap.objs.size (Kb (·.push LF))).update s.heap.objs.size (Kb (·.pop))).get? b=some ob:=fun b ob hb e=>
  (L7 _ _ (LY hb)).trans ((L7 _ _ (LY hb)).trans e)
 show JZ _ _ _ _ _ { s with heap:=(((h1.push { cls:=.type "dict_keyiterator",data:=.fields #[.ref d,.int 0 0,.int kvs.length 0,.int ep 0] }).update s.heap.objs.size (Kb (·.push LF))).update s.heap.objs.size (Kb (·.pop))) };generalize ((h1.push { cls:=.type "dict_keyiterator",data:=.fields #[.ref d,.int 0 0,.int kvs.length 0,.int ep 0] }).update s.heap.objs.size (Kb (·.push LF))).update s.heap.objs.size (Kb (·.pop))=h4 at g4 k4 ⊢;have nd:d≠s.heap.objs.size:=K7 ld;have ndI:d≠h1.objs.size:=by rw[z1];exact K7 (Mt ld)
 have st4:h4.IsKeyIter h1.objs.size d 0 kvs.length ep/\h4.DictAt (ak P w) d kvs ep:=by
  refine⟨⟨_,k4 _ _ nI gI2,rfl,rfl⟩,?_⟩;obtain⟨o,es,ho,r⟩:=m2;exact⟨o,es,k4 _ _ nd ho,r⟩
 have nL:s.heap.objs.size ∉ [h1.objs.size,d]:=fun z=>by
  rcases K9.mp z with e | z
  ·exact nI e.symm
  ·exact nd (JX.mp z).symm
 have W:∀A':KY,A'.handled=none->Walks P w A' h1.objs.size [h1.objs.size,d] [h1.objs.size] kvs.length _ _:=fun A' hA=>Walks.dictKeys (knd:=ak P w) hA h1.objs.size d ndI kvs ep;refine JO ⟨Qf Lm _,codeAny_extend_loopS (W A.in1.in1 hh).toS hz _ nL _ kvs.length 0 _ _ _ rfl (Kz _) st4 g4 (ItemsOf.nil _) fun s' acc c mm gA it'=>?_⟩;rw[Moved.eq_with mm];refine⟨rfl,q s'.heap s'.toks acc c (fun b o e=>mm.heap b o (fun hb=>?_) (k4 b o (K7 (JR e)) (k2 b o e))) gA it'⟩;have lt:=JR e;rcases K9.mp hb with z | z
 ·exact absurd lt (z▸Kt _)
 ·rw[JX.mp z,z1] at lt
  exact absurd lt (OH.mpr (Qj _))
end
end PU
section
namespace PU
noncomputable def vf:PV->Option PV
 | .lst ps=>some (.lst ps)
 | .tup ps=>some (.lst ps)
 | .dct ks _=>some (.lst (ks.map wx))
 | _=>none
end PU
namespace PU
open PySem PySem.Spec PyProof.Rows L2 PySem.SeqAt
variable[TW]
theorem oU{K:JH}{H:Hp}:∀ks:List Key,aB K H (ks.map wx) (ks.map kV)
 | []=>rfl
 | k::ks=>by
  refine⟨kV k,ks.map kV,rfl,?_,oU ks⟩;cases k <;> exact rfl
omit [TW] in
theorem uQ{P:K5}{w:KH}{k:Key}{v:JJ}(h:(ak P w).is k v=true):RelV (kV k) v:=by
 rcases b9 (show qh k v=true from h) with⟨i,t,rfl,rfl⟩|⟨x,t,rfl,rfl⟩
 ·exact⟨t,rfl⟩
 ·exact⟨t,rfl⟩
omit [TW] in
theorem t8{P:K5}{w:KH}:∀(kvs:List (Key×JJ))(us:List JJ),us.length=kvs.length->(∀(i:Nat)(v:JJ),us[i]?=some v->∃k x,kvs[i]?=some (k,x)/\(ak P w).is k v=true)->Vals ((kvs.map (·.1)).map kV) us
 | [],us,hl,_=>by
  cases us with
  | nil=>exact .nil
  | cons a r=>cases hl
 | kv::kvs,us,hl,h=>by
  cases us with
  | nil=>cases hl
  | cons a r=>
   obtain⟨k,x,e,hk⟩:=h 0 a rfl;cases e;exact .cons (uQ hk) (t8 kvs r (by simpa using hl) fun i v e=>h (i+1) v e)
theorem ER {X:Cx} (hc:X.calm=true:=by rfl) (hw:X.w=TW.w:=by rfl):gX X (.type "list") (rn1 X.K vf):=by
 intro pins s σ H xs us Q I r ⟨v,p,z,e1,rp,ez,k⟩;subst e1;cases p with
 | lst ps=>
  obtain⟨a,xs,rfl,g,rr⟩:=bg.lst_inv rp;cases ez;exact jh pins s σ H _ us Q I r ⟨a,xs,rfl,.inl g.l,fun l hl=>k _ _ (Same.new hl) hl ⟨xs,ar,rr.same (Same.new hl)⟩⟩
 | tup ps=>
  obtain⟨a,xs,rfl,g,rr⟩:=bg.tup_inv rp;cases ez;exact jh pins s σ H _ us Q I r ⟨a,xs,rfl,.inr g,fun l hl=>k _ _ (Same.new hl) hl ⟨xs,ar,rr.same (Same.new hl)⟩⟩
 | dct ks ps=>
  obtain⟨a,kvs,rfl,g,e1,rr⟩:=rp;cases ez;obtain⟨u,rfl,ru⟩:=vals1 r;cases ru;obtain⟨hz,hS,vs,rel,o,es,ep,ho,x1,d1,rest⟩:=DkR.at hw I g;have hl:kvs.length=vs.length:=Ki rel
  have hk:kvs.map (·.1)=vs.map (·.1):=by
   clear hl hz e1 rr g rest
   induction rel with
   | nil=>rfl
   | cons a b ih=>rw[JQ,JQ,ih,a.1]
  refine oP (kvs:=vs) (ep:=ep) (I.ok.hd hc) hS ⟨o,es,ho,x1,d1,rest⟩ (by omega) fun h' tk acc c keep gA it'=>?_;obtain⟨i1,i2⟩:=it'
  have rv:Vals (ks.map kV) acc.toList:=by
   rw[← e1,hk];exact t8 (P:=X.prog) (w:=X.w) vs acc.toList (by simpa using i1) fun i v e=>i2 i v (by simpa using e)
  have hlk:ks.length=kvs.length:=by rw[← e1,JT]
  have I2:=I.laid (a:=s.heap.objs.size) (o:=.lst (ks.map kV)) (h':=h') (t':=tk) keep (K8 _) ⟨by rw[JT];omega,acc.toList,c,rv,by rw[Array.toArray_toList];exact gA⟩;have nf:H s.heap.objs.size=none:=I.fresh;exact⟨.ref _,_,I2,rfl,k _ _ (Same.new nf) nf ⟨_,ar,oU ks⟩⟩
 | _=>cases ez
end PU
end
section
namespace PU
noncomputable def qY(fo fe fd:PSt->R PV)(g:PV->PV->PV->Option PV):PSt->R PV:=fun ρ=>fo ρ >>= fun p=>if Bl p=true then fe ρ >>= fun q=>fd ρ >>= fun y=>R.ofO (g p q y) else .no
def sI:PV->PV->PV->Option PV
 | .dct ks ps,q,y=>(e6 q).bind fun k=>some ((bT ks ps k).getD y)
 | _,_,_=>none
end PU
namespace PU
open PySem PySem.Spec PyProof.Rows L2 PySem.SeqAt
variable[TW]
theorem Bw{C:Cn}{o e d:Expr}{fo fe fd:PSt->R PV}{apos cpos:La}(ho:EO C o fo)(he:EV C e fe)(hd:EV C d fd)(hw:C.X.w=TW.w:=by rfl)
  (hbase:NU o "get" C.X.env (L9 o C.X.env)=L9 o C.X.env:=by rfl) (hline:(apos.endLine == cpos.line)=true:=by rfl) (hs:K1 [e,d] C.X.env=[(false,L9 e C.X.env),(false,L9 d C.X.env)]:=by rfl) (hs2:K1 [d] C.X.env=[(false,L9 d C.X.env)]:=by exact bX rfl) :
  EV C (.Call (.Attribute o "get" apos) [e,d] [] cpos) (qY fo fe fd sI):=by
 intro pins s σ H Q I ⟨ρ,vw,q⟩;refine R0 hbase (by rw[hs];rfl) hline rfl (thn (ho pins s σ H (fun v H1=>∃p,bg C.X.K H1 p v/\Same H H1/\RQ C H (if Bl p=true then fe ρ >>= fun q=>fd ρ >>= fun y=>R.ofO (sI p q y) else .no) fun p=>∀v H',Same H H'->Rep C.X.K H' p v->Q v H') I ⟨ρ,vw,q.bind.imp fun p _ k v H1 s1 r1=>⟨p,r1,s1,k⟩⟩) fun v s1 ⟨x,H1,I1,r1,p,ro,sm,k⟩=>?_);cases p with
 | dct ks ps=>
  have ro':=ro;obtain⟨a,kvs,rfl,g,e1,r⟩:=ro;cases r1;obtain⟨hz,hdd,vs,rel,dd⟩:=DkR.at hw I1 g;have k:RQ C H (fe ρ >>= fun q=>fd ρ >>= fun y=>R.ofO (sI (.dct ks ps) q y)) fun p=>∀v H',Same H H'->Rep C.X.K H' p v->Q v H':=k;refine⟨"dict","dict.get",Nm,Q7,PySem.F.type_dict_get,dd.typeIs,dd.mapOf.noDict,?_⟩
  have hA:=(cq he (cq hd gE hs2) (by rw[hs,hs2])) cpos pins s1 σ H1 (fun xs H2=>∃q y z u x,xs=[u,x]/\Rep C.X.K H2 q u/\Rep C.X.K H2 y x/\sI (.dct ks ps) q y=some z/\Same H1 H2/\∀v H',Same H H'->Rep C.X.K H' z v->Q v H') I1 ⟨ρ,vw.same sm,(k.bind.same sm).imp fun q _ k2 u H2 s2 r2=>⟨ρ,vw.same (sm.trans s2),(k2.bind.same (sm.trans s2)).imp fun y _ k4 x H3 s3 r3=>by
   obtain⟨z,ez,k3⟩:=k4.ofO;exact⟨q,y,z,u,x,rfl,r2.same s3,r3,ez,s2.trans s3,k3⟩⟩⟩
  rw[hs] at hA ⊢;refine O8 rfl (QS ?_);refine thn hA fun us s2 ⟨xs,H2,I2,r2,q,y,z,u,x,eu,rq,ry,ez,s2',k3⟩=>?_;subst eu
  obtain⟨u',x',rfl,ru,rx⟩:∃u' x',us=[u',x']/\RelV u u'/\RelV x x':=by
   cases r2 with
   | cons a b=>
    obtain⟨x',e,rx⟩:=vals1 b;subst e;exact⟨_,x',rfl,a,rx⟩
  obtain⟨kk,ek,ez⟩:=K3.mp (show (e6 q).bind (fun k=>some ((bT ks ps k).getD y))=some z from ez);cases ez;have hy:=cH ek rq.o;subst hy;obtain⟨a2,kvs2,ea,g2,e2,rr2⟩:=ro'.same s2';cases ea;obtain⟨_,hd2,vs2,rel2,dd2⟩:=DkR.at hw I2 g2;refine R4 Q7 dd2.typeIs PySem.F.entry_dict_get (PySem.F.args_dict_get_3 _ _ _) (meets_dict_get_default (ak C.X.prog C.X.w) a (ko ru) hd2 x') ⟨_,dd2.mapOf,?_⟩;cases el:bT ks ps kk with
  | some p'=>
   obtain⟨w,ew,rp⟩:=ib e2 rr2 el;obtain⟨w',hw',rw'⟩:=pH.some_of (v:=w) (o:=LM vs2 kk) (by rw[← ew];exact rel2.val kk);rw[hw'];rw[el] at k3;exact⟨w,H2,I2.tok _,rw',k3 w H2 (sm.trans s2') rp⟩
  | none=>
   have ew:=lQ (k:=kk) e2 rr2 el;have hn:LM vs2 kk=none:=pH.none_of (by rw[← ew];exact rel2.val kk);rw[hn];rw[el] at k3;exact⟨x,H2,I2.tok _,rx,k3 x H2 (sm.trans s2') ry⟩
 | _=>exact JP k
end PU
end
namespace PU
open PySem PySem.Spec PyProof.Rows L2 PySem.SeqAt
theorem con_str{w:KH}{tabs:List Addr}{qual:Nat->Nat->Str}{K:JH}{h:Heap}{mg:Str->Option JJ}{x:Str}{i:Str}{t:Tok}(X:K.In h)(G:h.Ns mainGlobals mg)(n1:L5 K mainGlobals x=some (some (.str i t))):@Con ⟨w,tabs,qual⟩ K mg x (.str i):=by
 letI:TW:=⟨w,tabs,qual⟩
 exact⟨.str i,.str i t,Mw X G n1,⟨t,rfl⟩,fun H=>rfl⟩
end PU
namespace PU
open PySem PySem.Spec PyProof.Rows L2 PySem.SeqAt
variable[TW]
theorem yh{C:Cn}{a b c:Expr}{fa fb fc:PSt->R PV}{pos:La}{op op':CmpOp}{g g':PV->PV->Option PV}(ho:OpR C.X (Kk op) (rP C.X.K g))(ho':OpR C.X (Kk op') (rP C.X.K g'))(hg:uY g)(hg':uY g')(ha:EO C a fa)(hb:EO C b fb)(hc:EO C c fc)
  (hm:lastMarks [op,op'] [b,c]=false:=by with_unfolding_all rfl):ET C (.Compare a [op,op'] [b,c] pos) (dZ (rN fa fb fc g g')):=by
 intro pins s σ H Q I ⟨ρ,vw,q⟩;refine xp ho ho' ha hb hc hm pins s σ H Q I ?_;have q1:=q.bind;refine⟨ρ,vw,q1.bind.imp fun p _ k v H1 s1 r1=>⟨ρ,vw.same s1,(k.bind.same s1).imp fun p2 _ k2 u H2 s2 r2=>?_⟩⟩;obtain⟨z,ez,k3⟩:=k2.bind.ofO;obtain⟨bb,rfl⟩:=hg _ _ _ ez;refine⟨p,p2,.bl bb,r1.same s2,r2,ez,fun w H3 s3 r3=>?_⟩;cases (show w=.bl bb from r3);refine⟨bb,rfl,?_⟩;have s13:=(s1.trans s2).trans s3;cases bb with
 | true=>
  refine E7 ⟨ρ,vw.same s13,?_⟩;refine(RQ.same (RQ.bind k3) s13).imp fun p3 _ k4 w4 H4 s4 r4=>?_;obtain⟨z2,ez2,k5⟩:=k4.ofO;obtain⟨b2,rfl⟩:=hg' _ _ _ ez2;refine⟨p2,p3,.bl b2,(r2.same s3).same s4,r4,ez2,fun w5 H5 s5 r5=>?_⟩;cases (show w5=.bl b2 from r5);obtain⟨b3,eb,k6⟩:=k5.ofO;cases eb;exact⟨b2,rfl,k6 H5 ((s13.trans s4).trans s5)⟩
 | false=>
  have k3:RQ C H (R.ofO (tF (.bl false))) (fun b=>∀H',Same H H'->Q b H'):=k3;obtain⟨b3,eb,k6⟩:=RQ.ofO k3;cases eb;exact E8 ⟨false,rfl,k6 H3 s13⟩
end PU
namespace PU
open PySem PySem.Spec PyProof.Rows L2 PySem.SeqAt
def yb:PV->Option Int->Option Int->Option PV
 | .str x,lo,hi=>if x.length<=16777216 then some (.str (LJ x lo hi)) else none
 | .lst ps,lo,hi=>gSl (.lst ps) lo hi
 | .tup ps,lo,hi=>gSl (.tup ps) lo hi
 | _,_,_=>none
def j7(f:PSt->R PV)(l h:PSt->R (Option Int)):PSt->R PV:=fun ρ=>f ρ >>= fun p=>l ρ >>= fun lo=>h ρ >>= fun hi=>R.ofO (yb p lo hi)
variable[TW]
def IS(K:JH):V->Option Int->Option Int->Hp->VK->Prop:=fun v lo hi H Q=>∃p z,bg K H p v/\yb p lo hi=some z/\∀w H',Same H H'->Rep K H' z w->Q w H'
theorem slA{X:Cx}:SlR X (IS X.K):=by
 intro pins s σ H x v vl vu lo hi sl Q I rx hs pl pu ⟨p,z,rp,ez,k⟩;cases p with
 | lst ps=>exact slP pins s σ H x v vl vu lo hi sl Q I rx hs pl pu ⟨_,z,rp,ez,k⟩
 | tup ps=>exact slP pins s σ H x v vl vu lo hi sl Q I rx hs pl pu ⟨_,z,rp,ez,k⟩
 | str y=>
  simp only[yb] at ez;split at ez
  ·rename_i hz
   cases ez;cases (show x=.str y from rp);obtain⟨t,rfl⟩:=rx;have fin:∀(lo hi:Option Int) t' kk,(∀w H',Same H H'->Rep X.K H' (.str (LJ y lo hi)) w->Q w H')->EP X pins σ Q (.str (LJ y lo hi) t') { s with toks:=kk }:=fun lo hi t' kk k=>⟨.str _,H,I.tok _,⟨t',rfl⟩,k _ H (Same.refl H) rfl⟩;obtain⟨o,e1,e2,e3⟩:=hs;have hz:y.length<=sizeLine:=by rw[Ke];exact hz
   refine⟨"str",_,PySem.F.slot_str_getitem.lookup,typeIs_str _ _ _,?_⟩;cases pl with
   | none=>
    cases pu with
    | none=>exact Mu (l:=none) (u:=none) (st:=none) ⟨o,e1,e2,e3⟩ rfl (OY ⟨Ko (ND y _ _) hz,fun t' kk=>fin none none t' kk k⟩)
    | int j uj=>exact Mu (l:=none) (u:=some (j,uj)) (st:=none) ⟨o,e1,e2,e3⟩ rfl (OY ⟨Ko (ND y _ _) hz,fun t' kk=>fin none (some j) t' kk k⟩)
   | int i ui=>
    cases pu with
    | none=>exact Mu (l:=some (i,ui)) (u:=none) (st:=none) ⟨o,e1,e2,e3⟩ rfl (OY ⟨Ko (ND y _ _) hz,fun t' kk=>fin (some i) none t' kk k⟩)
    | int j uj=>exact Mu (l:=some (i,ui)) (u:=some (j,uj)) (st:=none) ⟨o,e1,e2,e3⟩ rfl (OY ⟨Ko (ND y _ _) hz,fun t' kk=>fin (some i) (some j) t' kk k⟩)
  ·cases ez
 | _=>cases ez
theorem gc{C:Cn}{e:Expr}{f:PSt->R PV}{lo hi:Option Expr}{l h:PSt->R (Option Int)}{pos p2:La}(ha:EO C e f)(hl:EOI C lo l)(hh:EOI C hi h):EV C (.Subscript e (.Slice lo hi none p2) pos) (j7 f l h):=by
 intro pins s σ H Q I ⟨ρ,vw,q⟩;refine mJ slA ha hl hh pins s σ H Q I ⟨ρ,vw,q.bind.imp fun p _ k v H1 s1 r1=>⟨ρ,vw.same s1,(k.bind.same s1).imp fun o1 _ k2 H2 s2=>⟨ρ,(vw.same s1).same s2,(k2.bind.same (s1.trans s2)).imp fun o2 _ k3 H3 s3=>?_⟩⟩⟩;obtain⟨z,ez,k4⟩:=k3.ofO;exact⟨p,z,(r1.same s2).same s3,ez,fun w H4 s4 r4=>k4 w H4 (((s1.trans s2).trans s3).trans s4) r4⟩
end PU
namespace PU
open PySem PySem.Spec PyProof.Rows L2 PySem.SeqAt
noncomputable def wF(ps qs:List PV):List (List PV):=ps.zipWith (fun a b=>[a,b]) qs
noncomputable def gV:PV->Bool
 | .non | .bl _ | .int _ | .str _=>true
 | _=>false
def F9(f g:PSt->R PV):PSt->R (List PV):=fun ρ=>f ρ >>= fun p=>g ρ >>= fun q=>(match p,q with
 | .lst ps,.lst qs=>if (ps.all gV || qs.all gV)=true then .ok ((wF ps qs).map .tup) else .no
 | _,_=>.no)
variable[TW]
section
variable{P : K5}{w : KH}{K : JH}{elts : List Expr}{kk : Nat}{tp : La}
noncomputable def F8(xs ys:List V):List (List V):=xs.zipWith (fun a b=>[a,b]) ys
theorem rD{x:V}{u:JJ}(r:RelV x u)(h:∀b,x≠.ref b):¬ ∃b,u=Kh b:=fun ⟨b,e⟩=>by
 subst e;cases x with
 | ref a=>exact h a rfl
 | non=>cases r
 | bl b=>cases r
 | ty n=>cases r
 | int i=>obtain⟨t,r⟩:=r;cases r
 | str i=>obtain⟨t,r⟩:=r;cases r
 | byt i=>obtain⟨t,r⟩:=r;cases r
 | flt i=>obtain⟨t,r⟩:=r;cases r
theorem yf{K:JH}{H:Hp}{p:PV}{x:V}(hf:gV p=true)(r:Rep K H p x):∀b,x≠.ref b:=fun b e=>by
 subst e;cases p with
 | non=>cases (show V.ref b=_ from r)
 | bl _=>cases (show V.ref b=_ from r)
 | int _=>cases (show V.ref b=_ from r)
 | str _=>cases (show V.ref b=_ from r)
 | _=>cases hf
theorem p7{K:JH}{H:Hp}{ps:List PV}{xs:List V}(hf:ps.all gV=true)(r:aB K H ps xs):∀x∈xs,∀b,x≠.ref b:=fun x hx=>by
 obtain⟨i,hi⟩:=Mz.mp hx;have hl:=r.length;have hlt:i<ps.length:=by rw[hl];exact(JL.mp hi).1
 have e1:ps[i]?=some ps[i]:=by simp[hlt]
 obtain⟨y,ey,ry⟩:=r.get e1;rw[hi] at ey;cases ey;exact yf (N2.mp hf _ (MV hlt)) ry
theorem wW(z TI TO i1 i2 a b:Addr)(D:ZipApart z TI TO i1 i2 a b)(xs ys:List V)(hfl:(∀x∈xs,∀b,x≠V.ref b)\/(∀y∈ys,∀b,y≠V.ref b)) :
  Turn P w K (.Tuple elts kk tp) (nU (min xs.length ys.length) (fun H=>SqL K H a xs/\SqL K H b ys) (F8 xs ys)) [z,TI,TO,i1,i2] z
   (fun i h=>IsZip h z TI TO .none/\IsPair h TI (.ref i1) (.ref i2)/\(∃a b,IsPair h TO a b)/\h.IsListIter i1 a i/\h.IsListIter i2 b i):=by
 refine tD (wr:=[z,TO,i1,i2]) (n:=min xs.length ys.length) (fun X pins σ H s i hP hw hK hc I st hg=>?_) (by simp) (fun b hb=>by simp at hb ⊢;rcases hb with rfl | rfl | rfl | rfl <;> simp) (fun i h st b hb=>?_) (fun i h h' st k=>?_) (fun i H h=>h.1) (fun i H h=>h.1) fun A i s Q E st h=>wpAny_pyIter_zip st.1 h
 ·subst hP hw hK
  obtain⟨hq1,hq2⟩:SqL X.K H a xs/\SqL X.K H b ys:=by rcases hg with h | h <;> exact h.2
  obtain⟨its1,rv1,pl1,hz1⟩:=I.list hq1;obtain⟨its2,rv2,pl2,hz2⟩:=I.list hq2;have hl1:=rv1.length;have hl2:=rv2.length;have W:=WalksT.zip2 (prog:=X.prog) (w:=X.w) (A:=X.A) (I.ok.hd hc) z TI TO i1 i2 a b D its1.toArray its2.toArray;rw[show min its1.toArray.size its2.toArray.size=min xs.length ys.length by simp[hl1,hl2]] at W;refine⟨_,_,_,_,W,⟨st.1,st.2.1,st.2.2.1,st.2.2.2.1,st.2.2.2.2,pl1.isList,pl2.isList⟩,fun j h st=>⟨st.1,st.2.1,st.2.2.1,st.2.2.2.1,st.2.2.2.2.1⟩,fun vals hv=>?_⟩;obtain⟨x,y,hx,hy,rfl⟩:=hv;have hx:its1[i]?=some x:=by simpa using hx
  have hy:its2[i]?=some y:=by simpa using hy
  have h1:i<xs.length:=by rw[hl1];exact(JL.mp hx).1
  have h2:i<ys.length:=by rw[hl2];exact(JL.mp hy).1
  have e1:xs[i]?=some xs[i]:=by simp[h1]
  have e2:ys[i]?=some ys[i]:=by simp[h2]
  obtain⟨u,eu,ru⟩:=rv1.get e1;rw[hx] at eu;cases eu;obtain⟨v,ev,rv⟩:=rv2.get e2;rw[hy] at ev;cases ev;refine⟨[xs[i],ys[i]],.cons ru (.cons rv .nil),by show 2<=sizeLine;decide,fun z=>?_,fun T hT=>⟨T,_,rfl,hT,?_,rfl⟩⟩
  ·rcases hfl with g | g
   ·exact rD ru (g _ (MV h1)) (z _ KJ)
   ·exact rD rv (g _ (MV h2)) (z _ (KI _ KJ))
  unfold F8;rw[N0,e1,e2]
 ·obtain⟨hz,hTI,⟨u,v,hTO⟩,⟨o1,ho1,_,hd1⟩,o2,ho2,_,hd2⟩:=st
  simp only[K9,O1,or_false] at hb;rcases hb with rfl | rfl | rfl | rfl | rfl
  ·exact⟨_,hz,fun v z=>by cases (show PZ _=OU v from z)⟩
  ·exact⟨_,hTI,fun v z=>by cases (show Data.seq _ _=OU v from z)⟩
  ·exact⟨_,hTO,fun v z=>by cases (show Data.seq _ _=OU v from z)⟩
  ·exact⟨o1,ho1,fun v z=>by rw[hd1] at z;cases z⟩
  ·exact⟨o2,ho2,fun v z=>by rw[hd2] at z;cases z⟩
 ·obtain⟨hz,hTI,⟨u,v,hTO⟩,h1,h2⟩:=st
  exact⟨k z (by simp) _ hz,k TI (by simp) _ hTI,⟨u,v,k TO (by simp) _ hTO⟩,h1.at fun o x=>k i1 (by simp) o x,h2.at fun o x=>k i2 (by simp) o x⟩
end
theorem wD{K:JH}{H:Hp}{ps qs:List PV}{xs ys:List V}(r1:aB K H ps xs)(r2:aB K H qs ys):∀(i:Nat)(zs:List PV)(ws:List V),(wF ps qs)[i]?=some zs->(F8 xs ys)[i]?=some ws->aB K H zs ws:=fun i zs ws h1 h2=>by
 unfold wF at h1;unfold F8 at h2;rw[N0] at h1 h2;cases e:ps[i]? with
 | none=>rw[e] at h1;cases h1
 | some p=>
  cases e2:qs[i]? with
  | none=>rw[e,e2] at h1;cases h1
  | some q=>
   rw[e,e2] at h1;obtain⟨x,ex,rp⟩:=r1.get e;obtain⟨y,ey,rq⟩:=r2.get e2;rw[ex,ey] at h2;cases h1;cases h2;exact⟨_,_,rfl,rp,_,_,rfl,rq,rfl⟩
theorem Ex {C:Cn} {e e2:Expr} {elts:List Expr} {kk:Nat} {tp p pos:La} {f g:PSt->R PV} (hg:Gl C.X "zip") (hm:C.X.mg "zip"=none) (he:EV C e f) (he2:EV C e2 g)
  (hs:K1 [e,e2] C.X.env=[(false,L9 e C.X.env),(false,L9 e2 C.X.env)]:=by exact x8 rfl rfl) (hs2:K1 [e2] C.X.env=[(false,L9 e2 C.X.env)]:=by exact bX rfl) :
  EI C (.Tuple elts kk tp) (.Call (.Name "zip" p) [e,e2] [] pos) (F9 f g):=by
 intro pins s σ H Rk I ⟨ρ,vw,q⟩
 refine Call_ (kj I hg hm PyProof.Rows.boot_zip (LC (thn ((cq he (cq he2 gE hs2) (by rw[hs,hs2])) pos pins s σ H (fun vs H'=>∃v u ps qs,vs=[v,u]/\Same H H'/\Rep C.X.K H' (.lst ps) v/\Rep C.X.K H' (.lst qs) u/\(ps.all gV || qs.all gV)=true/\∀J H2,Same H' H2->ItP C.X.K J H2 ((wF ps qs).map .tup)->Rk J H2) I ⟨ρ,vw,q.bind.imp fun p _ k v H1 s1 r1=>⟨ρ,vw.same s1,(k.bind.same s1).imp fun p2 _ k2 u H2 s2 r2=>?_⟩⟩)
  fun us s1 ⟨vs,H1,I1,r1,v,u,ps,qs,ev,sm,rp,rq,hfl,k⟩=>?_) (by rw[hs,hs2]) (by rw[hs2];rfl)))
 ·cases p with
  | lst ps=>
   cases p2 with
   | lst qs=>
    by_cases hfl:(ps.all gV || qs.all gV)=true
    ·simp only[if_pos hfl] at k2
     exact⟨v,u,ps,qs,rfl,s1.trans s2,r1.same s2,r2,hfl,fun J H3 s3 it=>k2 J H3 ((s1.trans s2).trans s3) it⟩
    ·simp only[if_neg hfl] at k2
     exact JP k2
   | _=>exact JP k2
  | _=>exact JP k2
 ·subst ev
  obtain⟨w1,w2,rfl,rw1,rw2⟩:=vals2 r1;obtain⟨a,xs,rfl,g1,rr1⟩:=rp;obtain⟨b,ys,rfl,g2,rr2⟩:=rq;cases rw1;cases rw2;obtain⟨its1,rv1,pl1,hz1⟩:=I1.list g1.l.l;obtain⟨its2,rv2,pl2,hz2⟩:=I1.list g2.l.l;have ha:a<s1.heap.objs.size:=by obtain⟨o,n,ho,_⟩:=pl1;exact JR ho
  have hb:b<s1.heap.objs.size:=by obtain⟨o,n,ho,_⟩:=pl2;exact JR ho
  have hfl2:(∀x∈xs,∀b,x≠V.ref b)\/(∀y∈ys,∀b,y≠V.ref b):=by
   cases hA:ps.all gV with
   | true=>exact .inl (p7 hA rr1)
   | false=>
    rw[hA,Bool.false_or] at hfl;exact .inr (p7 hfl rr2)
  refine call_zip_2 pl1.isList pl2.isList fun h' z1 z2 z3 z4 z5 hsz hk=>wpAny_pyIter_zip z1 ?_;refine⟨_,[s1.heap.objs.size+4,s1.heap.objs.size+2,s1.heap.objs.size+3,s1.heap.objs.size,s1.heap.objs.size+1],_,_,H1,rfl,I1.kept (t':=s1.toks) hk,wW (s1.heap.objs.size+4) (s1.heap.objs.size+2) (s1.heap.objs.size+3) s1.heap.objs.size (s1.heap.objs.size+1) a b (zipApart_new ha hb) xs ys hfl2,⟨z1,z2,⟨_,_,z3⟩,z4,z5⟩,fun c hc=>?_,k _ H1 (Same.refl H1) ?_⟩
  ·have hc:s1.heap.objs.size<=c:=by
    simp only[K9,O1,or_false] at hc;rcases hc with rfl | rfl | rfl | rfl | rfl <;> omega
   exact I1.fpOk hc (I1.hok.fresh hc)
  ·refine qi ?_ (fun H2 k2=>⟨(k2.sqF g1).l.l,(k2.sqF g2).l.l⟩) (wD rr1 rr2)
   unfold wF;rw[List.length_zipWith,rr1.length,rr2.length]
end PU
namespace PU
open PySem PySem.Spec PyProof.Rows L2
variable[TW]
noncomputable def spN(K:JH)(n:Nat)(F:List PV->Option PV):Sp:=fun vs H Q _=>vs.length=n/\rQ H/\∃ps p,aB K H ps vs/\F ps=some p/\∀a H',Same H H'->H a=none->bY K H' a p->Q (.ref a) H'
structure PFN(P:K5)(w:KH)(K:JH)(mg:Str->Option JJ)(base:Heap)(k:Nat)(x:Str)(F:List PV->Option PV):Prop where
 ex:∃(f:Addr)(fd:FuncData)(ps:List Str),FnOk P w K mg base CX0 k f fd ps (spN K ps.length F)/\mg x=some (.ref f)/\LI K (.ref f)=true/\Binds K fd ps []/\∀qs p,F qs=some p->qs.length=ps.length
section
variable{C : Cn}{e : Expr}{es : List Expr}{fs : PSt → R (List PV)}{x : Str}{k : Nat}{F : List PV → Option PV}{p pos : La}
theorem BA(G:PFN C.X.prog C.X.w C.X.K C.X.mg C.X.base k x F){kr:Nat}(hr:Room kr C.X.A)(ha:EA C (e::es) fs)
  (hdb:(x == ("__debug__":Str))=false:=by decide) (he:K1 (e::es) C.X.env=(false,L9 e C.X.env)::K1 es C.X.env:=by exact bC rfl) (hpl:(MM pos (K1 es C.X.env)).any (·.1)=false:=by exact fg rfl) (hk:k<=kr:=by decide) (hg:Gl C.X x:=by exact rfl) :
  EN C (.Call (.Name x p) (e::es) [] pos) (aO fs F):=by
 replace hr:=hr.mono hk;obtain⟨f,fd,ps,a,b,c,d,l⟩:=G.ex;intro pins s σ H Q I ⟨ρ,vw,q⟩;refine pW (dvs:=[]) (ds:=[]) (E:=E0) a hr hg b c d .nil AV ha hdb he hpl pins s σ H Q I ⟨ρ,vw,q.bind.imp fun qs _ k vs H1 s1 r1=>?_⟩;obtain⟨z,ez,k⟩:=k.ofO;rw[Kq];exact⟨by rw[← r1.length];exact l qs z ez,s1.tabs vw.tb,qs,z,r1,ez,fun v H' s' n' r'=>k v H' (s1.trans s') (s1.free n') r'⟩
end
end PU
namespace PU
open PySem PySem.Spec PyProof.Rows L2
variable[TW]
def RN(C:Cn)(B:Hp×Hp)(D:Ends):R Fl->Prop
 | .ok (.ret p)=>∀a H,Same B.1 H->B.1 a=none->bY C.X.K H a p->D.rt (.ref a) H
 | _=>False
noncomputable def tSN(C:Cn)(g:PSt->R Fl):TS:=fun D σ H=>∃ρ B,StOk C.X.K B H σ ρ/\RN C B D (g ρ)
def SVN(C:Cn)(st:List Stmt)(g:PSt->R Fl):Prop:=PSs C.X st (tSN C g)
section
variable{C : Cn}{st : Stmt}{sts : List Stmt}{e : Expr}{f : PSt → R PV}{g g' : PSt → R Fl}{pos : La}
theorem Am(he:EN C e f):SVN C [.Return (some e) pos] (cG f):=by
 intro pins s σ H D I ⟨ρ,B,S,h⟩;refine iN (lI he) pins s σ H D I ⟨ρ,S.vw,?_⟩;unfold cG at h;cases hf:f ρ with
 | ok p=>rw[hf] at h;exact fun a H' s' n' w'=>h a H' (S.same.trans s') (S.same.free n') w'
 | er x=>rw[hf] at h;exact JP h
 | no=>rw[hf] at h;exact JP h
theorem hJ(hn:∀ρ p,g ρ≠.ok (.ret p))(h1:SV C st g)(h2:SVN C sts g'):SVN C (st::sts) (aU g g'):=by
 intro pins s σ H D I ⟨ρ,B,S,h⟩;refine dC h1 h2 pins s σ H D I ⟨ρ,B,S,?_⟩;unfold aU at h;cases hg:g ρ with
 | ok fl=>
  rw[hg] at h;cases fl with
  | next ρ'=>exact fun σ' H' S'=>⟨ρ',B,S',h⟩
  | brk ρ'=>exact JP h
  | cont ρ'=>exact JP h
  | ret p=>exact absurd hg (hn ρ p)
 | er x=>rw[hg] at h;exact JP h
 | no=>rw[hg] at h;exact JP h
omit [TW] in
theorem bc(i:Nat)(f:PSt->R PV)(ρ:PSt)(p:PV):cn i f ρ≠.ok (.ret p):=by
 unfold cn;cases f ρ with
 | ok q=>intro h;cases h
 | er x=>intro h;cases h
 | no=>intro h;cases h
end
section
variable{P : K5}{w : KH}{K : JH}{mg : Str → Option JJ}{base : Heap}
omit [TW] in
theorem yk(f:PSt->R PV)(ρ:PSt):(∃p,cG f ρ=.ok (.ret p))\/∀fl,cG f ρ≠.ok fl:=by
 unfold cG;cases f ρ with
 | ok q=>exact .inl ⟨q,rfl⟩
 | er x=>exact .inr fun fl h=>by cases h
 | no=>exact .inr fun fl h=>by cases h
omit [TW] in
theorem yj(i:Nat)(f:PSt->R PV)(g:PSt->R Fl)(h:∀ρ,(∃p,g ρ=.ok (.ret p))\/∀fl,g ρ≠.ok fl)(ρ:PSt):(∃p,aU (cn i f) g ρ=.ok (.ret p))\/∀fl,aU (cn i f) g ρ≠.ok fl:=by
 unfold aU cn;cases f ρ with
 | ok q=>exact h _
 | er x=>exact .inr fun fl h=>by cases h
 | no=>exact .inr fun fl h=>by cases h
end
end PU
namespace PU
open PySem PySem.Spec PyProof.Rows L2 PySem.SeqAt
theorem jJ:PQ (.type "tuple") "keys"=pure none:=by rw[typeLookup_type,builtinLookup_eq_fast];kernel_rfl
theorem iF{prog:K5}{w:KH}{A:KY}{E:JJ->JM->Prop}{s:JM}{a:Addr}{o:Obj}{xs:Array JJ}{k:Nat}{name:Str}{Q:Option JJ->JM->Prop}
  (hx:s.heap.get? a=some o) (hc:o.cls=.type "tuple") (hdat:o.data=.seq xs k) (hd:o.dict=none) (hmiss:PQ (.type "tuple") name=pure none) (hname:(["__module__","__name__","__qualname__","__doc__","__annotations__"]:List Str).contains name=false) (hA:A.handled=none)
  (h:∀h' tk e,Heap.NewExcOf s.heap h' e "AttributeError"->Q none { s with heap:=h',toks:=tk }) (hsz:name.length+100<=sizeLine:=by size_fits) :
  JZ (KM prog w) A (getAttr? (.ref a) name) Q E s:=by
 obtain⟨c,dct,dat,sl⟩:=o;simp only at hc hdat hd;subst hc hdat hd;obtain⟨hp,g,d,tk,os⟩:=s;have hT:∀tk',(⟨hp,g,d,tk',os⟩:JM).TypeIs (.ref a) "tuple":=fun _=>⟨_,hx,rfl⟩;have f1:=sub_AttributeError;have f3:=Nv.lookup;have f4:=Nv.bind (.ref a);have f5:=am_tuple_getattr_none;unfold getAttr? getAttrBy? getAttrBy
 repeat (any_goals (first | assumption | exact hT _ | ((with_reducible show JZ _ _ (call (Pz "tuple.__getattribute__") _ _) _ _ _);refine call_meets Nv (hT _) am_entry_tuple_getattribute (F.args_tuple_getattribute_2 _ _) (meets_getattribute_miss_tuple a xs k sl name _ hmiss hname hsz) ⟨hx,hA,fun h' tk' e hx'=>?_⟩) | wp_step))
 obtain⟨t',u',he⟩:=hx'.there;show JZ _ _ (Nu _ _ _ _ _ _ _) _ _ _;unfold Nu
 repeat (any_goals (first | assumption | wp_step))
 exact h _ _ _ hx'.of
theorem dm:entryFor table "dict.update.loop"=some Pk.«dict.update.loop»:=entryFor_of_tree (by kernel_rfl)
section
variable{prog : K5}{w : KH}{K : Type}[DecidableEq K]{knd : KeyKind prog w K}{A : KY}
noncomputable def storeAll(acc:List (K×JJ))(l:List (K×JJ)):List (K×JJ):=l.foldl (fun a p=>Pv a p.1 p.2) acc
theorem qD{R:R8->JM->Prop}{h0:Heap}{d it a:Addr}{items:Array JJ}{kvs:List (K×JJ)}{result:JJ}(hh:A.handled=none)(hda:a≠d)(hia:a≠it)(hdi:d≠it)(ha:h0.IsTuple a items)(hn:items.size=kvs.length)
  (hp:∀(j:Nat)(x:JJ),items[j]?=some x->∃(p:Addr)(key:JJ)(k:K)(v:JJ),x=.ref p/\kvs[j]?=some (k,v)/\p≠d/\p≠it/\h0.IsTuple p #[key,v]/\knd.is k key=true) :
  ∀(m i:Nat)(s:JM)(acc:List (K×JJ)),m=items.size-i->i<=items.size->(∀b o,b≠d->b≠it->h0.get? b=some o->s.heap.get? b=some o)->s.heap.IsTupleIter it a i->s.heap.DictOf knd d acc->acc.length+m<=sizeLine->
   (∀h' tk,(∀b o,b≠d->b≠it->h0.get? b=some o->h'.get? b=some o)->h'.DictOf knd d (storeAll acc (kvs.drop i))->R (.ok (.ret result)) { s with heap:=h',toks:=tk })->
   NR (KM prog w) A (.builtin "dict.update.loop" ⟨[.ref d,.ref it,Mb (i:Int),result],[]⟩) R s
 | 0,i,s,acc,hm,hi,hk,hit,hd,hz,hR=>by
  have e:i=items.size:=by omega
  have hq:s.heap.IsTuple a items:=ha.at fun o e=>hk a o hda hia e;refine Mp dm ?_;unfold Pk.«dict.update.loop»;show JZ _ _ (Nd (.ref it) >>= _) _ _ s;refine JI (Qy (by exact hh) hit hq (by rw[e];simp) fun h' eb=>?_);have hd':h'.DictOf knd d acc:=hd.extBut eb hdi;show JZ _ _ (Oz d [] >>= _) _ _ _;refine JI (JO (JO (hR h' s.toks (fun b o hb1 hb2 q=>eb b o hb2 (hk b o hb1 hb2 q)) ?_)));rw[e,hn,O5];exact hd'
 | m+1,i,s,acc,hm,hi,hk,hit,hd,hz,hR=>by
  have hlt:i<items.size:=by omega
  have hq:s.heap.IsTuple a items:=ha.at fun o e=>hk a o hda hia e;have hx:items[i]?=some items[i]:=by simp[hlt]
  obtain⟨p,key,k,v,ex,ek,h1,h2,h3,h4⟩:=hp i _ hx;refine Mp dm ?_;unfold Pk.«dict.update.loop»;show JZ _ _ (Nd (.ref it) >>= _) _ _ s;refine JI (Ql hit hq hx fun h' hit' sb=>?_);rw[ex];have hd':h'.DictOf knd d acc:=hd.extBut sb.extBut hdi;have hpt:h'.IsTuple p #[key,v]:=h3.at fun o e=>(sb.2 p h2).trans (hk p o h1 h2 e);obtain⟨op,hop,hcp,np,hdp⟩:=id hpt;dsimp only;refine JI (LR (JI (wpAny_tryCatch ?_)));unfold PJ;refine JI (Ll hpt.typeIs ?_);rw[if_pos (by decide)];refine JI ?_
  have hsi:JZ (KM prog w) (A.under (Code.builtin "dict.update.loop" ⟨[.ref d,.ref it,Mb (i:Int),result],[]⟩)) (seqItems? (.ref p)) (fun r s'=>r=some #[key,v]/\s'={ s with heap:=h' }) (fun _ _=>False) { s with heap:=h' }:=by
   repeat (any_goals (first | assumption | wp_step))
   rw[hdp];exact JO ⟨rfl,rfl⟩
  refine LZ hsi (fun r s' hr=>?_) fun _ _ h=>h.elim;obtain⟨rfl,rfl⟩:=hr;refine JO ?_;show JZ _ _ (R1 [key,v] (dictSet d key v)) _ _ _;refine LR (wpAny_dictSet_pairs h4 hd' (fun h'' hd'' sb'=>?_) (by omega));refine JO ⟨Code.quiet_builtin _ (by decide +kernel),?_⟩;have ei:((i:Int)+1)=((i+1:Nat):Int):=by omega
  rw[ei];have hlen:=stored_length_le acc k v;refine qD hh hda hia hdi ha hn hp m (i+1) _ (Pv acc k v) (by omega) hlt (fun b o hb1 hb2 q=>?_) ?_ hd'' (by omega) fun h3 tk hk3 hd3=>hR h3 tk hk3 ?_
  ·exact(sb'.2 b hb1).trans ((sb.2 b hb2).trans (hk b o hb1 hb2 q))
  ·exact hit'.at fun o e=>(sb'.2 it (LY hdi)).trans e
  ·have hdr:kvs.drop i=(k,v)::kvs.drop (i+1):=by
    obtain⟨hl,e⟩:=JL.mp ek;rw[Nk hl,e]
   rw[hdr];exact hd3
theorem kY {E:JJ->JM->Prop} {s:JM} {a:Addr} {o:Obj} {items:Array JJ} {n0:Nat} {kvs:List (K×JJ)} {Q:JJ->JM->Prop} (hA:A.handled=none) (hx:s.heap.get? a=some o) (hc:o.cls=.type "tuple") (hdat:o.data=.seq items n0) (hdn:o.dict=none)
  (hn:items.size=kvs.length) (hz:kvs.length<=sizeLine)
  (hp:∀(j:Nat)(x:JJ),items[j]?=some x->∃(p:Addr)(key:JJ)(k:K)(v:JJ),x=.ref p/\kvs[j]?=some (k,v)/\s.heap.IsTuple p #[key,v]/\knd.is k key=true)
  (h:∀h' tk,(∀b o,s.heap.get? b=some o->h'.get? b=some o)->h'.DictOf knd s.heap.objs.size (storeAll [] kvs)->Q (.ref s.heap.objs.size) { s with heap:=h',toks:=tk }) :
  JZ (KM prog w) A (call (.type "dict") [.ref a]) Q E s:=by
 refine Oq (Q₁:=fun obj s₁=>obj=.ref s.heap.objs.size/\s₁={ s with heap:=s.heap.push { cls:=.type "dict",data:=.dict #[] } }) F.kt_called_dict (R9 _) F.entry_dict_init (kt_code_dict_new _ ⟨rfl,rfl⟩) ?_;rintro obj s₁ ⟨rfl,rfl⟩;have hnew:(s.heap.push { cls:=.type "dict",data:=.dict #[] }).DictOf knd s.heap.objs.size []:=Nh s.heap;have hx':(s.heap.push { cls:=.type "dict",data:=.dict #[] }).get? a=some o:=JN _ hx;have hT:OT { s with heap:=s.heap.push { cls:=.type "dict",data:=.dict #[] } } (.ref a) "tuple":=⟨o,hx',hc⟩;refine⟨hnew.typeIs,F.args_dict_init_2 _ _,?_⟩;unfold Pk.«dict.__init__»;refine JI ?_;unfold Oy;refine JI (Oa hnew.typeIs ?_);show JZ _ _ (pure (s.heap.objs.size,[Kh a])) _ _ _;refine JO ?_;show JZ _ _ (MP "dict.__init__" s.heap.objs.size (.ref a) [] .none) _ _ _;unfold MP;refine JI (Ll hT ?_);rw[if_pos (by decide)];refine JI (iF hx' hc hdat hdn jJ (by decide +kernel) (by exact hA) fun h1 tk1 e1 ne=>?_);have k1:∀b u,(s.heap.push { cls:=.type "dict",data:=.dict #[] }).get? b=some u->h1.get? b=some u:=fun b u q=>ne.keeps b u q;rw[if_pos (show (none:Option JJ).isNone=true from rfl)];have ht:h1.IsTuple a items:=⟨o,k1 a o hx',hc,n0,hdat⟩;refine JI (Nt (JI (wpAny_pyIter_tuple ht ?_)))
 have sD:s.heap.objs.size<h1.objs.size:=by
  obtain⟨od,_,_,hod,_⟩:=hnew;exact JR (k1 _ _ hod)
 have k2:∀b u,s.heap.get? b=some u->(h1.push { cls:=.type "tuple_iterator",data:=.fields #[.ref a,.int 0 0] }).get? b=some u:=fun b u q=>JN _ (k1 b u (JN _ q));refine JO ⟨Code.quiet_builtin _ (by decide +kernel),?_⟩;have lts:∀b u,s.heap.get? b=some u->b≠s.heap.objs.size/\b≠h1.objs.size:=fun b u q=>⟨K7 (JR q),K7 (P8 (JR q) sD)⟩;refine qD (knd:=knd) (h0:=h1.push { cls:=.type "tuple_iterator",data:=.fields #[.ref a,.int 0 0] }) (kvs:=kvs) (by exact hA) (lts a o hx).1 (lts a o hx).2 (K7 sD) (ht.push _) hn (fun j x hj=>?_) items.size 0 _ [] (by omega) (Kz _) (fun b u _ _ q=>q) ⟨_,K6 _ rfl,rfl,rfl⟩ ?_ (by simp;omega) fun h' tk hk' hd'=>?_
 ·obtain⟨p,key,k,v,e1,e2,e3,e4⟩:=hp j x hj
  obtain⟨op,hop,r⟩:=id e3;exact⟨p,key,k,v,e1,e2,(lts p op hop).1,(lts p op hop).2,⟨op,k2 p op hop,r⟩,e4⟩
 ·obtain⟨od,es,ep,hod,r⟩:=hnew
  exact⟨od,es,ep,JN _ (k1 _ _ hod),r⟩
 ·exact⟨rfl,h h' tk (fun b u q=>hk' b u (lts b u q).1 (lts b u q).2 (k2 b u q)) hd'⟩
end
end PU
namespace PU
open PySem L2
noncomputable def eW:List PV->Option (List (Key×PV))
 | []=>some []
 | .tup [.str k,v]::r=>(eW r).map fun l=>(.inr k,v)::l
 | _=>none
def oZ:PV->Option PV
 | .tup ps=>if ps.length<=1000 then (eW ps).map i7 else none
 | _=>none
end PU
namespace PU
open PySem PySem.Spec PyProof.Rows L2 PySem.SeqAt
variable[TW]
theorem mL{X:Cx}{pins:List (Addr×Obj)}{σ:L2.St}{H:Hp}{s:JM}(I:L2.Inv X pins σ H s):∀{ps:List PV}{kps:List (Key×PV)}{xs:List V}{its:List JJ},eW ps=some kps->aB X.K H ps xs->Vals xs its->
  ∃(kvs:List (Key×V))(vs:List (Key×JJ)),gh X.K H kps kvs/\KV kvs vs/\its.length=vs.length/\∀(j:Nat)(x:JJ),its[j]?=some x->∃(p:Addr)(key:JJ)(k:Key)(v:JJ),x=.ref p/\vs[j]?=some (k,v)/\s.heap.IsTuple p #[key,v]/\(ak X.prog X.w).is k key=true
 | [],kps,xs,its,e,r,rv=>by
  cases e;cases r;cases rv;exact⟨[],[],rfl,.nil,rfl,fun j x h=>by simp at h⟩
 | p::ps,kps,xs,its,e,r,rv=>by
  obtain⟨x,t,rfl,r1,r2⟩:=r;cases rv with
  | cons ru rv=>
  unfold eW at e;split at e
  ·rename_i h;cases h
  ·rename_i k v r' h
   cases h;obtain⟨l,el,ez⟩:=JV.mp e;cases ez;obtain⟨kvs,vs,q1,q2,q3,q4⟩:=mL I el r2 rv;obtain⟨a,ys,rfl,g,rr⟩:=r1;obtain⟨y1,t1,rfl,h1,y2,t2,rfl,h2,h3⟩:=rr;cases h3;cases h1;cases ru;obtain⟨its2,rv2,pl,hz⟩:=I.tuple (tq g);cases rv2 with
   | cons ra rv2=>
   cases rv2 with
   | cons rb rv2=>
   cases rv2;obtain⟨tk,rfl⟩:=ra;refine⟨(.inr k,y2)::kvs,(.inr k,_)::vs,⟨y2,kvs,rfl,h2,q1⟩,.cons ⟨rfl,rb⟩ q2,by simp[q3],fun j x hj=>?_⟩;cases j with
   | zero=>
    simp at hj;subst hj;exact⟨a,_,_,_,rfl,rfl,pl,fC _ _ _ _⟩
   | succ j=>
    obtain⟨p,key,k',v',e1,e2,e3,e4⟩:=q4 j x (by simpa using hj);exact⟨p,key,k',v',e1,by simpa using e2,e3,e4⟩
  ·cases e
omit [TW] in
theorem eB{K:Type}[DecidableEq K]:∀(l acc:List (K×JJ)),(storeAll acc l).length<=acc.length+l.length
 | [],acc=>by simp[storeAll]
 | p::l,acc=>by
  have h1:=eB l (Pv acc p.1 p.2);have h2:=stored_length_le acc p.1 p.2;have e:storeAll acc (p::l)=storeAll (Pv acc p.1 p.2) l:=rfl;rw[e,KU];omega
theorem zU {X:Cx} (hc:X.calm=true:=by rfl) (hw:X.w=TW.w:=by rfl):gX X (.type "dict") (rn1 X.K oZ):=by
 intro pins s σ H xs us Q I r ⟨v,p,z,e1,rp,ez,k⟩;subst e1;cases p with
 | tup ps=>
  have ez:(if ps.length<=1000 then (eW ps).map i7 else none)=some z:=ez
  by_cases hlen:ps.length<=1000
  ·rw[if_pos hlen] at ez
   obtain⟨kps,ek,rfl⟩:=JV.mp ez;obtain⟨a,xs,rfl,g,rr⟩:=rp;obtain⟨u,rfl,ru⟩:=vals1 r;cases ru;obtain⟨its,rv,⟨o,ho,hcl,⟨n0,hdat⟩,hdn⟩,hz⟩:=I.tupleX (tq g);obtain⟨kvs,vs,q1,q2,q3,q4⟩:=mL I ek rr rv;have hl1:=rr.length;have hl2:=rv.length;have hs:=Ke;refine kY (knd:=ak X.prog X.w) (kvs:=vs) (I.ok.hd hc) ho hcl hdat (hdn fun v hv=>(by obtain⟨j,hj⟩:=Mz.mp hv;obtain⟨p,_,_,_,e,_⟩:=q4 j v (by simpa using hj);exact⟨p,e⟩)) (by rw[KG];exact q3) (by omega) (fun j x hj=>q4 j x (by simpa using hj)) fun h' tk keep D'=>?_;have nf:H s.heap.objs.size=none:=I.fresh
   have hne:(s.heap.objs.size == Ku)=false:=by
    have hb:=I.big;refine beq_eq_false_iff_ne.mpr fun e=>?_;rw[e] at hb;exact Kt _ hb
   have hm:KV (cy [] kvs) (storeAll [] vs):=KV.merge q2 .nil
   have hml:(cy [] kvs).length<=sizeLine:=by
    have a1:(cy [] kvs).length=(storeAll [] vs).length:=Ki hm;have a2:=eB vs [];simp only[Lb] at a2;omega
   have I2:=I.laid (a:=s.heap.objs.size) (o:=.dK (cy [] kvs)) (h':=h') (t':=tk) keep (K8 _) ⟨hml,hne,_,hm,D'⟩;have kp:Kp H (upd H s.heap.objs.size (.dK (cy [] kvs))):=Same.kp (Same.new nf);obtain⟨ks',ps',g1,g2,g3⟩:=kg (acc:=[]) (ps:=[]) (gh.kp kp q1) aB.nil;refine⟨.ref _,_,I2,rfl,k _ _ (Same.new nf) nf ?_⟩;rw[qZ];have g1:kps.foldl wb (PV.dct [] [])=PV.dct ks' ps':=g1;rw[g1];exact⟨_,ar,g2,g3⟩
  ·rw[if_neg hlen] at ez
   cases ez
 | _=>cases ez
end PU
namespace PU
open PySem PySem.Spec PyProof.Rows L2
noncomputable def z7(i:Nat):PSt->R Fl:=fun ρ=>match ρ[i]? with
 | some (.own p)=>.ok (.ret p)
 | _=>.no
def runN(m n:Nat)(g:PSt->R Fl)(ps:List PV):Option PV:=if ps.length=m then (match g (start n ps) with
 | .ok (.ret p)=>some p
 | _=>none) else none
section
variable{g g' : PSt → R Fl}{t : PSt → R Bool}{f fk fv : PSt → R PV}{i : Nat}
theorem i6(i:Nat)(f:PSt->R PV)(ρ:PSt)(p:PV):pI i f ρ≠.ok (.ret p):=by
 unfold pI;cases f ρ with
 | ok q=>intro h;cases h
 | er x=>intro h;cases h
 | no=>intro h;cases h
theorem pG(i:Nat)(f:PSt->R PV)(ρ:PSt)(p:PV):sS i f ρ≠.ok (.ret p):=by
 unfold sS;intro h;split at h
 ·cases hf:f ρ with
  | ok q=>
   rw[hf,R.ok_bind] at h
   repeat' split at h
   all_goals cases h
  | er x=>rw[hf] at h;cases h
  | no=>rw[hf] at h;cases h
 ·cases h
theorem kH{h:Tgt}{fi:PSt->R (List PV)}(hg:∀ρ p,g ρ≠.ok (.ret p))(ρ:PSt)(p:PV):kJ fi h g ρ≠.ok (.ret p):=by
 have go:∀(ps:List PV)(ρ:PSt),fO h g ps ρ≠.ok (.ret p):=by
  intro ps
  induction ps with
  | nil=>intro ρ h;cases h
  | cons x ps ih=>
   intro ρ e;unfold fO at e;cases h1:h x ρ with
   | none=>rw[h1] at e;cases e
   | some ρ1=>
    rw[h1,R.ofO_some,R.ok_bind] at e;cases h2:g ρ1 with
    | ok fl=>
     rw[h2,R.ok_bind] at e;cases fl with
     | next ρ2=>exact ih ρ2 e
     | cont ρ2=>exact ih ρ2 e
     | brk ρ2=>cases e
     | ret q=>exact hg ρ1 q h2
    | er x=>rw[h2] at e;cases e
    | no=>rw[h2] at e;cases e
 unfold kJ;intro e;cases h1:fi ρ with
 | ok ps=>rw[h1,R.ok_bind] at e;exact go ps ρ e
 | er x=>rw[h1] at e;cases e
 | no=>rw[h1] at e;cases e
end
variable[TW]
section
variable{C : Cn}
theorem wZ(i:Nat){x:Str}{np pos:La}(hN:C.X.N[i]?=some x:=by rfl)(hv:Vis C.X.env.scope x:=by first | exact NY rfl | exact N7 (NY rfl) | exact N7 (N7 rfl))
  (hd:(x == ("__debug__":Str))=false:=by decide) (hcd:(x == ("__classdict__":Str))=false:=by decide):SVN C [.Return (some (.Name x np)) pos] (z7 i):=by
 intro pins s σ H D I ⟨ρ,B,S,h⟩;unfold z7 at h;split at h
 ·rename_i p e1
  obtain⟨a,ea,nw⟩:=S.vw i _ e1;exact iN (lI (eG hN hv hd hcd)) pins s σ H D I ⟨.ref a,ea,h a H S.same (S.fresh i p a e1 ea) nw⟩
 ·exact JP h
end
section
variable{P : K5}{w : KH}{K : JH}{mg : Str → Option JJ}{base : Heap}
theorem AN{x qual:Str}{st:Stmt}{f:Addr}{fd:FuncData}{N ps:List Str}{k:Nat}{g:PSt->R Fl}(F:Fun K x qual st f fd)(S:FnScope N ps (ae st))(hm:mg x=some (.ref f))(hb:Binds K fd ps [])
  (hbody:∀(cdv:JJ)(A:KY)(outer:List Ow)(s:JM)(H:Hp)(E:XK),Room k (A.deeper (Mm qual (ae st) s.heap.objs.size f cdv))->SVN (zT P w K mg base N qual (ae st) f cdv A outer s H E) (aW st) g) :
  PFN P w K mg base (k+1) x (runN ps.length N.length g):=by
 refine⟨f,fd,ps,F.ok S (fun vs H Q E h=>h.1) (fun cdv A outer s H vs Q E hr' h=>?_),hm,F.kp,hb,fun qs p h=>?_⟩
 ·obtain⟨hl,tb,qs,p,r,e0,k⟩:=h
  refine⟨_,hbody cdv A outer s H E hr',start N.length qs,(H,H),gk tb r,?_⟩;unfold runN at e0;rw[if_pos (by rw[r.length];exact hl)] at e0;split at e0
  ·rename_i q hq
   rw[hq];cases e0;exact fun a H' s' n' w'=>k a H' s' n' w'
  ·cases e0
 ·unfold runN at h
  split at h
  ·rename_i hl;exact hl
  ·cases h
end
end PU
namespace PU
open PySem L2
def Gf(p:PV):R (List PV):=match p with
 | .int j=>if j.natAbs<1000000000 then .ok (ck 0 j.toNat) else .no
 | _=>.no
def C7(p q:PV):R (List PV):=match p,q with
 | .int i,.int j=>if i.natAbs<1000000000/\j.natAbs<1000000000 then .ok (ck i (j-i).toNat) else .no
 | _,_=>.no
theorem tf{j:Int}(h0:0<=j)(h1:j<1000000000):Gf (.int j)=.ok (ck 0 j.toNat):=by
 unfold Gf;exact if_pos (by omega)
theorem t9{i j:Int}(h0:0<=i)(h1:i<1000000000)(h2:0<=j)(h3:j<1000000000):C7 (.int i) (.int j)=.ok (ck i (j-i).toNat):=by
 unfold C7;exact if_pos ⟨by omega,by omega⟩
section
noncomputable def CT(g':PSt->R Fl):R Fl->R Fl
 | .ok (.next ρ)=>g' ρ
 | .ok (.brk ρ)=>.ok (.brk ρ)
 | .ok (.cont ρ)=>.ok (.cont ρ)
 | .ok (.ret p)=>.ok (.ret p)
 | .er x=>.er x
 | .no=>.no
noncomputable def sZ{α β:Type}(f:α->β):R α->R β
 | .ok a=>.ok (f a)
 | .er x=>.er x
 | .no=>.no
noncomputable def jj{α β:Type}(f:α->R β):R α->R β
 | .ok a=>f a
 | .er x=>.er x
 | .no=>.no
noncomputable def ifK{α:Type}(g g':PSt->R α)(ρ:PSt):R Bool->R α
 | .ok true=>g ρ
 | .ok false=>g' ρ
 | .er x=>.er x
 | .no=>.no
noncomputable def o5{α β γ:Type}(f:α->β->R γ):R α->R β->R γ
 | .ok a,.ok b=>f a b
 | .ok _,.er x=>.er x
 | .ok _,.no=>.no
 | .er x,_=>.er x
 | .no,_=>.no
variable{α : Type}{ρ : PSt}{f fa fb fc : PSt → R PV}{g g' : PSt → R Fl}{t u : PSt → R Bool}{i : Nat}
@[simp] theorem lS:CT g' (.ok (.next ρ))=g' ρ:=by unfold CT;exact KW _
@[simp] theorem uU(p:PV):CT g' (.ok (.ret p))=.ok (.ret p):=by unfold CT;exact KW _
@[simp] theorem DV{β:Type}(f:α->β)(a:α):sZ f (.ok a)=.ok (f a):=by unfold sZ;exact KW _
@[simp] theorem lq{β:Type}(f:α->R β)(a:α):jj f (.ok a)=f a:=by unfold jj;exact KW _
@[simp] theorem HX(g g':PSt->R α):ifK g g' ρ (.ok true)=g ρ:=by unfold ifK;exact KW _
@[simp] theorem HY(g g':PSt->R α):ifK g g' ρ (.ok false)=g' ρ:=by unfold ifK;exact KW _
@[simp] theorem uT{β γ:Type}(f:α->β->R γ)(a:α)(b:β):o5 f (.ok a) (.ok b)=f a b:=by unfold o5;exact KW _
@[simp] theorem t5:aU g g' ρ=CT g' (g ρ):=by
 unfold aU;cases g ρ with
 | ok fl=>cases fl <;> rfl
 | er x=>rfl
 | no=>rfl
@[simp] theorem FL:cO ρ=.ok (.next ρ):=by unfold cO;exact KW _
@[simp] theorem yM:cG f ρ=sZ .ret (f ρ):=by unfold cG;cases f ρ <;> rfl
@[simp] theorem Io:ifF t g g' ρ=ifK g g' ρ (t ρ):=by
 unfold ifF;cases t ρ with
 | ok b=>cases b <;> rfl
 | er x=>rfl
 | no=>rfl
def Ga(i:Nat)(ρ:PSt)(p:PV):Fl:=.next (ρ.set i (.val p))
def Gu(i:Nat)(ρ:PSt)(p:PV):Fl:=.next (ρ.set i (.own p))
@[simp] theorem GM(p:PV):Ga i ρ p=.next (ρ.set i (.val p)):=by unfold Ga;exact KW _
@[simp] theorem Jc(p:PV):Gu i ρ p=.next (ρ.set i (.own p)):=by unfold Gu;exact KW _
@[simp] theorem Ce:cn i f ρ=sZ (Ga i ρ) (f ρ):=by unfold cn;cases f ρ <;> rfl
@[simp] theorem Hm:pI i f ρ=sZ (Gu i ρ) (f ρ):=by unfold pI;cases f ρ <;> rfl
@[simp] theorem Hy:EY ρ=.ok (.brk ρ):=by unfold EY;exact KW _
@[simp] theorem Hw:zI i g ρ=g (vi i ρ):=by unfold zI;exact KW _
@[simp] theorem Ht(j:Int):kI j ρ=.ok (.int j):=by unfold kI;exact KW _
@[simp] theorem Hu(j:Bool):kB j ρ=.ok (.bl j):=by unfold kB;exact KW _
@[simp] theorem Jz:kN ρ=.ok .non:=by unfold kN;exact KW _
@[simp] theorem Jx(j:Str):kS j ρ=.ok (.str j):=by unfold kS;exact KW _
@[simp] theorem Jy(j:PV):kP j ρ=.ok j:=by unfold kP;exact KW _
@[simp] theorem Ho:aI ρ=.ok []:=by unfold aI;exact KW _
def BJ(p:PV)(ps:List PV):R (List PV):=.ok (p::ps)
@[simp] theorem I9(p:PV)(ps:List PV):BJ p ps=.ok (p::ps):=by unfold BJ;exact KW _
@[simp] theorem FO{fs:PSt->R (List PV)}:ab f fs ρ=o5 BJ (f ρ) (fs ρ):=by unfold ab;cases f ρ <;> cases fs ρ <;> rfl
noncomputable def tupP(ps:List PV):R PV:=if ps.length<=16777216 then .ok (.tup ps) else .no
noncomputable def lstP(ps:List PV):R PV:=if ps.length<=16777216 then .ok (.lst ps) else .no
@[simp] theorem GL(ps:List PV):tupP ps=if ps.length<=16777216 then .ok (.tup ps) else .no:=by unfold tupP;exact KW _
@[simp] theorem DW(ps:List PV):lstP ps=if ps.length<=16777216 then .ok (.lst ps) else .no:=by unfold lstP;exact KW _
@[simp] theorem Hi{fs:PSt->R (List PV)}:dB fs ρ=jj tupP (fs ρ):=by
 unfold dB;cases fs ρ with
 | ok ps=>simp only[R.ok_bind,fJ,lq,GL];split <;> rfl
 | er x=>rfl
 | no=>rfl
@[simp] theorem Hr{fs:PSt->R (List PV)}:l7 fs ρ=jj lstP (fs ρ):=by
 unfold l7;cases fs ρ with
 | ok ps=>simp only[R.ok_bind,fJ,lq,DW];split <;> rfl
 | er x=>rfl
 | no=>rfl
def opP(g:PV->PV->Option PV)(p q:PV):R PV:=R.ofO (g p q)
def op1(g:PV->Option PV)(p:PV):R PV:=R.ofO (g p)
@[simp] theorem JE(g:PV->PV->Option PV)(p q:PV):opP g p q=R.ofO (g p q):=by unfold opP;exact KW _
@[simp] theorem DU(g:PV->Option PV)(p:PV):op1 g p=R.ofO (g p):=by unfold op1;exact KW _
@[simp] theorem Hz{g:PV->PV->Option PV}:aq fa fb g ρ=o5 (opP g) (fa ρ) (fb ρ):=by unfold aq;cases fa ρ <;> cases fb ρ <;> rfl
@[simp] theorem Cd{g:PV->Option PV}:un1 f g ρ=jj (op1 g) (f ρ):=by unfold un1;cases f ρ <;> rfl
def FX(p:PV):R Bool:=R.ofO (tF p)
@[simp] theorem J8(p:PV):FX p=R.ofO (tF p):=by unfold FX;exact KW _
@[simp] theorem Hj:dZ f ρ=jj FX (f ρ):=by unfold dZ;cases f ρ <;> rfl
@[simp] theorem HJ:BY t u ρ=ifK u (fun _=>.ok false) ρ (t ρ):=by
 unfold BY;cases t ρ with
 | ok b=>cases b <;> rfl
 | er x=>rfl
 | no=>rfl
@[simp] theorem Ik:orB t u ρ=ifK (fun _=>.ok true) u ρ (t ρ):=by
 unfold orB;cases t ρ with
 | ok b=>cases b <;> rfl
 | er x=>rfl
 | no=>rfl
@[simp] theorem Hn:Dw t ρ=sZ not (t ρ):=by unfold Dw;cases t ρ <;> rfl
@[simp] theorem Im:ifV t fa fb ρ=ifK fa fb ρ (t ρ):=by
 unfold ifV;cases t ρ with
 | ok b=>cases b <;> rfl
 | er x=>rfl
 | no=>rfl
@[simp] theorem Cc:qB ρ=.ok true:=by unfold qB;exact KW _
def BQ(F:List PV->Option PV)(ps:List PV):R PV:=R.ofO (F ps)
@[simp] theorem Ia(F:List PV->Option PV)(ps:List PV):BQ F ps=R.ofO (F ps):=by unfold BQ;exact KW _
@[simp] theorem FQ{fs:PSt->R (List PV)}{F:List PV->Option PV}:aO fs F ρ=jj (BQ F) (fs ρ):=by unfold aO;cases fs ρ <;> rfl
noncomputable def itQ(F:PV->Option (List PV))(p:PV):R (List PV):=R.ofO (F p)
@[simp] theorem JF(F:PV->Option (List PV))(p:PV):itQ F p=R.ofO (F p):=by unfold itQ;exact KW _
@[simp] theorem Il:itF f ρ=jj (itQ gz) (f ρ):=by unfold itF;cases f ρ <;> rfl
@[simp] theorem FN:yi f ρ=jj (itQ sL) (f ρ):=by unfold yi;cases f ρ <;> rfl
def GY(h:Tgt)(g:PSt->R Fl)(ρ:PSt)(ps:List PV):R Fl:=fO h g ps ρ
@[simp] theorem DY(h:Tgt)(ps:List PV):GY h g ρ ps=fO h g ps ρ:=by unfold GY;exact KW _
@[simp] theorem yN{fi:PSt->R (List PV)}{h:Tgt}:kJ fi h g ρ=jj (GY h g ρ) (fi ρ):=by unfold kJ;cases fi ρ <;> rfl
@[simp] theorem Hk:z6 f ρ=jj Gf (f ρ):=by unfold z6;cases f ρ <;> rfl
@[simp] theorem yL:C8 fa fb ρ=o5 C7 (fa ρ) (fb ρ):=by unfold C8;cases fa ρ <;> cases fb ρ <;> rfl
@[simp] theorem Fh{g:PV->PV->Option PV}(x:Str):xM (kS x) fb g ρ=jj (opP g (.str x)) (fb ρ):=by unfold xM;cases fb ρ <;> rfl
@[simp] theorem Fe:eX ρ=.ok none:=by unfold eX;exact KW _
noncomputable def aP(p:PV):R (Option Int):=match p with
 | .int i=>.ok (some i)
 | _=>.no
@[simp] theorem JG(i:Int):aP (.int i)=.ok (some i):=by unfold aP;exact KW _
@[simp] theorem FR:j3 f ρ=jj aP (f ρ):=by unfold j3;cases f ρ <;> rfl
def slQ(p:PV)(lh:Option Int×Option Int):R PV:=R.ofO (gSl p lh.1 lh.2)
def oC(a b:Option Int):R (Option Int×Option Int):=.ok (a,b)
@[simp] theorem JD(p:PV)(a b:Option Int):slQ p (a,b)=R.ofO (gSl p a b):=by unfold slQ;exact KW _
@[simp] theorem HV(a b:Option Int):oC a b=.ok (a,b):=by unfold oC;exact KW _
@[simp] theorem Fc{l h:PSt->R (Option Int)}:jN f l h ρ=o5 slQ (f ρ) (o5 oC (l ρ) (h ρ)):=by unfold jN;cases f ρ <;> cases l ρ <;> cases h ρ <;> rfl
@[simp] theorem Hq:newD ρ=.ok (.dct [] []):=by unfold newD;exact KW _
def FD(p:PV):R Key:=R.ofO (e6 p)
@[simp] theorem DX(p:PV):FD p=R.ofO (e6 p):=by unfold FD;exact KW _
def BK(h:Tgt)(t:PSt->R Bool)(fe:PSt->R PV)(ρ:PSt)(ps:List PV):R PV:=jj lstP (B0 (de h t fe ρ ps))
@[simp] theorem DZ(h:Tgt)(ps:List PV):BK h t f ρ ps=jj lstP (B0 (de h t f ρ ps)):=by unfold BK;exact KW _
@[simp] theorem FP{fi:PSt->R (List PV)}{h:Tgt}{nt:Nat}{idx:List Nat}:iB fi h t f nt idx ρ=jj (BK h t f (cF nt idx ρ)) (fi ρ):=by
 unfold iB;cases fi ρ with
 | ok ps=>
  simp only[R.ok_bind,lq,DZ];cases de h t f (cF nt idx ρ) ps with
  | ok qs=>simp only[B0,R.ok_bind,lq,DW,fJ];split <;> rfl
  | er x=>rfl
  | no=>rfl
 | er x=>rfl
 | no=>rfl
@[simp] theorem pM(p:PV):aC i p ρ=some (ρ.set i (.val p)):=by unfold aC;exact KW _
@[simp] theorem Ff(a:α):B0 (.ok a)=.ok a:=by unfold B0;exact KW _
end
section
variable{p : PV}{l : Sl}{ρ : PSt}{i : Nat}
@[simp] theorem pN:getV 0 (.val p::ρ)=.ok p:=by unfold getV;exact KW _
@[simp] theorem Ab:getV (i+1) (l::ρ)=getV i ρ:=by unfold getV;rw[KB]
@[simp] theorem Fi:lX 0 (.own p::ρ)=.ok p:=by unfold lX;exact KW _
@[simp] theorem FM:lX (i+1) (l::ρ)=lX i ρ:=by unfold lX;rw[KB]
@[simp] theorem Hx:vi 0 (.own p::ρ)=.val p::ρ:=by unfold vi;exact KW _
theorem vh:vi (i+1) (l::ρ)=l::vi i ρ:=by
 unfold vi;simp only[KB];cases ρ[i]? with
 | none=>rfl
 | some x=>cases x <;> rfl
@[simp] theorem Hv:vi (i+1) (l::ρ)=l::vi i ρ:=vh
def roA(i:Nat)(ρ:PSt):Sl:=roS ρ[i]?
@[simp] theorem Jb:roA 0 (.val p::ρ)=.val p:=by unfold roA roS;exact KW _
@[simp] theorem Ja:roA (i+1) (l::ρ)=roA i ρ:=by unfold roA;rw[KB]
theorem t6(nt:Nat)(idx:List Nat):cF nt idx ρ=KZ nt .no++idx.map fun i=>roA i ρ:=by unfold cF roA;exact KW _
noncomputable def zW(i:Nat)(ρ:PSt)(p:PV):R PSt:=match ρ[i]? with
 | some (.own (.lst ps))=>if ps.length<16777216 then .ok (ρ.set i (.own (.lst (ps++[p])))) else .no
 | _=>.no
noncomputable def wA(i:Nat)(ρ:PSt):Bool:=match ρ[i]? with
 | some (.own (.lst _))=>true
 | _=>false
def yw(l:Sl)(ρ:PSt):PSt:=l::ρ
@[simp] theorem GP:yw l ρ=l::ρ:=by unfold yw;exact KW _
@[simp] theorem Ic(ps:List PV):zW 0 (.own (.lst ps)::ρ) p=if ps.length<16777216 then .ok (.own (.lst (ps++[p]))::ρ) else .no:=by unfold zW;exact KW _
@[simp] theorem Ib:zW (i+1) (l::ρ) p=sZ (yw l) (zW i ρ p):=by
 unfold zW;rw[KB];cases ρ[i]? with
 | none=>rfl
 | some x=>
  cases x with
  | own q=>
   cases q with
   | lst ps=>dsimp only;split <;> rfl
   | _=>rfl
  | _=>rfl
@[simp] theorem I8(ps:List PV):wA 0 (.own (.lst ps)::ρ)=true:=by unfold wA;exact KW _
@[simp] theorem HZ:wA (i+1) (l::ρ)=wA i ρ:=by unfold wA;rw[KB]
def F4(i:Nat)(ρ:PSt)(p:PV):R Fl:=sZ .next (zW i ρ p)
@[simp] theorem E1:F4 i ρ p=sZ .next (zW i ρ p):=by unfold F4;exact KW _
theorem BW(f:PSt->R PV)(h:wA i ρ=true):sS i f ρ=jj (F4 i ρ) (f ρ):=by
 unfold wA at h;unfold sS;cases e:ρ[i]? with
 | none=>rw[e] at h;cases h
 | some x=>
  rw[e] at h;cases x with
  | own q=>
   cases q with
   | lst ps=>
    dsimp only;cases f ρ with
    | ok p=>
     simp only[R.ok_bind,lq,E1];unfold zW;rw[e];dsimp only
     split <;> rfl
    | er x=>rfl
    | no=>rfl
   | _=>cases h
  | _=>cases h
def FG(b:Bool)(i:Nat)(ρ:PSt)(r:R PV):R Fl:=if b=true then jj (F4 i ρ) r else .no
@[simp] theorem E2(r:R PV):FG true i ρ r=jj (F4 i ρ) r:=by unfold FG;exact if_pos rfl
@[simp] theorem HI(f:PSt->R PV):sS i f ρ=FG (wA i ρ) i ρ (f ρ):=by
 cases h:wA i ρ with
 | true=>rw[BW f h,E2]
 | false=>
  unfold FG;rw[if_neg JU];unfold wA at h;unfold sS
  split
  ·rename_i ps e
   rw[e] at h;cases h
  ·rfl
def zg(i:Nat)(ρ:PSt)(k:Key)(p:PV):R PSt:=match ρ[i]? with
 | some (.own (.dct ks ps))=>if ks.length<16777216 then .ok (ρ.set i (.own (gD ks ps k p))) else .no
 | _=>.no
noncomputable def Br(i:Nat)(ρ:PSt):Bool:=match ρ[i]? with
 | some (.own (.dct _ _))=>true
 | _=>false
@[simp] theorem HU(ks:List Key)(ps:List PV)(k:Key):zg 0 (.own (.dct ks ps)::ρ) k p=if ks.length<16777216 then .ok (.own (gD ks ps k p)::ρ) else .no:=by unfold zg;exact KW _
@[simp] theorem HS(k:Key):zg (i+1) (l::ρ) k p=sZ (yw l) (zg i ρ k p):=by
 unfold zg;rw[KB];cases ρ[i]? with
 | none=>rfl
 | some x=>
  cases x with
  | own q=>
   cases q with
   | dct ks ps=>dsimp only;split <;> rfl
   | _=>rfl
  | _=>rfl
@[simp] theorem GO(ks:List Key)(ps:List PV):Br 0 (.own (.dct ks ps)::ρ)=true:=by unfold Br;exact KW _
@[simp] theorem GN:Br (i+1) (l::ρ)=Br i ρ:=by unfold Br;rw[KB]
def Fz(i:Nat)(ρ:PSt)(p:PV)(k:Key):R Fl:=sZ .next (zg i ρ k p)
@[simp] theorem DS(k:Key):Fz i ρ p k=sZ .next (zg i ρ k p):=by unfold Fz;exact KW _
def Gk(b:Bool)(i:Nat)(ρ:PSt)(v:R PV)(k:R PV):R Fl:=if b=true then o5 (Fz i ρ) v (jj FD k) else .no
@[simp] theorem DT(v k:R PV):Gk true i ρ v k=o5 (Fz i ρ) v (jj FD k):=by unfold Gk;exact if_pos rfl
@[simp] theorem Hl(fk fv:PSt->R PV):so i fk fv ρ=Gk (Br i ρ) i ρ (fv ρ) (fk ρ):=by
 unfold so Br;cases e:ρ[i]? with
 | none=>rfl
 | some x=>
  cases x with
  | own q=>
   cases q with
   | dct ks ps=>
    dsimp only;rw[DT];cases fv ρ with
    | ok p=>
     simp only[R.ok_bind];cases fk ρ with
     | ok kp=>
      simp only[R.ok_bind,lq,DX];cases e6 kp with
      | none=>rfl
      | some k=>
       simp only[R.ofO_some,R.ok_bind,uT,DS];unfold zg;rw[e];dsimp only
       split <;> rfl
     | er x=>rfl
     | no=>rfl
    | er x=>rfl
    | no=>rfl
   | _=>rfl
  | _=>rfl
end
@[simp] theorem Cz(a b:Int):fK (.int a) (.int b)=some (.int (a+b)):=rfl
theorem jI{a b:Str}(h:a.length+b.length<=16777216):fK (.str a) (.str b)=some (.str (a++b)):=if_pos h
theorem nZ{a b:List PV}(h:a.length+b.length<=16777216):fK (.lst a) (.lst b)=some (.lst (a++b)):=if_pos h
@[simp] theorem Cy(a b:List PV):fK (.tup a) (.tup b)=if a.length+b.length<=16777216 then some (.tup (a++b)) else none:=rfl
@[simp] theorem Iq(a b:Int):Ef (.int a) (.int b)=some (.int (a-b)):=rfl
theorem wN{a b:Int}(h:a.natAbs<18446744073709551616\/b.natAbs<18446744073709551616):ve (.int a) (.int b)=some (.int (a * b)):=if_pos h
theorem Ah{a b:Int}(h:0<b/\b<1073741824):Eg (.int a) (.int b)=some (.int (a / b)):=if_pos h
theorem iH{a b:Int}(h:0<b):e9 (.int a) (.int b)=some (.int (a % b)):=if_pos h
@[simp] theorem v_lt(a b:Int):gLt (.int a) (.int b)=some (.bl (decide (a<b))):=rfl
@[simp] theorem JA(a b:Int):gLe (.int a) (.int b)=some (.bl (decide (a<=b))):=rfl
@[simp] theorem JB(a b:Int):gGt (.int a) (.int b)=some (.bl (decide (b<a))):=rfl
@[simp] theorem JC(a b:Int):gGe (.int a) (.int b)=some (.bl (decide (b<=a))):=rfl
@[simp] theorem Fn(x y:Str):gLt (.str x) (.str y)=some (.bl (decide (x.cps.toList<y.cps.toList))):=rfl
@[simp] theorem Fw(a b:Int):gEq (.int a) (.int b)=some (.bl (decide (a=b))):=by simp[gEq,nV,scV,Aw]
@[simp] theorem wQ(a b:Str):gEq (.str a) (.str b)=some (.bl (decide (a=b))):=by simp[gEq,nV,scV,Aw]
@[simp] theorem Fk(b:Bool):tF (.bl b)=some b:=rfl
@[simp] theorem Ck(ps:List PV):tF (.lst ps)=some (!ps.isEmpty):=rfl
@[simp] theorem Cm(ks:List Key)(ps:List PV):tF (.dct ks ps)=some (!ks.isEmpty):=rfl
@[simp] theorem Cs(ps:List PV):rj (.lst ps)=some (.int ps.length):=rfl
@[simp] theorem Cr(ps:List PV):rj (.tup ps)=some (.int ps.length):=rfl
theorem jH{x:Str}(h:x.length<=16777216):rj (.str x)=some (.int x.length):=if_pos h
@[simp] theorem Fp(ps:List PV)(i:Int):gIx (.lst ps) (.int i)=atI ps i:=rfl
@[simp] theorem Fo(ps:List PV)(i:Int):gIx (.tup ps) (.int i)=atI ps i:=rfl
theorem wO{z:Str}{i:Int}{c:Nat}(h:z.length<=16777216)(e:atI z.cps.toList i=some c):gIx (.str z) (.int i)=some (.str ⟨#[c]⟩):=by
 show (if z.length<=16777216 then (atI z.cps.toList i).map fun c=>PV.str ⟨#[c]⟩ else none)=_;rw[if_pos h,e];rfl
@[simp] theorem Fq(ks:List Key)(ps:List PV)(k:PV):gIx (.dct ks ps) k=(e6 k).bind fun k=>bT ks ps k:=rfl
@[simp] theorem Cu(i:Int):e6 (.int i)=some (.inl i):=rfl
@[simp] theorem Ct(x:Str):e6 (.str x)=some (.inr x):=rfl
@[simp] theorem lE(k j:Key)(ks:List Key)(p:PV)(ps:List PV):bT (k::ks) (p::ps) j=if k=j then some p else bT ks ps j:=rfl
@[simp] theorem Fv(b:Bool):FF (.bl b)=some (.int (if b then 1 else 0)):=rfl
@[simp] theorem Cw(b:Int):FF (.int b)=some (.int b):=rfl
@[simp] theorem Cj(ps:List PV):ri (.lst ps)=some (.tup ps):=rfl
@[simp] theorem Ci(ps:List PV):ri (.tup ps)=some (.tup ps):=rfl
@[simp] theorem Ft(ps:List PV):gz (.lst ps)=some ps:=rfl
@[simp] theorem Fs(ps:List PV):gz (.tup ps)=some ps:=rfl
@[simp] theorem Fu(ks:List Key)(ps:List PV):gz (.dct ks ps)=some (ks.map wx):=rfl
@[simp] theorem HK(x:Str):wx (.inr x)=.str x:=rfl
@[simp] theorem C4(ps:List PV):sL (.lst ps)=some ((zj ps).map .tup):=rfl
@[simp] theorem C3(x:Str):sL (.str x)=some ((zj (fQ x)).map .tup):=rfl
@[simp] theorem Cp(i:Int):Ie (.int i)=if i.natAbs.log2<1920 then some (.str (toString i)) else none:=rfl
@[simp] theorem Co(x:Str):Ie (.str x)=some (.str x):=rfl
@[simp] theorem FW(x:Str):Ea (.str x)=true:=rfl
@[simp] theorem Fm(ps:List PV)(lo hi:Option Int):gSl (.lst ps) lo hi=some (.lst (pL ps lo hi)):=rfl
theorem gH{α:Type}{xs:List α}{i:Int}{n:Nat}{x:α}(hi:i=n)(h:xs[n]?=some x):atI xs i=some x:=by
 subst hi;have hl:=(JL.mp h).1;unfold atI ixN;rw[if_pos (by omega),if_pos (by omega)];simpa using h
@[simp] theorem Jp{α:Type}(x:α)(xs:List α):atI (x::xs) 0=some x:=gH (n:=0) rfl rfl
@[simp] theorem Jo{α:Type}(x y:α)(xs:List α):atI (x::y::xs) 1=some y:=gH (n:=1) rfl rfl
@[simp] theorem Jn{α:Type}(x y z:α)(xs:List α):atI (x::y::z::xs) 2=some z:=gH (n:=2) rfl rfl
@[simp] theorem Jm{α:Type}(x y z u:α)(xs:List α):atI (x::y::z::u::xs) 3=some u:=gH (n:=3) rfl rfl
theorem vm{h:Tgt}{g:PSt->R Fl}(I:Nat->PSt->Prop):∀(ps:List PV)(n:Nat)(ρ:PSt),I n ρ->
  (∀(i:Nat)(p:PV)(ρ:PSt),ps[i]?=some p->I (n+i) ρ->∃ρ1 ρ2,h p ρ=some ρ1/\(g ρ1=.ok (.next ρ2)\/g ρ1=.ok (.cont ρ2))/\I (n+i+1) ρ2)->
  ∃ρ',fO h g ps ρ=.ok (.next ρ')/\I (n+ps.length) ρ'
 | [],n,ρ,h0,_=>⟨ρ,rfl,h0⟩
 | p::ps,n,ρ,h0,hs=>by
  obtain⟨ρ1,ρ2,e1,e2,i2⟩:=hs 0 p ρ rfl h0
  obtain⟨ρ3,e3,i3⟩:=vm I ps (n+1) ρ2 i2 fun i q ρ' hq hi=>by
   have:=hs (i+1) q ρ' (by simpa using hq) (by rw[show n+(i+1)=n+1+i by omega];exact hi);rw[show n+(i+1)+1=n+1+i+1 by omega] at this;exact this
  refine⟨ρ3,?_,by rw[KU,show n+(ps.length+1)=n+1+ps.length by omega];exact i3⟩;unfold fO;rw[e1];rcases e2 with e2 | e2 <;> (simp only[R.ofO_some,R.ok_bind,e2];exact e3)
theorem ye{h:Tgt}{g:PSt->R Fl}{ps:List PV}{ρ:PSt}(I:Nat->PSt->Prop)(h0:I 0 ρ)
  (hs:∀(i:Nat)(p:PV)(ρ:PSt),ps[i]?=some p->I i ρ->∃ρ1 ρ2,h p ρ=some ρ1/\(g ρ1=.ok (.next ρ2)\/g ρ1=.ok (.cont ρ2))/\I (i+1) ρ2) :
  ∃ρ',fO h g ps ρ=.ok (.next ρ')/\I ps.length ρ':=by
 have:=vm I ps 0 ρ h0 fun i p ρ hp hi=>by
  rw[Nat.zero_add] at hi ⊢;exact hs i p ρ hp hi
 simpa using this
theorem sh(lo:Int)(n:Nat):(ck lo n).length=n:=by simp[ck]
theorem si{lo:Int}{n i:Nat}{p:PV}(h:(ck lo n)[i]?=some p):i<n/\p=.int (lo+i):=by
 unfold ck at h;rw[K2] at h
 by_cases hi:i<n
 ·rw[NQ hi] at h
  exact⟨hi,(Kl h).symm⟩
 ·rw[OL (by simpa using hi)] at h
  cases h
theorem forR{h:Tgt}{g:PSt->R Fl}{lo:Int}{n:Nat}{ρ:PSt}(I:Nat->PSt->Prop)(h0:I 0 ρ)
  (hs:∀(i:Nat)(ρ:PSt),i<n->I i ρ->∃ρ1 ρ2,h (.int (lo+i)) ρ=some ρ1/\(g ρ1=.ok (.next ρ2)\/g ρ1=.ok (.cont ρ2))/\I (i+1) ρ2) :
  ∃ρ',fO h g (ck lo n) ρ=.ok (.next ρ')/\I n ρ':=by
 obtain⟨ρ',e,i'⟩:=ye (ps:=ck lo n) I h0 fun i p ρ hp hi=>by
  obtain⟨hn,rfl⟩:=si hp;exact hs i ρ hn hi
 rw[sh] at i';exact⟨ρ',e,i'⟩
theorem vk{α:Type}{enc:α->PV}{h:Tgt}{g:PSt->R Fl}{xs:List α}(I:List α->PSt->Prop)
  (hs:∀(pre:List α)(x:α)(post:List α)(ρ:PSt),xs=pre++x::post->I pre ρ->∃ρ1 ρ2,h (enc x) ρ=some ρ1/\(g ρ1=.ok (.next ρ2)\/g ρ1=.ok (.cont ρ2))/\I (pre++[x]) ρ2) :
  ∀(ys pre:List α)(ρ:PSt),xs=pre++ys->I pre ρ->∃ρ',fO h g (ys.map enc) ρ=.ok (.next ρ')/\I xs ρ'
 | [],pre,ρ,e,h0=>⟨ρ,rfl,by rw[e,Kq];exact h0⟩
 | y::ys,pre,ρ,e,h0=>by
  obtain⟨ρ1,ρ2,e1,e2,i2⟩:=hs pre y ys ρ e h0;obtain⟨ρ3,e3,i3⟩:=vk I hs ys (pre++[y]) ρ2 (by rw[e];simp) i2;refine⟨ρ3,?_,i3⟩;rw[JQ];unfold fO;rw[e1];rcases e2 with e2 | e2 <;> (simp only[R.ofO_some,R.ok_bind,e2];exact e3)
theorem forM{α:Type}{enc:α->PV}{h:Tgt}{g:PSt->R Fl}{xs:List α}{ρ:PSt}(I:List α->PSt->Prop)(h0:I [] ρ)
  (hs:∀(pre:List α)(x:α)(post:List α)(ρ:PSt),xs=pre++x::post->I pre ρ->∃ρ1 ρ2,h (enc x) ρ=some ρ1/\(g ρ1=.ok (.next ρ2)\/g ρ1=.ok (.cont ρ2))/\I (pre++[x]) ρ2) :
  ∃ρ',fO h g (xs.map enc) ρ=.ok (.next ρ')/\I xs ρ':=vk I hs xs [] ρ rfl h0
end PU
namespace PU
open PySem PySem.Spec PyProof.Rows L2 PySem.SeqAt
def Fy:List PV->Option (List Key)
 | []=>some []
 | p::r=>(e6 p).bind fun k=>(Fy r).map fun l=>k::l
def Ir:PV->Option (Key ⊕ List Key)
 | .tup qs=>(Fy qs).map .inr
 | p=>(e6 p).map .inl
def Fx:List PV->Option cU
 | []=>some []
 | p::r=>(Ir p).bind fun k=>(Fx r).map fun l=>k::l
def rZ:PV->Option cU
 | .tup ps=>Fx ps
 | _=>none
def iV:PV->PV->Option PV
 | q,.dtt ks _=>(rZ q).map fun k=>.bl (!(ks.any fun j=>decide (j=k)))
 | _,_=>none
noncomputable def AA(ks:List cU)(ps:List PV)(k:cU)(p:PV):List PV:=List.zipWith (fun j q=>if j=k then p else q) ks ps
def wo(ks:List cU)(ps:List PV)(k:cU)(p:PV):PV:=if (ks.any fun j=>decide (j=k))=true then .dtt ks (AA ks ps k p) else .dtt (ks++[k]) (ps++[p])
def ox(i:Nat)(fk fv:PSt->R PV):PSt->R Fl:=fun ρ=>match ρ[i]? with
 | some (.own (.dtt ks ps))=>fv ρ >>= fun p=>fk ρ >>= fun kp=>R.ofO (rZ kp) >>= fun k=>if ks.length<16777216 then .ok (.next (ρ.set i (.own (wo ks ps k p)))) else .no
 | _=>.no
def sM(fk fv:PSt->R PV):PSt->R PV:=fun ρ=>fk ρ >>= fun kp=>fv ρ >>= fun p=>R.ofO (rZ kp) >>= fun k=>.ok (.dtt [k] [p])
variable[TW]
theorem o7{K:JH}{H:Hp}:∀{ps:List PV}{xs:List V}{ks:List Key},Fy ps=some ks->aB K H ps xs->xs=ks.map kV
 | [],_,_,e,r=>by cases e;cases r;rfl
 | p::ps,_,_,e,⟨x,t,ex,h1,h2⟩=>by
  obtain⟨k,ek,e⟩:=K3.mp e;obtain⟨l,el,e⟩:=JV.mp e;subst e ex;rw[JQ,← cH ek h1.o,← o7 el h2]
theorem o6{K:JH}{H:Hp}:∀{ps:List PV}{xs:List V}{ks:cU},Fx ps=some ks->aB K H ps xs->NV H ks xs
 | [],xs,ks,e,r=>by cases e;exact r
 | p::ps,xs,ks,e,r=>by
  obtain⟨x,t,rfl,r1,r2⟩:=r;unfold Fx at e;obtain⟨k,e1,e⟩:=K3.mp e;obtain⟨l,e2,e⟩:=JV.mp e;cases e;have ih:=o6 e2 r2;cases p with
  | tup qs=>
   obtain⟨j,e3,e4⟩:=JV.mp (show (Fy qs).map LW=some k from e1);subst e4;obtain⟨c,ys,rfl,hc,rr⟩:=r1;rw[o7 e3 rr] at hc;exact⟨c,t,rfl,hc,ih⟩
  | int i=>
   cases e1;cases (show x=.int i from r1);exact⟨t,rfl,ih⟩
  | str i=>
   cases e1;cases (show x=.str i from r1);exact⟨t,rfl,ih⟩
  | _=>cases e1
theorem m8{K:JH}{H:Hp}{p:PV}{v:V}{k:cU}(e:rZ p=some k)(r:bg K H p v):∃b,v=.ref b/\f9 H b k:=by
 cases p with
 | tup ps=>
  obtain⟨a,xs,rfl,g,rr⟩:=r;exact⟨a,rfl,xs,g,o6 e rr⟩
 | _=>cases e
theorem wK{kvs:List (cU×V)}{k:cU}:(jo kvs k).isSome=((kvs.map (·.1)).any fun j=>decide (j=k)):=by
 rw[Lg];unfold jo;rw[Og]
 induction kvs with
 | nil=>rfl
 | cons kv r ih=>
  rw[LK,Kw];simp only[MW];cases decide (kv.1=k) with
  | true=>rfl
  | false=>exact ih
section
variable{X : Cx}
theorem xC(hu:X.A.units+64<cLine):OpR X (Kk .NotIn) (rP X.K iV):=by
 intro pins s σ H x y v u Q I rx ry ⟨p,q,z,hp,hq,e,k⟩;unfold iV at e;split at e
 ·rename_i ks ps
  obtain⟨kk,ek,ez⟩:=JV.mp e;subst ez;obtain⟨a,kvs,rfl,g,e1,r⟩:=hq;cases ry;obtain⟨b,rfl,hb⟩:=m8 ek hp;have dg:Ij H a (.ref b) (jo kvs kk):=.inr ⟨kvs,kk,b,g,rfl,hb,rfl⟩;refine BH (by omega) I dg rx fun s' I'=>⟨.bl _,H,I',rfl,k _ H (Same.refl H) ?_⟩;subst e1;rw[wK];rfl
 ·cases e
end
theorem qj:uY iV:=fun p q z e=>by
 unfold iV at e;split at e
 ·obtain⟨b,_,ez⟩:=JV.mp e;exact⟨_,ez.symm⟩
 ·cases e
theorem lH{K:JH}{H:Hp}{k:cU}{p:PV}{v:V}(rp:Rep K H p v):∀{kvs:List (cU×V)}{ps:List PV},aB K H ps (kvs.map (·.2))->aB K H (AA (kvs.map (·.1)) ps k p) ((kvs.map fun kv=>if kv.1=k then (kv.1,v) else kv).map (·.2))
 | [],ps,r=>by
  cases ps with
  | nil=>rfl
  | cons q qs=>obtain⟨x,t,e,_⟩:=r;cases e
 | kv::kvs,ps,r=>by
  cases ps with
  | nil=>cases r
  | cons q qs=>
   obtain⟨x,t,e,h1,h2⟩:=r;simp only[JQ,M0] at e;obtain⟨rfl,rfl⟩:=e;have ih:=lH (k:=k) rp h2;simp only[JQ,AA,Lf]
   by_cases hk:kv.1=k
   ·rw[if_pos hk,if_pos hk];exact⟨_,_,rfl,rp,ih⟩
   ·rw[if_neg hk,if_neg hk];exact⟨_,_,rfl,h1,ih⟩
theorem u5{K:JH}{H:Hp}{kvs:List (cU×V)}{ps:List PV}{k:cU}{p:PV}{v:V}(rr:aB K H ps (kvs.map (·.2)))(rp:Rep K H p v) :
  ∃ks' ps',wo (kvs.map (·.1)) ps k p=.dtt ks' ps'/\(putK kvs k v).map (·.1)=ks'/\aB K H ps' ((putK kvs k v).map (·.2)):=by
 unfold wo;have e:((kvs.map (·.1)).any fun j=>decide (j=k))=(kvs.any fun kv=>decide (kv.1=k)):=by rw[Lg];rfl
 rw[e];unfold putK
 split
 ·refine⟨_,_,rfl,?_,lH rp rr⟩
  rw[K4];apply NO;intro kv _;simp only[MW]
  split <;> rfl
 ·refine⟨_,_,rfl,by simp,?_⟩
  rw[KL];exact aB.append rr ⟨_,_,rfl,rp,rfl⟩
theorem xo{K:JH}{H:Hp}{a:Addr}{kvs:List (cU×V)}{ps:List PV}{k:cU}{p:PV}{v:V}(rr:aB K H ps (kvs.map (·.2)))(rp:Rep K H p v)(ha:H a=some (.dT (putK kvs k v))):bY K H a (wo (kvs.map (·.1)) ps k p):=by
 obtain⟨ks',ps',e,e1,e2⟩:=u5 (k:=k) rr rp;rw[e];exact⟨_,ha,e1,e2⟩
theorem Aq{C:Cn}(i:Nat){x:Str}{ke e:Expr}{fk fv:PSt->R PV}{np pos' pos:La}(hu:C.X.A.units+64<cLine)(hk:EV C ke fk)(hv:EV C e fv)(hN:C.X.N[i]?=some x:=by rfl)(hvis:Vis C.X.env.scope x:=by first | exact .inl rfl | exact .inr (.inl rfl) | exact .inr (.inr rfl))
  (hs:MK e (some (.Subscript (.Name x np) ke pos')) pos.line C.X.env=pure false:=by rfl) (hd:(x == ("__debug__":Str))=false:=by decide) (hcd:(x == ("__classdict__":Str))=false:=by decide) :
  SV C (.Assign [.Subscript (.Name x np) ke pos'] e pos) (ox i fk fv):=by
 intro pins s σ H D I ⟨ρ,B,S,q⟩;unfold ox at q;split at q
 ·rename_i ks ps e1
  obtain⟨a,e2,kvs,hx,ek,rr⟩:=S.vw i _ e1;refine pT (by omega) (eG hN hvis hd hcd) hk hv hs pins s σ H D I ⟨ρ,S.vw,(q.bind S.same).imp fun p _ q1 v H1 s1 r1=>⟨_,e2,ρ,S.vw.same s1,(q1.bind (S.same.trans s1)).imp fun kp _ q2 y H2 s2 r2=>?_⟩⟩;obtain⟨k,e3,q3⟩:=RS.ofO q2
  by_cases hl:ks.length<16777216
  ·rw[if_pos hl] at q3
   obtain⟨b,rfl,hb⟩:=m8 e3 r2.o;subst ek;have hx2:H2 a=some (.dT kvs):=s2 _ _ (s1 _ _ hx);refine⟨a,_,rfl,yI.t hx2 hb (by rw[Ke];simpa using hl),?_⟩;have kp:Kp H2 (upd H2 a (.dT (putK kvs k v))):=Kp.upd hx2 rfl;refine q3 σ _ (((S.grow s1).grow s2).turn e1 e2 (fun b hb=>av hb) ⟨a,rfl,?_⟩);exact xo (aB.kp kp _ ((rr.same s1).same s2)) (Rep.kp kp _ (r1.same s2)) ar
  ·rw[if_neg hl] at q3
   exact JP q3
 ·exact JP q
theorem EG{X:Cx}{pins:List (Addr×Obj)}{σ:L2.St}{H:Hp}{s:JM}{a b:Addr}{v:V}{r:JJ}{A:KY}{E:JJ->JM->Prop}{kvs:List (cU×V)}{k:cU}{Q:Unit->JM->Prop}(hu:A.units+16<cLine)(I:Inv X pins σ H s)
  (e:H a=some (.dT kvs)) (eb:f9 H b k) (l:kvs.length<sizeLine) (rv:RelV v r) (h:∀s',Inv X pins σ (upd H a (.dT (putK kvs k v))) s'->Q () s') :
  JZ (KM X.prog X.w) A (dictSet a (.ref b) r) Q E s:=by
 obtain⟨z,hd,xs,rel,dd⟩:=EC I.hok e;have hz:xs.length<=sizeLine:=by rw[← Ki rel];exact z
 have hl:(putK kvs k v).length<=sizeLine:=by have:=dS kvs k v;omega
 refine wpAny_dictSet_heap (hsz:=hz) (knd:=gq X.prog X.w) (show A.units+8<cLine by omega) (key_of I.hok eb) dd fun h' dd' hs=>h _ ?_;obtain⟨q,es,ep,hq,h2,h3,h4,_,h5⟩:=dd';refine kR I (by rw[e];exact N1) hs ⟨q,hq⟩ ⟨hl,hd,_,(rel.put k eb rv).keeps fun c ys ec=>?_,q,es,ep,hq,h2,h3,h4,h5⟩;rw[av (DE ec e (fun z=>nomatch z))];exact ec
theorem yn{C:Cn}{k v:Expr}{fk fv:PSt->R PV}{pos:La}(hu:C.X.A.units+64<cLine)(hk:EV C k fk)(hv:EV C v fv):EN C (.Dict [some k] [v] pos) (sM fk fv):=by
 intro pins s σ H Q I ⟨ρ,vw,q⟩;have hn:=I.hok.fresh (K8 s.heap.objs.size);have I1:=I.laid (a:=s.heap.objs.size) (o:=.dT []) (h':=s.heap.push { cls:=.type "dict",data:=.dict #[] }) (t':=s.toks) (fun _ _ q=>JN _ q) (K8 _) (yq s.heap I.big)
 refine wpAny_Dict_any rfl rfl (by simp) (show 1<=15 by decide) (thn (mH hk hv ub pins _ σ _ (fun ps H3=>∃b k y,ps=[(.ref b,y)]/\f9 H3 b k/\H3 s.heap.objs.size=some (.dT [])/\Q (.ref s.heap.objs.size) (upd H3 s.heap.objs.size (.dT (putK [] k y)))) I1
  ⟨ρ,vw.same (Same.new hn),(q.bind.same (Same.new hn)).imp fun kp _ q1 x H1 s1 r1=>⟨ρ,vw.same ((Same.new hn).trans s1),(q1.bind.same ((Same.new hn).trans s1)).imp fun p _ q2 y H2 s2 r2=>?_⟩⟩) fun ws s2 ⟨ps,H2,I2,rel,b,k,y,ep,hb,hd,q2⟩=>?_)
 ·obtain⟨k,ek,q3⟩:=q2.bind.ofO
  obtain⟨b,rfl,hb⟩:=m8 ek (r1.same s2).o;have hd:H2 s.heap.objs.size=some (.dT []):=s2 _ _ (s1 _ _ ar);refine⟨b,k,y,rfl,hb,hd,?_⟩;have kp:Kp H2 (upd H2 s.heap.objs.size (.dT (putK [] k y))):=Kp.upd hd rfl;exact q3 s.heap.objs.size _ ((((Same.new hn).trans s1).trans s2).but hn (fun u h=>by rw[hd] at h;cases h;rfl) (fun b hb=>av hb)) hn ⟨_,ar,rfl,⟨_,_,rfl,Rep.kp kp _ r2,rfl⟩⟩
 ·subst ep
  cases rel with
  | @cons _ w _ ws h t=>
  cases t;obtain⟨w1,w2⟩:=w;cases (show w1=Kh b from h.1);unfold PySem.storeAll;rw[List.forIn_cons];refine JI (JI (EG (by omega) I2 hd hb (by rw[Ke];decide) h.2 fun s' I'=>JO ?_));dsimp only;rw[List.forIn_nil];exact JO ⟨.ref s.heap.objs.size,_,I',rfl,q2⟩
end PU
namespace PU
open PySem PySem.Spec PyProof.Rows L2 PySem.SeqAt
noncomputable def BU(i:Nat)(f:PSt->R PV):PSt->R Fl:=fun ρ=>match ρ[i]? with
 | some (.val (.int a))=>f ρ >>= fun q=>match q with
  | .int b=>.ok (.next (ρ.set i (.val (.int (a+b)))))
  | _=>.no
 | _=>.no
variable[TW]
theorem CN{C:Cn}{e:Expr}{f:PSt->R PV}{pos:La}(i:Nat){x:Str}{pos':La}(hN:C.X.N.Nodup)(he:EV C e f)
  (hf:C.X.fn x=true\/C.X.env.scope.names.lookup x=some .local:=by first | exact .inl rfl | exact .inr rfl | assumption) (hi:C.X.N[i]?=some x:=by rfl) (hx:Loc C.X.env.scope x:=by first | exact .inl rfl | exact .inr rfl) :
  SV C (.AugAssign (.Name x pos') .Add e pos) (BU i f):=by
 intro pins s σ H D I ⟨ρ,B,S,h⟩;unfold BU at h;split at h
 ·rename_i a e1
  obtain⟨v,ev,rv⟩:=S.vw i _ e1;cases (show v=.int a from rv);refine Dd hN hi hx he Ed hf pins s σ H D I ⟨_,ev,ρ,S.vw,(h.bind S.same).imp fun q _ k w H1 s1 r1=>?_⟩;cases q with
  | int b=>
   cases (show w=.int b from r1);exact⟨a,b,rfl,rfl,k _ H1 ((S.grow s1).setV rfl)⟩
  | _=>exact JP k
 ·exact JP h
end PU
namespace PU
open PySem PySem.Spec PyProof.Rows L2 PySem.SeqAt
variable[TW]
noncomputable def trC(H:Hp)(l:List (Addr×Obj)):Hp:=fun b=>match l.lookup b with
 | some o=>some (.frz o (.own 0))
 | none=>H b
noncomputable def drC(H:Hp)(l:List (Addr×Obj)):Hp:=fun b=>match l.lookup b with
 | some _=>none
 | none=>H b
theorem jK{H:Hp}{l:List (Addr×Obj)}{b:Addr}{o:Obj}(h:l.lookup b=some o):trC H l b=some (.frz o (.own 0)):=by unfold trC;rw[h]
theorem aV{H:Hp}{l:List (Addr×Obj)}{b:Addr}(h:l.lookup b=none):trC H l b=H b:=by unfold trC;rw[h]
theorem kQ{H:Hp}{l:List (Addr×Obj)}{b:Addr}{o:Obj}(h:l.lookup b=some o):drC H l b=none:=by unfold drC;rw[h]
theorem b8{H:Hp}{l:List (Addr×Obj)}{b:Addr}(h:l.lookup b=none):drC H l b=H b:=by unfold drC;rw[h]
structure Cls(X:Cx)(H:Hp)(s:JM)(l:List (Addr×Obj)):Prop where
 at_:∀c o,l.lookup c=some o->s.heap.get? c=some o
 fr:∀c o,l.lookup c=some o->H c=none
 bs:∀c o,l.lookup c=some o->X.base.get? c=none
 st:∀c o,l.lookup c=some o->c ∉ frs X.stack
section
variable{X : Cx}{pins : List (Addr×Obj)}{σ : L2.St}{H H' : Hp}{s s' : JM}{l : List (Addr×Obj)}
theorem Cls.out(hc:Cls X H s l){b:Addr}{o:HO}(e:H b=some o):l.lookup b=none:=by
 cases q:l.lookup b with
 | none=>rfl
 | some u=>rw[hc.fr b u q] at e;cases e
theorem Et(I:L2.Inv X pins σ H s)(hc:Cls X H s l):Env0 X.prog X.w X.K X.mg X.base X.A X.stack s (trC H l):=by
 have e:=I.env0;refine⟨e.frames,e.mod,fun b o h=>⟨(e.bs b o h).1,?_⟩,e.bsz,e.funs,fun b hb=>?_,fun b o h=>?_,e.bare⟩
 ·cases q:l.lookup b with
  | none=>rw[aV q];exact(e.bs b o h).2
  | some u=>rw[hc.bs b u q] at h;cases h
 ·cases q:l.lookup b with
  | none=>rw[aV q];exact e.frf b hb
  | some u=>exact absurd hb (hc.st b u q)
 ·cases q:l.lookup b with
  | some u=>
   rw[jK q] at h;cases h;exact⟨hc.at_ b u q,u,hc.at_ b u q⟩
  | none=>
   rw[aV q] at h;exact(e.hok b o h).stay (fun _ _ _ z=>z) (fun c z=>by rw[aV (hc.out z)];exact z) fun c xs z=>by rw[aV (hc.out z)];exact z
theorem oD(un:Un (frs X.stack) [] (trC H l) H' s.heap s'.heap){b:Addr}{o:HO}(e:H' b=some o)(n:∀q,o≠.frz q (.own 0)):l.lookup b=none:=by
 cases q:l.lookup b with
 | none=>rfl
 | some u=>
  rw[un.frzs b u _ (jK q)] at e;cases e;exact absurd rfl (n u)
theorem unC(hc:Cls X H s l)(un:Un (frs X.stack) [] (trC H l) H' s.heap s'.heap)(hok:HOk X.prog X.w H' s'.heap):Un (frs X.stack) [] H (drC H' l) s.heap s'.heap where
 keep:=fun b o e n hb hx=>by
  cases q:l.lookup b with
  | none=>exact un.keep b o e (by rw[aV q];exact n) hb hx
  | some u=>
   have h1:=hc.at_ b u q;rw[e] at h1;cases h1;exact(hok b _ (un.frzs b o _ (jK q))).1
 slot:=fun b o e n hb hx=>by
  cases q:l.lookup b with
  | none=>exact un.slot b o e (by rw[aV q];exact n) hb hx
  | some u=>exact absurd hb (hc.st b u q)
 free:=fun b o e n hx=>by
  cases q:l.lookup b with
  | none=>rw[b8 q];exact un.free b o e (by rw[aV q];exact n) hx
  | some u=>exact kQ q
 there:=un.there
 tups:=fun b xs e=>by
  have q:=hc.out e;rw[b8 q];exact un.tups b xs (by rw[aV q];exact e)
 frzs:=fun b o u e=>by
  have q:=hc.out e;rw[b8 q];exact un.frzs b o u (by rw[aV q];exact e)
 tbls:=fun b ps e=>by
  have q:=hc.out e;rw[b8 q];exact un.tbls b ps (by rw[aV q];exact e)
theorem Jg(un:Un (frs X.stack) [] (trC H l) H' s.heap s'.heap)(hok:HOk X.prog X.w H' s'.heap):HOk X.prog X.w (drC H' l) s'.heap:=fun b o e=>by
 cases q:l.lookup b with
 | some u=>rw[kQ q] at e;cases e
 | none=>
  rw[b8 q] at e;exact(hok b o e).stay (fun _ _ _ z=>z) (fun c z=>by rw[b8 (oD un z fun _ h=>by cases h)];exact z) fun c xs z=>by rw[b8 (oD un z fun _ h=>by cases h)];exact z
theorem CV(hc:Cls X H s l)(un:Un (frs X.stack) [] (trC H l) H' s.heap s'.heap)(sm:Same (trC H l) H'):Same H (drC H' l):=
 ⟨fun b o e n=>by
  have q:=hc.out e;rw[b8 q];exact sm.at_ b o (by rw[aV q];exact e) n,fun b ps e=>by
  have q:=hc.out e;obtain⟨p1,e1,k1⟩:=sm.tb b ps (by rw[aV q];exact e);refine⟨p1,by rw[b8 q];exact e1,fun t=>?_⟩;have t1:=k1 ⟨t.1,fun pos v h=>let ⟨c,f1,f2⟩:=t.2 pos v h;⟨c,f1,by rw[aV (hc.out f2)];exact f2⟩⟩;exact⟨t1.1,fun pos v h=>let ⟨c,f1,f2⟩:=t1.2 pos v h;⟨c,f1,by rw[b8 (oD un f2 fun _ h=>by cases h)];exact f2⟩⟩⟩
theorem zY{Q:VK}{u:JJ}(I:L2.Inv X pins σ H s)(hc:Cls X H s l)(h:CE X.stack X.prog X.w (trC H l) s (fun v H'=>Un (frs X.stack) [] (trC H l) H' s.heap s'.heap->Q v (drC H' l)) u s'):EP X pins σ Q u s':=by
 obtain⟨v,H',os,bare,un,hok,r,q⟩:=h;obtain⟨hh,g,d,t,os'⟩:=s';obtain rfl:os'=s.os:=os;exact⟨v,drC H' l,I.call (h':=hh) (g':=g) (d':=d) (t':=t) (ch:=[]) (unC hc un hok) (Jg un hok) bare (fun b z=>absurd z (by simp)),r,q un⟩
end
mutual
noncomputable def noFn:PV->Bool
 | .fn _ _=>false
 | .tup ps=>aL ps
 | .lst ps=>aL ps
 | .dct _ ps=>aL ps
 | .dtt _ ps=>aL ps
 | _=>true
noncomputable def aL:List PV->Bool
 | []=>true
 | p::ps=>noFn p && aL ps
end
noncomputable def Eb:HO->Bool
 | .tup _=>true
 | .frz _ (.lst _)=>true
 | .frz _ (.dK _)=>true
 | .frz _ (.dT _)=>true
 | _=>false
mutual
theorem Rep.pl{K:JH}{H H':Hp}(k:∀b u,H b=some u->Eb u=true->H' b=some u):∀(p:PV){v:V},noFn p=true->Rep K H p v->Rep K H' p v
 | .non,_,_,h=>h
 | .bl _,_,_,h=>h
 | .int _,_,_,h=>h
 | .str _,_,_,h=>h
 | .tup ps,_,n,⟨a,xs,e,h,r⟩=>⟨a,xs,e,k _ _ h rfl,aB.pl k ps n r⟩
 | .lst ps,_,n,⟨a,xs,e,h,r⟩=>⟨a,xs,e,by
   rcases h with⟨o,h⟩ | h
   ·exact .inl ⟨o,k _ _ h rfl⟩
   ·exact .inr h,aB.pl k ps n r⟩
 | .dct ks ps,_,n,⟨a,kvs,e,h,ek,r⟩=>⟨a,kvs,e,by
   rcases h with⟨o,h⟩ | h
   ·exact .inl ⟨o,k _ _ h rfl⟩
   ·exact .inr h,ek,aB.pl k ps n r⟩
 | .dtt ks ps,_,n,⟨a,o,kvs,e,h,ek,r⟩=>⟨a,o,kvs,e,k _ _ h rfl,ek,aB.pl k ps n r⟩
 | .fn _ _,_,n,_=>by cases n
theorem aB.pl{K:JH}{H H':Hp}(k:∀b u,H b=some u->Eb u=true->H' b=some u):∀(ps:List PV){xs:List V},aL ps=true->aB K H ps xs->aB K H' ps xs
 | [],_,_,h=>h
 | p::ps,_,n,⟨x,r,e,h1,h2⟩=>by
  have n:(noFn p && aL ps)=true:=n;rw[Ks] at n;exact⟨x,r,e,Rep.pl k p n.1 h1,aB.pl k ps n.2 h2⟩
end
theorem mY{u:HO}(h:Eb u=true):∀q,u≠.frz q (.own 0):=fun q e=>by subst e;cases h
end PU
namespace PU
open PySem PySem.Spec PyProof.Rows L2 PySem.SeqAt
variable[TW]
theorem w6{p:La}{r:List JJ}(l:List JJ)(h:TriplesOk l):Me p (l++r)=(Me p l).or (Me p r):=by
 fun_induction TriplesOk l with
 | case1=>simp[Me]
 | case2 a t b u x rest ih=>
  simp only[Lz,Me]
  split
  ·rfl
  ·exact ih h
 | case3 l h1 h2=>exact h.elim
theorem vZ{p pos:La}{c v:JJ}(h:Me p [Mb pos.line,Mb pos.col,c]=some v):v=c/\p.line=pos.line/\p.col=pos.col:=by
 simp only[Me,Mb] at h;split at h
 ·rename_i hc
  cases h;simp only[Ks,beq_iff_eq] at hc;exact⟨rfl,by omega,by omega⟩
 ·cases h
section
variable{X : Cx}{pins : List (Addr×Obj)}{σ : L2.St}{H : Hp}{s : JM}
theorem Bo{H':Hp}{h':Heap}{P:Addr}{ps more:Array JJ}{t':Nat}(I:L2.Inv X pins σ H s)(hP:H P=some (.tbl ps))(hx:N6 P s.heap h')(hp:H' P=some (.tbl (ps++more)))(gP:h'.get? P=some (Lh (ps++more)))
  (old:∀b,b<s.heap.objs.size->b≠P->H' b=H b) (new:∀b o,s.heap.objs.size<=b->H' b=some o->dw X.prog X.w H' h' b o):L2.Inv X pins σ H' { s with heap:=h',toks:=t' }:=by
 have lt:∀b o,H b=some o->b<s.heap.objs.size:=fun b o e=>I.hok.lt e;have k:∀b o,b≠P->H b=some o->H' b=some o:=fun b o n e=>by rw[old b (lt b o e) n];exact e
 have nP:∀{b:Addr}{o:HO},H b=some o->(∀q,o≠.tbl q)->b≠P:=fun {b o} e n z=>by subst z;rw[hP] at e;cases e;exact n _ rfl
 refine I.un ⟨fun b o e n _ _=>hx b o (fun z=>by subst z;rw[hP] at n;cases n) e,fun b o e n _ _=>⟨o.slots,hx b o (fun z=>by subst z;rw[hP] at n;cases n) e⟩,
  fun b o e n _=>by rw[old b (JR e) (fun z=>by subst z;rw[hP] at n;cases n)];exact n,fun b o e _=>?_,fun b xs e=>k b _ (nP e fun _ z=>by cases z) e,fun b o u e=>k b _ (nP e fun _ z=>by cases z) e,fun b qs e=>?_⟩ fun b o e=>?_
 ·by_cases hb:b=P
  ·subst hb;exact⟨_,gP⟩
  ·exact⟨o,hx b o hb e⟩
 ·by_cases hb:b=P
  ·subst hb
   rw[hP] at e;cases e;exact⟨more,hp⟩
  ·exact⟨#[],by rw[k b _ hb e];simp⟩
 ·by_cases hl:b<s.heap.objs.size
  ·by_cases hb:b=P
   ·subst hb
    rw[hp] at e;cases e;exact gP
   ·rw[old b hl hb] at e
    refine(I.hok b o e).stay (fun c u hc q=>hx c u (fun z=>?_) q) (fun c q=>k c _ (nP q fun _ z=>by cases z) q) fun c xs q=>k c _ (nP q fun _ z=>by cases z) q;rcases hc with h | h
    ·exact hb (h▸z)
    ·exact nP h (fun _ z=>by cases z) z
  ·exact new b o (Pb hl) e
theorem zp{F:Obj}{c':Addr}{q:Str}{h':Heap}{t':Nat}(I:L2.Inv X pins σ H s)(hk:∀b o,s.heap.get? b=some o->h'.get? b=some o)(hsz:s.heap.objs.size<=h'.objs.size)(hfr:F.isFreed=false)(hc':H c'=some (dY c' q)) :
  ∃H',L2.Inv X pins σ H' { s with heap:=h'.push F,toks:=t' }/\Same H H'/\H' h'.objs.size=some (FnAt h'.objs.size F)/\H' c'=some (dY c' q):=by
 have nf:H h'.objs.size=none:=I.hok.fresh hsz;have I1:L2.Inv X pins σ H { s with heap:=h',toks:=t' }:=I.kept (t':=t') hk;refine⟨upd H h'.objs.size (FnAt h'.objs.size F),I1.laid (a:=h'.objs.size) (t':=t') (fun _ _ q=>JN _ q) (K8 _) ⟨K6 _ hfr,⟨_,K6 _ hfr⟩,fun h1 h2 e k=>k _ e⟩,Same.new nf,ar,?_⟩;rw[av (bx hc' nf)];exact hc'
theorem zo{F:Obj}{c' P:Addr}{ps:Array JJ}{pos:La}{q:Str}{h':Heap}{t':Nat}(I:L2.Inv X pins σ H s)(hP:H P=some (.tbl ps))(hq:TW.qual pos.line pos.col=q)(hx:N6 P s.heap h')(hge:s.heap.objs.size<=c')(hlt:c'<h'.objs.size)(hrec:h'.CodeRec (.ref c') q)
  (htb:h'.get? P=some (Lh (ps++#[Mb pos.line,Mb pos.col,.ref c']))) (hfr:F.isFreed=false) :
  ∃H',L2.Inv X pins σ H' { s with heap:=h'.push F,toks:=t' }/\Same H H'/\H' h'.objs.size=some (FnAt h'.objs.size F)/\H' c'=some (dY c' q):=by
 have gP:s.heap.get? P=some (Lh ps):=I.hok P _ hP;have hPs:P<s.heap.objs.size:=JR gP;have hsz:s.heap.objs.size<=h'.objs.size:=OI (Mn hge hlt);have nc:H c'=none:=I.hok.fresh hge;have nf:H h'.objs.size=none:=I.hok.fresh hsz;have c1:c'≠P:=L8 (JY hPs hge);have f1:h'.objs.size≠P:=L8 (JY hPs hsz);have cf:c'≠h'.objs.size:=K7 hlt;obtain⟨H',hH⟩:∃H':Hp,H'=upd (upd (upd H P (.tbl (ps++#[Mb pos.line,Mb pos.col,.ref c']))) c' (dY c' q)) h'.objs.size (FnAt h'.objs.size F):=⟨_,rfl⟩;have eP:H' P=some (.tbl (ps++#[Mb pos.line,Mb pos.col,.ref c'])):=by rw[hH,av (LY f1),av (LY c1),ar]
 have ec:H' c'=some (dY c' q):=by rw[hH,av cf,ar]
 have ef:H' h'.objs.size=some (FnAt h'.objs.size F):=by rw[hH,ar]
 have old:∀b,b<s.heap.objs.size->b≠P->H' b=H b:=fun b hb hn=>by rw[hH,av (K7 (JY hb hsz)),av (K7 (JY hb hge)),av hn]
 have lt:∀b o,H b=some o->b<s.heap.objs.size:=fun b o e=>I.hok.lt e;have hx2:N6 P s.heap (h'.push F):=fun b o n e=>JN _ (hx b o n e);refine⟨H',Bo (t':=t') I hP hx2 eP (JN _ htb) old fun b o hb e=>?_,⟨fun b o e n=>?_,fun b qs e=>?_⟩,ef,ec⟩
 ·by_cases hbf:b=h'.objs.size
  ·subst hbf
   rw[ef] at e;cases e;exact⟨K6 _ hfr,⟨_,K6 _ hfr⟩,fun h1 h2 e k=>k _ e⟩
  ·by_cases hbc:b=c'
   ·subst hbc
    rw[ec] at e;cases e;obtain⟨c2,oc,vs,tq,e1,e2,e3,e4⟩:=hrec;cases e1;refine⟨⟨b,oc,vs,tq,rfl,JN _ e2,e3,e4⟩,⟨oc,JN _ e2⟩,?_⟩;intro h1 h2 ⟨c3,oc3,vs3,tq3,g1,g2,g3,g4⟩ k;cases g1;exact⟨_,oc3,vs3,tq3,rfl,k _ g2,g3,g4⟩
   ·exfalso
    rw[hH,av hbf,av hbc,av (L8 (JY hPs hb)),I.hok.fresh hb] at e;cases e
 ·have hb:b≠P:=fun z=>by subst z;rw[hP] at e;cases e;cases n
  rw[old b (lt b o e) hb];exact e
 ·have keep:∀d q,H d=some (dY d q)->H' d=some (dY d q):=fun d q e=>by
   rw[old d (lt d _ e) (fun z=>by subst z;rw[hP] at e;cases e)];exact e
  by_cases hb:b=P
  ·subst hb
   rw[hP] at e;cases e;refine⟨_,eP,fun t=>⟨?_,fun p v hv=>?_⟩⟩
   ·rw[Qc]
    exact TriplesOk_snoc _ _ _ _ t.1
   ·rw[Qc,w6 _ t.1] at hv
    cases hl:Me p ps.toList with
    | some u=>
     rw[hl] at hv;cases hv;obtain⟨d,d1,d2⟩:=t.2 p _ hl;exact⟨d,d1,keep d _ d2⟩
    | none=>
     rw[hl] at hv;obtain⟨e1,e2,e3⟩:=vZ hv;subst e1;exact⟨c',rfl,by rw[e2,e3,hq];exact ec⟩
  ·refine⟨qs,by rw[old b (lt b _ e) hb];exact e,fun t=>⟨t.1,fun p v hv=>?_⟩⟩
   obtain⟨d,d1,d2⟩:=t.2 p v hv;exact⟨d,d1,keep d _ d2⟩
def Bn (X:Cx):Prop:=∃bm o,X.mg "__builtins__"=some (.ref bm)/\bm≠L0/\bm≠mainGlobals/\X.base.get? bm=some o/\o.cls=.type "module"/\o.dict=some L0/\o.data=.plain
theorem EZ{P:Addr}{ps:Array JJ}(I:L2.Inv X pins σ H s)(hP:H P=some (.tbl ps))(hbn:Bn X):mainGlobals≠P/\s.heap.BuiltinsAt X.mg P:=by
 have nb:∀b o,X.base.get? b=some o->b≠P:=fun b o e z=>by subst z;have:=(I.bs b o e).2;rw[hP] at this;cases this
 obtain⟨bm,ob,b1,b2,b3,b4,b5,b6,b7⟩:=hbn;refine⟨?_,bm,ob,b1,b2,b3,nb _ _ b4,I.bk _ _ b4,b5,b6,b7⟩;obtain⟨o,es,ep,e,_⟩:=I.mod.glob;exact nb _ o e
theorem DL{params:Arguments}{body:Expr}{scope:Scope}{pos:La}{c P:Addr}{ps:Array JJ}{Q:JJ->JM->Prop}{E:JJ->JM->Prop}(I:L2.Inv X pins σ H s)(hP:H P=some (.tbl ps))(tk:TOk H ps)(hcode:X.env.code=.ref c)
  (CH:NK X.base c P) (hbn:Bn X)
  (hdef:defaultsOf params X.env=([],[])) (hq:TW.qual pos.line pos.col=X.env.qual++"<lambda>") (hfree:∀y∈scope.names,y.2=.free->∃c,X.env.cells.lookup y.1=some c)
  (h:∀f c' pm ct H' s',L2.Inv X pins σ H' s'->Same H H'->H' f=some (FnAt f (P4 "<lambda>" (X.env.qual++"<lambda>") params body scope (dv X.env.cells scope.names []) pm c' ct))->H' c'=some (dY c' (X.env.qual++"<lambda>"))->Q (.ref f) s') :
  JZ (KM X.prog X.w) X.A (L9 (.Lambda params body scope pos) X.env) Q E s:=by
 have gP:s.heap.get? P=some (Lh ps):=I.hok P _ hP;have hg:s.heap.Ns mainGlobals X.mg:=I.mod.glob.keeps I.bk;obtain⟨hgP,hB⟩:=EZ I hP hbn;refine PySem.W.kla_eval hdef ?_;cases hf:Me pos ps.toList with
 | some cv=>
  obtain⟨c',rfl,hc'⟩:=tk.2 pos cv hf;rw[hq] at hc';refine PySem.W.kla_makeFunctionHit (mg:=X.mg) (bu hfree) I.ok.glob hg hcode (CH.keeps I.bk) gP tk.1 hf hB fun ctv h' t' hk hsz=>?_;obtain⟨H',I',sm,e1,e2⟩:=zp (t':=t') (F:=P4 "<lambda>" (X.env.qual++"<lambda>") params body scope (dv X.env.cells scope.names []) ((X.mg "__name__").getD .none) c' ctv) I hk hsz rfl hc';exact h _ c' _ ctv H' _ I' sm e1 e2
 | none=>
  refine PySem.W.kla_makeFunction (mg:=X.mg) (bu hfree) I.ok.glob hg hcode (CH.keeps I.bk) gP tk.1 hf hgP hB fun c' ctv h' t' hx hge hlt hrec htb=>?_;obtain⟨H',I',sm,e1,e2⟩:=zo (t':=t') (F:=P4 "<lambda>" (X.env.qual++"<lambda>") params body scope (dv X.env.cells scope.names []) ((X.mg "__name__").getD .none) c' ctv) I hP hq hx hge hlt hrec htb rfl;exact h _ c' _ ctv H' _ I' sm e1 e2
theorem EF{name:Str}{params:Arguments}{body:List Stmt}{scope:Scope}{pos:La}{c P:Addr}{ps:Array JJ}{Q:Flow->JM->Prop}{E:JJ->JM->Prop}(I:L2.Inv X pins σ H s)(hP:H P=some (.tbl ps))(tk:TOk H ps)(hcode:X.env.code=.ref c)
  (CH:NK X.base c P) (hbn:Bn X) (hd0:params.defaults=[]) (hk0:params.kw_defaults=[]) (ha:annTrees params none X.env=[])
  (hq:TW.qual pos.line pos.col=OQ X.env name name) (hfree:∀y∈scope.names,y.2=.free->∃c,X.env.cells.lookup y.1=some c)
  (h:∀f c' doc pm ct H' s',L2.Inv X pins σ H' s'->Same H H'->H' f=some (FnAt f (PR name (OQ X.env name name) params body scope (dv X.env.cells scope.names []) doc pm c' ct))->H' c'=some (dY c' (OQ X.env name name))->
   JZ (KM X.prog X.w) X.A (Qm X.env name (.ref f)) (fun _ s''=>Q .next s'') E s') :
  JZ (KM X.prog X.w) X.A (exec (.FunctionDef name params body [] none [] scope none name pos) X.env) Q E s:=by
 have gP:s.heap.get? P=some (Lh ps):=I.hok P _ hP;have hg:s.heap.Ns mainGlobals X.mg:=I.mod.glob.keeps I.bk;obtain⟨hgP,hB⟩:=EZ I hP hbn;refine PySem.W.nestDef_K hd0 hk0 ha ?_;cases hf:Me pos ps.toList with
 | some cv=>
  obtain⟨c',rfl,hc'⟩:=tk.2 pos cv hf;rw[hq] at hc';refine PySem.W.makeFunction_hit (mg:=X.mg) (bu hfree) I.ok.glob hg hcode (CH.keeps I.bk) gP tk.1 hf hB fun ctv doc h' t' hk hsz=>?_;obtain⟨H',I',sm,e1,e2⟩:=zp (t':=t') (F:=PR name (OQ X.env name name) params body scope (dv X.env.cells scope.names []) doc ((X.mg "__name__").getD .none) c' ctv) I hk hsz rfl hc';exact h _ c' doc _ ctv H' _ I' sm e1 e2
 | none=>
  refine PySem.W.makeFunction_K (mg:=X.mg) (bu hfree) I.ok.glob hg hcode (CH.keeps I.bk) gP tk.1 hf hgP hB fun c' ctv doc h' t' hx hge hlt hrec htb=>?_;obtain⟨H',I',sm,e1,e2⟩:=zo (t':=t') (F:=PR name (OQ X.env name name) params body scope (dv X.env.cells scope.names []) doc ((X.mg "__name__").getD .none) c' ctv) I hP hq hx hge hlt hrec htb rfl;exact h _ c' doc _ ctv H' _ I' sm e1 e2
end
end PU
namespace PU
open PySem PySem.Spec PyProof.Rows L2 PySem.SeqAt
variable[TW]
structure LScope(ps fr ls:List Str)(sc:Scope):Prop where
 kind:sc.kind=.function
 co:sc.isCoroutine=false
 gen:sc.isGenerator=false
 nocell:∀x∈sc.names,x.2≠.cell
 par:∀x∈ps,sc.names.lookup x=some .local
 fre:∀x,sc.names.lookup x=some .free->x∈fr
 frk:∀x∈fr,sc.names.lookup x=some .free
 nd:(ps++fr++ls).Nodup
noncomputable def cxL(P:K5)(w:KH)(K:JH)(mg:Str->Option JJ)(base:Heap)(N:List Str)(qual:Str)(scope:Scope)(f:Addr)(cd:JJ)(cl:List (Str×Addr))(A:KY)(outer:List Ow)(s:JM)(H:Hp):Cx where
 prog:=P
 w:=w
 K:=K
 mg:=mg
 base:=base
 A:=A.deeper (Ml qual scope s.heap.objs.size f cd cl)
 N:=N
 s₀:=s
 H₀:=H
 env:=Ml qual scope s.heap.objs.size f cd cl
 outer:=outer
 stack:=Ml qual scope s.heap.objs.size f cd cl::outer
 ex:=[]
 calm:=true
 fn:=fun _=>false
 pn:=[]
 xe:=fun _ _=>False
theorem oN{cl:List (Str×Addr)}(nd:(cl.map (·.1)).Nodup):∀{i:Nat}{x:Str}{c:Addr},cl[i]?=some (x,c)->cl.lookup x=some c:=by
 induction cl with
 | nil=>intro i x c h;simp at h
 | cons p r ih=>
  intro i x c h;obtain⟨y,d⟩:=p;rw[JQ,Kf] at nd;cases i with
  | zero=>simp at h;obtain⟨rfl,rfl⟩:=h;simp[Qa]
  | succ i=>
   have h:r[i]?=some (x,c):=by simpa using h
   have hne:(x == y)=false:=by
    rw[beq_eq_false_iff_ne];rintro rfl;exact nd.1 (JS.mpr ⟨_,KA h,rfl⟩)
   rw[KR,hne];exact ih nd.2 h
theorem DI{cl:List (Str×Addr)}{x:Str}{c:Addr}(h:cl.lookup x=some c):∃i:Nat,cl[i]?=some (x,c):=by
 have:=Ka h;obtain⟨i,hi,e⟩:=Lu this;exact⟨i,by rw[KO hi,e]⟩
theorem v8{x y:Str}{c:Addr}:∀{cl:List (Str×Addr)},(cl.map (·.2)).Nodup->(x,c)∈cl->(y,c)∈cl->x=y
 | [],_,h,_=>nomatch h
 | (z,d)::r,nd,h1,h2=>by
  rw[JQ,Kf] at nd;rcases K9.mp h1 with e1 | m1
  ·rcases K9.mp h2 with e2 | m2
   ·cases e1;cases e2;rfl
   ·cases e1
    exact(nd.1 (JS.mpr ⟨_,m2,rfl⟩)).elim
  ·rcases K9.mp h2 with e2 | m2
   ·cases e2
    exact(nd.1 (JS.mpr ⟨_,m1,rfl⟩)).elim
   ·exact v8 nd.2 m1 m2
theorem Ee{cl:List (Str×Addr)}(nd:(cl.map (·.2)).Nodup){x y:Str}{c:Addr}(h1:cl.lookup x=some c)(h2:cl.lookup y=some c):x=y:=
 v8 nd (Ka h1) (Ka h2)
theorem sC{cl:List (Str×JJ)}(nd:(cl.map (·.1)).Nodup):∀{i:Nat}{x:Str}{c:JJ},cl[i]?=some (x,c)->cl.lookup x=some c:=by
 induction cl with
 | nil=>intro i x c h;simp at h
 | cons p r ih=>
  intro i x c h;obtain⟨y,d⟩:=p;rw[JQ,Kf] at nd;cases i with
  | zero=>simp at h;obtain⟨rfl,rfl⟩:=h;simp[Qa]
  | succ i=>
   have h:r[i]?=some (x,c):=by simpa using h
   have hne:(x == y)=false:=by
    rw[beq_eq_false_iff_ne];rintro rfl;exact nd.1 (JS.mpr ⟨_,KA h,rfl⟩)
   rw[KR,hne];exact ih nd.2 h
theorem rS{ps:List Str}{us:List JJ}(nd:ps.Nodup)(hl:us.length=ps.length){i:Nat}{x:Str}{u:JJ}(h1:ps[i]?=some x)(h2:us[i]?=some u):(ps.zip us).reverse.lookup x=some u:=by
 have hm:(x,u)∈ps.zip us:=by
  refine KA (i:=i) ?_;rw[Q3];exact⟨h1,h2⟩
 have hn:((ps.zip us).map (·.1)).Nodup:=by
  rw[List.map_fst_zip (by omega)];exact nd
 have hr:((ps.zip us).reverse.map (·.1)).Nodup:=by rw[List.map_reverse];exact List.pairwise_reverse.mpr (List.Pairwise.imp (fun h=>LY h) hn)
 obtain⟨j,hj,e⟩:=Lu (PM.mpr hm);exact sC hr (by rw[KO hj,e])
section
variable{P : K5}{w : KH}{K : JH}{mg : Str → Option JJ}{base : Heap}{ps fr ls : List Str}{qual : Str}{scope : Scope}{f : Addr}{cd : JJ}{cl : List (Str×Addr)}{A : KY}{outer : List Ow}{s : JM}{H : Hp}{l : List (Addr×Obj)}
theorem uM{us:List JJ}{vs xs:List V}{h':Heap}{t':Nat}(S:LScope ps fr ls scope)(hd:A.handled=none)(e0:Env0 P w K mg base A outer s H)(hl:∀c o,l.lookup c=some o->H c=some (.frz o (.own 0)))
  (hcl:cl.map (·.1)=fr) (nd:(cl.map (·.2)).Nodup) (hxs:xs.length=cl.length) (hx:∀(i:Nat)(x:Str)(c:Addr),cl[i]?=some (x,c)->∃v o u,xs[i]?=some v/\l.lookup c=some o/\o.data=.cell (some u)/\RelV v u)
  (r:Vals vs us) (hv:vs.length=ps.length) (ns:h'.Ns s.heap.objs.size (fun x=>(ps.zip us).reverse.lookup x)) (hk:∀b o,s.heap.get? b=some o->h'.get? b=some o) :
  L2.Inv (cxL P w K mg base (ps++fr++ls) qual scope f cd cl A outer s (drC H l)) [] ((vs++xs).map some++KZ ls.length none) (drC H l) { s with heap:=h',toks:=t' }:=by
 have noA:∀b:Addr,b ∉ ([]:List Addr):=fun b z=>nomatch z;have ndf:(cl.map (·.1)).Nodup:=by rw[hcl];exact(LA.mp (LA.mp S.nd).1).2.1
 have ndp:ps.Nodup:=(LA.mp (LA.mp S.nd).1).1
 have QN:∀x c,cl.lookup x=some c->∃(i:Nat)(v:V)(o:Obj)(u:JJ),cl[i]?=some (x,c)/\xs[i]?=some v/\l.lookup c=some o/\o.data=.cell (some u)/\RelV v u/\s.heap.get? c=some o:=fun x c h=>by
  obtain⟨i,e⟩:=DI h;obtain⟨v,o,u,e1,e2,e3,e4⟩:=hx i x c e;exact⟨i,v,o,u,e,e1,e2,e3,e4,(e0.hok c _ (hl c o e2)).1⟩
 have drn:∀b,H b=none->drC H l b=none:=fun b n=>by
  cases q:l.lookup b with
  | none=>rw[b8 q];exact n
  | some o=>exact kQ q
 have hok:HOk P w (drC H l) s.heap:=fun b o e=>by
  cases q:l.lookup b with
  | some u=>rw[kQ q] at e;cases e
  | none=>
   rw[b8 q] at e
   have out:∀{c:Addr}{o:HO},H c=some o->(∀q,o≠.frz q (.own 0))->l.lookup c=none:=fun {c o} e n=>by
    cases q:l.lookup c with
    | none=>rfl
    | some u=>rw[hl c u q] at e;cases e;exact absurd rfl (n u)
   exact(e0.hok b o e).stay (fun _ _ _ z=>z) (fun c z=>by rw[b8 (out z fun _ h=>by cases h)];exact z) fun c xs z=>by rw[b8 (out z fun _ h=>by cases h)];exact z
 refine⟨⟨e0.mod,S.kind,rfl,rfl,K8 _,fun y z c h1 h2=>Ee nd h1 h2,fun y hy=>?_,fun y c h _=>(by cases h),fun _=>hd,QH e0.frames,.inr ⟨rfl,rfl⟩,fun b z=>absurd z (noA b),fun b o e=>⟨(e0.bs b o e).1,drn b (e0.bs b o e).2⟩,e0.bsz,fun b _ _=>noA b,fun b z=>absurd z (noA b),e0.funs,fun b hb=>drn b (e0.frf b hb)⟩,
  rfl,e0.bare,Un.kept hk,⟨_,ns,fun i y v h1 h2 h3=>?_⟩,fun y c h=>?_,drn _ (e0.hok.fresh (K8 _)),fun y c h=>?_,fun p hp=>absurd (show p∈([]:List (Addr×Obj)) from hp) (by simp),hok.kept hk,?_⟩
 ·have hy:scope.names.lookup y=some .cell\/scope.names.lookup y=some .free:=hy
  rcases hy with hy | hy
  ·exact absurd rfl (S.nocell _ (Ka hy))
  ·have:=S.fre y hy
   rw[← hcl] at this;obtain⟨p,hp,e⟩:=JS.mp this;obtain⟨i,hi,e2⟩:=Lu hp;obtain⟨a,b⟩:=p;cases e;exact⟨b,oN ndf (by rw[KO hi,e2])⟩
 ·have h1:(ps++fr++ls)[i]?=some y:=h1
  have hlf:fr.length=cl.length:=by rw[← hcl,JT]
  have hi:i<(vs++xs).length:=by
   refine Nat.lt_of_not_le fun hge=>?_;rw[KN (by rw[JT];exact hge)] at h2;have:=(Oi.mp (KA h2)).2;cases this
  rw[JW (by rw[JT];exact hi),K2] at h2;rw[JW (by rw[KF] at hi ⊢;omega)] at h1;obtain⟨v',h2,e⟩:=JV.mp h2;cases e
  by_cases hi:i<ps.length
  ·rw[JW hi] at h1
   rw[JW (by omega)] at h2;obtain⟨u,hu,rv⟩:=r.get h2;exact⟨u,rv,.inl ⟨S.par y (KA h1),rS ndp (by rw[← r.length];exact hv) h1 hu⟩⟩
  ·rw[KN (by omega)] at h1
   rw[KN (by omega),hv] at h2;have hf:=S.frk y (KA h1);rw[← hcl,K2] at h1;obtain⟨p,g1,e⟩:=JV.mp h1;obtain⟨a,c⟩:=p;cases e;obtain⟨v2,o,u,e1,e2,e3,e4⟩:=hx _ _ _ g1;rw[h2] at e1;cases e1;exact⟨u,e4,.inr ⟨.inr hf,c,oN ndf g1,o,hk _ _ (e0.hok c _ (hl c o e2)).1,e3⟩⟩
 ·obtain⟨i,v,o,u,_,_,_,e3,_,e5⟩:=QN y c h
  exact⟨_,o,hk _ _ e5,e3⟩
 ·obtain⟨i,v,o,u,_,_,e2,_,_,_⟩:=QN y c h
  exact kQ e2
 ·show _=(ps++fr++ls).length
  rw[KF,JT,KF,KF,KF,hv,hxs,← hcl,JT,MB]
theorem uN{v:V}{H1:Hp}{u:JJ}{s':JM}{p:PV}{pins:List (Addr×Obj)}{N:List Str}{σ':L2.St}{Q:VK}(e0:Env0 P w K mg base A outer s H)(hl:∀c o,l.lookup c=some o->H c=some (.frz o (.own 0)))
  (J:L2.Inv (cxL P w K mg base N qual scope f cd cl A outer s (drC H l)) pins σ' H1 s') (rv:RelV v u) (sm:Same (drC H l) H1) (rp:Rep K H1 p v) (hQ:∀v H',Same H H'->Rep K H' p v->Q v H'):CE outer P w H s Q u s':=by
 have out:∀{b:Addr}{o:HO},H b=some o->(∀q,o≠.frz q (.own 0))->l.lookup b=none:=fun {b o} e n=>by
  cases q:l.lookup b with
  | none=>rfl
  | some u=>rw[hl b u q] at e;cases e;exact absurd rfl (n u)
 have outn:∀{b:Addr},H b=none->l.lookup b=none:=fun {b} n=>by
  cases q:l.lookup b with
  | none=>rfl
  | some u=>rw[hl b u q] at n;cases n
 have drn:∀{b:Addr},H b=none->drC H l b=none:=fun {b} n=>by rw[b8 (outn n)];exact n
 have tok:∀{qs:Array JJ},TOk H qs->TOk (drC H l) qs:=fun t=>⟨t.1,fun pos v h=>let ⟨c,f1,f2⟩:=t.2 pos v h;⟨c,f1,by rw[b8 (out f2 fun _ h=>by cases h)];exact f2⟩⟩;have un:Un (frs outer) [] (drC H l) H1 s.heap s'.heap:=J.base
 have n1:∀{c:Addr}{o:Obj},l.lookup c=some o->H1 c=none/\s'.heap.get? c=some o:=fun {c o} q=>by
  have g:=(e0.hok c _ (hl c o q)).1;refine⟨un.free c o g (kQ q) (by simp),un.keep c o g (kQ q) (fun z=>?_) (by simp)⟩;have:=e0.frf c z;rw[hl c o q] at this;cases this
 have out1:∀{b:Addr}{o:HO},H1 b=some o->l.lookup b=none:=fun {b o} e=>by
  cases q:l.lookup b with
  | none=>rfl
  | some u=>rw[(n1 q).1] at e;cases e
 refine⟨v,trC H1 l,J.os,J.bare,⟨fun b o e n hb hx=>un.keep b o e (drn n) hb hx,fun b o e n hb hx=>un.slot b o e (drn n) hb hx,fun b o e n hx=>by rw[aV (outn n)];exact un.free b o e (drn n) hx,un.there,fun b ys e=>?_,fun b o u e=>?_,fun b qs e=>?_⟩,fun b o e=>?_,rv,hQ v _ ⟨fun b o e n=>?_,fun b qs e=>?_⟩ (rp.same (.of fun b o e=>by rw[aV (out1 e)];exact e))⟩
 ·have q:=out e fun _ h=>by cases h
  rw[aV q];exact un.tups b ys (by rw[b8 q];exact e)
 ·cases q:l.lookup b with
  | some o'=>rw[hl b o' q] at e;cases e;exact jK q
  | none=>rw[aV q];exact un.frzs b o u (by rw[b8 q];exact e)
 ·have q:=out e fun _ h=>by cases h
  rw[aV q];exact un.tbls b qs (by rw[b8 q];exact e)
 ·cases q:l.lookup b with
  | some o'=>
   rw[jK q] at e;cases e;exact⟨(n1 q).2,o',(n1 q).2⟩
  | none=>
   rw[aV q] at e;exact(J.hok b o e).stay (fun _ _ _ z=>z) (fun c z=>by rw[aV (out1 z)];exact z) fun c xs z=>by rw[aV (out1 z)];exact z
 ·cases q:l.lookup b with
  | some o'=>rw[hl b o' q] at e;cases e;exact jK q
  | none=>rw[aV q];exact sm.at_ b o (by rw[b8 q];exact e) n
 ·have q:=out e fun _ h=>by cases h
  obtain⟨p1,e1,k1⟩:=sm.tb b qs (by rw[b8 q];exact e);refine⟨p1,by rw[aV q];exact e1,fun t=>?_⟩;have t1:=k1 (tok t);exact⟨t1.1,fun pos v h=>let ⟨c,f1,f2⟩:=t1.2 pos v h;⟨c,f1,by rw[aV (out1 f2)];exact f2⟩⟩
theorem xP{vs xs:List V}{qs cs:List PV}(n:Nat)(hl:∀c o,l.lookup c=some o->H c=some (.frz o (.own 0)))(rq:aB K H qs vs)(rc:aB K H cs xs)(nq:aL qs=true)(nc:aL cs=true)(tb:rQ H) :
  View K (drC H l) ((vs++xs).map some++KZ n none) ((qs++cs).map .val++KZ n .no):=by
 have out:∀{b:Addr}{o:HO},H b=some o->(∀q,o≠.frz q (.own 0))->l.lookup b=none:=fun {b o} e n=>by
  cases q:l.lookup b with
  | none=>rfl
  | some u=>rw[hl b u q] at e;cases e;exact absurd rfl (n u)
 have pl:∀b u,H b=some u->Eb u=true->drC H l b=some u:=fun b u e h=>by rw[b8 (out e (mY h))];exact e
 have tok:∀{qs:Array JJ},TOk H qs->TOk (drC H l) qs:=fun t=>⟨t.1,fun pos v h=>let ⟨c,f1,f2⟩:=t.2 pos v h;⟨c,f1,by rw[b8 (out f2 fun _ h=>by cases h)];exact f2⟩⟩;have rr:aB K (drC H l) (qs++cs) (vs++xs):=aB.append (aB.pl pl qs nq rq) (aB.pl pl cs nc rc);have hlen:=rr.length;refine⟨fun i z ez=>?_,fun P hP=>?_⟩
 ·by_cases hi:i<(qs++cs).length
  ·rw[JW (by rw[JT];exact hi),K2] at ez
   obtain⟨q,eq,e2⟩:=JV.mp ez;cases e2;obtain⟨v,ev,rp⟩:=rr.get eq;exact⟨v,by rw[JW (by rw[JT,← hlen];exact hi),K2,ev];rfl,rp⟩
  ·rw[KN (by rw[JT];omega)] at ez
   rw[(Oi.mp (KA ez)).2];exact trivial
 ·obtain⟨qs',e1,t⟩:=tb P hP
  exact⟨qs',by rw[b8 (out e1 fun _ h=>by cases h)];exact e1,tok t⟩
noncomputable def qy(n:Nat)(g:PSt->R Fl):PSt->R PV:=fun ρ=>match g (ρ++KZ n .no) with
 | .ok (.ret p)=>.ok p
 | .er x=>.er x
 | _=>.no
def gI(C:Cn)(n:Nat)(fe:PSt->R PV):FuncBody->Prop
 | .expr b=>n=0/\EV C b fe
 | .stmts b=>∃g,SVs C b g/\fe=qy n g
theorem uL{k:Nat}{L:Lam}{pm:JJ×JJ}{ct:JJ}{c:Addr}{us:List JJ}{vs xs:List V}{qs cs:List PV}{p:PV}{fe:PSt->R PV}{Q:VK}{E:XK}(S:LScope ps fr ls L.scope)(hr:Room (k+1) A)(e0:Env0 P w K mg base A outer s H)
  (hf:H f=some (FnAt f (ie L cl pm c ct))) (hc:H c=some (dY c L.qual)) (hl:∀c o,l.lookup c=some o->H c=some (.frz o (.own 0)))
  (hcl:cl.map (·.1)=fr) (nd:(cl.map (·.2)).Nodup) (hxs:xs.length=cl.length) (hx:∀(i:Nat)(x:Str)(c:Addr),cl[i]?=some (x,c)->∃v o u,xs[i]?=some v/\l.lookup c=some o/\o.data=.cell (some u)/\RelV v u)
  (hb:Os (qe L cl pm (.ref c) ct) ⟨us,[]⟩=pure (ps.zip us))
  (hbody:gI ⟨cxL P w K mg base (ps++fr++ls) L.qual L.scope f (.ref c) cl A outer s (drC H l),fun _ _=>False⟩ ls.length fe L.body)
  (r:Vals vs us) (hv:vs.length=ps.length) (rq:aB K H qs vs) (rc:aB K H cs xs) (nq:aL qs=true) (nc:aL cs=true) (tb:rQ H) (e:fe ((qs++cs).map .val)=.ok p)
  (hQ:∀v H',Same H H'->Rep K H' p v->Q v H') :
  NR (KM P w) A (.call (.ref f) ⟨us,[]⟩) (CR CX0 outer P w H s Q E) s:=by
 have lim:s.heap.NoLimit:=e0.mod.nolimit.keeps fun b o e=>(e0.bs b o e).1;have vw:=xP (H:=H) ls.length hl rq rc nq nc tb;cases hB:L.body with
 | expr body=>
  rw[hB] at hbody;obtain⟨n0,hbody⟩:=hbody;refine PySem.W.kla_callFunE (fd:=qe L cl pm (.ref c) ct) (body:=body) (by have:=hr.dp;omega) (e0.hok f _ hf).1 rfl S.co S.gen hB (e0.hok c _ hc).1 ?_;rw[hb];refine JO (wpAny_newFunctionEnv S.nocell (fun y hy=>S.par _ (NG hy).1) (fun h₁ hns hsb=>⟨lim.fresh _ hsb,?_⟩) S.kind);have hk:∀b o,s.heap.get? b=some o->h₁.get? b=some o:=fun b o e=>hsb.extBut b o (K7 (JR e)) (JN _ e);have I:=uM (ls:=ls) (qual:=L.qual) (f:=f) (cd:=.ref c) (t':=s.toks+(ps.zip us).length) S hr.hd e0 hl hcl nd hxs hx r hv hns hk;show NR _ _ (.expr body (Ml L.qual L.scope s.heap.objs.size f (.ref c) cl)) _ _;rw[n0] at vw;refine PySem.W.kla_codeExpr (LZ (hbody [] _ _ _ (fun v H1=>Same (drC H l) H1/\Rep K H1 p v) I ⟨_,by rw[n0];exact vw,by simp only[List.replicate_zero,Kq];rw[e];exact fun v H' s' r'=>⟨s',r'⟩⟩) (fun u s' hq=>?_) fun _ _ h=>JP h);obtain⟨v,H1,J,rv,sm,rp⟩:=hq;exact uN e0 hl J rv sm rp hQ
 | stmts body=>
  rw[hB] at hbody;obtain⟨g,hbody,rfl⟩:=hbody;refine codeAny_call_def (fd:=qe L cl pm (.ref c) ct) (body:=body) (binds:=ps.zip us) (by have:=hr.dp;omega) (e0.hok f _ hf).1 rfl lim (e0.hok c _ hc).1 hB (.of_eq hb) S.nocell (fun y hy=>S.par _ (NG hy).1) (fun h₁ hns hk=>?_) S.co S.gen S.kind;have I:=uM (ls:=ls) (qual:=L.qual) (f:=f) (cd:=.ref c) (t':=s.toks+(ps.zip us).length) S hr.hd e0 hl hcl nd hxs hx r hv hns hk;show JZ _ (A.deeper (Ml L.qual L.scope s.heap.objs.size f (.ref c) cl)) (execs body (Ml L.qual L.scope s.heap.objs.size f (.ref c) cl)) _ _ _
  have eg:g ((qs++cs).map .val++KZ ls.length .no)=.ok (.ret p):=by
   unfold qy at e;split at e
   ·rename_i q hq;cases e;exact hq
   ·cases e
   ·cases e
  have S0:StOk K (drC H l,drC H l) (drC H l) ((vs++xs).map some++KZ ls.length none) ((qs++cs).map .val++KZ ls.length .no):=by
   have nown:∀(i:Nat)(z:Sl),((qs++cs).map Sl.val++KZ ls.length .no)[i]?=some z->z=.no\/∃q,z=.val q:=fun i z ez=>by
    have:=KA ez;rcases Kd.mp this with m | m
    ·obtain⟨q,_,rfl⟩:=JS.mp m;exact .inr ⟨q,rfl⟩
    ·exact .inl (Oi.mp m).2
   refine⟨?_,Same.refl _,Kp.refl _,vw,fun i p a e=>?_,fun i j p q a e=>?_,fun i ps a e=>?_⟩
   ·have h1:=rq.length
    have h2:=rc.length;simp only[KF,JT,MB];omega
   ·rcases nown _ _ e with z | ⟨q,z⟩ <;> cases z
   ·rcases nown _ _ e with z | ⟨q,z⟩ <;> cases z
   ·rcases nown _ _ e with z | ⟨q,z⟩ <;> cases z
  refine LZ (hbody [] _ _ _ { nx:=fun _ _=>False,rt:=fun v H1=>Same (drC H l) H1/\Rep K H1 p v } I ⟨_,_,S0,by rw[eg];exact fun v H' s' r'=>⟨s',r'⟩⟩) (fun fl s' hq=>?_) fun _ _ h=>JP h;cases fl with
  | ret u=>
   obtain⟨v,σ',H1,J,rv,sm,rp⟩:=hq;exact uN e0 hl J rv sm rp hQ
  | next=>obtain⟨_,_,_,hq⟩:=hq;exact JP hq
  | brk=>obtain⟨_,_,_,hq⟩:=hq;exact JP hq
  | cont=>obtain⟨_,_,_,hq⟩:=hq;exact JP hq
end
end PU
namespace PU
open PySem PySem.Spec PyProof.Rows L2 PySem.SeqAt
variable[TW]
theorem iX{H:Hp}:∀{cl:List (Str×Addr)}{xs:List V},eU H cl xs->xs.length=cl.length/\∃l:List (Addr×Obj),(∀c o,l.lookup c=some o->H c=some (.frz o (.own 0)))/\
  ∀(i:Nat)(x:Str)(c:Addr),cl[i]?=some (x,c)->∃v o u,xs[i]?=some v/\l.lookup c=some o/\o.data=.cell (some u)/\RelV v u
 | [],xs,h=>by cases h;exact⟨rfl,[],fun c o h=>(by cases h),fun i x c h=>(by simp at h)⟩
 | p::cl,_,⟨x,r,o,u,e,h,d,v,t⟩=>by
  subst e;obtain⟨hl,l,h1,h2⟩:=iX t
  have look:∀c o',((p.2,o)::l).lookup c=some o'->H c=some (.frz o' (.own 0)):=fun c o' e=>by
   rw[KR] at e;cases hb:(c == p.2) with
   | true=>rw[hb] at e;cases e;rw[Mi hb];exact h
   | false=>rw[hb] at e;exact h1 c o' e
  refine⟨by simp[hl],(p.2,o)::l,look,fun i y c e=>?_⟩;cases i with
  | zero=>
   simp at e;subst e;exact⟨x,o,u,rfl,by simp[Qa],d,v⟩
  | succ i=>
   obtain⟨v',o',u',e1,e2,e3,e4⟩:=h2 i y c (by simpa using e);refine⟨v',o',u',by simpa using e1,?_,e3,e4⟩;rw[KR];cases hb:(c == p.2) with
   | false=>exact e2
   | true=>
    have:=h1 c o' e2;rw[Mi hb,h] at this;cases this;rfl
structure LamB(P:K5)(w:KH)(K:JH)(mg:Str->Option JJ)(base:Heap)(k:Nat)(L:Lam)(ps ls:List Str)(fe:PSt->R PV):Prop where
 sc:LScope ps L.kept ls L.scope
 bd:∀(cl:List (Str×Addr))(pm:JJ×JJ)(ct:JJ)(c:Addr)(us:List JJ),us.length=ps.length->Os (qe L cl pm (.ref c) ct) ⟨us,[]⟩=pure (ps.zip us)
 ev:∀(f c:Addr)(cl:List (Str×Addr))(A:KY)(outer:List Ow)(s:JM)(H:Hp),Room k (A.deeper (Ml L.qual L.scope s.heap.objs.size f (.ref c) cl))->
  gI ⟨cxL P w K mg base (ps++L.kept++ls) L.qual L.scope f (.ref c) cl A outer s H,fun _ _=>False⟩ ls.length fe L.body
def F6(P:K5)(w:KH)(K:JH)(mg:Str->Option JJ)(base:Heap)(k:Nat)(app:Lam->List PV->List PV->Option PV):Prop:=
 ∀L qs cs p,app L qs cs=some p->∃ps ls fe,LamB P w K mg base k L ps ls fe/\qs.length=ps.length/\fe ((qs++cs).map .val)=.ok p
def jn(i:Nat)(fs:PSt->R (List PV))(app:Lam->List PV->List PV->Option PV):PSt->R PV:=fun ρ=>match ρ[i]? with
 | some (.val (.fn L cs))=>fs ρ >>= fun qs=>if aL qs=true/\aL cs=true then R.ofO (app L qs cs) else .no
 | _=>.no
theorem nG{C:Cn}{x:Str}{e:Expr}{es:List Expr}{fs:PSt->R (List PV)}{app:Lam->List PV->List PV->Option PV}{k:Nat}{p pos:La}(i:Nat)(T:F6 C.X.prog C.X.w C.X.K C.X.mg C.X.base k app){kr:Nat}(hr:Room kr C.X.A)(ha:EA C (e::es) fs)
  (hN:C.X.N[i]?=some x:=by rfl) (hvis:Vis C.X.env.scope x:=by first | exact .inl rfl | exact .inr (.inl rfl) | exact .inr (.inr rfl)) (hdb:(x == ("__debug__":Str))=false:=by decide) (hcd:(x == ("__classdict__":Str))=false:=by decide)
  (he:K1 (e::es) C.X.env=(false,L9 e C.X.env)::K1 es C.X.env:=by exact bC rfl) (hpl:(MM pos (K1 es C.X.env)).any (·.1)=false:=by exact fg rfl) (hk:k+1<=kr:=by decide) :
  EV C (.Call (.Name x p) (e::es) [] pos) (jn i fs app):=by
 replace hr:=hr.mono hk;intro pins s σ H Q I ⟨ρ,vw,q⟩;unfold jn at q;split at q
 ·rename_i L cs e1
  obtain⟨v,ev,f,c,cl,pm,ct,xs,rfl,hf,hc,hk,nd,ca,rc⟩:=vw i _ e1;refine MC (thn (eG hN hvis hdb hcd pins s σ H (fun v' H'=>v'=.ref f/\H'=H) I ⟨_,ev,rfl,rfl⟩) fun u s1 ⟨v',H',I1,ru,e2,e3⟩=>?_);subst e2 e3;cases (show u=Kh f from ru);have fnAt:∀{H2:Hp}{s2:JM},L2.Inv C.X pins σ H2 s2->Same H' H2->PySem.W.FnAt f s2.heap:=fun {H2 s2} I2 sm=>⟨_,_,_,_,(I2.hok f _ (sm _ _ hf)).1⟩
  refine QP (fnAt I1 (Same.refl _)) (thn (ha pos pins s1 σ H' (fun vs H2=>∃qs z,aB C.X.K H2 qs vs/\Same H' H2/\aL qs=true/\aL cs=true/\app L qs cs=some z/\∀v H3,Same H' H3->Rep C.X.K H3 z v->Q v H3) I1
   ⟨ρ,vw,q.bind.imp fun qs _ k1 vs H2 sm2 r2=>?_⟩) fun us s2 ⟨vs,H2,I2,r,qs,z,r2,sm2,n1,n2,ea,k2⟩=>⟨fnAt I2 sm2,?_⟩) he hpl
  ·split at k1
   ·rename_i hn
    obtain⟨z,ez,k3⟩:=k1.ofO;exact⟨qs,z,r2,sm2,hn.1,hn.2,ez,fun v H3 s3 r3=>k3 v H3 s3 r3⟩
   ·exact JP k1
  ·obtain⟨ps,ls,fe,B,hl,ef⟩:=T L qs cs z ea
   have ca2:=eU.kp sm2.kp ca;obtain⟨hxl,l,l1,l2⟩:=iX ca2;have hus:us.length=ps.length:=by rw[← r.length,← r2.length];exact hl
   refine QM (Nl (uL (l:=l) (E:=E0) (Q:=Q) B.sc hr I2.env0 (sm2 _ _ hf) (sm2 _ _ hc) l1 hk nd hxl l2 (B.bd cl pm ct c us hus) (B.ev f c cl C.X.A C.X.stack s2 (drC H2 l) (hr.deeper _)) r (by rw[← r2.length];exact hl) r2 (rc.same sm2) n1 n2 (sm2.tabs vw.tb) ef
    fun v H3 s3 r3=>k2 v H3 (sm2.trans s3) r3) fun r' s' hq=>?_)
   cases r' with
   | error e=>exact JP hq
   | ok fl=>
    cases fl with
    | ret u=>exact I2.after hq
    | next=>exact JP hq
    | brk=>exact JP hq
    | cont=>exact JP hq
 ·exact JP q
end PU
namespace PU
open PySem PySem.Spec PyProof.Rows L2 PySem.SeqAt
variable[TW]
noncomputable def kG(l:List (Str×M6)):List Str:=(l.filter fun y=>y.2 == .free).map (·.1)
theorem nK{cells:List (Str×Addr)}:∀{l:List (Str×M6)}{acc:List (Str×Addr)},(∀y∈l,y.2=.free->∃c,cells.lookup y.1=some c)->(dv cells l acc).map (·.1)=(kG l).reverse++acc.map (·.1)
 | [],acc,_=>rfl
 | (n,k)::r,acc,h=>by
  unfold dv;have hr:∀y∈r,y.2=.free->∃c,cells.lookup y.1=some c:=fun y hy=>h y (KI _ hy)
  by_cases hk:(k == Kn)=true
  ·rw[if_pos hk]
   obtain⟨c,hc⟩:=h (n,k) KJ (Mi hk);have hc:cells.lookup n=some c:=hc;rw[hc];dsimp only;rw[nK hr];unfold kG;rw[List.filter_cons,if_pos hk];simp
  ·rw[if_neg hk,nK hr]
   unfold kG;rw[List.filter_cons,if_neg hk]
theorem iC{cells:List (Str×Addr)}{p:Str×Addr}:∀{l:List (Str×M6)}{acc:List (Str×Addr)},p∈dv cells l acc->cells.lookup p.1=some p.2\/p∈acc
 | [],acc,h=>.inr h
 | (n,k)::r,acc,h=>by
  unfold dv at h;split at h
  ·split at h
   ·rename_i c hc
    rcases iC h with z | z
    ·exact .inl z
    ·rcases K9.mp z with z | z
     ·subst z;exact .inl hc
     ·exact .inr z
   ·exact iC h
  ·exact iC h
theorem yT{cells:List (Str×Addr)}(inj:∀x y c,cells.lookup x=some c->cells.lookup y=some c->x=y):∀{l:List (Str×Addr)},(∀p∈l,cells.lookup p.1=some p.2)->(l.map (·.1)).Nodup->(l.map (·.2)).Nodup
 | [],_,_=>List.nodup_nil
 | p::r,h,nd=>by
  rw[JQ,Kf] at nd ⊢;refine⟨fun m=>nd.1 ?_,yT inj (fun q hq=>h q (KI _ hq)) nd.2⟩;obtain⟨q,hq,e⟩:=JS.mp m;have h1:=h p KJ;have h2:=h q (KI _ hq);have e:q.2=p.2:=e;rw[e] at h2;exact JS.mpr ⟨q,hq,inj _ _ _ h2 h1⟩
noncomputable def qw(ρ:PSt):List Nat->R (List PV)
 | []=>.ok []
 | i::r=>match ρ[i]? with
  | some (.val p)=>qw ρ r >>= fun ps=>.ok (p::ps)
  | _=>.no
def yF(X:Cx)(H:Hp)(σ:L2.St):PV->V->Prop
 | .fn L cs,v=>∃f c pm ct xs,v=.ref f/\H f=some (FnAt f (ie L (dv X.env.cells L.scope.names []) pm c ct))/\H c=some (dY c L.qual)/\
   (dv X.env.cells L.scope.names []).map (·.1)=L.kept/\((dv X.env.cells L.scope.names []).map (·.2)).Nodup/\xs.length=L.kept.length/\aB X.K H cs xs/\
   ∀(j:Nat)(y:Str),L.kept[j]?=some y->∃(i:Nat)(v:V),X.N[i]?=some y/\σ[i]?=some (some v)/\xs[j]?=some v/\X.env.scope.names.lookup y=some .cell
 | p,v=>Rep X.K H p v/\noFn p=true
def yE(X:Cx)(H:Hp)(σ:L2.St):List PV->List V->Prop
 | [],xs=>xs=[]
 | p::ps,xs=>∃x r,xs=x::r/\yF X H σ p x/\yE X H σ ps r
theorem yF.same{X:Cx}{H H':Hp}{σ:L2.St}{p:PV}{v:V}(h:yF X H σ p v)(s:Same H H'):yF X H' σ p v:=by
 cases p with
 | fn L cs=>
  obtain⟨f,c,pm,ct,xs,e,h1,h2,h3,h4,h5,h6,h7⟩:=h;exact⟨f,c,pm,ct,xs,e,s _ _ h1,s _ _ h2,h3,h4,h5,h6.same s,h7⟩
 | _=>exact⟨Rep.same h.1 s,h.2⟩
abbrev Ph:=L2.St->Hp->Prop
def Ph.Ok(Φ:Ph):Prop:=∀σ H H',Φ σ H->Same H H'->Φ σ H'
def tru:Ph:=fun _ _=>True
theorem cu:tru.Ok:=fun _ _ _ h _=>h
noncomputable def tL(C:Cn)(Φ:Ph)(f:PSt->R (List PV)):TA:=fun σ H Q=>∃ρ,View C.X.K H σ ρ/\Φ σ H/\RQ C H (f ρ) fun ps=>∀vs H',Same H H'->yE C.X H' σ ps vs->Q vs H'
def ELF(C:Cn)(Φ:Ph)(es:List Expr)(f:PSt->R (List PV)):Prop:=PA C.X es (tL C Φ f)
abbrev EL(C:Cn)(es:List Expr)(f:PSt->R (List PV)):Prop:=ELF C tru es f
noncomputable def tVF(C:Cn)(Φ:Ph)(f:PSt->R PV):TE:=fun σ H Q=>Φ σ H/\tV C f σ H Q
def EVF(C:Cn)(Φ:Ph)(e:Expr)(f:PSt->R PV):Prop:=PE C.X e (tVF C Φ f)
noncomputable def tNF(C:Cn)(Φ:Ph)(f:PSt->R PV):TE:=fun σ H Q=>Φ σ H/\tN C f σ H Q
def ENF(C:Cn)(Φ:Ph)(e:Expr)(f:PSt->R PV):Prop:=PE C.X e (tNF C Φ f)
theorem ENF.tru{C:Cn}{e:Expr}{f:PSt->R PV}(h:ENF C tru e f):EN C e f:=fun pins s σ H Q I q=>h pins s σ H Q I ⟨trivial,q⟩
theorem ENF.v{C:Cn}{Φ:Ph}{e:Expr}{f:PSt->R PV}(h:ENF C Φ e f):EVF C Φ e f:=by
 intro pins s σ H Q I ⟨ph,ρ,vw,q⟩;cases hf:f ρ with
 | ok p=>
  rw[hf] at q;refine thn (h pins s σ H (fun v H'=>∃a,v=.ref a/\Same H H'/\H a=none/\bY C.X.K H' a p) I ⟨ph,ρ,vw,by rw[hf];exact fun a H' sm n w=>⟨a,rfl,sm,n,w⟩⟩) fun u s' ⟨v,H',I',rv,a,ev,sm,na,w⟩=>?_;obtain⟨H2,I2,rp,oth⟩:=I'.frz w;subst ev;exact⟨.ref a,H2,I2,rv,q _ H2 (sm.but na (fun u h=>(w.nt u h).1) oth) rp⟩
 | er x=>
  rw[hf] at q;exact h pins s σ H Q I ⟨ph,ρ,vw,by rw[hf];exact q⟩
 | no=>
  rw[hf] at q;exact JP q
theorem EVF.of{C:Cn}{Φ:Ph}{e:Expr}{f:PSt->R PV}(h:EV C e f):EVF C Φ e f:=fun pins s σ H Q I q=>h pins s σ H Q I q.2
def pK(L:Lam)(idx:List Nat)(fs:PSt->R (List PV)):PSt->R (List PV):=fun ρ=>qw ρ idx >>= fun cs=>fs ρ >>= fun ps=>.ok (.fn L cs::ps)
def wM(f:PSt->R PV)(fs:PSt->R (List PV)):PSt->R (List PV):=fun ρ=>f ρ >>= fun p=>if noFn p=true then fs ρ >>= fun ps=>.ok (p::ps) else .no
theorem pA{K:JH}{H:Hp}{σ:L2.St}{ρ:PSt}(vw:View K H σ ρ):∀{idx:List Nat}{cs:List PV},qw ρ idx=.ok cs->∃xs,aB K H cs xs/\xs.length=idx.length/\∀(j i:Nat),idx[j]?=some i->∃v,σ[i]?=some (some v)/\xs[j]?=some v
 | [],cs,e=>by cases e;exact⟨[],rfl,rfl,fun j i h=>(by simp at h)⟩
 | i::r,cs,e=>by
  unfold qw at e;split at e
  ·rename_i p hp
   cases hc:qw ρ r with
   | ok ps=>
    rw[hc] at e;cases e;obtain⟨xs,h1,h2,h3⟩:=pA vw hc;obtain⟨v,ev,rp⟩:=vw i _ hp;refine⟨v::xs,⟨v,xs,rfl,rp,h1⟩,by simp[h2],fun j k hj=>?_⟩;cases j with
    | zero=>simp at hj;subst hj;exact⟨v,ev,rfl⟩
    | succ j=>simpa using h3 j k (by simpa using hj)
   | er x=>rw[hc] at e;cases e
   | no=>rw[hc] at e;cases e
  ·cases e
theorem jG{ρ:PSt}:∀(idx:List Nat)(x:PX),qw ρ idx≠.er x
 | [],x,e=>by cases e
 | i::r,x,e=>by
  unfold qw at e;split at e
  ·cases hc:qw ρ r with
   | ok ps=>rw[hc] at e;cases e
   | er y=>exact jG r y hc
   | no=>rw[hc] at e;cases e
  ·cases e
structure LamC(C:Cn)(L:Lam)(b:Expr)(idx:List Nat)(pos:La)(c P:Addr):Prop where
 bd:L.body=.expr b
 nm:L.name="<lambda>"
 qual:L.qual=C.X.env.qual++"<lambda>"
 tq:TW.qual pos.line pos.col=L.qual
 code:C.X.env.code=.ref c
 hd:NK C.X.base c P
 tab:P∈TW.tabs
 bn:Bn C.X
 df:defaultsOf L.args C.X.env=([],[])
 free:∀y∈L.scope.names,y.2=.free->C.X.env.scope.names.lookup y.1=some .cell
 kept:(kG L.scope.names).reverse=L.kept
 nd:L.kept.Nodup
 ix:idx.map (fun i=>C.X.N[i]?)=L.kept.map some
theorem pU{C:Cn}{L:Lam}{idx:List Nat}{pins:List (Addr×Obj)}{s:JM}{σ:L2.St}{H:Hp}{ρ:PSt}{cs:List PV}{f c:Addr}{pm:JJ×JJ}{ct:JJ}(inj:∀x y c,C.X.env.cells.lookup x=some c->C.X.env.cells.lookup y=some c->x=y)(hasC:∀y,C.X.env.scope.names.lookup y=some .cell->∃c,C.X.env.cells.lookup y=some c)(vw:View C.X.K H σ ρ)(ec:qw ρ idx=.ok cs)
  (free:∀y∈L.scope.names,y.2=.free->C.X.env.scope.names.lookup y.1=some .cell) (kept:(kG L.scope.names).reverse=L.kept) (ndk:L.kept.Nodup) (ix:idx.map (fun i=>C.X.N[i]?)=L.kept.map some)
  (hf:H f=some (FnAt f (ie L (dv C.X.env.cells L.scope.names []) pm c ct))) (hc:H c=some (dY c L.qual)):yF C.X H σ (.fn L cs) (.ref f):=by
 have has:∀y∈L.scope.names,y.2=.free->∃c,C.X.env.cells.lookup y.1=some c:=fun y hy hk=>hasC y.1 (free y hy hk);obtain⟨xs,x1,x2,x3⟩:=pA vw ec;have hm:(dv C.X.env.cells L.scope.names []).map (·.1)=L.kept:=by rw[nK has,M3,Kq];exact kept
 have hlen:idx.length=L.kept.length:=by have:=congrArg Lj ix;simpa using this
 refine⟨f,c,pm,ct,xs,rfl,hf,hc,hm,yT inj (fun p hp=>?_) (by rw[hm];exact ndk),by rw[x2];exact hlen,x1,fun j y hy=>?_⟩
 ·rcases iC hp with z | z
  ·exact z
  ·exact nomatch z
 ·have hj:j<idx.length:=by rw[hlen];exact(JL.mp hy).1
  have e1:idx[j]?=some idx[j]:=KO hj;have e2:=congrArg (fun l=>l[j]?) ix;simp only[K2,e1,hy,O9] at e2;obtain⟨v,ev,xv⟩:=x3 j _ e1;refine⟨idx[j],v,by simpa using e2,ev,xv,?_⟩;have hmem:=KA hy;rw[← kept,PM] at hmem;unfold kG at hmem;obtain⟨z,hz,ez⟩:=JS.mp hmem;obtain⟨hz1,hz2⟩:=LQ.mp hz;have:=free z hz1 (Mi hz2);rw[ez] at this;exact this
noncomputable def IF(C:Cn)(L:Lam)(idx:List Nat):TE:=fun σ H Q=>∃ρ cs,View C.X.K H σ ρ/\qw ρ idx=.ok cs/\∀v H',Same H H'->yF C.X H' σ (.fn L cs) v->Q v H'
theorem Di{C:Cn}{L:Lam}{b:Expr}{idx:List Nat}{pos:La}{c P:Addr}(h:LamC C L b idx pos c P):PE C.X (.Lambda L.args b L.scope pos) (IF C L idx):=by
 intro pins s σ H Q I ⟨ρ,cs,vw,ec,q⟩;obtain⟨ps,eP,tk⟩:=vw.tb P h.tab;have has:∀y∈L.scope.names,y.2=.free->∃c,C.X.env.cells.lookup y.1=some c:=fun y hy hk=>I.ok.has y.1 (.inl (h.free y hy hk));refine DL (c:=c) (P:=P) I eP tk h.code h.hd h.bn h.df (h.tq.trans h.qual) has fun f c' pm ct H' s' I' sm hf hc=>?_;rw[← h.qual] at hf hc
 have hf:H' f=some (FnAt f (ie L (dv C.X.env.cells L.scope.names []) (.none,pm) c' ct)):=by
  rw[hf];unfold ie qe;rw[h.bd,h.nm]
 exact⟨.ref f,H',I',rfl,q _ H' sm (pU (pins:=pins) (s:=s') I.ok.inj (fun y hy=>I.ok.has y (.inl hy)) (vw.same sm) ec h.free h.kept h.nd h.ix hf hc)⟩
def FnS(X:Cx)(i:Nat)(L:Lam):Ph:=fun σ H=>∃f c pm ct,σ[i]?=some (some (.ref f))/\H f=some (FnAt f (ie L (dv X.env.cells L.scope.names []) pm c ct))/\H c=some (dY c L.qual)
theorem FnS.ok{X:Cx}{i:Nat}{L:Lam}:(FnS X i L).Ok:=fun _ _ _ ⟨f,c,pm,ct,e,h1,h2⟩ s=>⟨f,c,pm,ct,e,s _ _ h1,s _ _ h2⟩
structure FnC(C:Cn)(L:Lam)(idx:List Nat):Prop where
 free:∀y∈L.scope.names,y.2=.free->C.X.env.scope.names.lookup y.1=some .cell
 kept:(kG L.scope.names).reverse=L.kept
 nd:L.kept.Nodup
 ix:idx.map (fun i=>C.X.N[i]?)=L.kept.map some
section
variable{C : Cn}{e : Expr}{es : List Expr}{f : PSt → R PV}{fs : PSt → R (List PV)}
theorem zO{Φ:Ph}:ELF C Φ [] aI:=fun pos pins s σ H Q I ⟨_,_,_,q⟩=>gE pos pins s σ H Q I (q [] H (Same.refl H) rfl)
theorem zN{Φ:Ph}(ha:EV C e f)(hr:ELF C Φ es fs)(ok:Φ.Ok:=by first | exact cu | assumption)(hs:K1 (e::es) C.X.env=(false,L9 e C.X.env)::K1 es C.X.env:=by exact bC rfl):ELF C Φ (e::es) (wM f fs):=by
 intro pos pins s σ H Q I ⟨ρ,vw,ph,q⟩;refine cq ha hr hs pos pins s σ H Q I ⟨ρ,vw,q.bind.imp fun p _ k v H1 s1 r1=>?_⟩;split at k
 ·rename_i hn
  refine⟨ρ,vw.same s1,ok _ _ _ ph s1,(k.bind.same s1).imp fun ps _ k2 vs H2 s2 r2=>k2 (v::vs) H2 (s1.trans s2) ⟨v,vs,rfl,?_,r2⟩⟩;cases p with
  | fn L cs=>cases hn
  | _=>exact⟨r1.same s2,hn⟩
 ·exact JP k
theorem zP{Φ:Ph}{L:Lam}{b:Expr}{idx:List Nat}{lp:La}{c P:Addr}(h:LamC C L b idx lp c P)(hr:ELF C Φ es fs)(ok:Φ.Ok:=by first | exact cu | assumption)(hs:K1 (.Lambda L.args b L.scope lp::es) C.X.env=(false,L9 (.Lambda L.args b L.scope lp) C.X.env)::K1 es C.X.env:=by exact bC rfl) :
  ELF C Φ (.Lambda L.args b L.scope lp::es) (pK L idx fs):=by
 intro pos pins s σ H Q I ⟨ρ,vw,ph,q⟩;unfold pK at q;cases hc:qw ρ idx with
 | ok cs=>
  rw[hc] at q;have q:RQ C H (fs ρ >>= fun ps=>R.ok (.fn L cs::ps)) _:=q;refine cq (Di h) hr hs pos pins s σ H Q I ⟨ρ,cs,vw,hc,fun v H1 s1 r1=>⟨ρ,vw.same s1,ok _ _ _ ph s1,(q.bind.same s1).imp fun ps _ k2 vs H2 s2 r2=>k2 (v::vs) H2 (s1.trans s2) ⟨v,vs,rfl,r1.same s2,r2⟩⟩⟩
 | er x=>
  exact absurd hc (jG idx x)
 | no=>rw[hc] at q;exact JP q
theorem Ew{Φ:Ph}{L:Lam}{idx:List Nat}{x:Str}{p:La}(i:Nat)(hF:∀σ H,Φ σ H->FnS C.X i L σ H)(h:FnC C L idx)(hr:ELF C Φ es fs)(ok:Φ.Ok:=by first | exact cu | assumption)
  (hN:C.X.N[i]?=some x:=by rfl) (hvis:Vis C.X.env.scope x:=by first | exact .inl rfl | exact .inr (.inl rfl) | exact .inr (.inr rfl)) (hdb:(x == ("__debug__":Str))=false:=by decide) (hcd:(x == ("__classdict__":Str))=false:=by decide)
  (hs:K1 (.Name x p::es) C.X.env=(false,L9 (.Name x p) C.X.env)::K1 es C.X.env:=by exact bC rfl):ELF C Φ (.Name x p::es) (pK L idx fs):=by
 intro pos pins s σ H Q I ⟨ρ,vw,ph,q⟩;unfold pK at q;cases hc:qw ρ idx with
 | ok cs=>
  rw[hc] at q;have q:RQ C H (fs ρ >>= fun ps=>R.ok (.fn L cs::ps)) _:=q;obtain⟨f,c,pm,ct,ev,h1,h2⟩:=hF σ H ph;have pr:yF C.X H σ (.fn L cs) (.ref f):=pU (pins:=pins) (s:=s) I.ok.inj (fun y hy=>I.ok.has y (.inl hy)) vw hc h.free h.kept h.nd h.ix h1 h2;refine cq (eG hN hvis hdb hcd) hr hs pos pins s σ H Q I ⟨_,ev,ρ,vw,ph,q.bind.imp fun ps _ k2 vs H2 s2 r2=>k2 (.ref f::vs) H2 s2 ⟨.ref f,vs,rfl,pr.same s2,r2⟩⟩
 | er x=>
  exact absurd hc (jG idx x)
 | no=>rw[hc] at q;exact JP q
end
noncomputable def gB(X:Cx)(h:Heap)(ys:List Str):List (Addr×Obj):=ys.filterMap fun y=>(X.env.cells.lookup y).map fun c=>(c,(h.get? c).getD default)
theorem eZ{X:Cx}{h:Heap}{c:Addr}{o:Obj}:∀{ys:List Str},(gB X h ys).lookup c=some o->o=(h.get? c).getD default/\∃y,X.env.cells.lookup y=some c
 | [],e=>by cases e
 | y::r,e=>by
  unfold gB at e;rw[Lv] at e;cases hy:X.env.cells.lookup y with
  | none=>rw[hy] at e;exact eZ (ys:=r) e
  | some d=>
   rw[hy] at e;simp only[O9] at e;rw[KR] at e;cases hb:(c == d) with
   | true=>rw[hb] at e;cases e;have:=Mi hb;subst this;exact⟨rfl,y,hy⟩
   | false=>rw[hb] at e;exact eZ (ys:=r) e
theorem nM{X:Cx}{h:Heap}{c:Addr}{y:Str}(hy:X.env.cells.lookup y=some c):∀{ys:List Str},y∈ys->(gB X h ys).lookup c=some ((h.get? c).getD default)
 | [],m=>nomatch m
 | z::r,m=>by
  unfold gB;rw[Lv];cases hz:X.env.cells.lookup z with
  | none=>
   rcases K9.mp m with e | m
   ·subst e;rw[hy] at hz;cases hz
   ·exact nM hy m
  | some d=>
   simp only[O9];rw[KR];cases hb:(c == d) with
   | true=>have:=Mi hb;subst this;rfl
   | false=>
    rcases K9.mp m with e | m
    ·subst e;rw[hy] at hz;cases hz;simp at hb
    ·exact nM hy m
section
variable{X : Cx}{pins : List (Addr×Obj)}{σ : L2.St}{H : Hp}{s : JM}
theorem vT(I:L2.Inv X pins σ H s)(hfn:∀y,X.fn y=true)(ys:List Str):Cls X H s (gB X s.heap ys):=by
 have at_:∀c o,(gB X s.heap ys).lookup c=some o->s.heap.get? c=some o:=fun c o e=>by
  obtain⟨e1,y,e2⟩:=eZ e;obtain⟨v,o',g,_⟩:=I.cell y c e2;rw[e1,g];rfl
 have big:∀c o,(gB X s.heap ys).lookup c=some o->X.s₀.heap.objs.size<=c:=fun c o e=>by
  obtain⟨_,y,e2⟩:=eZ e;exact I.ok.cab y c (hfn y) e2
 refine⟨at_,fun c o e=>?_,fun c o e=>?_,fun c o e hs=>?_⟩
 ·obtain⟨_,y,e2⟩:=eZ e
  exact I.freeC y c e2
 ·exact QX (Ko I.ok.bsz (big c o e))
 ·obtain⟨_,y,e2⟩:=eZ e
  rcases K9.mp (I.stkSub c hs) with z | z
  ·obtain⟨v,o',g,d⟩:=I.cell y c e2
   obtain⟨m,⟨o2,es,ep,g2,d2,_⟩,_⟩:=I.loc;rw[← z,g] at g2;cases g2;rw[d] at d2;cases d2
  ·obtain⟨_,o2,g2,_⟩:=I.ok.funs.mem z
   exact absurd (JR g2) (Nat.not_lt_of_le (big c o e))
theorem qR{p:PV}{v:V}(I:L2.Inv X pins σ H s)(hfn:∀y,X.fn y=true)(h:yF X H σ p v):Rep X.K (trC H (gB X s.heap (X.env.scope.names.map (·.1)))) p v:=by
 have hc:=vT I hfn (X.env.scope.names.map (·.1));have ext:Same H (trC H (gB X s.heap (X.env.scope.names.map (·.1)))):=.of fun b o e=>by rw[aV (hc.out e)];exact e
 cases p with
 | fn L cs=>
  obtain⟨f,c,pm,ct,xs,e,h1,h2,h3,h4,h5,h6,h7⟩:=h;refine⟨f,c,_,pm,ct,xs,e,ext _ _ h1,ext _ _ h2,h3,h4,?_,h6.same ext⟩
  have gen:∀(cl:List (Str×Addr))(zs:List V),zs.length=cl.length->(∀p∈cl,X.env.cells.lookup p.1=some p.2)->(∀(j:Nat)(y:Str),(cl.map (·.1))[j]?=some y->∃(i:Nat)(v:V),X.N[i]?=some y/\σ[i]?=some (some v)/\zs[j]?=some v/\X.env.scope.names.lookup y=some .cell)->
    eU (trC H (gB X s.heap (X.env.scope.names.map (·.1)))) cl zs:=by
   intro cl
   induction cl with
   | nil=>intro zs hl _ _;exact Kv hl
   | cons p r ih=>
    intro zs hl hm hj;cases zs with
    | nil=>cases hl
    | cons z zs=>
     obtain⟨i,v,n1,n2,n3,n4⟩:=hj 0 p.1 (by simp);simp at n3;subst n3;obtain⟨m,hn,hloc⟩:=I.loc;obtain⟨u,ru,lk⟩:=hloc i p.1 z n1 n2 (.inr (.inl n4));have hp:=hm p KJ;rcases lk with⟨k1,_⟩|⟨_,c',c1,o,c2,c3⟩
     ·have k1:X.env.scope.names.lookup p.1=some .local:=k1
      rw[n4] at k1;cases k1
     ·rw[hp] at c1
      cases c1;refine⟨z,zs,o,u,rfl,jK ?_,c3,ru,ih zs (by simpa using hl) (fun q hq=>hm q (KI _ hq)) fun j y hy=>?_⟩
      ·rw[nM hp (JS.mpr ⟨_,Ka n4,rfl⟩),c2];rfl
      ·obtain⟨i,v,a1,a2,a3,a4⟩:=hj (j+1) y (by simpa using hy)
       exact⟨i,v,a1,a2,by simpa using a3,a4⟩
  refine gen _ xs (by rw[h5,← h3,JT]) (fun p hp=>?_) fun j y hy=>h7 j y (by rw[← h3];exact hy);rcases iC hp with z | z
  ·exact z
  ·exact nomatch z
 | _=>exact Rep.same h.1 ext
theorem lJ(I:L2.Inv X pins σ H s)(hfn:∀y,X.fn y=true):∀{ps:List PV}{vs:List V},yE X H σ ps vs->aB X.K (trC H (gB X s.heap (X.env.scope.names.map (·.1)))) ps vs
 | [],_,h=>h
 | p::ps,_,⟨x,r,e,h1,h2⟩=>⟨x,r,e,qR I hfn h1,lJ I hfn h2⟩
end
def ji(fs:PSt->R (List PV))(F:List PV->Option PV):PSt->R PV:=fun ρ=>fs ρ >>= fun qs=>R.ofO (F qs) >>= fun z=>if noFn z=true then .ok z else .no
theorem bY.pl{K:JH}{H H':Hp}{a:Addr}{z:PV}(k:∀b u,H b=some u->(∀q,u≠.frz q (.own 0))->H' b=some u)(n:noFn z=true)(h:bY K H a z):bY K H' a z:=by
 have k2:∀b u,H b=some u->Eb u=true->H' b=some u:=fun b u e h=>k b u e (mY h);cases z with
 | lst ps=>obtain⟨xs,w,r⟩:=h;exact⟨xs,k _ _ w (fun _ h=>by cases h),aB.pl k2 ps n r⟩
 | dct ks ps=>obtain⟨xs,w,e,r⟩:=h;exact⟨xs,k _ _ w (fun _ h=>by cases h),e,aB.pl k2 ps n r⟩
 | dtt ks ps=>obtain⟨xs,w,e,r⟩:=h;exact⟨xs,k _ _ w (fun _ h=>by cases h),e,aB.pl k2 ps n r⟩
 | _=>exact h
theorem pk{C:Cn}{Φ:Ph}{e:Expr}{es:List Expr}{fs:PSt->R (List PV)}{x:Str}{k:Nat}{F:List PV->Option PV}{p pos:La}(G:PFN C.X.prog C.X.w C.X.K C.X.mg C.X.base k x F){kr:Nat}(hr:Room kr C.X.A)(ha:ELF C Φ (e::es) fs)
  (hdb:(x == ("__debug__":Str))=false:=by decide) (he:K1 (e::es) C.X.env=(false,L9 e C.X.env)::K1 es C.X.env:=by exact bC rfl) (hpl:(MM pos (K1 es C.X.env)).any (·.1)=false:=by exact fg rfl) (hk:k<=kr:=by decide) (hg:Gl C.X x:=by exact rfl) (hfn:∀y,C.X.fn y=true:=by exact fun _=>rfl) :
  ENF C Φ (.Call (.Name x p) (e::es) [] pos) (ji fs F):=by
 replace hr:=hr.mono hk;obtain⟨f,fd,ps,a,b,c,d,l⟩:=G.ex;intro pins s σ H Q I ⟨ph,ρ,vw,q⟩;refine MC (qd I hg b ?_ hdb)
 refine QO (h₀:=C.X.base) I.ok.mod.kin c (thn (ha pos pins s σ H (fun vs H1=>∃qs z,yE C.X H1 σ qs vs/\Same H H1/\F qs=some z/\noFn z=true/\∀a H',Same H H'->H a=none->bY C.X.K H' a z->Q (.ref a) H') I
  ⟨ρ,vw,ph,q.bind.imp fun qs _ k1 vs H1 s1 r1=>?_⟩) fun us s1 ⟨vs,H1,I1,r,qs,z,r1,sm,ez,nz,k2⟩=>⟨I1.kIn,?_⟩) he hpl
 ·obtain⟨z,ez,k3⟩:=k1.bind.ofO
  split at k3
  ·rename_i hn
   exact⟨qs,z,r1,s1,ez,hn,fun v H' s' n' r'=>k3 v H' s' n' r'⟩
  ·exact JP k3
 ·have hc:=vT I1 hfn (C.X.env.scope.names.map (·.1))
  have rr:=lJ I1 hfn r1;have hl:=l qs z ez;have hv:vs.length=ps.length:=by rw[← rr.length];exact hl
  have ext:Same H1 (trC H1 (gB C.X s1.heap (C.X.env.scope.names.map (·.1)))):=.of fun b o e=>by rw[aV (hc.out e)];exact e
  have hu:(us++[]).length=ps.length:=by rw[Kq,← r.length];exact hv
  have hb:=d s1 us I1.kIn hu;rw[Kq] at hb
  refine QM (Nl (a.run C.X.A C.X.stack s1 _ ⟨us,[]⟩ us vs (fun v H'=>∃a,v=.ref a/\Same (trC H1 (gB C.X s1.heap (C.X.env.scope.names.map (·.1)))) H'/\trC H1 (gB C.X s1.heap (C.X.env.scope.names.map (·.1))) a=none/\bY C.X.K H' a z) E0 hr (Et I1 hc) hb r
   ⟨hv,ext.tabs (sm.tabs vw.tb),qs,z,rr,ez,fun a H' s' n' r'=>⟨a,rfl,s',n',r'⟩⟩) fun r' s' hq=>?_)
  cases r' with
  | error e=>exact JP hq
  | ok fl=>
   cases fl with
   | ret u=>
    obtain⟨v,H',os,bare,un,hok,rv,a,ea,sm2,na,nw⟩:=hq;subst ea;refine zY I1 hc ⟨.ref a,H',os,bare,un,hok,rv,fun un=>k2 a _ (sm.trans (CV hc un sm2)) (sm.free (ext.free na)) (bY.pl (fun b u e h=>?_) nz nw)⟩;rw[b8 (oD un e h)];exact e
   | next=>exact JP hq
   | brk=>exact JP hq
   | cont=>exact JP hq
theorem yo{C:Cn}{e:Expr}{es:List Expr}{fs:PSt->R (List PV)}{x:Str}{k:Nat}{F:List PV->Option PV}{p pos:La}(G:PFN C.X.prog C.X.w C.X.K C.X.mg C.X.base k x F){kr:Nat}(hr:Room kr C.X.A)(ha:EL C (e::es) fs)
  (hdb:(x == ("__debug__":Str))=false:=by decide) (he:K1 (e::es) C.X.env=(false,L9 e C.X.env)::K1 es C.X.env:=by exact bC rfl) (hpl:(MM pos (K1 es C.X.env)).any (·.1)=false:=by exact fg rfl) (hk:k<=kr:=by decide) (hg:Gl C.X x:=by exact rfl) (hfn:∀y,C.X.fn y=true:=by exact fun _=>rfl) :
  EN C (.Call (.Name x p) (e::es) [] pos) (ji fs F):=(pk G hr ha hdb he hpl hk hg hfn).tru
end PU
section
namespace L2
open PySem PySem.Spec PyProof.Rows
theorem uI{P:K5}{w:KH}{K:JH}{mg mb:Str->Option JJ}{CX:CXT}{k:Nat}{fa a:Addr}{fd:FuncData}{x:Str}{sp:Sp}{s₁:JM}{vs:List JJ}{ns:List Int}
  (KX:K.In s₁.heap) (hns:s₁.heap.Ns mainGlobals mg) (hb:s₁.heap.Ns L0 mb) (hbb:∀x:Str,x≠"__name__"->mb x=MD x) (hlim:s₁.heap.NoLimit) (hg:s₁.gens=#[]) (ts:List Addr) (hts:∀P∈ts,s₁.heap.get? P=some (Lh #[])) (htc:∀P∈ts,∃c,NK s₁.heap c P) (htk:∀P∈ts,K.lookup P=none)
  (hbn:∃bm o,mg "__builtins__"=some (.ref bm)/\bm≠L0/\bm≠mainGlobals/\s₁.heap.get? bm=some o/\o.cls=.type "module"/\o.dict=some L0/\o.data=.plain)
  (ha:s₁.heap.get? a=some { cls:=.type "list",data:=.seq vs.toArray }) (hi:RB vs ns) (hl:ns.length<=sizeLine) (hr:Room k Pg)
  (F:∀base:Heap,K.In base->base.Ns mainGlobals mg->(∃bm o,mg "__builtins__"=some (.ref bm)/\bm≠L0/\bm≠mainGlobals/\base.get? bm=some o/\o.cls=.type "module"/\o.dict=some L0/\o.data=.plain)->FnOk P w K mg base CX k fa fd [x] sp) (hbind:∀(s:JM) (u:JJ),QF s fd ⟨[u],[]⟩ [(x,u)])
  (hsp:∀H:Hp,(∀P∈ts,H P=some (.tbl #[]))->PU.SqF K H a (ns.map V.int)->sp [.ref a] H (fun v _=>v=.bl true) fun _ _ _=>False)
  (hCX:∀H e s',CX [] H s₁ (fun _ _ _=>False) e s'->False) :
  NR (KM P w) Pg (.call (.ref fa) ⟨[.ref a],[]⟩) (fun r s'=>r=.ok (.ret (.bool true))/\OldK s₁.heap s'.heap/\s'.os=s₁.os/\OV s'.gens) s₁:=by
 have rv:=nY hi;have lenV:=hi.length
 have core:∀H:Hp,(∀b,H b=none\/(∃ob xs,H b=some (.frz ob (.lst xs)))\/(b∈ts/\H b=some (.tbl #[])))->PU.SqF K H a (ns.map V.int)->HOk P w H s₁.heap->(∀b,H b≠none->b=a\/b∈ts)->(∀P∈ts,H P=some (.tbl #[]))->(H a≠none->K.lookup a=none)->
   NR (KM P w) Pg (.call (.ref fa) ⟨[.ref a],[]⟩) (fun r s'=>r=.ok (.ret (.bool true))/\OldK s₁.heap s'.heap/\s'.os=s₁.os/\OV s'.gens) s₁:=by
  intro H hO hS hok hA hT hK;have base_of:∀{b:Addr}{o:Obj},s₁.heap.get? b=some o->H b=none->(xZ s₁.heap H).get? b=some o:=fun e n=>xY e n
  have noA:∀{b:Addr}{o:Obj}{es:Array DictEntry}{ep:Nat},s₁.heap.get? b=some o->o.data=.dict es ep->H b=none:=fun {b o es ep} e d=>by
   cases q:H b with
   | none=>rfl
   | some u=>
    rcases hA b (by rw[q];simp) with e' | e'
    ·subst e'
     rw[ha] at e;cases e;have d':Data.seq vs.toArray _=Data.dict es ep:=d;cases d'
    ·rw[hts b e'] at e;cases e
     cases d
  have nsK:∀{b:Addr}{m:Str->Option JJ},s₁.heap.Ns b m->(xZ s₁.heap H).Ns b m:=fun {b m} ⟨o,es,ep,e,d,r⟩=>⟨o,es,ep,base_of e (noA e d),d,r⟩
  have hKb:K.In (xZ s₁.heap H):=fun b o e=>base_of (KX b o e) (by
   cases q:H b with
   | none=>rfl
   | some u=>
    rcases hA b (by rw[q];simp) with e' | e'
    ·subst e'
     rw[hK (by rw[q];simp)] at e;cases e
    ·rw[htk b e'] at e;cases e)
  obtain⟨bm,ob,b1,b2,b3,b4,b5,b6,b7⟩:=hbn
  have hbm:H bm=none:=by
   cases q:H bm with
   | none=>rfl
   | some u=>
    rcases hA bm (by rw[q];simp) with e' | e'
    ·rw[e',ha] at b4;cases b4;cases b7
    ·rw[hts bm e'] at b4;cases b4;cases b5
  have hM:Mod K mg (xZ s₁.heap H):=⟨hKb,nsK hns,⟨mb,nsK hb,hbb⟩,let ⟨mc,h1,h2⟩:=hlim;⟨mc,nsK h1,h2⟩⟩;have e0:Env0 P w K mg (xZ s₁.heap H) Pg [] s₁ H:=⟨rfl,hM,fun b o e=>AX e,QU (v9 _ _),trivial,fun b hb=>absurd (show b∈([]:List Addr) from hb) (by simp),hok,.of_eq hg⟩;refine Nl ((F _ hKb (nsK hns) ⟨bm,ob,b1,b2,b3,base_of b4 hbm,b5,b6,b7⟩).run Pg [] s₁ H ⟨[.ref a],[]⟩ [.ref a] [.ref a] _ _ hr e0 (hbind s₁ (.ref a)) (.cons rfl .nil) (hsp H hT hS)) fun r s' h=>?_;cases r with
  | error e=>exact(hCX H e s' h).elim
  | ok fl=>
   cases fl with
   | next=>exact JP h
   | brk=>exact JP h
   | cont=>exact JP h
   | ret u=>
    obtain⟨v,H',os,bare,un,hok',r',q⟩:=h;have q':v=.bl true:=q;subst q';obtain rfl:u=O6 true:=r';refine⟨rfl,⟨fun b o e=>?_,fun b o e=>un.there b o e (by simp)⟩,os,bare⟩;cases q:H b with
    | none=>exact .inl (un.keep b o e q (by intro z;exact absurd (show b∈([]:List Addr) from z) (by simp)) (by simp))
    | some u=>
     rcases hO b with z | ⟨ob,xs,z⟩|⟨hb,z⟩
     ·rw[q] at z;cases z
     ·have z2:=un.frzs b ob _ z
      obtain⟨e1,_⟩:=hok b _ z;obtain⟨e2,_⟩:=hok' b _ z2;rw[e] at e1;cases e1;exact .inl e2
     ·obtain⟨more,z2⟩:=un.tbls b _ z
      have e2:s'.heap.get? b=some (Lh (#[]++more)):=hok' b _ z2;have e1:=hts b hb;obtain⟨c,hc⟩:=htc b hb;have tc:=(hc.tab e1).isCodeTable;rw[e] at e1;cases e1;exact .inr (.inl ⟨tc,rfl,#[],more,rfl,e2⟩)
 have nta:∀P∈ts,P≠a:=fun P hP z=>by rw[z] at hP;have:=hts a hP;rw[ha] at this;cases this
 cases hk:K.lookup a with
 | some o=>
  have e:=KX a o hk;rw[ha] at e;cases e;refine core (fun b=>if b∈ts then some (.tbl #[]) else none) (fun b=>?_) (.inr ⟨vs,_,hk,by rw[JT];exact hl,rv⟩) (fun b u z=>?_) (fun b z=>?_) (fun P hP=>if_pos hP) fun z=>absurd (if_neg fun h=>nta a h rfl) z
  ·by_cases hb:b∈ts
   ·exact .inr (.inr ⟨hb,if_pos hb⟩)
   ·exact .inl (if_neg hb)
  ·by_cases hb:b∈ts
   ·have z':=(if_pos hb).symm.trans z
    cases z';exact hts b hb
   ·have z':=(if_neg hb).symm.trans z
    cases z'
  ·by_cases hb:b∈ts
   ·exact .inr hb
   ·exact absurd (if_neg hb) z
 | none=>
  refine core (fun b=>if b=a then some (.frz { cls:=.type "list",data:=.seq vs.toArray } (.lst (ns.map V.int))) else if b∈ts then some (.tbl #[]) else none) (fun b=>?_) (.inl ⟨{ cls:=.type "list",data:=.seq vs.toArray },if_pos rfl⟩) (fun b u z=>?_) (fun b z=>?_) (fun P hP=>by
   show (if P=a then _ else if P∈ts then _ else _)=_;rw[if_neg (nta P hP),if_pos hP]) fun _=>hk
  ·by_cases hb:b=a
   ·exact .inr (.inl ⟨_,_,if_pos hb⟩)
   ·by_cases hb2:b∈ts
    ·exact .inr (.inr ⟨hb2,(if_neg hb).trans (if_pos hb2)⟩)
    ·exact .inl ((if_neg hb).trans (if_neg hb2))
  ·by_cases hb:b=a
   ·have z':=(if_pos hb).symm.trans z
    cases z';subst hb;exact⟨ha,by rw[JT];exact hl,vs,_,rv,ha⟩
   ·by_cases hb2:b∈ts
    ·have z':=((if_neg hb).trans (if_pos hb2)).symm.trans z
     cases z';exact hts b hb2
    ·have z':=((if_neg hb).trans (if_neg hb2)).symm.trans z
     cases z'
  ·by_cases hb:b=a
   ·exact .inl hb
   ·by_cases hb2:b∈ts
    ·exact .inr hb2
    ·exact absurd ((if_neg hb).trans (if_neg hb2)) z
theorem walk_ofT{l:P5}{n k:Nat}{q:K5}{loose:List Str}{XP:(Str->Option JJ)->Heap->Prop}{YP:KH->Heap->Prop}{d:DefRec}{K:Params->JH}{CX:KH->CXT}{sp:KH->Sp}{x:Str}
  (hn:l.most=some n) (hn2:n<=sizeLine) (hdf:d.params.defaults=[]) (hr:Room k Pg) (ts:List Addr)
  (hY:∀(w:KH)(h:Heap),YP w h->(K w.params).In h) (hT:∀(w:KH)(h:Heap),YP w h->∀P∈ts,h.get? P=some (Lh #[])) (hC:∀(w:KH),∀P∈ts,∃c,MJ (K w.params) c P=true) (hL:∀(w:KH),∀P∈ts,(K w.params).lookup P=none)
  (F:∀(w:KH)(mg:Str->Option JJ)(fa:Addr)(h:Heap),(K w.params).In h->h.Ns mainGlobals mg->mg d.name=some (.ref fa)->
   ∃fd:FuncData,(∀(s:JM)(u:JJ),QF s fd ⟨[u],[]⟩ [(x,u)])/\
    ∀base:Heap,(K w.params).In base->base.Ns mainGlobals mg->(∃bm o,mg "__builtins__"=some (.ref bm)/\bm≠L0/\bm≠mainGlobals/\base.get? bm=some o/\o.cls=.type "module"/\o.dict=some L0/\o.data=.plain)->
     FnOk l.prog w (K w.params) mg base (CX w) k fa fd [x] (sp w))
  (hsp:∀(w:KH)(H:Hp)(a:Addr)(ns:List Int),ns.length<=n->(∀P∈ts,H P=some (.tbl #[]))->PU.SqF (K w.params) H a (ns.map V.int)->sp w [.ref a] H (fun v _=>v=.bl true) fun _ _ _=>False)
  (hCX:∀(w:KH)(H:Hp)(s:JM)(e:JJ)(s':JM),CX w [] H s (fun _ _ _=>False) e s'->False) :
  PySem.W.WalkO q loose XP YP l.row.toRowW d [] (fun f vs=>Qg f vs):=by
 refine Att.attach_call hn hdf fun w s₀ s₁ mg mb fa o pm cd doc a vs ns G Y ho hd hcd hmg hobj hints hlen hg=>?_;have KX:=hY w _ Y;obtain⟨fd,hb,hF⟩:=F w mg fa _ KX G.T.g hmg;obtain⟨bm,ob,b1,b2,b3,b4,b5,b6⟩:=G.T.bmain
 have hbG:bm≠mainGlobals:=fun q=>by
  obtain⟨o,es,ep,e,hd,_⟩:=G.T.g;rw[q,e] at b3;cases b3;rw[hd] at b6;cases b6
 exact uI KX G.T.g G.T.b G.T.builtins G.T.nolimit hg ts (hT w _ Y) (fun P hP=>let ⟨c,hc⟩:=hC w P hP;⟨c,MO KX hc⟩) (hL w) ⟨bm,ob,b1,b2,hbG,b3,b4,b5,b6⟩ hobj hints (Ko hlen hn2) hr hF hb (fun H hT hS=>hsp w H a ns hlen hT hS) fun H e s'=>hCX w H s₁ e s'
end L2
namespace PU
theorem FY[TW]{H:L2.Hp}{ts:List PySem.Addr}(e:TW.tabs=ts)(h:∀P∈ts,H P=some (.tbl #[])):rQ H:=fun P hP=>⟨#[],h P (e▸hP),trivial,fun pos v h=>by cases h⟩
end PU
end
namespace PU
section
variable{g g' : PSt → R Fl}{t : PSt → R Bool}{f fk fv : PSt → R PV}{i : Nat}
theorem gp(ρ:PSt)(p:PV):cO ρ≠.ok (.ret p):=fun h=>by cases h
theorem vV(ρ:PSt)(p:PV):EY ρ≠.ok (.ret p):=fun h=>by cases h
theorem dN(h1:∀ρ p,g ρ≠.ok (.ret p))(h2:∀ρ p,g' ρ≠.ok (.ret p))(ρ:PSt)(p:PV):aU g g' ρ≠.ok (.ret p):=by
 unfold aU;intro e;cases h:g ρ with
 | ok fl=>
  rw[h,R.ok_bind] at e;cases fl with
  | next ρ2=>exact h2 ρ2 p e
  | brk ρ2=>cases e
  | cont ρ2=>cases e
  | ret q=>exact h1 ρ q h
 | er x=>rw[h] at e;cases e
 | no=>rw[h] at e;cases e
theorem jx(h1:∀ρ p,g ρ≠.ok (.ret p))(h2:∀ρ p,g' ρ≠.ok (.ret p))(ρ:PSt)(p:PV):ifF t g g' ρ≠.ok (.ret p):=by
 unfold ifF;intro e;cases h:t ρ with
 | ok b=>
  rw[h,R.ok_bind] at e;cases b with
  | true=>rw[if_pos rfl] at e;exact h1 ρ p e
  | false=>rw[if_neg JU] at e;exact h2 ρ p e
 | er x=>rw[h] at e;cases e
 | no=>rw[h] at e;cases e
theorem wH{n:Nat}(hg:∀ρ p,g ρ≠.ok (.ret p))(ρ:PSt)(p:PV):whS n t g ρ≠.ok (.ret p):=by
 unfold whS
 induction n generalizing ρ with
 | zero=>intro e;cases e
 | succ n ih=>
  intro e;unfold whF at e;cases h:t ρ with
  | ok b=>
   rw[h,R.ok_bind] at e;cases b with
   | true=>
    rw[if_pos rfl] at e;cases h2:g ρ with
    | ok fl=>
     rw[h2,R.ok_bind] at e;cases fl with
     | next ρ2=>exact ih ρ2 e
     | cont ρ2=>exact ih ρ2 e
     | brk ρ2=>cases e
     | ret q=>exact hg ρ q h2
    | er x=>rw[h2] at e;cases e
    | no=>rw[h2] at e;cases e
   | false=>rw[if_neg JU] at e;cases e
  | er x=>rw[h] at e;cases e
  | no=>rw[h] at e;cases e
theorem vY(i:Nat)(f:PSt->R PV)(ρ:PSt)(p:PV):BU i f ρ≠.ok (.ret p):=by
 unfold BU;intro h;split at h
 ·cases hf:f ρ with
  | ok q=>
   rw[hf,R.ok_bind] at h;split at h <;> cases h
  | er x=>rw[hf] at h;cases h
  | no=>rw[hf] at h;cases h
 ·cases h
theorem sk(i:Nat)(fk fv:PSt->R PV)(ρ:PSt)(p:PV):ox i fk fv ρ≠.ok (.ret p):=by
 unfold ox;intro h;split at h
 ·cases hf:fv ρ with
  | ok q=>
   rw[hf,R.ok_bind] at h;cases hk:fk ρ with
   | ok kp=>
    rw[hk,R.ok_bind] at h;cases ht:rZ kp with
    | some k=>
     rw[ht,R.ofO_some,R.ok_bind] at h;split at h <;> cases h
    | none=>rw[ht] at h;cases h
   | er x=>rw[hk] at h;cases h
   | no=>rw[hk] at h;cases h
  | er x=>rw[hf] at h;cases h
  | no=>rw[hf] at h;cases h
 ·cases h
end
end PU
namespace PU
open PySem PySem.Spec PyProof.Rows L2 PySem.SeqAt
section
variable{P : K5}{w : KH}{K : JH}{mg : Str → Option JJ}{base : Heap}
theorem Fun.okC{x qual:Str}{st:Stmt}{f:Addr}{fd:FuncData}{N ps:List Str}{k:Nat}{sp:Sp}(F:Fun K x qual st f fd)(S:FnScope N ps (ae st))(len:∀vs H Q E,sp vs H Q E->vs.length=ps.length)
  (hbody:∀(cdv:JJ),cdv=fd.code->∀(A:KY)(outer:List Ow)(s:JM)(H:Hp)(vs:List V)(Q:VK)(E:XK),Room k (A.deeper (Mm qual (ae st) s.heap.objs.size f cdv))->sp vs H Q E->
   ∃t,PSs (zS CX0 P w K mg base N qual (ae st) f cdv A outer s H E).nox (aW st) t/\t { nx:=fun _ H'=>Q .non H',rt:=Q } (L2.start N vs) H):FnOk P w K mg base CX0 (k+1) f fd ps sp:=by
 obtain⟨oc,od,kV,doc,pm,an,cdv,ct,osl,rfl,lk,hcd⟩:=F.ex;refine Ek lk hcd S len fun A outer s H vs Q E hr hsp=>?_;obtain⟨t,h,q⟩:=hbody cdv rfl A outer s H vs Q E hr hsp;exact⟨t,h.nox,q⟩
variable[TW]
theorem xu{x qual:Str}{st:Stmt}{f:Addr}{fd:FuncData}{N ps:List Str}{k:Nat}{g:PSt->R Fl}(F:Fun K x qual st f fd)(S:FnScope N ps (ae st))(hm:mg x=some (.ref f))(hb:Binds K fd ps [])
  (hbody:∀(cdv:JJ),cdv=fd.code->∀(A:KY)(outer:List Ow)(s:JM)(H:Hp)(E:XK),Room k (A.deeper (Mm qual (ae st) s.heap.objs.size f cdv))->SVN (zT P w K mg base N qual (ae st) f cdv A outer s H E) (aW st) g)
  (hr:∀ρ,(∃p,g ρ=.ok (.ret p))\/∀fl,g ρ≠.ok fl) :
  PFN P w K mg base (k+1) x (ff ps.length N.length g):=by
 refine⟨f,fd,ps,Fun.okC F S (fun vs H Q E h=>h.1) (fun cdv hcdv A outer s H vs Q E hr' h=>?_),hm,F.kp,hb,fun qs p h=>?_⟩
 ·obtain⟨hl,tb,qs,p,r,e0,k⟩:=h
  refine⟨_,hbody cdv hcdv A outer s H E hr',start N.length qs,(H,H),gk tb r,?_⟩;unfold ff at e0;rw[if_pos (by rw[r.length];exact hl)] at e0;rcases hr (start N.length qs) with⟨q,hq⟩ | hq
  ·rw[hq] at e0 ⊢
   cases e0;exact fun a H' s' n' w'=>k a H' s' n' w'
  ·cases hg:g (start N.length qs) with
   | ok fl=>exact absurd hg (hq fl)
   | er x=>rw[hg] at e0;cases e0
   | no=>rw[hg] at e0;cases e0
 ·unfold ff at h
  split at h
  ·rename_i hl;exact hl
  ·cases h
end
noncomputable def zy(n:Nat)(fe:PSt->R PV)(qs cs:List PV):Option PV:=if qs.length=n then (match fe ((qs++cs).map .val) with
 | .ok p=>some p
 | _=>none) else none
theorem mU{n:Nat}{fe:PSt->R PV}{qs cs:List PV}{p:PV}(h:zy n fe qs cs=some p):qs.length=n/\fe ((qs++cs).map .val)=.ok p:=by
 unfold zy at h;split at h
 ·rename_i hl
  refine⟨hl,?_⟩;split at h
  ·rename_i q hq;cases h;exact hq
  ·cases h
 ·cases h
noncomputable def Bc(q:Str)(kept:List Str)(sc:Scope):Expr->Lam
 | .Lambda a b s _=>⟨q,a,.expr b,s,kept,"<lambda>"⟩
 | e=>⟨q,⟨[],[],none,[],[],none,[]⟩,.expr e,sc,kept,"<lambda>"⟩
noncomputable def BE(q:Str)(kept:List Str)(sc:Scope):Stmt->Lam
 | .FunctionDef n a b _ _ _ s _ _ _=>⟨q,a,.stmts b,s,kept,n⟩
 | _=>⟨q,⟨[],[],none,[],[],none,[]⟩,.stmts [],sc,kept,q⟩
noncomputable def rL(p:La):Stmt->La
 | .FunctionDef _ _ _ _ _ _ _ _ _ p=>p
 | _=>p
noncomputable def za(j:Nat)(e0:Expr):Stmt->Expr
 | .Return (some (.Call _ as _ _)) _=>as.getD j e0
 | _=>e0
def zA(p:La):Expr->La
 | .Lambda _ _ _ p=>p
 | _=>p
theorem LScope.of{ps fr ls:List Str}{sc:Scope}(kind:sc.kind=.function)(co:sc.isCoroutine=false)(gen:sc.isGenerator=false)(nocell:∀x∈sc.names,x.2≠.cell)(par:∀x∈ps,sc.names.lookup x=some .local)
  (fre:∀y∈sc.names,y.2=.free->y.1∈fr) (frk:∀x∈fr,sc.names.lookup x=some .free) (nd:(ps++fr++ls).Nodup):LScope ps fr ls sc:=
 ⟨kind,co,gen,nocell,par,fun x h=>fre _ (Ka h) rfl,frk,nd⟩
end PU
namespace PU
open PySem PySem.Spec PyProof.Rows L2 PySem.SeqAt
section
variable{P : K5}{w : KH}{K : JH}{mg : Str → Option JJ}{base : Heap}
variable[TW]
theorem AO{x qual:Str}{st:Stmt}{f:Addr}{fd:FuncData}{N ps:List Str}{k:Nat}{g:PSt->R Fl}(F:Fun K x qual st f fd)(S:FnScope N ps (ae st))(hm:mg x=some (.ref f))(hb:Binds K fd ps [])
  (hbody:∀(cdv:JJ),cdv=fd.code->∀(A:KY)(outer:List Ow)(s:JM)(H:Hp)(E:XK),Room k (A.deeper (Mm qual (ae st) s.heap.objs.size f cdv))->SVs (zT P w K mg base N qual (ae st) f cdv A outer s H E) (aW st) g) :
  PF P w K mg base (k+1) x (ff ps.length N.length g):=by
 refine⟨f,fd,ps,Fun.okC F S (fun vs H Q E h=>h.1) (fun cdv hcdv A outer s H vs Q E hr h=>?_),hm,F.kp,hb,fun qs p h=>?_⟩
 ·obtain⟨hl,tb,qs,p,r,e,k⟩:=h
  refine⟨_,hbody cdv hcdv A outer s H E hr,start N.length qs,(H,H),gk tb r,?_⟩;unfold ff at e;rw[if_pos (by rw[r.length];exact hl)] at e;cases hg:g (start N.length qs) with
  | ok fl=>
   rw[hg] at e;cases fl with
   | next ρ=>cases e;exact fun σ H' S'=>k .non H' S'.same rfl
   | ret q=>cases e;exact fun v H' s' r'=>k v H' s' r'
   | brk ρ=>cases e
   | cont ρ=>cases e
  | er x=>rw[hg] at e;cases e
  | no=>rw[hg] at e;cases e
 ·unfold ff at h
  split at h
  ·rename_i hl;exact hl
  ·cases h
end
section
variable[TW]
variable{C : Cn}{elt tg iter : Expr}{ifs : List Expr}{scope : Scope}{pos : La}{N' : List Str}{nt : Nat}{idx : List Nat}{fi : PSt → R (List PV)}{h : Tgt}{t : PSt → R Bool}{fe : PSt → R PV}
theorem RQ.comp{H:Hp}{ρ:PSt}{m:PV->Prop}(q:RQ C H (iB fi h t fe nt idx ρ) m):RQ C H (fi ρ) fun ps=>∃qs,de h t fe (cF nt idx ρ) ps=.ok qs/\qs.length<=sizeLine/\m (.lst qs):=by
 unfold iB at q;refine q.bind.imp fun ps _ k=>?_;cases hc:de h t fe (cF nt idx ρ) ps with
 | ok qs=>
  rw[hc] at k;have k:RQ C H (fJ qs >>= fun qs=>R.ok (.lst qs)) m:=k;unfold fJ at k
  by_cases hz:qs.length<=16777216
  ·rw[if_pos hz] at k
   exact⟨qs,rfl,by rw[Ke];exact hz,k⟩
  ·rw[if_neg hz] at k
   exact JP k
 | er x=>rw[hc] at k;exact JP k
 | no=>rw[hc] at k;exact JP k
theorem AJ(i:Nat){x:Str}{px:La}{spos:La}(hN:C.X.N.Nodup)(O:CompOk C.X.N C.X.env.scope scope N' nt idx)(hi:EI C tg iter fi)
  (hg:∀cl L s H fp,TCt (dA C N' scope cl L s H fp) tg h) (he:∀cl L s H fp,EV (dA C N' scope cl L s H fp) elt fe)
  (hsw:MK (.ListComp elt [⟨tg,iter,ifs,0⟩] scope pos) (some (.Name x px)) spos.line C.X.env=pure true:=by rfl)
  (hs:∀x,N4 iter C.X.env x=pure x:=by intro _;rfl)
  (hf:C.X.fn x=true\/C.X.env.scope.names.lookup x=some .local:=by first | exact .inl rfl | exact .inr rfl | assumption) (hc:C.X.calm=true:=by rfl) (hlow:C2 nt h:=by repeat' (first | exact qb | exact mP (by decide) | apply qa | apply mQ)) (ht:∀cl L s H fp,ETs (dA C N' scope cl L s H fp) ifs t:=by exact fun _ _ _ _ _=>qu) (hi':C.X.N[i]?=some x:=by rfl) (hx:Loc C.X.env.scope x:=by first | exact .inl rfl | exact .inr rfl) :
  PS C.X (.Assign [.Name x px] (.ListComp elt [⟨tg,iter,ifs,0⟩] scope pos) spos) (G7 (tV C (iB fi h t fe nt idx)) (yc i)):=by
 intro pins s σ H D I ⟨ρ,vw,q⟩;rw[exec_Assign_Name_used _ _ _ _ hsw];refine JI (Qd (JI ?_));show JZ _ C.X.A (do let _<- comprehension (.ListComp elt [⟨tg,iter,ifs,0⟩] scope pos) scope C.X.env _ (newList []) false (L9 iter C.X.env) (some (Ot (.Name x px) C.X.env))) _ _ s
 refine JI (LZ (OG (use:=some (Ot (.Name x px) C.X.env)) (Q:=fun _ s'=>SP C.X pins D .next s') rfl hs (bu fun y hy hk=>I.ok.has y.1 (O.free y hy hk)) O.kind O.names ?_)
  (fun _ s' hq=>JO (JO hq)) fun _ _ e=>e)
 refine thn (hi pins s σ H (fun J H'=>∃ps qs,Same H H'/\ItP C.X.K J H' ps/\de h t fe (cF nt idx ρ) ps=.ok qs/\qs.length<=sizeLine/\∀v H'',Same H H''->Rep C.X.K H'' (.lst qs) v->D.nx (σ.set i (some v)) H'') I
  ⟨ρ,vw,q.comp.imp fun ps _ k J H' s' ip=>?_⟩) fun v s1 h1=>thn h1 fun itv s2 h2=>?_
 ·obtain⟨qs,e1,z,k⟩:=k
  exact⟨ps,qs,s',ip,e1,z,fun v H'' s'' r=>k v H'' s'' r⟩
 ·obtain⟨it,fp,tn,J,H2,e,I2,T,st2,f2,ps,qs,sm,ip,e1,hz,k⟩:=h2
  subst e;refine kW O hc hg hlow ht he I2 T st2 f2 (vw.same sm) ip e1 hz fun Da L σ' H' s' xs I' sm' nD hD rp hL=>?_;obtain⟨m,⟨o,es,ep,ho,hrest⟩,_⟩:=id I'.loc;have IB:=kX I2 f2 I';have nL:L≠C.X.env.locals:=L8 (JY I2.lt hL)
  have nC:∀x c,C.X.env.cells.lookup x=some c->c≠L:=fun x c ec z=>by
   obtain⟨v,qc⟩:=I2.cell x c ec;have z:c=L:=z;exact Kt _ (JY (z▸qc.lt) hL)
  have nP:∀p∈C.X.pn++pins,p.1≠L:=fun p hp z=>by
   have z:p.1=L:=z;exact Kt _ (JY (z▸JR (I2.pin p hp).1) hL)
  have IP:L2.Inv C.X (pins++[(L,o)]) σ H' s':=IB.pins_of fun p hp=>by
   rcases Kd.mp hp with z | z
   ·exact IB.pin p (Kc _ z)
   ·have:p=(L,o):=by simpa using z
    subst this;exact⟨ho,I'.free,nL,I2.nofs hL,fun v z=>by rw[hrest.1] at z;cases z⟩
  obtain⟨H3,I3,rp3,oth⟩:=L2.Inv.frz (a:=Da) (p:=.lst qs) IP ⟨xs,hD,rp⟩;refine thn (mI hN hi' hx hf (pins++[(L,o)]) s' σ H3 (.ref Da) (.ref Da) (fun σ4 H4=>σ4=σ.set i (some (.ref Da))/\H4=H3) I3 rfl ⟨rfl,rfl⟩) fun _ s4 ⟨σ4,H4,I4,e4,e5⟩=>?_;have hp:=I4.pin (L,o) (by simp);have IU:L2.Inv C.X pins σ4 H4 s4:=I4.unpinned;refine⟨m,⟨o,es,ep,hp.1,hrest⟩,fun h' sb=>⟨σ4,H4,kU IU hp.2.1 nL (Ko I2.sz hL) nC nP sb,?_⟩⟩;subst e4 e5;exact k _ _ ((sm.trans sm').but (sm.free nD) (fun u h=>by rw[hD] at h;cases h;rfl) oth) rp3
end
variable[TW]
noncomputable def tSF(C:Cn)(Φ:Ph)(g:PSt->R Fl):TS:=fun D σ H=>Φ σ H/\tS C g D σ H
def SVF(C:Cn)(Φ:Ph)(st:List Stmt)(g:PSt->R Fl):Prop:=PSs C.X st (tSF C Φ g)
noncomputable def tBF(C:Cn)(Φ:Ph)(t:PSt->R Bool):TT:=fun σ H Q=>Φ σ H/\tBl C t σ H Q
def ETF(C:Cn)(Φ:Ph)(e:Expr)(t:PSt->R Bool):Prop:=PT C.X e (tBF C Φ t)
noncomputable def zQ(i:Nat)(g:PSt->R Fl):PSt->R Fl:=fun ρ=>match ρ[i]? with
 | some .no=>g ρ
 | _=>.no
def m7(L:Lam)(idx:List Nat)(fs:PSt->R (List PV))(app:Lam->List PV->List PV->Option PV):PSt->R PV:=fun ρ=>qw ρ idx >>= fun cs=>fs ρ >>= fun qs=>
 if aL qs=true/\aL cs=true then R.ofO (app L qs cs) >>= fun z=>if noFn z=true then .ok z else .no else .no
theorem SVF.tru{C:Cn}{sts:List Stmt}{g:PSt->R Fl}(h:SVF C tru sts g):SVs C sts g:=fun pins s σ H D I q=>h pins s σ H D I ⟨trivial,q⟩
section
variable{C : Cn}{Φ Ψ : Ph}{e : Expr}{es : List Expr}{f : PSt → R PV}{fs : PSt → R (List PV)}{g : PSt → R Fl}{rest : List Stmt}{pos : La}
theorem vC(ha:EVF C Φ e f)(he:∀whole,isTrue e C.X.env whole=(do let v<- whole;standAt e.pos;R1 [v] (truthy v)):=by intro _;rfl)(hw:C.X.w=TW.w:=by rfl):ETF C Φ e (dZ f):=by
 intro pins s σ H Q I ⟨ph,ρ,vw,q⟩;refine isTrue_plain (thn (ha pins s σ H (fun v H'=>∃p b,bg C.X.K H' p v/\tF p=some b/\Q b H') I ⟨ph,ρ,vw,q.bind.imp fun p _ k v H' s' r=>?_⟩) fun v s1 ⟨x,H1,I1,r1,q1⟩=>tE hw pins s1 σ H1 x v Q I1 r1 q1) (he _);obtain⟨b,eb,k⟩:=k.ofO;exact⟨p,b,r.o,eb,k H' s'⟩
theorem Ao(he:EVF C Φ e f):SVF C Φ [.Return (some e) pos] (cG f):=by
 intro pins s σ H D I ⟨ph,ρ,B,S,h⟩;exact iN (lI he) pins s σ H D I ⟨ph,ρ,S.vw,(h.bind S.same).imp fun p _ k v H' s' r=>k v H' (S.same.trans s') r⟩
theorem me(i:Nat){x:Str}{pos':La}(hN:C.X.N.Nodup)(ok:Φ.Ok)(hk:∀σ H v,Φ σ H->Φ (σ.set i v) H)(he:EVF C Φ e f)(hr:SVF C Φ rest g)(hs:MK e (some (.Name x pos')) pos.line C.X.env=pure false:=by rfl)
  (hf:C.X.fn x=true\/C.X.env.scope.names.lookup x=some .local:=by first | exact .inl rfl | exact .inr rfl | assumption) (hi:C.X.N[i]?=some x:=by rfl) (hx:Loc C.X.env.scope x:=by first | exact .inl rfl | exact .inr rfl) :
  SVF C Φ (.Assign [.Name x pos'] e pos::rest) (aU (cn i f) g):=by
 intro pins s σ H D I ⟨ph,ρ,B,S,h⟩;refine dC (qQ hN hi hx he hs hf) hr pins s σ H D I ⟨ph,ρ,S.vw,?_⟩;unfold aU cn at h;cases hg:f ρ with
 | ok p=>rw[hg] at h;exact fun v H' s' r=>⟨hk _ _ _ (ok _ _ _ ph s'),ρ.set i (.val p),B,(S.grow s').setV r,h⟩
 | er x=>rw[hg] at h;exact fun H' s'=>h H' (S.same.trans s')
 | no=>rw[hg] at h;exact h
theorem tH{c e1:Expr}{t:PSt->R Bool}{f1:PSt->R PV}{p1:La}(ok:Φ.Ok)(hc:ETF C Φ c t)(h1:EVF C Φ e1 f1)(hr:SVF C Φ rest g):SVF C Φ (.If c [.Return (some e1) p1] [] pos::rest) (aU (ifF t (cG f1) cO) g):=by
 intro pins s σ H D I ⟨ph,ρ,B,S,h⟩;refine dC (D9 hc (iN (lI h1)) u9) hr pins s σ H D I ⟨ph,ρ,S.vw,?_⟩;unfold aU ifF at h;cases hg:t ρ with
 | ok b=>
  rw[hg] at h;intro H' s';cases b with
  | true=>
   refine(if_pos rfl).mpr ⟨ok _ _ _ ph s',ρ,S.vw.same s',?_⟩;have h:RS C B D (cG f1 ρ >>= fun fl=>_):=h;unfold cG at h;cases hf:f1 ρ with
   | ok p=>rw[hf] at h;exact fun v H2 s2 r=>h v H2 ((S.same.trans s').trans s2) r
   | er x=>rw[hf] at h;exact fun H2 s2=>h H2 ((S.same.trans s').trans s2)
   | no=>rw[hf] at h;exact h
  | false=>exact(if_neg (by decide)).mpr ⟨ok _ _ _ ph s',ρ,B,S.grow s',h⟩
 | er x=>rw[hg] at h;exact fun H' s'=>h H' (S.same.trans s')
 | no=>rw[hg] at h;exact h
theorem CM{st:Stmt}(i:Nat)(ok:Φ.Ok)(hk:∀σ H v,Φ σ H->Φ (σ.set i v) H)(hp:PS C.X st (G7 (tV C f) (yc i)))(hr:SVF C Φ rest g):SVF C Φ (st::rest) (aU (cn i f) g):=by
 intro pins s σ H D I ⟨ph,ρ,B,S,h⟩;refine dC hp hr pins s σ H D I ⟨ρ,S.vw,?_⟩;unfold aU cn at h;cases hg:f ρ with
 | ok p=>rw[hg] at h;exact fun v H' s' r=>⟨hk _ _ _ (ok _ _ _ ph s'),ρ.set i (.val p),B,(S.grow s').setV r,h⟩
 | er x=>rw[hg] at h;exact fun H' s'=>h H' (S.same.trans s')
 | no=>rw[hg] at h;exact h
structure DefC(C:Cn)(L:Lam)(b:List Stmt)(pos:La)(c P:Addr):Prop where
 bd:L.body=.stmts b
 qual:L.qual=OQ C.X.env L.name L.name
 tq:TW.qual pos.line pos.col=L.qual
 code:C.X.env.code=.ref c
 hd:NK C.X.base c P
 tab:P∈TW.tabs
 bn:Bn C.X
 d0:L.args.defaults=[]
 k0:L.args.kw_defaults=[]
 an:annTrees L.args none C.X.env=[]
 free:∀y∈L.scope.names,y.2=.free->C.X.env.scope.names.lookup y.1=some .cell
theorem tJ{L:Lam}{b:List Stmt}{c P:Addr}(i:Nat)(hN:C.X.N.Nodup)(ok:Φ.Ok)(hk:∀σ H v,Φ σ H->Φ (σ.set i v) H)(d:DefC C L b pos c P)(hr:SVF C (fun σ H=>Φ σ H/\FnS C.X i L σ H) rest g)
  (hf:C.X.fn L.name=true\/C.X.env.scope.names.lookup L.name=some .local:=by first | exact .inl rfl | exact .inr rfl | assumption) (hi:C.X.N[i]?=some L.name:=by rfl) (hx:Loc C.X.env.scope L.name:=by first | exact .inl rfl | exact .inr rfl) :
  SVF C Φ (.FunctionDef L.name L.args b [] none [] L.scope none L.name pos::rest) (zQ i g):=by
 intro pins s σ H D I ⟨ph,ρ,B,S,h⟩;unfold zQ at h;split at h
 ·rename_i e0
  have p1:PS C.X (.FunctionDef L.name L.args b [] none [] L.scope none L.name pos) (fun D σ' H'=>σ'=σ/\H'=H/\∀v H1,Same H H1->FnS C.X i L (σ.set i (some v)) H1->D.nx (σ.set i (some v)) H1):=by
   intro pins' s' σ' H' D' J ⟨e1,e2,q⟩;subst σ' H';obtain⟨ps,eP,tk⟩:=S.vw.tb P d.tab;have has:∀y∈L.scope.names,y.2=.free->∃c,C.X.env.cells.lookup y.1=some c:=fun y hy hk=>J.ok.has y.1 (.inl (d.free y hy hk));refine EF (c:=c) (P:=P) J eP tk d.code d.hd d.bn d.d0 d.k0 d.an (d.tq.trans d.qual) has fun f c' doc pm ct H1 s1 I1 sm hf' hc'=>?_;rw[← d.qual] at hf' hc'
   have hf':H1 f=some (FnAt f (ie L (dv C.X.env.cells L.scope.names []) (doc,pm) c' ct)):=by
    rw[hf'];unfold ie qe;rw[d.bd]
   refine jt I1 hN hi hx (v:=.ref f) rfl (fun s2 I2=>⟨_,H1,I2,q _ H1 sm ⟨f,c',(doc,pm),ct,?_,hf',hc'⟩⟩) hf;rw[Mq (by rw[← S.len];exact(JL.mp e0).1)]
  refine dC p1 hr pins s σ H D I ⟨rfl,rfl,fun v H1 sm fn=>⟨⟨hk _ _ _ (ok _ _ _ ph sm),fn⟩,ρ,B,?_,h⟩⟩;have S1:=S.grow sm;have ne:∀(j:Nat)(z:Sl),ρ[j]?=some z->z≠.no->j≠i:=fun j z ez n q=>by subst q;rw[e0] at ez;cases ez;exact n rfl
  have gs:∀j,j≠i->(σ.set i (some v))[j]?=σ[j]?:=fun j n=>ML (LY n);refine⟨by rw[List.length_set];exact S1.len,S1.same,S1.kp,⟨fun j z ez=>?_,S1.vw.tb⟩,fun j p a e1 e2=>?_,fun j k p q a e1 e2 e3 e4=>?_,S1.pinned⟩
  ·by_cases n:j=i
   ·subst n
    rw[e0] at ez;cases ez;exact trivial
   ·rw[gs j n]
    exact S1.vw j z ez
  ·rw[gs j (ne j _ e1 (by simp))] at e2
   exact S1.fresh j p a e1 e2
  ·rw[gs j (ne j _ e1 (by simp))] at e3
   rw[gs k (ne k _ e2 (by simp))] at e4;exact S1.apart j k p q a e1 e2 e3 e4
 ·exact JP h
theorem sJ{L:Lam}{idx:List Nat}{app:Lam->List PV->List PV->Option PV}{k:Nat}{x:Str}{p pos:La}(i:Nat)(T:F6 C.X.prog C.X.w C.X.K C.X.mg C.X.base k app){kr:Nat}(hr:Room kr C.X.A)(hF:∀σ H,Φ σ H->FnS C.X i L σ H)(fc:FnC C L idx)(ha:EA C (e::es) fs)
  (hN:C.X.N[i]?=some x:=by rfl) (hvis:Vis C.X.env.scope x:=by first | exact .inl rfl | exact .inr (.inl rfl) | exact .inr (.inr rfl)) (hdb:(x == ("__debug__":Str))=false:=by decide) (hcd:(x == ("__classdict__":Str))=false:=by decide)
  (he:K1 (e::es) C.X.env=(false,L9 e C.X.env)::K1 es C.X.env:=by exact bC rfl) (hpl:(MM pos (K1 es C.X.env)).any (·.1)=false:=by exact fg rfl) (hk:k+1<=kr:=by decide) (hfn:∀y,C.X.fn y=true:=by exact fun _=>rfl) :
  EVF C Φ (.Call (.Name x p) (e::es) [] pos) (m7 L idx fs app):=by
 replace hr:=hr.mono hk;intro pins s σ H Q I ⟨ph,ρ,vw,q⟩;unfold m7 at q;cases hc:qw ρ idx with
 | er x=>exact absurd hc (jG idx x)
 | no=>rw[hc] at q;exact JP q
 | ok cs=>
  rw[hc] at q;obtain⟨f,c,pm,ct,ev,hf0,hc0⟩:=hF σ H ph;refine MC (thn (eG hN hvis hdb hcd pins s σ H (fun v' H'=>v'=.ref f/\H'=H) I ⟨_,ev,rfl,rfl⟩) fun u s1 ⟨v',H',I1,ru,e2,e3⟩=>?_);subst e2 e3;cases (show u=Kh f from ru);have fnAt:∀{H2:Hp}{s2:JM},L2.Inv C.X pins σ H2 s2->Same H' H2->PySem.W.FnAt f s2.heap:=fun {H2 s2} I2 sm=>⟨_,_,_,_,(I2.hok f _ (sm _ _ hf0)).1⟩;have q:RQ C H' (fs ρ >>= fun qs=>if aL qs=true/\aL cs=true then R.ofO (app L qs cs) >>= fun z=>if noFn z=true then .ok z else .no else .no) _:=q
  refine QP (fnAt I1 (Same.refl _)) (thn (ha pos pins s1 σ H' (fun vs H2=>∃qs z,aB C.X.K H2 qs vs/\Same H' H2/\aL qs=true/\aL cs=true/\app L qs cs=some z/\noFn z=true/\∀v H3,Same H' H3->Rep C.X.K H3 z v->Q v H3) I1
   ⟨ρ,vw,q.bind.imp fun qs _ k1 vs H2 sm2 r2=>?_⟩) fun us s2 ⟨vs,H2,I2,r,qs,z,r2,sm2,n1,n2,ea,nz,k2⟩=>⟨fnAt I2 sm2,?_⟩) he hpl
  ·split at k1
   ·rename_i hn
    obtain⟨z,ez,k3⟩:=k1.bind.ofO;split at k3
    ·rename_i nz
     exact⟨qs,z,r2,sm2,hn.1,hn.2,ez,nz,fun v H3 s3 r3=>k3 v H3 s3 r3⟩
    ·exact JP k3
   ·exact JP k1
  ·obtain⟨ps,ls,fe,B,hl,ef⟩:=T L qs cs z ea
   have pr:yF C.X H2 σ (.fn L cs) (.ref f):=pU (pins:=pins) (s:=s2) I2.ok.inj (fun y hy=>I2.ok.has y (.inl hy)) (vw.same sm2) hc fc.free fc.kept fc.nd fc.ix (sm2 _ _ hf0) (sm2 _ _ hc0);have rep:=qR I2 hfn pr;have cl:=vT I2 hfn (C.X.env.scope.names.map (·.1));have ext:Same H2 (trC H2 (gB C.X s2.heap (C.X.env.scope.names.map (·.1)))):=.of fun b o e=>by rw[aV (cl.out e)];exact e
   obtain⟨f',c',cl',pm',ct',xs,e1,hf1,hc1,hk1,nd1,ca,rc⟩:=rep;cases e1;obtain⟨hxl,l,l1,l2⟩:=iX ca;have hus:us.length=ps.length:=by rw[← r.length,← r2.length];exact hl
   refine QM (Nl (uL (l:=l) (E:=E0) (Q:=fun v H3=>Same (trC H2 (gB C.X s2.heap (C.X.env.scope.names.map (·.1)))) H3/\Rep C.X.K H3 z v) B.sc hr (Et I2 cl) hf1 hc1 l1 hk1 nd1 hxl l2 (B.bd cl' pm' ct' c' us hus) (B.ev f c' cl' C.X.A C.X.stack s2 _ (hr.deeper _)) r (by rw[← r2.length];exact hl) (r2.same ext) rc n1 n2 (ext.tabs (sm2.tabs vw.tb)) ef
    fun v H3 s3 r3=>⟨s3,r3⟩) fun r' s' hq=>?_)
   cases r' with
   | error e=>exact JP hq
   | ok fl=>
    cases fl with
    | ret u=>
     obtain⟨v,H3,os,bare,un,hok,rv,sm3,rp⟩:=hq;refine zY I2 cl ⟨v,H3,os,bare,un,hok,rv,fun un=>k2 v _ (sm2.trans (CV cl un sm3)) (Rep.pl (fun b u e h=>?_) z nz rp)⟩;rw[b8 (oD un e (mY h))];exact e
    | next=>exact JP hq
    | brk=>exact JP hq
    | cont=>exact JP hq
end
theorem gI.st{C:Cn}{n:Nat}{B:FuncBody}{b:List Stmt}{g:PSt->R Fl}(h:B=.stmts b)(hs:SVs C b g):gI C n (qy n g) B:=by
 subst h;exact⟨g,hs,rfl⟩
theorem gI.ex{C:Cn}{B:FuncBody}{b:Expr}{fe:PSt->R PV}(h:B=.expr b)(hs:EV C b fe):gI C 0 fe B:=by
 subst h;exact⟨rfl,hs⟩
structure NdL(l:List Str):Prop where
 nd:l.Nodup
theorem FnS.set{X:Cx}{i j:Nat}{L:Lam}(h:j≠i):∀σ H v,FnS X i L σ H->FnS X i L (σ.set j v) H:=fun σ H v ⟨f,c,pm,ct,e,r⟩=>⟨f,c,pm,ct,by rw[ML h];exact e,r⟩
theorem Ph.and_ok{Φ Ψ:Ph}(a:Φ.Ok)(b:Ψ.Ok):Ph.Ok (fun σ H=>Φ σ H/\Ψ σ H):=fun σ H H' h s=>⟨a σ H H' h.1 s,b σ H H' h.2 s⟩
end PU
namespace PU
open PySem PySem.Spec PyProof.Rows L2 PySem.SeqAt
def tQ(i:Nat)(fk fv:PSt->R PV):PSt->R Fl:=fun ρ=>match ρ[i]? with
 | some (.own (.dct ks ps))=>fk ρ >>= fun kp=>fv ρ >>= fun p=>R.ofO (e6 kp) >>= fun k=>if ks.length<16777216 then .ok (.next (if (ks.any fun j=>decide (j=k))=true then ρ else ρ.set i (.own (gD ks ps k p)))) else .no
 | _=>.no
def Gh:V->List V->Hp->VK->Prop:=fun x vs H Q=>∃a kvs k v,x=.ref a/\vs=[kV k,v]/\H a=some (.dK kvs)/\kvs.length<sizeLine/\
 ((∃w,jo kvs k=some w/\Q w H)\/(jo kvs k=none/\Q v (upd H a (.dK (putK kvs k v)))))
theorem B8 {X:Cx}:MtM X "dict.setdefault" Gh:=by
 intro pins s σ H x vs v us Q I rx rv h;obtain⟨a,kvs,k,y,rfl,rfl,hH,hl,q⟩:=h;cases rx;obtain⟨u1,u2,rfl,r1,r2⟩:=Vals.two rv;obtain⟨z,hd,ws,rel,dd⟩:=BD I.hok hH;have hz:ws.length<=sizeLine:=by rw[← rel.length];exact z
 refine R4 P6 dd.typeIs PySem.F.entry_dict_setdefault (PySem.F.args_dict_setdefault_3 _ _ _) (PySem.kt_meets_setdefault (ak X.prog X.w) a (ko r1) hd u2) ⟨ws,dd,hz,fun v' hv'=>?_,fun hn h' dd' hs=>?_⟩
 ·rcases q with⟨w,ew,q⟩|⟨en,_⟩
  ·obtain⟨w',hw',rw'⟩:=pH.some_of (v:=w) (o:=LM ws k) (by rw[← ew];exact rel.val k)
   rw[hv'] at hw';cases hw';exact⟨w,H,I.tok _,rw',q⟩
  ·have:LM ws k=none:=pH.none_of (by rw[← en];exact rel.val k)
   rw[this] at hv';cases hv'
 ·rcases q with⟨w,ew,_⟩|⟨en,q⟩
  ·obtain⟨w',hw',_⟩:=pH.some_of (v:=w) (o:=LM ws k) (by rw[← ew];exact rel.val k)
   rw[hn] at hw';cases hw'
  ·have hl2:(putK kvs k y).length<=sizeLine:=by have:=dS kvs k y;omega
   have he:∃q,h'.get? a=some q:=let ⟨q,_,_,hq,_⟩:=dd';⟨q,hq⟩
   exact⟨y,_,kR I (by rw[hH];exact N1) hs he (vG hl2 hd (rel.put k r2) dd'),r2,q⟩
variable[TW]
theorem Ap{C:Cn}{pos apos cpos:La}{ke e:Expr}{fk fv:PSt->R PV}(i:Nat){x:Str}{np:La}(hk:EV C ke fk)(he:EV C e fv)(hN:C.X.N[i]?=some x:=by rfl)(hv:Vis C.X.env.scope x:=by first | exact NY rfl | exact N7 (NY rfl))
  (hs:K1 [ke,e] C.X.env=[(false,L9 ke C.X.env),(false,L9 e C.X.env)]:=by rfl) (hs2:K1 [e] C.X.env=[(false,L9 e C.X.env)]:=by exact bX rfl)
  (hb:NU (.Name x np) "setdefault" C.X.env (L9 (.Name x np) C.X.env)=L9 (.Name x np) C.X.env:=by rfl) (hline:(apos.endLine == cpos.line)=true:=by rfl)
  (hd:(x == ("__debug__":Str))=false:=by decide) (hcd:(x == ("__classdict__":Str))=false:=by decide):SV C (.Expr (.Call (.Attribute (.Name x np) "setdefault" apos) [ke,e] [] cpos) pos) (tQ i fk fv):=by
 intro pins s σ H D I ⟨ρ,B,S,q⟩;unfold tQ at q;split at q
 ·rename_i ks ps e1
  obtain⟨a,e2,kvs,hx,ek,rr⟩:=S.vw i _ e1;refine ua (AU Nm P6 PySem.F.type_dict_setdefault B8 (eG hN hv hd hcd) (cq hk (cq he gE hs2) (by rw[hs,hs2])) hb (by rw[hs];rfl) hline (by rw[hs,hs2]) (by rw[hs2];rfl)) (by rfl) pins s σ H D I ?_;refine⟨_,e2,.inr (.inr (.inl ⟨rfl,.inl ⟨kvs,hx⟩⟩)),ρ,S.vw,(RS.bind q S.same).imp fun kp _ q1 y H1 s1 r1=>⟨ρ,S.vw.same s1,(q1.bind (S.same.trans s1)).imp fun p _ q2 v H2 s2 r2=>?_⟩⟩;obtain⟨k,e3,q3⟩:=RS.ofO q2
  by_cases hl:ks.length<16777216
  ·rw[if_pos hl] at q3
   have hy:=cH e3 r1.o;subst hy;subst ek;have hx2:H2 a=some (.dK kvs):=s2 _ _ (s1 _ _ hx);refine⟨a,kvs,k,v,rfl,rfl,hx2,by rw[Ke];simpa using hl,?_⟩
   have hany:((kvs.map (·.1)).any fun j=>decide (j=k))=(jo kvs k).isSome:=by
    rw[← gZ,Lg];rfl
   cases ev:jo kvs k with
   | some w=>
    rw[ev] at hany;have hany:((kvs.map (·.1)).any fun j=>decide (j=k))=true:=hany;rw[if_pos hany] at q3;exact .inl ⟨w,rfl,q3 σ H2 ((S.grow s1).grow s2)⟩
   | none=>
    rw[ev] at hany;have hany:((kvs.map (·.1)).any fun j=>decide (j=k))=false:=hany;rw[if_neg (by rw[hany];exact JU)] at q3;refine .inr ⟨rfl,?_⟩;have kp:Kp H2 (upd H2 a (.dK (putK kvs k v))):=Kp.upd hx2 rfl;refine q3 σ _ (((S.grow s1).grow s2).turn e1 e2 (fun b hb=>av hb) ⟨a,rfl,?_⟩);exact gO (aB.kp kp _ ((rr.same s1).same s2)) (Rep.kp kp _ r2) ar
  ·rw[if_neg hl] at q3
   exact JP q3
 ·exact JP q
end PU
namespace PU
open PySem PySem.Spec PyProof.Rows L2 PySem.SeqAt
theorem wG{M:Model}{A:KY}{E:JJ->JM->Prop}{s:JM}{a:Addr}{Q:Option Obj->JM->Prop}(q:Q (s.heap.get? a) s):JZ M A (loadIfAlive a) Q E s:=fun Γ p hΓ=>by
 unfold loadIfAlive;rw[Sem.wp_loadIfAlive];exact JO (M:=M) (A:=A) q Γ p hΓ
abbrev ItH(h:Heap)(it d a:Addr)(f:Bool)(i n ep:Nat)(ok ov:JJ):Prop:=
 h.get? it=some { cls:=.type "dict_itemiterator",dict:=none,data:=.fields #[Mb a,.bool f,.ref d,.int i 0,.int n 0,.int ep 0,ok,ov],slots:=#[] }
section
variable{prog : K5}{w : KH}{K : Type}[DecidableEq K]{knd : KeyKind prog w K}{A : KY}{E : JJ → JM → Prop}{s : JM}
theorem AY{it d a:Addr}{f:Bool}{i ep:Nat}{kvs:List (K×JJ)}{k:K}{v ok ov:JJ}{oa:Obj}{Q:Option JJ->JM->Prop}(hI:ItH s.heap it d a f i kvs.length ep ok ov)(ha:s.heap.get? a=some oa)(hai:a≠it)
  (hm:s.heap.DictAt knd d kvs ep) (hx:kvs[i]?=some (k,v))
  (hQ:∀key h',knd.is k key=true->ItH h' it d a true (i+1) kvs.length ep ok ov->h'.get? s.heap.objs.size=some { cls:=.type "tuple",data:=.seq #[key,v] }->h'.objs.size=s.heap.objs.size+1->
   (∀b o,b≠it->s.heap.get? b=some o->h'.get? b=some o)->Q (some (.ref s.heap.objs.size)) { s with heap:=h' }) :
  JZ (KM prog w) A (Nd (.ref it)) Q E s:=by
 obtain⟨h0,g,dr,tk,os⟩:=s;obtain⟨od,es,e1,e2,e3,e4,pr,e5⟩:=id hm;have tI:OT ⟨h0,g,dr,tk,os⟩ (.ref it) "dict_itemiterator":=⟨_,hI,rfl⟩;have ow:OC "dict_itemiterator"=true:=by decide
 have sz:es.size=kvs.length:=by rw[← pr.length];simp
 have lt1:i<kvs.length:=(JL.mp hx).1;have lt2:i<es.size:=by omega
 obtain⟨kq,vq⟩:=pr.get? (e:=es[i]) (by simp[lt2]) hx;unfold Nd;refine JI (wpAny_attempt (Mv (name:=JK "__next__") tI Le (Md Le tI ON ?_ (OJ _))));refine JI (JO (JI (JI ?_)))
 first | refine JI (M5 tI (JO (JI (On hI rfl ?_)))) | refine JI (Mj tI (JO (JI (On hI rfl ?_))))
 simp only[ow,if_true];show JZ _ _ (if (Kh d == LF)=true then _ else _) _ _ _;rw[if_neg (show ¬ ((Kh d == LF)=true) from JU)];refine JI (JO (JI (MR e1 e3 ?_)));rw[if_neg (by rw[sz];simp)];refine JI (JO (JI (OX e1 e3 ?_)));rw[if_neg (by simp)];refine JO ?_;simp only[show ¬ ((i:Int)<0) from by omega,if_false,PC,Ln lt2];refine JI ?_
 first | refine JI (M5 tI (JO (JI (N3 tI ?_)))) | refine JI (Mj tI (JO (JI (N3 tI ?_))))
 show JZ _ _ (setField (.ref it) 3 (Mb ((i:Int)+1)) >>= _) _ _ ⟨h0,g,dr,tk,os⟩;refine JI (wpAny_setField_rec hI (by simp) fun h1 f1 s1=>?_);have s1:Lq it h0 h1:=s1
 have f1:ItH h1 it d a f (i+1) kvs.length ep ok ov:=by
  have e:((i+1:Nat):Int)=(i:Int)+1:=by omega
  unfold ItH;rw[e];simpa [Mb] using f1
 have t1:OT ⟨h1,g,dr,tk,os⟩ (.ref it) "dict_itemiterator":=⟨_,f1,rfl⟩;refine JI (LR (JI (N3 t1 (JI (N3 t1 ?_)))));show JZ _ _ (Nq (.ref it) 6 es[i].key es[i].val) _ _ ⟨h1,g,dr,tk,os⟩;unfold Nq;refine JI (wpAny_newTuple ?_);have z1:h1.objs.size=h0.objs.size:=s1.1;have il:it<h0.objs.size:=JR hI;have f2:ItH (h1.push { cls:=.type "tuple",data:=.seq #[es[i].key,es[i].val] }) it d a f (i+1) kvs.length ep ok ov:=JN _ f1;have a2:(h1.push { cls:=.type "tuple",data:=.seq #[es[i].key,es[i].val] }).get? a=some oa:=JN _ (s1.extBut a oa hai ha);have t2:(h1.push { cls:=.type "tuple",data:=.seq #[es[i].key,es[i].val] }).get? h0.objs.size=some { cls:=.type "tuple",data:=.seq #[es[i].key,es[i].val] }:=by rw[← z1];exact K6 _ rfl
 have z2:(h1.push { cls:=.type "tuple",data:=.seq #[es[i].key,es[i].val] }).objs.size=h0.objs.size+1:=by rw[OP,z1]
 have k2:∀b o,b≠it->h0.get? b=some o->(h1.push { cls:=.type "tuple",data:=.seq #[es[i].key,es[i].val] }).get? b=some o:=fun b o hb e=>JN _ (s1.extBut b o hb e);rw[z1];show JZ _ _ (Ng (.ref it) >>= _) _ _ ⟨h1.push { cls:=.type "tuple",data:=.seq #[es[i].key,es[i].val] },g,dr,tk,os⟩;generalize h1.push { cls:=.type "tuple",data:=.seq #[es[i].key,es[i].val] }=h2 at f2 a2 t2 z2 k2 ⊢;refine JI ?_;unfold Ng;refine JI (Oo f2 rfl (x:=Mb a) rfl ?_);show JZ _ _ (loadIfAlive (a:Int).toNat >>= _) _ _ _;rw[PC];refine JI (wG ?_);show JZ _ _ (if (Option.isNone (h2.get? a))=true then _ else _) _ _ _;rw[a2];rw[if_neg (by simp)];refine JI (Oo f2 rfl (x:=.bool f) rfl ?_)
 have last:∀h3,ItH h3 it d a true (i+1) kvs.length ep ok ov->Lq it h2 h3\/h3=h2->Q (some (.ref h0.objs.size)) ⟨h3,g,dr,tk,os⟩:=fun h3 f3 s3=>by
  have kk:∀b o,b≠it->h2.get? b=some o->h3.get? b=some o:=fun b o hb e=>by
   rcases s3 with s3 | rfl
   ·exact s3.extBut b o hb e
   ·exact e
  refine hQ es[i].key h3 kq f3 ?_ ?_ fun b o hb e=>kk b o hb (k2 b o hb e)
  ·rw[← vq];exact kk _ _ (L8 il) t2
  ·show h3.objs.size=h0.objs.size+1
   rcases s3 with s3 | rfl
   ·rw[s3.1,z2]
   ·exact z2
 cases f with
 | true=>
  show JZ _ _ (if (O6 true != O6 true)=true then _ else _) _ _ _;rw[if_neg (by decide)];refine JO ?_;show JZ _ _ (if false=true then _ else _) _ _ _;rw[if_neg JU];exact JO (JO ⟨_,rfl,JO (last h2 f2 (.inr rfl))⟩)
 | false=>
  show JZ _ _ (if (O6 false != O6 true)=true then _ else _) _ _ _;rw[if_pos (by decide)];refine JI (wpAny_setField_rec f2 (by simp) fun h3 f3 s3=>JO ?_);show JZ _ _ (if false=true then _ else _) _ _ _;rw[if_neg JU];exact JO (JO ⟨_,rfl,JO (last h3 f3 (.inl s3))⟩)
theorem B6{it d a:Addr}{f:Bool}{i ep:Nat}{kvs:List (K×JJ)}{ok ov:JJ}{Q:Option JJ->JM->Prop}(hh:A.handled=none)(hI:ItH s.heap it d a f i kvs.length ep ok ov)(hm:s.heap.DictAt knd d kvs ep)(hx:kvs[i]?=none)
  (hQ:∀h',N6 it s.heap h'->Q none { s with heap:=h' }):JZ (KM prog w) A (Nd (.ref it)) Q E s:=by
 obtain⟨od,es,e1,e2,e3,e4,pr,e5⟩:=id hm;have tI:s.TypeIs (.ref it) "dict_itemiterator":=⟨_,hI,rfl⟩;have ow:OC "dict_itemiterator"=true:=by decide
 have sz:es.size=kvs.length:=by rw[← pr.length];simp
 have ge:es.size<=i:=by rw[sz];simpa using hx
 unfold Nd;refine JI (wpAny_attempt (Mv (name:=JK "__next__") tI Le (Md Le tI ON ?_ (OJ _))));refine JI (JO (JI (JI ?_)))
 first | refine JI (M5 tI (JO (JI (On hI rfl ?_)))) | refine JI (Mj tI (JO (JI (On hI rfl ?_))))
 simp only[ow,if_true];show JZ _ _ (if (Kh d == LF)=true then _ else _) _ _ _;rw[if_neg (show ¬ ((Kh d == LF)=true) from JU)];refine JI (JO (JI (MR e1 e3 ?_)));rw[if_neg (by rw[sz];simp)];refine JI (JO (JI (OX e1 e3 ?_)));rw[if_neg (by simp)];refine JO ?_;simp only[show ¬ ((i:Int)<0) from by omega,if_false,PC,Array.getElem?_eq_none ge];refine JI ?_
 first | refine JI (M5 tI (JO ?_)) | refine JI (Mj tI (JO ?_))
 show JZ _ _ (setField (.ref it) 2 .none >>= _) _ _ s;refine JI (wpAny_setField hI rfl (by simp) ?_);show JZ _ _ (newExc (.type "StopIteration") [] >>= _) _ _ _;refine JI ?_;simp only[newExc,newTuple];refine JI (Ls ?_ (by size_fits));refine JI (m:=firstArgMember _ _) (wpAny_of_eq (a:=LF) (by first | rfl | (simp only[firstArgMember];rfl)) (Ls ?_ (by size_fits)));simp only[raiseNew];refine JI (wpAny_handled ?_);rw[show A.in1.handled=none from hh];refine JI (JO (wpAny_throw ?_));refine JI (NJ (T:="StopIteration") (b:=true) ⟨_,K6 _ rfl,rfl⟩ isSubtype_stop ?_);exact JO (hQ _ (((Heap.SameBut.update ..).extBut.push _).push _))
structure LiT(knd:KeyKind prog w K)(h:Heap)(S it:Addr)(kvs:List (K×JJ))(i:Nat)(Ts:List Addr)(c:Nat):Prop where
 len:Ts.length=i
 li:h.get? S=some { cls:=.type "list",data:=.seq (Ts.map Kh).toArray c }
 tu:∀(j:Nat) (T:Addr) (k:K) (v:JJ),Ts[j]?=some T->kvs[j]?=some (k,v)->∃key,knd.is k key=true/\h.get? T=some { cls:=.type "tuple",data:=.seq #[key,v] }
 nS:∀T∈Ts,T≠S/\T≠it
 lo:∀T∈Ts,S<T
 nd:Ts.Nodup
 al:∀T∈Ts,∃o,h.get? T=some o
theorem Ba(knd:KeyKind prog w K){S it d:Addr}{kvs:List (K×JJ)}{ep:Nat}{R:R8->JM->Prop}(hSI:S≠it)(hSd:d≠S)(hId:d≠it)(hz:kvs.length<=sizeLine)(hh:A.handled=none)(res:JJ)(keep:Heap->Prop)
  (hk:∀h h',keep h->(∀b o,b≠S->b≠it->h.get? b=some o->h'.get? b=some o)->keep h')
  (fin:∀h tk Ts c,keep h->LiT knd h S it kvs kvs.length Ts c->R (.ok (.ret res)) { s with heap:=h,toks:=tk }):∀(m i:Nat)(h:Heap)(tk:Nat)(Ts:List Addr)(c:Nat),kvs.length-i=m->i<=kvs.length->keep h->LiT knd h S it kvs i Ts c->h.DictAt knd d kvs ep->
  ((i=0/\IsItemIter h it d 0 kvs.length ep .none .none)\/∃a f ok ov,a∈Ts/\ItH h it d a f i kvs.length ep ok ov)->
  NR (KM prog w) A (.builtin "list.extend.loop" ⟨[.ref S,.ref it,res],[]⟩) R { s with heap:=h,toks:=tk }:=by
 intro m
 induction m with
 | zero=>
  intro i h tk Ts c hm hi kp L di st;have e:i=kvs.length:=by omega
  subst e;refine Mp Pd ?_;rw[QG Lm _];show JZ _ A.in1 (Nd (.ref it) >>= _) _ _ _;have none_:kvs[kvs.length]?=none:=by simp
  have done:∀h',N6 it h h'->R (.ok (.ret res)) { s with heap:=h',toks:=tk }:=fun h' ex=>by
   refine fin h' tk Ts c (hk h h' kp fun b o _ hb e=>ex b o hb e) ⟨L.len,ex _ _ hSI L.li,fun j T k v e1 e2=>?_,L.nS,L.lo,L.nd,fun T hT=>?_⟩
   ·obtain⟨key,q1,q2⟩:=L.tu j T k v e1 e2
    exact⟨key,q1,ex _ _ (L.nS T (KA e1)).2 q2⟩
   ·obtain⟨o,e⟩:=L.al T hT
    exact⟨o,ex _ _ (L.nS T hT).2 e⟩
  rcases st with⟨h0,st⟩|⟨a,f,ok,ov,_,st⟩
  ·rw[h0] at none_
   exact JI (wpAny_pyNext_items_end (s:={ s with heap:=h,toks:=tk }) (A:=A.in1) hh st di none_ fun h' ex=>JO (done h' ex))
  ·exact JI (B6 (s:={ s with heap:=h,toks:=tk }) (A:=A.in1) hh st di none_ fun h' ex=>JO (done h' ex))
 | succ m ih=>
  intro i h tk Ts c hm hi kp L di st;have hlt:i<kvs.length:=by omega
  obtain⟨k,v,ekv⟩:∃k v,kvs[i]?=some (k,v):=⟨_,_,KO hlt⟩;have hSl:S<h.objs.size:=JR L.li
  have hIl:it<h.objs.size:=by
   rcases st with⟨_,st⟩|⟨a,f,ok,ov,_,st⟩
   ·exact JR st
   ·exact JR st
  have nx:∀(E':JJ->JM->Prop) (Q:Option JJ->JM->Prop),(∀key h' a f ok ov,knd.is k key=true->a∈Ts++[h.objs.size]->ItH h' it d a f (i+1) kvs.length ep ok ov->h'.get? h.objs.size=some { cls:=.type "tuple",data:=.seq #[key,v] }->(∀b o,b≠it->h.get? b=some o->h'.get? b=some o)->
    Q (some (.ref h.objs.size)) { s with heap:=h',toks:=tk })->JZ (KM prog w) A.in1 (Nd (.ref it)) Q E' { s with heap:=h,toks:=tk }:=fun E' Q hQ=>by
   rcases st with⟨h0,st⟩|⟨a,f,ok,ov,ma,st⟩
   ·subst h0
    exact wpAny_pyNext_items_item (s:={ s with heap:=h,toks:=tk }) st di ekv fun key h' q1 q2 q3 _ q5=>hQ key h' h.objs.size false key v q1 (by simp) q2 q3 q5
   ·obtain⟨oa,ea⟩:=L.al a ma
    exact AY (s:={ s with heap:=h,toks:=tk }) st ea (L.nS a ma).2 di ekv fun key h' q1 q2 q3 _ q5=>hQ key h' a true ok ov q1 (by simp[ma]) q2 q3 q5
  refine Mp Pd ?_;rw[QG Lm _];show JZ _ A.in1 (Nd (.ref it) >>= _) _ _ _;refine JI (nx _ _ fun key h' a f ok ov kq ma st' tq kk=>?_);have hS':=kk S _ hSI L.li;have nT:h.objs.size≠S/\h.objs.size≠it:=⟨L8 hSl,L8 hIl⟩;have sz:((Ts.map Kh).toArray).size=i:=by simp[L.len]
  show JZ _ A.in1 (updateSeq S (·.push (.ref h.objs.size)) >>= _) _ _ _;refine JI ?_;refine MG hS' rfl (JO ⟨Qf Lm _,?_⟩) (by rw[sz];omega) (by rw[Array.size_push,sz];omega);have up:∀b o,b≠S->h'.get? b=some o->(h'.update S (Kb (·.push (.ref h.objs.size)))).get? b=some o:=fun b o hb e=>(L7 _ _ (LY hb)).trans e;obtain⟨c',u⟩:∃c',(h'.update S (Kb (·.push (.ref h.objs.size)))).get? S=some { cls:=.type "list",data:=.seq ((Ts.map Kh).toArray.push (.ref h.objs.size)) c' }:=⟨_,LU _ hS' rfl⟩;rw[show (Ts.map Kh).toArray.push (.ref h.objs.size)=((Ts++[h.objs.size]).map Kh).toArray by simp] at u;have old:∀T∈Ts,∀o,h.get? T=some o->(h'.update S (Kb (·.push (.ref h.objs.size)))).get? T=some o:=fun T hT o e=>up T o (L.nS T hT).1 (kk T o (L.nS T hT).2 e);refine ih (i+1) _ tk (Ts++[h.objs.size]) c' (by omega) hlt (hk h _ kp fun b o h1 h2 e=>up b o h1 (kk b o h2 e)) ⟨by simp[L.len],u,fun j T k' v' e1 e2=>?_,fun T hT=>?_,fun T hT=>?_,?_,fun T hT=>?_⟩ ?_ (.inr ⟨a,f,ok,ov,ma,up it _ (LY hSI) st'⟩)
  ·rw[Qb] at e1
   split at e1
   ·obtain⟨key',q1,q2⟩:=L.tu j T k' v' e1 e2
    exact⟨key',q1,old T (KA e1) _ q2⟩
   ·have hj:=JX.mp (KA e1)
    have hj2:j-Ts.length=0:=by
     have:=(JL.mp e1).1;simp at this;omega
    have hj3:j=i:=by have:=L.len;omega
    subst hj hj3;rw[ekv] at e2;cases e2;exact⟨key,kq,up _ _ nT.1 tq⟩
  ·rcases Kd.mp hT with z | z
   ·exact L.nS T z
   ·rw[JX.mp z];exact nT
  ·rcases Kd.mp hT with z | z
   ·exact L.lo T z
   ·rw[JX.mp z];exact hSl
  ·rw[LA]
   refine⟨L.nd,by simp,fun T hT T' hT' e=>?_⟩;obtain⟨o,eo⟩:=L.al T hT;rw[e,JX.mp hT'] at eo;exact absurd (JR eo) (Kt _)
  ·rcases Kd.mp hT with z | z
   ·obtain⟨o,e⟩:=L.al T z
    exact⟨o,old T z o e⟩
   ·rw[JX.mp z];exact⟨_,up _ _ nT.1 tq⟩
  ·obtain⟨o,es,ho,r⟩:=di
   exact⟨o,es,up d o hSd (kk d o hId ho),r⟩
end
end PU
namespace PU
open PySem PySem.Spec PyProof.Rows L2 PySem.SeqAt
theorem l8:isSubtype (.type "dict_items") (.type "dict_items")=pure true:=by rw[isSubtype_type];kernel_rfl
section
variable{P : K5}{w : KH}{A : KY}{E : JJ → JM → Prop}{s : JM}{d v : Addr}{kvs : List (Key×JJ)}{ep : Nat}
theorem mR{Q:JJ->JM->Prop}(hh:A.handled=none)(hv:s.heap.IsItemsView v d)(m:s.heap.DictAt (ak P w) d kvs ep)(hz:kvs.length<=sizeLine)
  (q:∀(h':Heap) (tk:Nat) (it:Addr) (Ts:List Addr) (c:Nat),(∀b o,s.heap.get? b=some o->h'.get? b=some o)->LiT (ak P w) h' s.heap.objs.size it kvs kvs.length Ts c->Q (.ref s.heap.objs.size) { s with heap:=h',toks:=tk }):JZ (KM P w) A (call (.type "list") [.ref v]) Q E s:=by
 have ld:d<s.heap.objs.size:=by obtain⟨o,es,ho,_⟩:=m;exact JR ho
 have lv:v<s.heap.objs.size:=by obtain⟨o,ho,_⟩:=hv;exact JR ho
 refine Oq (Q₁:=fun obj s₁=>obj=.ref s.heap.objs.size/\s₁={ s with heap:=s.heap.push { cls:=.type "list",data:=.seq #[] } }) QE (Pm _) Po (code_list_new _ ⟨rfl,rfl⟩) fun obj s₁ h₁=>?_;obtain⟨rfl,rfl⟩:=h₁;have g0:(s.heap.push { cls:=.type "list",data:=.seq #[] }).get? s.heap.objs.size=some { cls:=.type "list",data:=.seq #[] }:=K6 _ rfl;refine⟨⟨_,g0,rfl⟩,Pi _ _,?_⟩;show JZ _ _ (do let old<- MZ (.ref s.heap.objs.size);P7 (.ref s.heap.objs.size) (fun _=>#[]);letGo old.toList.reverse;LB (.ref s.heap.objs.size) (.ref v) .none) _ _ _;refine JI ?_;unfold MZ;refine JI (QL g0 rfl (JO ?_));show JZ _ _ (updateSeq s.heap.objs.size (fun _=>#[]) >>= fun _=>letGo (#[]:Array JJ).toList.reverse >>= fun _=>LB (.ref s.heap.objs.size) (.ref v) .none) _ _ _;refine JI (MG g0 rfl ?_ (Kz _) (Kz _));have g1:=LU (Kb (fun _=>(#[]:Array JJ))) g0 rfl
 have k1:∀b o,s.heap.get? b=some o->((s.heap.push { cls:=.type "list",data:=.seq #[] }).update s.heap.objs.size (Kb (fun _=>(#[]:Array JJ)))).get? b=some o:=
  fun b o e=>(L7 _ _ (L8 (JR e))).trans (JN _ e)
 have z1:((s.heap.push { cls:=.type "list",data:=.seq #[] }).update s.heap.objs.size (Kb (fun _=>(#[]:Array JJ)))).objs.size=s.heap.objs.size+1:=by rw[Heap.size_update,OP]
 refine JI (wpAny_letGo ?_);generalize (s.heap.push { cls:=.type "list",data:=.seq #[] }).update s.heap.objs.size (Kb (fun _=>(#[]:Array JJ)))=h1 at g1 k1 z1 ⊢
 have m1:h1.DictAt (ak P w) d kvs ep:=by
  obtain⟨o,es,ho,r⟩:=m;exact⟨o,es,k1 _ _ ho,r⟩
 have v1:h1.IsItemsView v d:=by
  obtain⟨o,ho,r⟩:=hv;exact⟨o,k1 _ _ ho,r⟩
 have t1:({ s with heap:=h1 }:JM).TypeIs (.ref v) "dict_items":=v1.typeIs;unfold LB;refine JI (Ll (T:="dict_items") t1 ?_)
 have r1:Ox (.ref s.heap.objs.size) (.ref v)=false:=by
  show (s.heap.objs.size == v)=false;simpa using L8 lv
 have r2:(M1 "dict_items" == M1 "list")=false:=by decide
 have r3:(M1 "dict_items" == M1 "tuple")=false:=by decide
 simp only[r1,r2,r3,Q9,Km,if_false];refine JI (wpAny_pyIter_items (knd:=ak P w) (s:={ s with heap:=h1 }) v1 m1 ?_);refine JI (LR ?_);obtain⟨itO,eO⟩:∃o:Obj,o={ cls:=.type "dict_itemiterator",data:=.fields #[.none,.bool false,.ref d,.int 0 0,.int kvs.length 0,.int ep 0,.none,.none] }:=⟨_,rfl⟩;rw[← eO]
 have m2:(h1.push itO).DictAt (ak P w) d kvs ep:=by
  obtain⟨o,es,ho,r⟩:=m1;exact⟨o,es,JN _ ho,r⟩
 have v2:(h1.push itO).IsItemsView v d:=by
  obtain⟨o,ho,r⟩:=v1;exact⟨o,JN _ ho,r⟩
 have t2:=(show ({ s with heap:=h1.push itO }:JM).TypeIs (.ref v) "dict_items" from v2.typeIs);unfold Od;refine JI (Nc (T:="dict_items") (v:=.ref v) t2 PySem.F.slot_dict_items_len.lookup ?_)
 wp_delta
 refine JI (NJ (T:="dict_items") (v:=.ref v) (b:=true) t2 l8 ?_);show JZ _ _ (typeOf (Kh v) >>= _) _ _ _;refine JI (Ll (T:="dict_items") (v:=.ref v) t2 (JO ?_));rw[if_pos (by decide)];refine JI (Nt (JI ?_));unfold PD;have nI:h1.objs.size≠s.heap.objs.size:=by rw[z1];exact Pa _
 have gL2:(h1.push itO).get? s.heap.objs.size=some _:=JN _ g1;have gI2:(h1.push itO).get? h1.objs.size=some itO:=K6 _ (by rw[eO];rfl);have k2:∀b o,s.heap.get? b=some o->(h1.push itO).get? b=some o:=fun b o e=>JN _ (k1 b o e);refine JI (MG gL2 rfl ?_ (Kz _) (by show 1<=_;rw[Ke];decide));have g3:=LU (Kb (·.push LF)) gL2 rfl;refine MG g3 rfl ?_ (by show 1<=_;rw[Ke];decide) (Kz _);obtain⟨c4,g4⟩:∃c,(((h1.push itO).update s.heap.objs.size (Kb (·.push LF))).update s.heap.objs.size (Kb (·.pop))).get? s.heap.objs.size=some { cls:=.type "list",data:=.seq #[] c }:=⟨_,LU (Kb (·.pop)) g3 rfl⟩
 have k4:∀b ob,b≠s.heap.objs.size->(h1.push itO).get? b=some ob->(((h1.push itO).update s.heap.objs.size (Kb (·.push LF))).update s.heap.objs.size (Kb (·.pop))).get? b=some ob:=fun b ob hb e=>
  (L7 _ _ (LY hb)).trans ((L7 _ _ (LY hb)).trans e)
 show JZ _ _ _ _ _ { s with heap:=(((h1.push itO).update s.heap.objs.size (Kb (·.push LF))).update s.heap.objs.size (Kb (·.pop))) };generalize ((h1.push itO).update s.heap.objs.size (Kb (·.push LF))).update s.heap.objs.size (Kb (·.pop))=h4 at g4 k4 ⊢;have nd:d≠s.heap.objs.size:=K7 ld;have ndI:d≠h1.objs.size:=by rw[z1];exact K7 (Mt ld)
 have m4:h4.DictAt (ak P w) d kvs ep:=by
  obtain⟨o,es,ho,r⟩:=m2;exact⟨o,es,k4 _ _ nd ho,r⟩
 have i4:IsItemIter h4 h1.objs.size d 0 kvs.length ep .none .none:=by
  have:=k4 _ _ nI gI2;rw[eO] at this;exact this
 refine JO ⟨Qf Lm _,?_⟩
 refine Ba (A:=A.in1) (s:=s) (ak P w) (S:=s.heap.objs.size) (it:=h1.objs.size) (d:=d) (kvs:=kvs) (ep:=ep) (LY nI) nd ndI hz hh .none (fun h=>∀b o,s.heap.get? b=some o->h.get? b=some o)
  (fun h h' kp k b o e=>k b o (K7 (JR e)) (by rw[z1];exact K7 (Mt (JR e))) (kp b o e)) (fun h tk Ts c kp L=>?_) kvs.length 0 h4 s.toks [] c4 rfl (Kz _) (fun b o e=>k4 b o (K7 (JR e)) (k2 b o e)) ⟨rfl,g4,fun j T k v e=>by simp at e,by simp,by simp,by simp,by simp⟩ m4 (.inl ⟨rfl,i4⟩)
 exact⟨rfl,q h tk h1.objs.size Ts c kp L⟩
end
end PU
namespace PU
open PySem PySem.Spec PyProof.Rows L2 PySem.SeqAt
def nv:PV->Option PV
 | .dct ks ps=>if ks.length<=16777216 then some (.lst ((jc ks ps).map .tup)) else none
 | _=>none
theorem v3{X:Cx}{pins:List (Addr×Obj)}{σ:L2.St}{H H':Hp}{s:JM}{h':Heap}{t':Nat}(I:L2.Inv X pins σ H s)(k:∀b u,s.heap.get? b=some u->h'.get? b=some u)(low:∀b,b<s.heap.objs.size->H' b=H b)
  (new:∀b u,s.heap.objs.size<=b->H' b=some u->dw X.prog X.w H' h' b u):L2.Inv X pins σ H' { s with heap:=h',toks:=t' }:=by
 have at_:∀b u,H b=some u->H' b=some u:=fun b u e=>by rw[low b (I.hok.lt e)];exact e
 refine I.un ⟨fun b u q _ _ _=>k b u q,fun b u q _ _ _=>⟨u.slots,k b u q⟩,fun b u q n _=>by rw[low b (JR q)];exact n,fun b u q _=>⟨u,k b u q⟩,fun b xs q=>at_ _ _ q,fun b o u q=>at_ _ _ q,fun b ps q=>⟨#[],by rw[at_ _ _ q];simp⟩⟩ fun b u e=>?_
 by_cases hb:b<s.heap.objs.size
 ·rw[low b hb] at e
  exact(I.hok b u e).stay (fun c v _ q=>k c v q) (fun c q=>at_ _ _ q) fun c xs q=>at_ _ _ q
 ·exact new b u (Pb hb) e
noncomputable def liH(H:Hp)(n0:Addr)(Ts:List Addr)(kvs:List (Key×V)):Hp:=fun b=>if b<n0 then H b else if b=n0 then some (.lst (Ts.map V.ref)) else ((Ts.zip kvs).lookup b).map fun kv=>.tup [kV kv.1,kv.2]
theorem lO:∀(Ts:List Addr)(kvs:List (Key×V))(b:Addr)(kv:Key×V),(Ts.zip kvs).lookup b=some kv->∃j:Nat,Ts[j]?=some b/\kvs[j]?=some kv
 | [],_,_,_,e=>by simp at e
 | _::_,[],_,_,e=>by simp at e
 | T::Ts,kv0::kvs,b,kv,e=>by
  rw[Oh,KR] at e
  by_cases h:b=T
  ·subst h
   simp at e;exact⟨0,rfl,by simp[e]⟩
  ·rw[beq_false_of_ne h] at e
   obtain⟨j,h1,h2⟩:=lO Ts kvs b kv e;exact⟨j+1,h1,h2⟩
theorem yK:∀(Ts:List Addr)(kvs:List (Key×V))(j:Nat)(b:Addr)(kv:Key×V),Ts.Nodup->Ts[j]?=some b->kvs[j]?=some kv->(Ts.zip kvs).lookup b=some kv
 | [],_,_,_,_,_,e,_=>by simp at e
 | _::_,[],_,_,_,_,_,e=>by simp at e
 | T::Ts,kv0::kvs,0,b,kv,_,e1,e2=>by
  cases e1;cases e2;rw[Oh,KR];simp
 | T::Ts,kv0::kvs,j+1,b,kv,nd,e1,e2=>by
  rw[Kf] at nd;have e1:Ts[j]?=some b:=e1;have h:b≠T:=fun z=>nd.1 (z▸KA e1);rw[Oh,KR,beq_false_of_ne h];exact yK Ts kvs j b kv nd.2 e1 e2
variable[TW]
theorem u0{K:JH}{H:Hp}:∀(ps:List PV)(xs:List V),ps.length=xs.length->(∀(i:Nat)(p:PV)(x:V),ps[i]?=some p->xs[i]?=some x->Rep K H p x)->aB K H ps xs
 | [],[],_,_=>rfl
 | [],_::_,h,_=>by simp at h
 | _::_,[],h,_=>by simp at h
 | p::ps,x::xs,h,k=>⟨x,xs,rfl,k 0 p x rfl rfl,u0 ps xs (by simpa using h) fun i q y e1 e2=>k (i+1) q y (by simpa using e1) (by simpa using e2)⟩
theorem vE {C:Cn} {o:Expr} {fo:PSt->R PV} {p apos cpos pos:La} (hg:Gl C.X "list") (hm:C.X.mg "list"=none) (ho:EO C o fo) (hw:C.X.w=TW.w:=by rfl) (hc:C.X.calm=true:=by rfl)
  (hbase:NU o "items" C.X.env (L9 o C.X.env)=L9 o C.X.env:=by rfl) (hline:(apos.endLine == cpos.line)=true:=by rfl)
  (hs:K1 [.Call (.Attribute o "items" apos) [] [] cpos] C.X.env=[(false,L9 (.Call (.Attribute o "items" apos) [] [] cpos) C.X.env)]:=by exact bX rfl) :
  EN C (.Call (.Name "list" p) [.Call (.Attribute o "items" apos) [] [] cpos] [] pos) (un1 fo nv):=by
 intro pins s σ H Q I ⟨ρ,vw,q⟩;refine Call_ (kj I hg hm (u:=.type "list") (by rfl) (LC ?_ hs rfl));rw[hs];refine Qi (wpAny_Call_method0_late hbase hline (thn (ho pins s σ H (fun v H1=>∃p,bg C.X.K H1 p v/\Same H H1/\RQ C H (R.ofO (nv p)) fun p=>∀a H',Same H H'->H a=none->bY C.X.K H' a p->Q (.ref a) H') I ⟨ρ,vw,q.bind.imp fun p _ k v H1 s1 r1=>⟨p,r1,s1,k⟩⟩) fun u s1 ⟨x,H1,I1,r1,p,ro,sm,k⟩=>?_));cases p with
 | dct ks ps=>
  obtain⟨a,kvs,rfl,g,e1,rr⟩:=ro;cases r1;obtain⟨z,ez,k⟩:=k.ofO;have ez:(if ks.length<=16777216 then some (PV.lst ((jc ks ps).map .tup)) else none)=some z:=ez
  by_cases hl:ks.length<=16777216
  ·rw[if_pos hl] at ez
   cases ez;obtain⟨hz,hd,vs,rel,od,es,ep,h1,h2,h3,rest⟩:=DkR.at hw I1 g;have dat:s1.heap.DictAt (ak C.X.prog C.X.w) a vs ep:=⟨od,es,h1,h2,h3,rest⟩;have dd:s1.heap.DictOf (ak C.X.prog C.X.w) a vs:=dat.dictOf;have lv:kvs.length=vs.length:=Ki rel;refine⟨"dict","dict.items",Nm,Pn,PySem.F.type_dict_items,dd.typeIs,dd.mapOf.noDict,O8 rfl (PySem.evalArgs_none ?_)⟩;refine R4 Pn dd.typeIs PySem.F.entry_dict_items (PySem.F.args_dict_items_1 _) (meets_dict_items (ak C.X.prog C.X.w) a hd) ⟨⟨vs,dd⟩,?_⟩;refine Qs ?_;have I2:L2.Inv C.X pins σ H1 { s1 with heap:=s1.heap.push { cls:=.type "dict_items",data:=.fields #[.ref a] } }:=I1.kept (t':=s1.toks) fun b ob e=>JN _ e;refine mR (P:=C.X.prog) (w:=C.X.w) (s:={ s1 with heap:=s1.heap.push { cls:=.type "dict_items",data:=.fields #[.ref a] } }) (I1.ok.hd hc) ⟨_,K6 _ rfl,rfl,rfl⟩ (dat.push _) (by omega) fun h' tk it Ts c keep L=>?_;generalize hn0:(s1.heap.push { cls:=.type "dict_items",data:=.fields #[.ref a] }).objs.size=n0 at *;have lo:∀b,b<n0->liH H1 n0 Ts kvs b=H1 b:=fun b hb=>if_pos hb
   have at0:liH H1 n0 Ts kvs n0=some (.lst (Ts.map V.ref)):=by
    unfold liH;rw[if_neg (Kt _),if_pos rfl]
   have atT:∀(j:Nat)(T:Addr)(kv:Key×V),Ts[j]?=some T->kvs[j]?=some kv->liH H1 n0 Ts kvs T=some (.tup [kV kv.1,kv.2]):=fun j T kv f1 f2=>by
    have hT:=L.lo T (KA f1);unfold liH;rw[if_neg (OH.mpr (OI hT)),if_neg (L8 hT),yK Ts kvs j T kv L.nd f1 f2];rfl
   have sm2:Same H1 (liH H1 n0 Ts kvs):=Same.of fun b ob e=>by
    have:b<n0:=by rw[← hn0];exact I2.hok.lt e
    rw[lo b this];exact e
   have I3:L2.Inv C.X pins σ (liH H1 n0 Ts kvs) { s1 with heap:=h',toks:=tk }:=by
    refine v3 (s:={ s1 with heap:=s1.heap.push { cls:=.type "dict_items",data:=.fields #[.ref a] } }) I2 keep (fun b hb=>lo b (by rw[← hn0];exact hb)) fun b u hb e=>?_
    by_cases hb0:b=n0
    ·subst hb0
     rw[at0] at e;cases e;refine⟨by rw[JT,L.len];omega,Ts.map Kh,c,?_,L.li⟩
     have:∀l:List Addr,Vals (l.map V.ref) (l.map Kh):=by
      intro l
      induction l with
      | nil=>exact .nil
      | cons T l ih=>exact .cons rfl ih
     exact this Ts
    ·have hb1:¬ b<n0:=by rw[← hn0];exact OH.mpr hb
     unfold liH at e;rw[if_neg hb1,if_neg hb0] at e;obtain⟨kv,el,rfl⟩:=JV.mp e;obtain⟨j,f1,f2⟩:=lO Ts kvs b kv el;obtain⟨kv2,f3⟩:∃kv2,vs[j]?=some kv2:=⟨_,KO (by have:=(JL.mp f2).1;omega)⟩;obtain⟨g1,g2⟩:=lM rel f2 f3;obtain⟨key,q1,q2⟩:=L.tu j b kv2.1 kv2.2 f1 f3;refine⟨by show 2<=sizeLine;rw[Ke];decide,[key,kv2.2],.cons (uQ (by rw[g1];exact q1)) (.cons g2 .nil),_,q2,rfl,⟨_,rfl⟩,fun _=>rfl⟩
   subst e1;have lps:ps.length=kvs.length:=by rw[rr.length,JT]
   have reps:aB C.X.K (liH H1 n0 Ts kvs) ((jc (kvs.map (·.1)) ps).map PV.tup) (Ts.map V.ref):=by
    refine u0 _ _ (by simp[jc,lps,L.len,lv]) fun j p x f1 f2=>?_;rw[K2] at f1 f2;obtain⟨qs,g1,rfl⟩:=JV.mp f1;obtain⟨T,g2,rfl⟩:=JV.mp f2;obtain⟨kv,g3⟩:∃kv,kvs[j]?=some kv:=⟨_,KO (by have:=(JL.mp g2).1;have:=L.len;omega)⟩;exact⟨T,_,rfl,atT j T kv g2 g3,sr (rr.same sm2) j qs [kV kv.1,kv.2] g1 (by unfold um;rw[K2,g3];rfl)⟩
   refine⟨.ref n0,_,I3,rfl,k n0 _ (sm.trans sm2) (sm.free (by rw[← hn0];exact I2.hok.fresh (K8 _))) ⟨Ts.map V.ref,at0,reps⟩⟩
  ·rw[if_neg hl] at ez
   cases ez
 | _=>exact JP k
end PU
namespace PU
open PySem PySem.Spec PyProof.Rows L2
theorem fsc{N ps:List Str}{sc:Scope}(a:sc.kind=.function:=by rfl)(b:sc.isCoroutine=false:=by rfl)(c:sc.isGenerator=false:=by rfl)(d:N.Nodup:=by decide +kernel)(e:N.take ps.length=ps:=by rfl)
  (f:∀x∈ps,sc.names.lookup x=some .local\/sc.names.lookup x=some .cell:=by decide +kernel) (g:∀y∈sc.names,y.2≠.free:=by decide +kernel):FnScope N ps sc:=⟨a,b,c,d,e,f,g⟩
theorem cok{N ps NX N':List Str}{S scX scope:Scope}{nt:Nat}{idx:List Nat}(_:FnScope N ps S)(e1:NX=N:=by rfl)(e2:scX=S:=by rfl)(a:scope.kind=.function:=by rfl)(b:∀y∈scope.names,y.2≠.cell:=by decide +kernel)
  (c:∀y∈scope.names,y.2=.local->scope.names.lookup y.1=some .local:=by decide +kernel) (d:∀y∈scope.names,y.2=.free->S.names.lookup y.1=some .cell\/S.names.lookup y.1=some .free:=by decide +kernel) (e:N'.length=nt+idx.length:=by rfl)
  (f:(idx.zip (N'.drop nt)).all (fun p=>decide (N[p.1]?=some p.2) && decide (scope.names.lookup p.2=some .free))=true:=by decide +kernel):CompOk NX scX scope N' nt idx:=by
 subst e1 e2;exact⟨a,b,c,d,e,f⟩
def Has(K:JH)(n:Str)(st:Stmt):Prop:=∃(f:Addr)(oc kV dc pm cd ct:JJ)(od an:Option Addr)(sl:Array (Option JJ)),L5 K mainGlobals n=some (some (.ref f))/\
 K.lookup f=some ⟨oc,od,.func (L6 n n (da st) (aW st) (ae st) .none kV dc pm an cd ct),sl⟩/\Lr K cd n=true/\LI K (.ref f)=true
theorem Has.of{K:JH}{n:Str}{st:Stmt}{f:Addr}{oc kV dc pm cd ct:JJ}{od an:Option Addr}{sl:Array (Option JJ)}(a:L5 K mainGlobals n=some (some (.ref f)))
  (l:K.lookup f=some ⟨oc,od,.func (L6 n n (da st) (aW st) (ae st) .none kV dc pm an cd ct),sl⟩) (c:Lr K cd n=true) (k:LI K (.ref f)=true):Has K n st:=⟨_,_,_,_,_,_,_,_,_,_,a,l,c,k⟩
def Hs(K:JH)(mg:Str->Option JJ)(n:Str)(st:Stmt):Prop:=∃f fd,Fun K n n st f fd/\mg n=some (.ref f)
theorem Has.fn{K:JH}{n:Str}{st:Stmt}{h:Heap}{mg:Str->Option JJ}(x:Has K n st)(X:K.In h)(G:h.Ns mainGlobals mg):Hs K mg n st:=by
 obtain⟨f,_,_,_,_,_,_,_,_,_,a,l,c,k⟩:=x;exact⟨f,_,rA l c k,Mw X G a⟩
variable[TW]
section
variable{C : Cn}{pos : La}
theorem az(i:Nat){x:Str}(hN:C.X.N[i]?=some x:=by rfl)(hv:Vis C.X.env.scope x:=by first | exact .inl rfl | exact .inr (.inl rfl) | exact .inr (.inr rfl))
  (hd:(x == ("__debug__":Str))=false:=by decide) (hcd:(x == ("__classdict__":Str))=false:=by decide):EO C (.Name x pos) (getV i):=(aH i hN hv hd hcd).o
theorem af{i j}:EO C (.Constant (.int i) j pos) (kI i):=b0.o
theorem cz{i j}:EO C (.Constant (.str i) j pos) (kS i):=aK.o
theorem C5{C:Cn}{N':List Str}{scope:Scope}{cl}{L}{s}{H}{fp}(i:Nat){x:Str}(hi:N'[i]?=some x:=by rfl)(hx:Loc (dA C N' scope cl L s H fp).X.env.scope x:=by first | exact .inl rfl | exact .inr rfl)(hN:N'.Nodup:=by decide +kernel)
  (hf:(dA C N' scope cl L s H fp).X.fn x=true\/(dA C N' scope cl L s H fp).X.env.scope.names.lookup x=some .local:=by first | exact .inl rfl | exact .inr rfl | assumption):TCt (dA C N' scope cl L s H fp) (.Name x pos) (aC i):=Ak i hN hi hx hf
end
section
variable{P : K5}{w : KH}{K : JH}{mg : Str → Option JJ}{base : Heap}{x : Str}{st : Stmt}{N ps : List Str}{k : Nat}{g : PSt → R Fl}
theorem l6(h:Hs K mg x st)(S:FnScope N ps (ae st))
  (hbody:∀(f:Addr)(cdv:JJ)(A:KY)(outer:List Ow)(s:JM)(H:Hp)(E:XK),Room k (A.deeper (Mm x (ae st) s.heap.objs.size f cdv))->SVs (zT P w K mg base N x (ae st) f cdv A outer s H E) (aW st) g)
  (hb:∀(kV doc pm:JJ)(an:Option Addr)(cdv ct:JJ)(us:List JJ),us.length=ps.length->Os (L6 x x (da st) (aW st) (ae st) .none kV doc pm an cdv ct) ⟨us,[]⟩=pure (ps.zip us):=by
   intro _ _ _ _ _ _ us hl;repeat' (first | (exfalso;simp only[Lj] at hl;omega) | (rcases us with _ | ⟨_,us⟩) | rfl)) :
  PF P w K mg base (k+1) x (ff ps.length N.length g):=by
 obtain⟨f,fd,F,hm⟩:=h;exact Gp F S hm (F.binds hb) (hbody f)
theorem De(h:Hs K mg x st)(S:FnScope N ps (ae st))
  (hbody:∀(f:Addr)(cdv:JJ)(A:KY)(outer:List Ow)(s:JM)(H:Hp)(E:XK),Room k (A.deeper (Mm x (ae st) s.heap.objs.size f cdv))->SVN (zT P w K mg base N x (ae st) f cdv A outer s H E) (aW st) g)
  (hb:∀(kV doc pm:JJ)(an:Option Addr)(cdv ct:JJ)(us:List JJ),us.length=ps.length->Os (L6 x x (da st) (aW st) (ae st) .none kV doc pm an cdv ct) ⟨us,[]⟩=pure (ps.zip us):=by
   intro _ _ _ _ _ _ us hl;repeat' (first | (exfalso;simp only[Lj] at hl;omega) | (rcases us with _ | ⟨_,us⟩) | rfl)) :
  PFN P w K mg base (k+1) x (runN ps.length N.length g):=by
 obtain⟨f,fd,F,hm⟩:=h;exact AN F S hm (F.binds hb) (hbody f)
end
end PU
namespace PU
open PySem PySem.Spec PyProof.Rows L2 PySem.SeqAt
theorem lj:PQ (.type "list") "keys"=pure none:=by rw[typeLookup_type,builtinLookup_eq_fast];kernel_rfl
theorem iY{prog:K5}{w:KH}{A:KY}{E:JJ->JM->Prop}{s:JM}{a:Addr}{o:Obj}{xs:Array JJ}{k:Nat}{name:Str}{Q:Option JJ->JM->Prop}
  (hx:s.heap.get? a=some o) (hc:o.cls=.type "list") (hdat:o.data=.seq xs k) (hd:o.dict=none) (hmiss:PQ (.type "list") name=pure none) (hname:(["__module__","__name__","__qualname__","__doc__","__annotations__"]:List Str).contains name=false) (hA:A.handled=none)
  (h:∀h' tk e,Heap.NewExcOf s.heap h' e "AttributeError"->Q none { s with heap:=h',toks:=tk }) (hsz:name.length+100<=sizeLine:=by size_fits) :
  JZ (KM prog w) A (getAttr? (.ref a) name) Q E s:=by
 obtain⟨c,dct,dat,sl⟩:=o;simp only at hc hdat hd;subst hc hdat hd;obtain⟨hp,g,d,tk,os⟩:=s;have hT:∀tk',(⟨hp,g,d,tk',os⟩:JM).TypeIs (.ref a) "list":=fun _=>⟨_,hx,rfl⟩;have f1:=sub_AttributeError;have f3:=O7.lookup;have f4:=O7.bind (.ref a);have f5:=am_list_getattr_none;unfold getAttr? getAttrBy? getAttrBy
 repeat (any_goals (first | assumption | exact hT _ | ((with_reducible show JZ _ _ (call (Pz "list.__getattribute__") _ _) _ _ _);refine call_meets O7 (hT _) am_entry_list_getattribute (F.args_list_getattribute_2 _ _) (meets_getattribute_miss_list a xs k sl name _ hmiss hname hsz) ⟨hx,hA,fun h' tk' e hx'=>?_⟩) | wp_step))
 obtain⟨t',u',he⟩:=hx'.there;show JZ _ _ (Nu _ _ _ _ _ _ _) _ _ _;unfold Nu
 repeat (any_goals (first | assumption | wp_step))
 exact h _ _ _ hx'.of
section
variable{prog : K5}{w : KH}{A : KY}
def Ii(prog:K5)(w:KH)(h0:Heap)(d it:Addr)(D:Nat->Heap->Prop)(j:Nat)(x:JJ):Prop:=
 ∃(p:Addr)(key v:JJ),x=.ref p/\p≠d/\p≠it/\h0.IsTuple p #[key,v]/\∀(A':KY)(s:JM)(E:JJ->JM->Prop)(Q:Unit->JM->Prop),A'.units+4<cLine->(∀b o,b≠d->b≠it->h0.get? b=some o->s.heap.get? b=some o)->D j s.heap->
  (∀h' tk,D (j+1) h'->Lq d s.heap h'->Q () { s with heap:=h',toks:=tk })->JZ (KM prog w) A' (dictSet d key v) Q E s
theorem o4{R:R8->JM->Prop}{h0:Heap}{d it a:Addr}{items:Array JJ}{result:JJ}(D:Nat->Heap->Prop)(hh:A.handled=none)(hu:A.units+8<cLine)(hda:a≠d)(hia:a≠it)(hdi:d≠it)(ha:h0.IsList a items)
  (hD:∀i h h',D i h->N6 it h h'->D i h') (hp:∀(j:Nat)(x:JJ),items[j]?=some x->Ii prog w h0 d it D j x) :
  ∀(m i:Nat)(s:JM),m=items.size-i->i<=items.size->(∀b o,b≠d->b≠it->h0.get? b=some o->s.heap.get? b=some o)->s.heap.IsListIter it a i->D i s.heap->
   (∀h' tk,(∀b o,b≠d->b≠it->h0.get? b=some o->h'.get? b=some o)->D items.size h'->R (.ok (.ret result)) { s with heap:=h',toks:=tk })->
   NR (KM prog w) A (.builtin "dict.update.loop" ⟨[.ref d,.ref it,Mb (i:Int),result],[]⟩) R s
 | 0,i,s,hm,hi,hk,hit,hd,hR=>by
  have e:i=items.size:=by omega
  have hq:s.heap.IsList a items:=ha.at fun o e=>hk a o hda hia e;refine Mp dm ?_;unfold Pk.«dict.update.loop»;show JZ _ _ (Nd (.ref it) >>= _) _ _ s;refine JI (wpAny_pyNext_list_end (by exact hh) hit hq (by rw[e];simp) fun h' eb=>?_);have hd':=hD _ _ _ hd eb;show JZ _ _ (Oz d [] >>= _) _ _ _;refine JI (JO (JO (hR h' s.toks (fun b o hb1 hb2 q=>eb b o hb2 (hk b o hb1 hb2 q)) ?_)));rw[← e];exact hd'
 | m+1,i,s,hm,hi,hk,hit,hd,hR=>by
  have hlt:i<items.size:=by omega
  have hq:s.heap.IsList a items:=ha.at fun o e=>hk a o hda hia e;have hx:items[i]?=some items[i]:=by simp[hlt]
  obtain⟨p,key,v,ex,h1,h2,h3,h4⟩:=hp i _ hx;refine Mp dm ?_;unfold Pk.«dict.update.loop»;show JZ _ _ (Nd (.ref it) >>= _) _ _ s;refine JI (Qz hit hq hx fun h' hit' sb=>?_);rw[ex];have hd':=hD _ _ _ hd sb.extBut;have hpt:h'.IsTuple p #[key,v]:=h3.at fun o e=>(sb.2 p h2).trans (hk p o h1 h2 e);obtain⟨op,hop,hcp,np,hdp⟩:=id hpt;dsimp only;refine JI (LR (JI (wpAny_tryCatch ?_)));unfold PJ;refine JI (Ll hpt.typeIs ?_);rw[if_pos (by decide)];refine JI ?_
  have hsi:JZ (KM prog w) (A.under (Code.builtin "dict.update.loop" ⟨[.ref d,.ref it,Mb (i:Int),result],[]⟩)) (seqItems? (.ref p)) (fun r s'=>r=some #[key,v]/\s'={ s with heap:=h' }) (fun _ _=>False) { s with heap:=h' }:=by
   repeat (any_goals (first | assumption | wp_step))
   rw[hdp];exact JO ⟨rfl,rfl⟩
  refine LZ hsi (fun r s' hr=>?_) fun _ _ h=>h.elim;obtain⟨rfl,rfl⟩:=hr;refine JO ?_;show JZ _ _ (R1 [key,v] (dictSet d key v)) _ _ _;refine LR (h4 _ _ _ _ ?_ (fun b o hb1 hb2 q=>(sb.2 b hb2).trans (hk b o hb1 hb2 q)) hd' fun h'' tk hd'' sb'=>?_)
  ·have e:(A.under (.builtin "dict.update.loop" ⟨[.ref d,.ref it,Mb (i:Int),result],[]⟩)).units=A.units+1:=by
    first | rfl | simp[Around.under,Code.cUnits,Code.frames,Code.isFrame]
   rw[e];omega
  refine JO ⟨Code.quiet_builtin _ (by decide +kernel),?_⟩;have ei:((i:Int)+1)=((i+1:Nat):Int):=by omega
  rw[ei];refine o4 D hh hu hda hia hdi ha hD hp m (i+1) _ (by omega) hlt (fun b o hb1 hb2 q=>?_) ?_ hd'' fun h3 tk hk3 hd3=>hR h3 tk hk3 hd3
  ·exact(sb'.2 b hb1).trans ((sb.2 b hb2).trans (hk b o hb1 hb2 q))
  ·exact hit'.at fun o e=>(sb'.2 it (LY hdi)).trans e
theorem ly {E:JJ->JM->Prop} {s:JM} {a:Addr} {o:Obj} {items:Array JJ} {n0:Nat} {Q:JJ->JM->Prop} (D:Nat->Heap->Prop) (hA:A.handled=none) (hu:A.units+16<cLine) (hx:s.heap.get? a=some o) (hc:o.cls=.type "list") (hdat:o.data=.seq items n0) (hdn:o.dict=none)
  (hD:∀i h h' it,s.heap.objs.size<it->D i h->N6 it h h'->D i h') (hD0:∀h',(∀b u,(s.heap.push { cls:=.type "dict",data:=.dict #[] }).get? b=some u->h'.get? b=some u)->D 0 h')
  (hp:∀(h0:Heap)(it:Addr),s.heap.objs.size<it->(∀b o,s.heap.get? b=some o->h0.get? b=some o)->∀(j:Nat)(x:JJ),items[j]?=some x->Ii prog w h0 s.heap.objs.size it D j x)
  (h:∀h' tk,(∀b o,s.heap.get? b=some o->h'.get? b=some o)->D items.size h'->Q (.ref s.heap.objs.size) { s with heap:=h',toks:=tk }) :
  JZ (KM prog w) A (call (.type "dict") [.ref a]) Q E s:=by
 refine Oq (Q₁:=fun obj s₁=>obj=.ref s.heap.objs.size/\s₁={ s with heap:=s.heap.push { cls:=.type "dict",data:=.dict #[] } }) F.kt_called_dict (R9 _) F.entry_dict_init (kt_code_dict_new _ ⟨rfl,rfl⟩) ?_;rintro obj s₁ ⟨rfl,rfl⟩;have hnew:(s.heap.push { cls:=.type "dict",data:=.dict #[] }).DictOf (ak prog w) s.heap.objs.size []:=Nh s.heap;have hx':(s.heap.push { cls:=.type "dict",data:=.dict #[] }).get? a=some o:=JN _ hx;have hT:OT { s with heap:=s.heap.push { cls:=.type "dict",data:=.dict #[] } } (.ref a) "list":=⟨o,hx',hc⟩;refine⟨hnew.typeIs,F.args_dict_init_2 _ _,?_⟩;unfold Pk.«dict.__init__»;refine JI ?_;unfold Oy;refine JI (Oa hnew.typeIs ?_);show JZ _ _ (pure (s.heap.objs.size,[Kh a])) _ _ _;refine JO ?_;show JZ _ _ (MP "dict.__init__" s.heap.objs.size (.ref a) [] .none) _ _ _;unfold MP;refine JI (Ll hT ?_);rw[if_pos (by decide)];refine JI (iY hx' hc hdat hdn lj (by decide +kernel) (by exact hA) fun h1 tk1 e1 ne=>?_);have k1:∀b u,(s.heap.push { cls:=.type "dict",data:=.dict #[] }).get? b=some u->h1.get? b=some u:=fun b u q=>ne.keeps b u q;rw[if_pos (show (none:Option JJ).isNone=true from rfl)];have ht:h1.IsList a items:=⟨o,k1 a o hx',hc,n0,hdat⟩;refine JI (Nt (JI (wpAny_pyIter_list ht ?_)))
 have sD:s.heap.objs.size<h1.objs.size:=by
  obtain⟨od,_,_,hod,_⟩:=hnew;exact JR (k1 _ _ hod)
 have k2:∀b u,s.heap.get? b=some u->(h1.push { cls:=.type "list_iterator",data:=.fields #[.ref a,.int 0 0] }).get? b=some u:=fun b u q=>JN _ (k1 b u (JN _ q));refine JO ⟨Code.quiet_builtin _ (by decide +kernel),?_⟩;have lts:∀b u,s.heap.get? b=some u->b≠s.heap.objs.size/\b≠h1.objs.size:=fun b u q=>⟨K7 (JR q),K7 (P8 (JR q) sD)⟩;refine o4 (h0:=h1.push { cls:=.type "list_iterator",data:=.fields #[.ref a,.int 0 0] }) D (by exact hA) ?_ (lts a o hx).1 (lts a o hx).2 (K7 sD) (ht.push _) (fun i h h'=>hD i h h' _ sD) (hp _ _ sD k2) items.size 0 _ (by omega) (Kz _) (fun b u _ _ q=>q) ⟨_,K6 _ rfl,rfl,rfl⟩ (hD0 _ fun b u q=>JN _ (k1 b u q)) fun h' tk hk' hd'=>?_
 ·show A.units+1+8<cLine
  omega
 ·exact⟨rfl,h h' tk (fun b u q=>hk' b u (lts b u q).1 (lts b u q).2 (k2 b u q)) hd'⟩
end
end PU
namespace PU
open PySem PySem.Spec PyProof.Rows L2 PySem.SeqAt
def rz:PV->Option PV
 | .lst ps=>if ps.length<=16777216 then (eW ps).map i7 else none
 | _=>none
variable[TW]
omit [TW] in
theorem mh{κ:Type}[DecidableEq κ](l:List (κ×JJ))(p:κ×JJ):storeAll [] (l++[p])=Pv (storeAll [] l) p.1 p.2:=by simp[storeAll]
theorem EU {X:Cx} (hu:X.A.units+64<cLine) (hc:X.calm=true:=by rfl):gX X (.type "dict") (rn1 X.K rz):=by
 intro pins s σ H xs us Q I r ⟨v,p,z,e1,rp,ez,k⟩;subst e1;cases p with
 | lst ps=>
  have ez:(if ps.length<=16777216 then (eW ps).map i7 else none)=some z:=ez
  by_cases hlen:ps.length<=16777216
  ·rw[if_pos hlen] at ez
   obtain⟨kps,ek,rfl⟩:=JV.mp ez;obtain⟨a,zs,rfl,g,rr⟩:=bg.lst_inv rp;obtain⟨u,rfl,ru⟩:=vals1 r;cases ru;obtain⟨_,its,n,rv,eg⟩:=g.is I;obtain⟨kvs,vs,q1,q2,q3,q4⟩:=mL I ek rr rv;have hl1:=rr.length;have hl2:=rv.length;have hs:=Ke
   refine ly (D:=fun i h=>h.DictOf (ak X.prog X.w) s.heap.objs.size (storeAll [] (vs.take i))) (I.ok.hd hc) (by omega) eg rfl rfl rfl
    (fun i h h' it hit x e=>x.extBut e (K7 hit)) (fun h' keep=>?_) (fun h0 it hit keep j x hj=>?_) fun h' tk keep D'=>?_
   ·obtain⟨od,es,ep,hod,r⟩:=Nh (knd:=ak X.prog X.w) s.heap
    exact⟨od,es,ep,keep _ _ hod,r⟩
   ·obtain⟨p,key,kk,v,e1,e2,e3,e4⟩:=q4 j x (by simpa using hj)
    obtain⟨op,hop,rp'⟩:=id e3;have lp:=JR hop;refine⟨p,key,v,e1,K7 lp,K7 (P8 lp hit),⟨op,keep p op hop,rp'⟩,fun A' s' E Q' hu' hk hd hQ=>?_⟩;have h1:=eB (vs.take j) [];have h2:=Lx (i:=j) (l:=vs);simp only[Lb] at h1;refine wpAny_dictSet_pairs e4 hd (fun h'' hd'' sb'=>hQ h'' _ ?_ sb') (by omega)
    have e:vs.take (j+1)=vs.take j++[(kk,v)]:=by
     obtain⟨hl,e⟩:=JL.mp e2;rw[← e,List.take_succ_eq_append_getElem hl]
    show h''.DictOf _ _ (storeAll [] (vs.take (j+1)));rw[e,mh];exact hd''
   ·have D':h'.DictOf (ak X.prog X.w) s.heap.objs.size (storeAll [] (vs.take its.toArray.size)):=D'
    have et:vs.take its.toArray.size=vs:=OD (by rw[KG];omega);rw[et] at D';have nf:H s.heap.objs.size=none:=I.fresh
    have hne:(s.heap.objs.size == Ku)=false:=by
     have hb:=I.big;refine beq_eq_false_iff_ne.mpr fun e=>?_;rw[e] at hb;exact Kt _ hb
    have hm:KV (cy [] kvs) (storeAll [] vs):=KV.merge q2 .nil
    have hml:(cy [] kvs).length<=sizeLine:=by
     have a1:(cy [] kvs).length=(storeAll [] vs).length:=Ki hm;have a2:=eB vs [];simp only[Lb] at a2;omega
    have I2:=I.laid (a:=s.heap.objs.size) (o:=.dK (cy [] kvs)) (h':=h') (t':=tk) keep (K8 _) ⟨hml,hne,_,hm,D'⟩;have kp:Kp H (upd H s.heap.objs.size (.dK (cy [] kvs))):=Same.kp (Same.new nf);obtain⟨ks',ps',g1,g2,g3⟩:=kg (acc:=[]) (ps:=[]) (gh.kp kp q1) aB.nil;refine⟨.ref _,_,I2,rfl,k _ _ (Same.new nf) nf ?_⟩;rw[qZ];have g1:kps.foldl wb (PV.dct [] [])=PV.dct ks' ps':=g1;rw[g1];exact⟨_,ar,g2,g3⟩
  ·rw[if_neg hlen] at ez
   cases ez
 | _=>cases ez
end PU
namespace PU
open PySem PySem.Spec PyProof.Rows L2 HT
theorem gS{prog:K5}{w:KH}{A:KY}{E:JJ->JM->Prop}{s:JM}{t sl:Addr}{items:Array JJ}{vl vu:JJ}{lo hi:Option Int}{Q:JJ->JM->Prop}(ht:IsTup s.heap t items)(hs:s.heap.IsSliceOf sl vl vu .none)(pl:Ou vl lo)(pu:Ou vu hi)
  (hw:sIx items.size 0 lo=0/\sIx items.size items.size hi=items.size)
  (h:Q (.ref t) s):JZ (KM prog w) A (Pf (.ref t) (.ref sl)) Q E s:=by
 obtain⟨os,hos,hcs,hds⟩:=id hs;have hTs:s.TypeIs (.ref sl) "slice":=⟨os,hos,hcs⟩;unfold Pf
 try with_reducible refine LR ?_
 first | refine JI (JO ?_) | skip
 refine JI (wpAny_sequenceKey ht.typeIs (by decide) ?_)
 refine JI (Mv (name:=JK "__getitem__") ht.typeIs Ky
  (Md Ky ht.typeIs entry_tuple_getitem ?_ (args_tuple_getitem _ _)))
 show JZ _ _ (Mx (.ref t) >>= _) _ _ s;refine JI (tupleItemsOf_ ht ?_);refine JI (Ll hTs ?_);rw[if_pos (by decide)];refine JI (fH hs pl pu ?_)
 have hyes:((((sIx items.size 0 lo:Nat):Int) == 0 && (1:Int) == 1 && (sIx items.size items.size hi-sIx items.size 0 lo) == items.size)=true):=by
  rw[hw.1,hw.2];simp
 show JZ _ _ (if (((sIx items.size 0 lo:Nat):Int) == 0 && (1:Int) == 1 && (sIx items.size items.size hi-sIx items.size 0 lo) == items.size)=true then _ else _) _ _ s;rw[if_pos hyes];unfold Builtin.Tuple.tupleIsExact;refine JI (JI (Ll ht.typeIs (JO ?_)));rw[if_pos (by decide)];refine JI (Nt ?_)
 first
  | exact JO ⟨_,rfl,JO h⟩
  | exact JI (JO (JO ⟨_,rfl,JO h⟩))
  | exact JO (JO ⟨_,rfl,JO h⟩)
variable[TW]
def FE:PV->Option Int->Option Int->Option PV
 | .tup ps,lo,hi=>some (.tup (pL ps lo hi))
 | _,_,_=>none
def qH(f:PSt->R PV)(l h:PSt->R (Option Int)):PSt->R PV:=fun ρ=>f ρ >>= fun p=>l ρ >>= fun lo=>h ρ >>= fun hi=>R.ofO (FE p lo hi)
def Gg(K:JH):V->Option Int->Option Int->Hp->VK->Prop:=fun v lo hi H Q=>∃p z,bg K H p v/\FE p lo hi=some z/\∀w H',Same H H'->Rep K H' z w->Q w H'
theorem IK{X:Cx}:SlR X (Gg X.K):=by
 intro pins s σ H x v vl vu lo hi sl Q I rx hs pl pu ⟨p,z,rp,ez,k⟩;cases p with
 | tup ps=>
  cases ez;obtain⟨a,xs,rfl,g,rr⟩:=bg.tup_inv rp
  by_cases hw:HT.sIx ps.length 0 lo=0/\HT.sIx ps.length ps.length hi=ps.length
  ·cases rx
   obtain⟨its,r,ht,hz⟩:=I.tuple g;have hlen:its.toArray.size=ps.length:=by rw[KG,rr.length];exact r.length.symm
   refine⟨"tuple",_,Ky.lookup,ht.typeIs,?_⟩;refine gS ht hs pl pu (by rw[hlen];exact hw) ⟨.ref a,H,I,rfl,k _ H (Same.refl H) ?_⟩
   have e:pL ps lo hi=ps:=by
    unfold pL;rw[hw.1,hw.2];simp
   rw[e];exact rp
  ·exact yU pins s σ H _ v vl vu lo hi sl Q I rx hs pl pu ⟨a,xs,rfl,g,by rw[← rr.length];exact hw,fun b hb=>k _ _ (Same.new hb) ⟨b,_,rfl,ar,(nJ rr lo hi).same (Same.new hb)⟩⟩
 | _=>cases ez
theorem vz{C:Cn}{e:Expr}{f:PSt->R PV}{lo hi:Option Expr}{l h:PSt->R (Option Int)}{pos p2:La}(ha:EO C e f)(hl:EOI C lo l)(hh:EOI C hi h):EV C (.Subscript e (.Slice lo hi none p2) pos) (qH f l h):=by
 intro pins s σ H Q I ⟨ρ,vw,q⟩;refine mJ IK ha hl hh pins s σ H Q I ⟨ρ,vw,q.bind.imp fun p _ k v H1 s1 r1=>⟨ρ,vw.same s1,(k.bind.same s1).imp fun o1 _ k2 H2 s2=>⟨ρ,(vw.same s1).same s2,(k2.bind.same (s1.trans s2)).imp fun o2 _ k3 H3 s3=>?_⟩⟩⟩;obtain⟨z,ez,k4⟩:=k3.ofO;exact⟨p,z,(r1.same s2).same s3,ez,fun w H4 s4 r4=>k4 w H4 (((s1.trans s2).trans s3).trans s4) r4⟩
end PU
namespace PU
open PySem PySem.Spec PyProof.Rows L2 PySem.SeqAt
noncomputable def xI(k:Key)(i:Nat)(f:PSt->R (List (Key×PV))):PSt->R PV:=fun ρ=>f ρ >>= fun kps=>match ρ[i]? with
 | some (.own q)=>if kps.length<=14/\(kps.map (·.1)++[k]).Nodup then .ok (.dct (kps.map (·.1)++[k]) (kps.map (·.2)++[q])) else .no
 | _=>.no
noncomputable def xH:PV->Key->Option (List Key×List PV)
 | .dct ks ps,kx=>match ps.getLast? with
  | some (.dct ls qs)=>if (ks.getLast?.any fun j=>decide (j=kx))=true/\(ks.dropLast.any fun j=>decide (j=kx))=false/\ls.length<16777216 then some (ls,qs) else none
  | _=>none
 | _,_=>none
noncomputable def uz:PV->PV->PV
 | .dct ks ps,q=>.dct ks (ps.dropLast++[q])
 | p,_=>p
def uA(i:Nat)(f:PSt->R PV)(kx:Key)(fk fv:PSt->R PV):PSt->R Fl:=fun ρ=>f ρ >>= fun p=>R.ofO (xH p kx) >>= fun q=>fv (ρ.set i .no) >>= fun v=>fk (ρ.set i .no) >>= fun kp=>R.ofO (e6 kp) >>= fun k=>.ok (.next (ρ.set i (.val (uz p (gD q.1 q.2 k v)))))
theorem u3(i:Nat)(fk fv:PSt->R PV)(ρ:PSt)(p:PV):so i fk fv ρ≠.ok (.ret p):=by
 unfold so;intro h;split at h
 ·cases hf:fv ρ with
  | ok q=>
   rw[hf,R.ok_bind] at h;cases hk:fk ρ with
   | ok kp=>
    rw[hk,R.ok_bind] at h;cases ht:e6 kp with
    | some k=>
     rw[ht,R.ofO_some,R.ok_bind] at h;split at h <;> cases h
    | none=>rw[ht] at h;cases h
   | er x=>rw[hk] at h;cases h
   | no=>rw[hk] at h;cases h
  | er x=>rw[hf] at h;cases h
  | no=>rw[hf] at h;cases h
 ·cases h
variable[TW]
def iG(K:JH)(B H:Hp)(a b:Addr)(p:PV):Prop:=∃(kvs:List (Key×V))(k:Key)(q:PV)(ps:List PV),p=.dct (kvs.map (·.1)++[k]) (ps++[q])/\H a=some (.dK (kvs++[(k,.ref b)]))/\aB K H ps (kvs.map (·.2))/\bY K H b q/\a≠b/\B a=none/\B b=none
theorem _root_.L2.Inv.frzN{X:Cx}{pins:List (Addr×Obj)}{σ:L2.St}{B H:Hp}{s:JM}{a b:Addr}{p:PV}(I:Inv X pins σ H s)(n:iG X.K B H a b p) :
  ∃H1 H2:Hp,Inv X pins σ H2 s/\Rep X.K H2 p (.ref a)/\(∀c,c≠b->H1 c=H c)/\(∀c,c≠a->H2 c=H1 c)/\(∀u,H b=some u->uX u=false/\xW u=false)/\(∀u,H1 a=some u->uX u=false/\xW u=false):=by
 obtain⟨kvs,k,q,ps,rfl,h,r,w,ne,_,_⟩:=n;obtain⟨H1,I1,rq,o1⟩:=I.frz w
 have n1:bY X.K H1 a (.dct (kvs.map (·.1)++[k]) (ps++[q])):=⟨kvs++[(k,.ref b)],by rw[o1 a ne];exact h,by simp,by
  rw[KL];exact aB.append (aB.kp (Kp.but (fun u h=>(w.nt u h).1) o1) _ r) ⟨_,_,rfl,rq,rfl⟩⟩
 obtain⟨H2,I2,rp,o2⟩:=I1.frz n1;exact⟨H1,H2,I2,rp,o1,o2,w.nt,n1.nt⟩
noncomputable def tM(C:Cn)(f:PSt->R PV):TE:=fun σ H Q=>∃ρ,View C.X.K H σ ρ/\RQ C H (f ρ) fun p=>∀a b H',Same H H'->iG C.X.K H H' a b p->Q (.ref a) H'
def EM(C:Cn)(e:Expr)(f:PSt->R PV):Prop:=PE C.X e (tM C f)
theorem EM.v{C:Cn}{e:Expr}{f:PSt->R PV}(h:EM C e f):EV C e f:=by
 intro pins s σ H Q I ⟨ρ,vw,q⟩;cases hf:f ρ with
 | ok p=>
  rw[hf] at q;refine thn (h pins s σ H (fun v H'=>∃a b,v=.ref a/\Same H H'/\iG C.X.K H H' a b p) I ⟨ρ,vw,by rw[hf];exact fun a b H' sm w=>⟨a,b,rfl,sm,w⟩⟩) fun u s' ⟨v,H',I',rv,a,b,ev,sm,w⟩=>?_;obtain⟨_,_,_,_,_,_,_,_,_,fa,fb⟩:=id w;obtain⟨H1,H2,I2,rp,o1,o2,t1,t2⟩:=I'.frzN w;subst ev;exact⟨.ref a,H2,I2,rv,q _ H2 ((sm.but fb (fun u h=>(t1 u h).1) o1).but fa (fun u h=>(t2 u h).1) o2) rp⟩
 | er x=>
  rw[hf] at q;exact h pins s σ H Q I ⟨ρ,vw,by rw[hf];exact q⟩
 | no=>
  rw[hf] at q;exact JP q
def EDN(C:Cn)(pos:La)(ks:List (Option Expr))(vs:List Expr)(f:PSt->R (List (Key×PV)))(k:Key)(i:Nat):Prop:=∃trs,PPs C.X pos ks vs trs/\
 ∀σ H Q b,(∃ρ,View C.X.K H σ ρ/\σ[i]?=some (some (.ref b))/\RQ C H (f ρ) fun kps=>∀kvs H',Same H H'->gh C.X.K H' kps kvs->Q ((kvs++[(k,V.ref b)]).map fun kv=>(kV kv.1,kv.2)) H')->oe trs σ H Q
theorem yp{C:Cn}{pos:La}(i:Nat){x y:Str}{j}{p1 p2:La}(hN:C.X.N[i]?=some x:=by rfl)(hv:Vis C.X.env.scope x:=by first | exact NY rfl | exact N7 (NY rfl) | exact N7 (N7 rfl))
  (hd:(x == ("__debug__":Str))=false:=by decide) (hcd:(x == ("__classdict__":Str))=false:=by decide):EDN C pos [some (.Constant (.str y) j p1)] [.Name x p2] DA (.inr y) i:=
 ⟨_,mH uk (eG hN hv hd hcd) ub,fun σ H Q b ⟨ρ,vw,e,q⟩=>⟨_,e,q [] H (Same.refl H) rfl⟩⟩
theorem rF{C:Cn}{pos:La}{k v:Expr}{ks:List (Option Expr)}{vs:List Expr}{fk fv:PSt->R PV}{f:PSt->R (List (Key×PV))}{kx:Key}{i:Nat}(hk:EV C k fk)(hv:EV C v fv)(h:EDN C pos ks vs f kx i):EDN C pos (some k::ks) (v::vs) (pq fk fv f) kx i:=by
 obtain⟨trs,hp,ht⟩:=h;refine⟨_,mH hk hv hp,fun σ H Q b ⟨ρ,vw,e,q⟩=>⟨ρ,vw,q.bind.imp fun kp _ q1 x H1 s1 r1=>?_⟩⟩
 obtain⟨kk,ek,q1⟩:∃kk,e6 kp=some kk/\RQ C H (fv ρ >>= fun p=>f ρ >>= fun r=>R.ok ((kk,p)::r)) _:=by
  cases h:e6 kp with
  | none=>rw[h] at q1;exact JP q1
  | some kk=>rw[h] at q1;exact⟨kk,rfl,q1⟩
 refine⟨ρ,vw.same s1,(q1.bind.same s1).imp fun p _ q2 y H2 s2 r2=>ht σ H2 _ b ⟨ρ,(vw.same s1).same s2,e,(q2.bind.same (s1.trans s2)).imp fun kps _ q3 kvs H3 s3 r3=>?_⟩⟩;have hx:=cH ek r1.o;subst hx;exact q3 ((kk,y)::kvs) H3 ((s1.trans s2).trans s3) ⟨y,kvs,rfl,r2.same s3,r3⟩
omit [TW] in
theorem kc:∀{kvs acc:List (Key×V)},((acc++kvs).map (·.1)).Nodup->cy acc kvs=acc++kvs
 | [],acc,_=>by simp[cy]
 | kv::kvs,acc,h=>by
  have h1:putK acc kv.1 kv.2=acc++[kv]:=by
   unfold putK;rw[if_neg];intro z;obtain⟨y,hy,e⟩:=LG.mp z;have e:y.1=kv.1:=by simpa using e
   rw[KL,LA] at h;exact h.2.2 y.1 (List.mem_map_of_mem hy) kv.1 (by simp) e
  have:cy acc (kv::kvs)=cy (putK acc kv.1 kv.2) kvs:=rfl;rw[this,h1,kc (by simpa using h)];simp
theorem gh.split{K:JH}{H:Hp}:∀{kps:List (Key×PV)}{kvs:List (Key×V)},gh K H kps kvs->kvs.map (·.1)=kps.map (·.1)/\aB K H (kps.map (·.2)) (kvs.map (·.2))
 | [],_,h=>by cases h;exact⟨rfl,rfl⟩
 | kp::r,_,⟨v,t,e,h1,h2⟩=>by
  subst e;obtain⟨e1,e2⟩:=gh.split h2;exact⟨by simp[e1],v,_,rfl,h1,e2⟩
def RM(C:Cn)(B:Hp×Hp)(D:Ends):R Fl->Prop
 | .ok (.ret p)=>∀a b H,Same B.1 H->iG C.X.K B.1 H a b p->D.rt (.ref a) H
 | _=>False
noncomputable def tSM(C:Cn)(g:PSt->R Fl):TS:=fun D σ H=>∃ρ B,StOk C.X.K B H σ ρ/\RM C B D (g ρ)
def SVM(C:Cn)(st:List Stmt)(g:PSt->R Fl):Prop:=PSs C.X st (tSM C g)
section
variable{C : Cn}{st : Stmt}{sts : List Stmt}{e : Expr}{f : PSt → R PV}{g g' : PSt → R Fl}{pos : La}
theorem bW(hn:∀ρ p,g ρ≠.ok (.ret p))(h1:SV C st g)(h2:SVM C sts g'):SVM C (st::sts) (aU g g'):=by
 intro pins s σ H D I ⟨ρ,B,S,h⟩;refine dC h1 h2 pins s σ H D I ⟨ρ,B,S,?_⟩;unfold aU at h;cases hg:g ρ with
 | ok fl=>
  rw[hg] at h;cases fl with
  | next ρ'=>exact fun σ' H' S'=>⟨ρ',B,S',h⟩
  | brk ρ'=>exact JP h
  | cont ρ'=>exact JP h
  | ret p=>exact absurd hg (hn ρ p)
 | er x=>rw[hg] at h;exact JP h
 | no=>rw[hg] at h;exact JP h
theorem An{ks:List (Option Expr)}{vs:List Expr}{f:PSt->R (List (Key×PV))}{k:Key}{i:Nat}{pos':La}(h:EDN C pos ks vs f k i)(hall:ks.all (·.isSome)=true:=by rfl)(hl:ks.length=vs.length:=by rfl)(h0:ks≠[]:=by exact fun z=>nomatch z)
  (h15:ks.length<=15:=by decide):SVM C [.Return (some (.Dict ks vs pos)) pos'] (cG (xI k i f)):=by
 obtain⟨trs,hp,ht⟩:=h;intro pins s σ H D I ⟨ρ,B,S,q⟩
 have q:RM C B D ((f ρ >>= fun kps=>match ρ[i]? with
  | some (.own q)=>if kps.length<=14/\(kps.map (·.1)++[k]).Nodup then .ok (.dct (kps.map (·.1)++[k]) (kps.map (·.2)++[q])) else .no
  | _=>.no) >>= fun p=>.ok (.ret p)):=q
 cases hf:f ρ with
 | ok kps=>
  rw[hf,R.ok_bind] at q;split at q
  ·rename_i p e1
   split at q
   ·rename_i hc
    obtain⟨b,eb,nw⟩:=S.vw i _ e1;refine iN (lI (AR hp hall hl h0 h15)) pins s σ H D I fun a hn=>ht σ _ _ b ⟨ρ,S.vw.same (Same.new hn),eb,?_⟩;rw[hf];intro kvs H3 s3 r3;have sm:Same H H3:=(Same.new hn).trans s3;have e3:H3 a=some (.dK []):=s3 _ _ ar;obtain⟨k1,k2⟩:=r3.split
    have hne:a≠b:=fun z=>by
     subst z;obtain⟨u,hu,_⟩:=nw.obj;rw[hn] at hu;cases hu
    refine⟨e3,kvs++[(k,.ref b)],rfl,by simp[← r3.length];omega,?_⟩;rw[kc (by simpa [k1] using hc.2),Mh];have kp:Kp H3 (upd H3 a (.dK (kvs++[(k,.ref b)]))):=Kp.upd e3 rfl;refine q a b _ ((S.same.trans sm).but (S.same.free hn) (fun u h=>by rw[e3] at h;cases h;rfl) (fun b hb=>av hb)) ⟨kvs,k,p,_,by rw[k1],ar,aB.kp kp _ k2,(nw.same sm).kp kp (av hne.symm),hne,S.same.free hn,S.fresh i p b e1 eb⟩
   ·exact JP q
  ·exact JP q
 | er x=>rw[hf] at q;exact JP q
 | no=>rw[hf] at q;exact JP q
end
noncomputable def spM(K:JH)(n:Nat)(F:List PV->Option PV):Sp:=fun vs H Q _=>vs.length=n/\rQ H/\∃ps p,aB K H ps vs/\F ps=some p/\∀a b H',Same H H'->iG K H H' a b p->Q (.ref a) H'
structure PFM(P:K5)(w:KH)(K:JH)(mg:Str->Option JJ)(base:Heap)(k:Nat)(x:Str)(F:List PV->Option PV):Prop where
 ex:∃(f:Addr)(fd:FuncData)(ps:List Str),FnOk P w K mg base CX0 k f fd ps (spM K ps.length F)/\mg x=some (.ref f)/\LI K (.ref f)=true/\Binds K fd ps []/\∀qs p,F qs=some p->qs.length=ps.length
theorem iG.rebase{K:JH}{B B' H:Hp}{a b:Addr}{p:PV}(n:iG K B' H a b p)(s:Same B B'):iG K B H a b p:=by
 obtain⟨kvs,k,q,ps,e,h,r,w,ne,fa,fb⟩:=n;exact⟨kvs,k,q,ps,e,h,r,w,ne,s.free fa,s.free fb⟩
section
variable{C : Cn}{e : Expr}{es : List Expr}{fs : PSt → R (List PV)}{x : Str}{k : Nat}{F : List PV → Option PV}{p pos : La}
theorem nH(G:PFM C.X.prog C.X.w C.X.K C.X.mg C.X.base k x F){kr:Nat}(hr:Room kr C.X.A)(ha:EA C (e::es) fs)
  (hdb:(x == ("__debug__":Str))=false:=by decide) (he:K1 (e::es) C.X.env=(false,L9 e C.X.env)::K1 es C.X.env:=by exact bC rfl) (hpl:(MM pos (K1 es C.X.env)).any (·.1)=false:=by exact fg rfl) (hk:k<=kr:=by decide) (hg:Gl C.X x:=by exact rfl) :
  EM C (.Call (.Name x p) (e::es) [] pos) (aO fs F):=by
 replace hr:=hr.mono hk;obtain⟨f,fd,ps,a,b,c,d,l⟩:=G.ex;intro pins s σ H Q I ⟨ρ,vw,q⟩;refine pW (dvs:=[]) (ds:=[]) (E:=E0) a hr hg b c d .nil AV ha hdb he hpl pins s σ H Q I ⟨ρ,vw,q.bind.imp fun qs _ k vs H1 s1 r1=>?_⟩;obtain⟨z,ez,k⟩:=k.ofO;rw[Kq];exact⟨by rw[← r1.length];exact l qs z ez,s1.tabs vw.tb,qs,z,r1,ez,fun v b H' s' r'=>k v b H' (s1.trans s') (r'.rebase s1)⟩
end
section
variable{P : K5}{w : KH}{K : JH}{mg : Str → Option JJ}{base : Heap}{x : Str}{st : Stmt}{N ps : List Str}{k : Nat}{g : PSt → R Fl}
theorem Gn(h:Hs K mg x st)(S:FnScope N ps (ae st))
  (hbody:∀(f:Addr)(cdv:JJ)(A:KY)(outer:List Ow)(s:JM)(H:Hp)(E:XK),Room k (A.deeper (Mm x (ae st) s.heap.objs.size f cdv))->SVM (zT P w K mg base N x (ae st) f cdv A outer s H E) (aW st) g)
  (hb:∀(kV doc pm:JJ)(an:Option Addr)(cdv ct:JJ)(us:List JJ),us.length=ps.length->Os (L6 x x (da st) (aW st) (ae st) .none kV doc pm an cdv ct) ⟨us,[]⟩=pure (ps.zip us):=by
   intro _ _ _ _ _ _ us hl;repeat' (first | (exfalso;simp only[Lj] at hl;omega) | (rcases us with _ | ⟨_,us⟩) | rfl)) :
  PFM P w K mg base (k+1) x (runN ps.length N.length g):=by
 obtain⟨f,fd,F,hm⟩:=h;refine⟨f,fd,ps,F.ok S (fun vs H Q E h=>h.1) (fun cdv A outer s H vs Q E hr' h=>?_),hm,F.kp,F.binds hb,fun qs p h=>?_⟩
 ·obtain⟨hl,tb,qs,p,r,e0,k⟩:=h
  refine⟨_,hbody f cdv A outer s H E hr',start N.length qs,(H,H),gk tb r,?_⟩;unfold runN at e0;rw[if_pos (by rw[r.length];exact hl)] at e0;split at e0
  ·rename_i q hq
   rw[hq];cases e0;exact fun a b H' s' w'=>k a b H' s' w'
  ·cases e0
 ·unfold runN at h
  split at h
  ·rename_i hl;exact hl
  ·cases h
end
noncomputable def IX:R2:=fun x y H Q=>∃a kvs k v,x=.ref a/\y=kV k/\H a=some (.dK kvs)/\jo kvs k=some v/\Q v H
theorem E6{X:Cx}(hw:X.w=TW.w:=by rfl):IxR X IX:=by
 intro value slice pins s σ H x y v u Q I rx ry ⟨a,kvs,k,z,ex,ey,h,ev,q⟩ hs;subst ex ey;cases rx;obtain⟨zz,hd,vs,rel,dd⟩:=DkR.at hw I (.inl (.inl h));obtain⟨w',hw,rw'⟩:=pH.some_of (v:=z) (o:=LM vs k) (by rw[← ev];exact rel.val k);exact tail_any dd.typeIs Pc.lookup (wpAny_getItem_of (ko ry) dd.mapOf hw ⟨z,H,I.tok _,rw',q⟩) hs
omit [TW] in
theorem qC{k:Key}{v:V}:∀{kvs:List (Key×V)},k ∉ kvs.map (·.1)->jo (kvs++[(k,v)]) k=some v
 | [],_=>gj rfl
 | p::r,h=>by
  rw[Lz,eA (fun z=>h (by simp[z]))];exact qC fun z=>h (by simp at z ⊢;exact .inr z)
theorem StOk.off{K:JH}{B:Hp×Hp}{H H':Hp}{σ:L2.St}{ρ:PSt}{a:Addr}(S:StOk K B H σ ρ)(fa:B.1 a=none)(na:∀u,H a=some u->uX u=false/\xW u=false)
  (no:∀(j:Nat)(q:PV),ρ[j]?=some (.own q)->σ[j]?≠some (some (.ref a))) (oth:∀b,b≠a->H' b=H b):StOk K B H' σ ρ:=by
 have k:Kp H H':=Kp.but (fun u h=>(na u h).1) oth;refine⟨S.len,S.same.but fa (fun u h=>(na u h).1) oth,S.kp.trans k,⟨fun j l ej=>?_,S.vw.tb.but na oth⟩,S.fresh,S.apart,S.pinned⟩;have:=S.vw j l ej;cases l with
 | no=>exact trivial
 | val q=>obtain⟨v,e1,r⟩:=this;exact⟨v,e1,r.kp k⟩
 | own q=>
  obtain⟨b,e1,r⟩:=this;exact⟨b,e1,r.kp k (oth b fun z=>no j q ej (by rw[← z];exact e1))⟩
 | pin qs b=>exact⟨this.1,this.2.kp k (oth b fun z=>S.pinned j qs b ej (by rw[z];exact fa))⟩
noncomputable def tNs(C:Cn)(i:Nat)(g:PSt->R Fl):TS:=fun D σ H=>∃ρ B a b p,StOk C.X.K B H σ ρ/\σ[i]?=some (some (.ref a))/\iG C.X.K B.1 H a b p/\
 (∀(j:Nat)(q:PV),ρ[j]?=some (.own q)->σ[j]?≠some (some (.ref a))/\σ[j]?≠some (some (.ref b)))/\RS C B D (g (ρ.set i (.val p)))
theorem xG{C:Cn}{i:Nat}{sts:List Stmt}{g:PSt->R Fl}(h:SVs C sts g):PSs C.X sts (tNs C i g):=by
 intro pins s σ H D I ⟨ρ,B,a,b,p,S,ea,n,no,q⟩;obtain⟨_,_,_,_,_,_,_,_,_,fa,fb⟩:=id n;obtain⟨H1,H2,I2,rp,o1,o2,t1,t2⟩:=I.frzN n;have S2:=(S.off fb t1 (fun j q e=>(no j q e).2) o1).off fa t2 (fun j q e=>(no j q e).1) o2;have S3:=S2.setV (i:=i) rp
 have e:σ.set i (some (.ref a))=σ:=by
  apply RD;intro j
  by_cases hj:j=i
  ·subst hj
   rw[cE (JL.mp ea).1,ea]
  ·rw[aM hj]
 rw[e] at S3;exact h pins s σ H2 D I2 ⟨_,B,S3,q⟩
theorem wY{C:Cn}(i:Nat){x y:Str}{e1 ke e:Expr}{f1 fk fv:PSt->R PV}{sts:List Stmt}{g:PSt->R Fl}{j}{p1 p2 p3 p4 p5 pos pos2:La}(hN:C.X.N.Nodup)(hu:C.X.A.units+64<cLine)
  (h1:EM C e1 f1) (hk:EV C ke fk) (hv:EV C e fv) (hr:SVs C sts g)
  (hs1:MK e1 (some (.Name x p1)) pos.line C.X.env=pure false:=by rfl) (hs:MK e (some (.Subscript (.Subscript (.Name x p2) (.Constant (.str y) j p3) p4) ke p5)) pos2.line C.X.env=pure false:=by rfl)
  (hf:C.X.fn x=true\/C.X.env.scope.names.lookup x=some .local:=by first | exact .inl rfl | exact .inr rfl | assumption) (hi:C.X.N[i]?=some x:=by rfl) (hx:Loc C.X.env.scope x:=by first | exact .inl rfl | exact .inr rfl)
  (hvis:Vis C.X.env.scope x:=by first | exact NY rfl | exact N7 (NY rfl)) (hd:(x == ("__debug__":Str))=false:=by decide) (hcd:(x == ("__classdict__":Str))=false:=by decide) (hw:C.X.w=TW.w:=by rfl) :
  SVs C (.Assign [.Name x p1] e1 pos::.Assign [.Subscript (.Subscript (.Name x p2) (.Constant (.str y) j p3) p4) ke p5] e pos2::sts) (aU (uA i f1 (.inr y) fk fv) g):=by
 intro pins s σ H D I ⟨ρ,B,S,q⟩;refine dC (qQ hN hi hx h1 hs1 hf) (dC (pT (by omega) (Dj (E6 hw) (eG hi hvis hd hcd) uk (fun _ _=>rfl)) hk hv hs) (xG (i:=i) hr)) pins s σ H D I ⟨ρ,S.vw,?_⟩;unfold aU uA at q;cases hf1:f1 ρ with
 | no=>rw[hf1] at q;exact JP q
 | er z=>rw[hf1] at q;exact fun H' s'=>q H' (S.same.trans s')
 | ok p=>
  rw[hf1,R.ok_bind] at q;intro a b H1 s1 n1;obtain⟨kvs,k0,p0,ps,rfl,ha,rr,nb,ne,fa,fb⟩:=n1
  have q:RS C B D ((R.ofO (xH (.dct (kvs.map (·.1)++[k0]) (ps++[p0])) (.inr y)) >>= fun z=>fv (ρ.set i .no) >>= fun v=>fk (ρ.set i .no) >>= fun kp=>R.ofO (e6 kp) >>= fun k=>(.ok (.next (ρ.set i (.val (uz (.dct (kvs.map (·.1)++[k0]) (ps++[p0])) (gD z.1 z.2 k v))))):R Fl)) >>= fun fl=>match fl with
   | .next ρ'=>g ρ'
   | .brk ρ'=>.ok (.brk ρ')
   | .cont ρ'=>.ok (.cont ρ')
   | .ret p=>.ok (.ret p)):=q
  rw[R.bind_assoc] at q;obtain⟨z,ez,q⟩:=RS.ofO q
  obtain⟨ls,qs,rfl,rfl,hk0,hnk,hln⟩:∃ls qs,z=(ls,qs)/\p0=.dct ls qs/\k0=.inr y/\(LW y:Key) ∉ kvs.map (·.1)/\ls.length<16777216:=by
   unfold xH at ez;simp only[List.getLast?_append,QD,Option.some_or,List.dropLast_concat] at ez;split at ez
   ·rename_i ls qs e0
    split at ez
    ·rename_i hc
     cases ez;cases e0;refine⟨_,_,rfl,rfl,by simpa using hc.1,fun hm=>?_,hc.2.2⟩;have h2:=hc.2.1;rw[RF] at h2;exact h2 _ hm (by simp)
    ·cases ez
   ·cases ez
  subst hk0;have S1:=(S.grow s1).setNo (i:=i) (v:=.ref a);have hil:i<σ.length:=Nat.lt_of_lt_of_eq (JL.mp hi).1 I.len.symm;have ea:(σ.set i (some (.ref a)))[i]?=some (some (.ref a)):=cE hil;rw[R.bind_assoc] at q;refine⟨ρ.set i .no,S1.vw,(q.bind (S.same.trans s1)).imp fun pv _ q1 v H2 s2 r2=>?_⟩;rw[R.bind_assoc] at q1;refine⟨.ref a,ea,?_⟩;refine⟨a,_,.inr y,.ref b,rfl,rfl,s2 _ _ ha,qC hnk,ρ.set i .no,S1.vw.same s2,(q1.bind ((S.same.trans s1).trans s2)).imp fun kp _ q2 yv H3 s3 r3=>?_⟩;rw[R.bind_assoc] at q2;obtain⟨k,ek,q3⟩:=RS.ofO q2;have hy:=cH ek r3.o;subst hy;obtain⟨kvb,hb,eb,rb⟩:=nb.same (s2.trans s3);refine⟨b,_,rfl,yI.k hb (by rw[Ke,← JT (f:=Prod.fst),eb];exact hln),?_⟩;have kp:Kp H3 (upd H3 b (.dK (putK kvb k v))):=Kp.upd hb rfl;have S3:=(S1.grow s2).grow s3
  have own:∀(c:Addr),H c=none->∀(j:Nat)(q:PV),(ρ.set i .no)[j]?=some (.own q)->(σ.set i (some (.ref a)))[j]?≠some (some (.ref c)):=fun c hc j q ej fj=>by
   rcases bw ej with⟨_,z,_⟩|⟨hj,ej⟩
   ·cases z
   ·rw[aM hj] at fj
    obtain⟨c',f',w⟩:=S.vw j _ ej;rw[fj] at f';cases f';obtain⟨u,hu,_⟩:=w.obj;rw[hc] at hu;cases hu
  refine⟨ρ.set i .no,B,a,b,.dct (kvs.map (·.1)++[.inr y]) (ps++[gD ls qs k pv]),S3.off (S.same.free fb) (fun u h=>by rw[hb] at h;cases h;exact⟨rfl,rfl⟩) (own b fb) (fun c hc=>av hc),ea,⟨kvs,.inr y,gD ls qs k pv,ps,?_,?_,aB.kp kp _ ((rr.same s2).same s3),?_,ne,S.same.free fa,S.same.free fb⟩,fun j q e=>⟨own a fa j q e,own b fb j q e⟩,?_⟩
  ·exact rfl
  ·rw[av ne];exact s3 _ _ (s2 _ _ ha)
  ·rw[← eb]
   exact gO (aB.kp kp _ rb) (Rep.kp kp _ (r2.same s3)) ar
  ·rw[List.set_set]
   have:uz (.dct (kvs.map (·.1)++[.inr y]) (ps++[.dct ls qs])) (gD ls qs k pv)=.dct (kvs.map (·.1)++[.inr y]) (ps++[gD ls qs k pv]):=by simp[uz]
   rw[← this];exact q3
end PU
namespace BF
noncomputable def eY:List Nat->List Nat->Bool
 | x::xs,y::ys=>if x=y then eY xs ys else decide (x<y)
 | _,_=>false
def lt(a b:List Nat):Prop:=a.length<b.length\/(a.length=b.length/\eY a b=true)
theorem oR:∀{a b c:List Nat},eY a b=true->eY b c=true->eY a c=true
 | [],_,_,h,_=>by simp[eY] at h
 | x::xs,[],_,h,_=>by simp[eY] at h
 | x::xs,y::ys,[],_,h=>by simp[eY] at h
 | x::xs,y::ys,z::zs,h1,h2=>by
  simp only[eY] at h1 h2 ⊢
  by_cases e1:x=y
  ·subst e1
   rw[if_pos rfl] at h1
   by_cases e2:x=z
   ·subst e2
    rw[if_pos rfl] at h2 ⊢;exact oR h1 h2
   ·rw[if_neg e2] at h2 ⊢
    exact h2
  ·rw[if_neg e1] at h1
   by_cases e2:y=z
   ·subst e2
    rw[if_neg e1];exact h1
   ·rw[if_neg e2] at h2
    simp at h1 h2;rw[if_neg (by omega)];simp;omega
theorem lt_trans{a b c:List Nat}(h1:lt a b)(h2:lt b c):lt a c:=by
 unfold lt at *;rcases h1 with h1 | ⟨h1,e1⟩ <;> rcases h2 with h2 | ⟨h2,e2⟩
 ·exact .inl (by omega)
 ·exact .inl (by omega)
 ·exact .inl (by omega)
 ·exact .inr ⟨by omega,oR e1 e2⟩
theorem rd(i j:Nat)(h:i<j):∀r:List Nat,eY (r++[i]) (r++[j])=true
 | []=>by simp[eY,h];omega
 | x::r=>by
  show (if x=x then _ else _)=true;rw[if_pos rfl];exact rd i j h r
theorem q9(r:List Nat)(i j:Nat)(h:i<j):lt (r++[i]) (r++[j]):=.inr ⟨by simp,rd i j h r⟩
theorem r9(i j:Nat):∀a b:List Nat,a.length=b.length->eY a b=true->eY (a++[i]) (b++[j])=true
 | [],_,_,h=>by simp[eY] at h
 | x::xs,[],h,_=>by simp at h
 | x::xs,y::ys,hl,h=>by
  simp only[eY,Lz] at h ⊢
  by_cases e:x=y
  ·rw[if_pos e] at h ⊢
   exact r9 i j xs ys (by simpa using hl) h
  ·rw[if_neg e] at h ⊢
   exact h
theorem lt_snoc{a b:List Nat}(i j:Nat)(h:lt a b):lt (a++[i]) (b++[j]):=by
 rcases h with h | ⟨h,e⟩
 ·exact .inl (by simp;omega)
 ·exact .inr ⟨by simp[h],r9 i j a b h e⟩
theorem uB{S:Type}[DecidableEq S]:∀(l U:List S),l.Nodup->(∀x∈l,x∈U)->l.length<=U.length
 | [],_,_,_=>Kz _
 | x::l,U,nd,h=>by
  have nd':=Kf.mp nd;have hx:x∈U:=h x (by simp)
  have:=uB l (U.erase x) nd'.2 fun y hy=>by
   have hne:y≠x:=fun e=>nd'.1 (e▸hy);exact(List.mem_erase_of_ne hne).mpr (h y (by simp[hy]))
  rw[List.length_erase_of_mem hx] at this;have:=List.length_pos_of_mem hx;simp;omega
section
variable{S : Type}[DecidableEq S](lead : S → Nat → S)
abbrev Row(S:Type):=S×List Nat
noncomputable def inn(near:Row S)(found:List (Row S))(i:Nat):List (Row S):=if lead near.1 i∈found.map (·.1) then found else found++[(lead near.1 i,near.2++[i])]
def sweep(near:Row S)(found:List (Row S)):List (Row S):=(KQ 13).foldl (inn lead near) found
def bfs:Nat->Nat->List (Row S)->List (Row S)
 | 0,_,found=>found
 | n+1,d,found=>match found[d]? with
  | some near=>bfs n (d+1) (sweep lead near found)
  | none=>found
def run(s0:S)(row:List Nat):S:=row.foldl lead s0
variable(s0 : S)
structure Inv(found:List (Row S)):Prop where
 h0:∃tl,found=(s0,[])::tl
 nd:(found.map (·.1)).Nodup
 srt:found.Pairwise fun a b=>lt a.2 b.2
 run:∀p∈found,run lead s0 p.2=p.1
 rng:∀p∈found,∀i∈p.2,i<13
 len:∀(j:Nat)(p:Row S),found[j]?=some p->p.2.length<=j
def Cl(found:List (Row S))(p:Row S)(i:Nat):Prop:=∃q∈found,q.1=lead p.1 i/\(q.2=p.2++[i]\/lt q.2 (p.2++[i]))
theorem v5(near:Row S)(found:List (Row S))(i:Nat):∃tl,inn lead near found i=found++tl:=by
 unfold inn
 split
 ·exact⟨[],by simp⟩
 ·exact⟨_,rfl⟩
theorem Cl.mono{found tl:List (Row S)}{p:Row S}{i:Nat}(h:Cl lead found p i):Cl lead (found++tl) p i:=by
 obtain⟨q,hq,h1,h2⟩:=h;exact⟨q,by simp[hq],h1,h2⟩
theorem v7{found:List (Row S)}{d:Nat}{near:Row S}{i:Nat}(hi:i<13)(I:Inv lead s0 found)(hd:found[d]?=some near)(top:∀p∈found,lt p.2 (near.2++[i])) :
  Inv lead s0 (inn lead near found i)/\(inn lead near found i)[d]?=some near/\(∀p∈inn lead near found i,lt p.2 (near.2++[i+1]))/\Cl lead (inn lead near found i) near i:=by
 have hdl:d<found.length:=(JL.mp hd).1;have nm:near∈found:=KA hd;have up:∀p∈found,lt p.2 (near.2++[i+1]):=fun p hp=>lt_trans (top p hp) (q9 near.2 i (i+1) (by omega));unfold inn
 split
 ·rename_i hm
  obtain⟨q,hq,e⟩:=JS.mp hm;exact⟨I,hd,up,q,hq,e,.inr (top q hq)⟩
 ·rename_i hm
  refine⟨⟨?_,?_,?_,?_,?_,?_⟩,?_,?_,?_⟩
  ·obtain⟨tl,e⟩:=I.h0
   exact⟨tl++[(lead near.1 i,near.2++[i])],by rw[e];rfl⟩
  ·rw[KL,LA]
   refine⟨I.nd,by simp,fun a ha b hb e=>?_⟩;simp at hb;subst hb e;exact hm ha
  ·rw[List.pairwise_append]
   refine⟨I.srt,by simp,fun a ha b hb=>?_⟩;rw[JX.mp hb];exact top a ha
  ·intro p hp
   rcases Kd.mp hp with hp | hp
   ·exact I.run p hp
   ·rw[JX.mp hp]
    show BF.run lead s0 (near.2++[i])=lead near.1 i;have:=I.run near nm;unfold BF.run at this ⊢;rw[MF,this];rfl
  ·intro p hp j hj
   rcases Kd.mp hp with hp | hp
   ·exact I.rng p hp j hj
   ·rw[JX.mp hp] at hj
    rcases Kd.mp hj with hj | hj
    ·exact I.rng near nm j hj
    ·rw[JX.mp hj];exact hi
  ·intro j p hp
   rw[Qb] at hp;split at hp
   ·exact I.len j p hp
   ·rename_i hj
    have e:=JX.mp (KA hp);subst e;have:=I.len d near hd;simp;omega
  ·rw[JW hdl];exact hd
  ·intro p hp
   rcases Kd.mp hp with hp | hp
   ·exact up p hp
   ·rw[JX.mp hp]
    exact q9 near.2 i (i+1) (by omega)
  ·exact⟨(lead near.1 i,near.2++[i]),by simp,rfl,.inl rfl⟩
theorem m9{found:List (Row S)}{d:Nat}{near:Row S}(I:Inv lead s0 found)(hd:found[d]?=some near)(top:∀p∈found,lt p.2 (near.2++[0])):∀n,n<=13->
  ∃tl,(KQ n).foldl (inn lead near) found=found++tl/\Inv lead s0 (found++tl)/\(∀p∈found++tl,lt p.2 (near.2++[n]))/\∀i<n,Cl lead (found++tl) near i
 | 0,_=>⟨[],by simp,by simpa using I,by simpa using top,fun i h=>absurd h (by omega)⟩
 | n+1,hn=>by
  obtain⟨tl,e,I1,t1,c1⟩:=m9 I hd top n (by omega);have hdl:d<found.length:=(JL.mp hd).1;have hd1:(found++tl)[d]?=some near:=by rw[JW hdl];exact hd
  obtain⟨I2,hd2,t2,c2⟩:=v7 lead s0 (i:=n) (by omega) I1 hd1 t1;obtain⟨tl2,e2⟩:=v5 lead near (found++tl) n;refine⟨tl++tl2,?_,?_,?_,?_⟩
  ·rw[Mg,MF,e]
   show inn lead near (found++tl) n=_;rw[e2,LP]
  ·rw[← LP,← e2];exact I2
  ·rw[← LP,← e2];exact t2
  ·intro i hi
   rw[← LP];rcases Li i n with h | h
   ·exact(c1 i h).mono lead
   ·have:i=n:=by omega
    subst this;rw[← e2];exact c2
theorem zV(U:List S)(hU:∀found,Inv lead s0 found->∀p∈found,p.1∈U):∀(n d:Nat)(found:List (Row S)),Inv lead s0 found->U.length<d+n->
  (∀(j:Nat)(p:Row S),j<d->found[j]?=some p->∀i<13,Cl lead found p i)->(∀near,found[d]?=some near->∀p∈found,lt p.2 (near.2++[0]))->
  Inv lead s0 (bfs lead n d found)/\(∃tl,bfs lead n d found=found++tl)/\∀p∈bfs lead n d found,∀i<13,Cl lead (bfs lead n d found) p i
 | 0,d,found,I,hn,c,top=>by
  refine⟨I,⟨[],by simp[bfs]⟩,fun p hp i hi=>?_⟩;have hp:p∈found:=hp;obtain⟨j,hj⟩:=NC hp;have hj':=(JL.mp hj).1
  have:=uB (found.map (·.1)) U I.nd fun x hx=>by
   obtain⟨q,hq,e⟩:=JS.mp hx;exact e▸hU found I q hq
  simp at this;exact c j p (by omega) hj i hi
 | n+1,d,found,I,hn,c,top=>by
  unfold bfs
  split
  ·rename_i near hd
   have hdl:d<found.length:=(JL.mp hd).1;obtain⟨tl,e,I1,t1,c1⟩:=m9 lead s0 I hd (top near hd) 13 (by omega);have e:sweep lead near found=found++tl:=e;rw[e]
   obtain⟨J1,⟨tl2,J2⟩,J3⟩:=zV U hU n (d+1) (found++tl) I1 (by omega) (fun j p hj hp i hi=>by
    rcases Li j d with h | h
    ·rw[JW (by omega)] at hp
     exact(c j p h hp i hi).mono lead
    ·have hjd:j=d:=by omega
     subst hjd;rw[JW hdl,hd] at hp;cases hp;exact c1 i hi) (fun near' hd' p hp=>by
    have h1:lt near.2 near'.2:=by
     have hs:=MY.mp I1.srt;obtain⟨q1,q2⟩:=JL.mp hd';have hd1:(found++tl)[d]?=some near:=by rw[JW hdl];exact hd
     obtain⟨q3,q4⟩:=JL.mp hd1;have:=hs d (d+1) q3 q1 (by omega);rw[q2,q4] at this;exact this
    have h2:=t1 p hp;exact lt_trans h2 (lt_snoc 13 0 h1))
   exact⟨J1,⟨tl++tl2,by rw[J2,LP]⟩,J3⟩
  ·rename_i hd
   refine⟨I,⟨[],by simp⟩,fun p hp i hi=>?_⟩;obtain⟨j,hj⟩:=NC hp;have hj':=(JL.mp hj).1;have:=Nj.mp hd;exact c j p (by omega) hj i hi
theorem sweep_keep{found:List (Row S)}{d:Nat}{near:Row S}(I:Inv lead s0 found)(hd:found[d]?=some near)(top:∀p∈found,lt p.2 (near.2++[0])) :
  Inv lead s0 (sweep lead near found)/\(∃tl,sweep lead near found=found++tl)/\∀near',(sweep lead near found)[d+1]?=some near'->∀p∈sweep lead near found,lt p.2 (near'.2++[0]):=by
 have hdl:d<found.length:=(JL.mp hd).1;obtain⟨tl,e,I1,t1,c1⟩:=m9 lead s0 I hd top 13 (by omega);have e:sweep lead near found=found++tl:=e;rw[e];refine⟨I1,⟨tl,rfl⟩,fun near' hd' p hp=>?_⟩
 have h1:lt near.2 near'.2:=by
  have hs:=MY.mp I1.srt;obtain⟨q1,q2⟩:=JL.mp hd';have hd1:(found++tl)[d]?=some near:=by rw[JW hdl];exact hd
  obtain⟨q3,q4⟩:=JL.mp hd1;have:=hs d (d+1) q3 q1 (by omega);rw[q2,q4] at this;exact this
 exact lt_trans (t1 p hp) (lt_snoc 13 0 h1)
theorem inv_len(U:List S)(hU:∀found,Inv lead s0 found->∀p∈found,p.1∈U){found:List (Row S)}(I:Inv lead s0 found):found.length<=U.length:=by
 have:=uB (found.map (·.1)) U I.nd fun x hx=>by
  obtain⟨q,hq,e⟩:=JS.mp hx;exact e▸hU found I q hq
 simpa using this
theorem inv_P(P:S->Prop)(h0:P s0)(hs:∀s,P s->∀i<13,P (lead s i)):∀found,Inv lead s0 found->∀p∈found,P p.1:=by
 have hr:∀(row:List Nat)(s:S),P s->(∀i∈row,i<13)->P (run lead s row):=by
  intro row
  induction row with
  | nil=>intro s h _;exact h
  | cons i row ih=>intro s h hi;exact ih _ (hs s h i (hi i (by simp))) fun j hj=>hi j (by simp[hj])
 intro found I p hp;rw[← I.run p hp];exact hr p.2 s0 h0 (I.rng p hp)
theorem inv_0:Inv lead s0 [(s0,[])]:=by
 refine⟨⟨[],rfl⟩,by simp,by simp,by simp[run],by simp,fun j p h=>?_⟩;have:=JX.mp (KA h);subst this;simp
theorem top_0(near:Row S)(h:[((s0,[]):Row S)][0]?=some near):∀p∈[((s0,[]):Row S)],lt p.2 (near.2++[0]):=fun p hp=>by
 have e1:=JX.mp (KA h);have e2:=JX.mp hp;subst e1 e2;exact .inl (by simp)
theorem bfs_all(U:List S)(n:Nat)(hn:U.length<n)(hU:∀found,Inv lead s0 found->∀p∈found,p.1∈U) :
  Inv lead s0 (bfs lead n 0 [(s0,[])])/\∀p∈bfs lead n 0 [(s0,[])],∀i<13,Cl lead (bfs lead n 0 [(s0,[])]) p i:=by
 obtain⟨J1,_,J3⟩:=zV lead s0 U hU n 0 [(s0,[])] (inv_0 lead s0) (by omega) (fun j p h=>absurd h (by omega)) (fun near h=>top_0 s0 near h);exact⟨J1,J3⟩
end
end BF
namespace BF
theorem uE:∀a:List Nat,eY a a=false
 | []=>rfl
 | x::a=>by
  show (if x=x then eY a a else _)=false;rw[if_pos rfl,uE a]
theorem zu{a:List Nat}(h:lt a a):False:=by
 rcases h with h | ⟨_,h⟩
 ·omega
 ·rw[uE] at h;cases h
theorem uC{a b:List Nat}(h:lt a b)(k:lt b a):False:=zu (lt_trans h k)
theorem DJ{q:List Nat}(h:lt q []):False:=by
 rcases h with h | ⟨h,e⟩
 ·simp at h
 ·cases q with
  | nil=>simp[eY] at e
  | cons x q=>simp at h
section
variable{S : Type}[DecidableEq S](lead : S → Nat → S)(s0 : S)(last : S → Bool)
def NL(found:List (Row S)):Prop:=∀p∈found,last p.1=false
def Whole(found:List (Row S)):Prop:=NL last found/\∀p∈found,∀i<13,Cl lead found p i
def Stops(init:List (Row S))(fin:Row S):Prop:=last fin.1=true/\NL last init/\∀p∈init,∀i<13,lt (p.2++[i]) fin.2->Cl lead init p i
structure Res(found:List (Row S)):Prop where
 inv:Inv lead s0 found
 res:Whole lead last found\/∃init fin,found=init++[fin]/\Stops lead last init fin
structure Mid(found:List (Row S))(d k:Nat)(near:Row S):Prop where
 inv:Inv lead s0 found
 at_:found[d]?=some near
 nl:NL last found
 top:∀p∈found,lt p.2 (near.2++[k])
 old:∀(j:Nat)(p:Row S),j<d->found[j]?=some p->∀i<13,Cl lead found p i
 cl:∀i<k,Cl lead found near i
structure Out(found:List (Row S))(d:Nat):Prop where
 inv:Inv lead s0 found
 nl:NL last found
 top:∀near,found[d]?=some near->∀p∈found,lt p.2 (near.2++[0])
 old:∀(j:Nat)(p:Row S),j<d->found[j]?=some p->∀i<13,Cl lead found p i
variable{lead s0 last}
theorem Out.mid{found:List (Row S)}{d:Nat}{near:Row S}(h:Out lead s0 last found d)(e:found[d]?=some near):Mid lead s0 last found d 0 near:=⟨h.inv,e,h.nl,h.top near e,h.old,fun i hi=>absurd hi (by omega)⟩
theorem Mid.go{found:List (Row S)}{d k:Nat}{near:Row S}(h:Mid lead s0 last found d k near)(hk:k<13)(hn:last (lead near.1 k)=false):Mid lead s0 last (inn lead near found k) d (k+1) near:=by
 obtain⟨a,b,c,e⟩:=v7 lead s0 hk h.inv h.at_ h.top;obtain⟨tl,et⟩:=v5 lead near found k;have hdl:d<found.length:=(JL.mp h.at_).1;refine⟨a,b,fun p hp=>?_,c,fun j p hj hp i hi=>?_,fun i hi=>?_⟩
 ·unfold inn at hp
  split at hp
  ·exact h.nl p hp
  ·rcases Kd.mp hp with z | z
   ·exact h.nl p z
   ·rw[JX.mp z];exact hn
 ·rw[et] at hp ⊢
  rw[JW (by omega)] at hp;exact(h.old j p hj hp i hi).mono lead
 ·rcases Li i k with z | z
  ·rw[et];exact(h.cl i z).mono lead
  ·have:i=k:=by omega
   subst this;exact e
theorem Mid.out{found:List (Row S)}{d:Nat}{near:Row S}(h:Mid lead s0 last found d 13 near):Out lead s0 last found (d+1):=by
 refine⟨h.inv,h.nl,fun near' e p hp=>?_,fun j p hj hp i hi=>?_⟩
 ·have h1:lt near.2 near'.2:=by
   have hs:=MY.mp h.inv.srt;obtain⟨q1,q2⟩:=JL.mp e;obtain⟨q3,q4⟩:=JL.mp h.at_;have:=hs d (d+1) q3 q1 (by omega);rw[q2,q4] at this;exact this
  exact lt_trans (h.top p hp) (lt_snoc 13 0 h1)
 ·rcases Li j d with z | z
  ·exact h.old j p z hp i hi
  ·have:j=d:=by omega
   subst this;rw[h.at_] at hp;cases hp;exact h.cl i hi
theorem Mid.stop{found:List (Row S)}{d k:Nat}{near:Row S}(h:Mid lead s0 last found d k near)(hk:k<13)(hm:lead near.1 k ∉ found.map (·.1))(hn:last (lead near.1 k)=true):Res lead s0 last (found++[(lead near.1 k,near.2++[k])]):=by
 obtain⟨a,_,_,_⟩:=v7 lead s0 hk h.inv h.at_ h.top;unfold inn at a;rw[if_neg hm] at a;refine⟨a,.inr ⟨found,_,rfl,hn,h.nl,fun p hp i hi hl=>?_⟩⟩;obtain⟨j,hj⟩:=NC hp;rcases Nat.lt_trichotomy j d with z | z | z
 ·exact h.old j p z hj i hi
 ·subst z
  rw[h.at_] at hj;cases hj;rcases Li i k with y | y
  ·exact h.cl i y
  ·rcases Nat.eq_or_lt_of_le y with y | y
   ·subst y;exact(zu hl).elim
   ·exact(uC hl (q9 near.2 k i y)).elim
 ·have h1:lt near.2 p.2:=by
   have hs:=MY.mp h.inv.srt;obtain⟨q1,q2⟩:=JL.mp hj;obtain⟨q3,q4⟩:=JL.mp h.at_;have:=hs d j q3 q1 z;rw[q2,q4] at this;exact this
  exact(uC hl (lt_snoc k i h1)).elim
theorem Out.done{found:List (Row S)}{d:Nat}(h:Out lead s0 last found d)(e:found.length<=d):Res lead s0 last found:=
 ⟨h.inv,.inl ⟨h.nl,fun p hp i hi=>by
  obtain⟨j,hj⟩:=NC hp;exact h.old j p (by have:=(JL.mp hj).1;omega) hj i hi⟩⟩
theorem out_0(h:last s0=false):Out lead s0 last [(s0,[])] 0:=⟨inv_0 lead s0,fun p hp=>by rw[JX.mp hp];exact h,fun near e=>top_0 s0 near e,fun j p hj=>absurd hj (by omega)⟩
theorem res_0(h:last s0=true):Res lead s0 last [(s0,[])]:=⟨inv_0 lead s0,.inr ⟨[],(s0,[]),rfl,h,(fun p hp=>absurd hp (by simp)),fun p hp=>absurd hp (by simp)⟩⟩
theorem qL(q:List Nat)(i:Nat):run lead s0 (q++[i])=lead (run lead s0 q) i:=by
 unfold run;rw[MF];rfl
theorem whole_rows{found:List (Row S)}(I:Inv lead s0 found)(h:Whole lead last found)(q:List Nat)(hq:∀i∈q,i<13):last (run lead s0 q)=false:=by
 have go:∀n (q:List Nat),q.length=n->(∀i∈q,i<13)->∃p∈found,p.1=run lead s0 q:=by
  intro n
  induction n with
  | zero=>
   intro q hl _;have:q=[]:=Kv hl;subst this;obtain⟨tl,e⟩:=I.h0;exact⟨(s0,[]),by rw[e];simp,rfl⟩
  | succ n ih=>
   intro q hl hi;have hne:q≠[]:=fun z=>by rw[z] at hl;simp at hl
   obtain⟨q',i,rfl⟩:∃q' i,q=q'++[i]:=⟨q.dropLast,q.getLast hne,(Ld hne).symm⟩;obtain⟨p,hp,e⟩:=ih q' (by simpa using hl) fun j hj=>hi j (by simp[hj]);obtain⟨p',hp',e',_⟩:=h.2 p hp i (hi i (by simp));exact⟨p',hp',by rw[qL,← e];exact e'⟩
 obtain⟨p,hp,e⟩:=go _ q rfl hq;rw[← e];exact h.1 p hp
theorem stops_rows{init:List (Row S)}{fin:Row S}(I:Inv lead s0 (init++[fin]))(h:Stops lead last init fin)(q:List Nat)(hq:∀i∈q,i<13)(hl:lt q fin.2):last (run lead s0 q)=false:=by
 have go:∀n (q:List Nat),q.length=n->(∀i∈q,i<13)->lt q fin.2->∃p∈init,p.1=run lead s0 q/\(p.2=q\/lt p.2 q):=by
  intro n
  induction n with
  | zero=>
   intro q hl _ hlt;have:q=[]:=Kv hl;subst this;obtain⟨tl,e⟩:=I.h0;cases init with
   | nil=>
    have e:[fin]=(s0,[])::tl:=e;injection e with e1 e2;rw[e1] at hlt;exact(DJ hlt).elim
   | cons p init=>
    have e:p::(init++[fin])=(s0,[])::tl:=e;injection e with e1 e2;exact⟨p,by simp,by rw[e1];rfl,by rw[e1];exact .inl rfl⟩
  | succ n ih=>
   intro q hl hi hlt;have hne:q≠[]:=fun z=>by rw[z] at hl;simp at hl
   obtain⟨q',i,rfl⟩:∃q' i,q=q'++[i]:=⟨q.dropLast,q.getLast hne,(Ld hne).symm⟩;have l1:lt q' (q'++[i]):=.inl (by simp);obtain⟨p,hp,e,o⟩:=ih q' (by simpa using hl) (fun j hj=>hi j (by simp[hj])) (lt_trans l1 hlt)
   have le:p.2++[i]=q'++[i]\/lt (p.2++[i]) (q'++[i]):=by
    rcases o with o | o
    ·exact .inl (by rw[o])
    ·exact .inr (lt_snoc i i o)
   have l2:lt (p.2++[i]) fin.2:=by
    rcases le with z | z
    ·rw[z];exact hlt
    ·exact lt_trans z hlt
   obtain⟨p',hp',e',o'⟩:=h.2.2 p hp i (hi i (by simp)) l2;refine⟨p',hp',by rw[qL,← e];exact e',?_⟩;rcases o' with o' | o' <;> rcases le with z | z
   ·exact .inl (o'.trans z)
   ·exact .inr (by rw[o'];exact z)
   ·exact .inr (by rw[← z];exact o')
   ·exact .inr (lt_trans o' z)
 obtain⟨p,hp,e,_⟩:=go _ q rfl hq hl;rw[← e];exact h.2.1 p hp
end
end BF
section
namespace PU
open PySem L2
theorem aF{m n:Nat}{g:PSt->R Fl}{ps:List PV}{p:PV}(hl:ps.length=m)(h:g (PU.start n ps)=.ok (.ret p)):ff m n g ps=some p:=by
 unfold ff;rw[if_pos hl,h]
theorem yD{α:Type}{xs:List α}{i:Int}(d:α)(h0:0<=i)(h1:i<xs.length):atI xs i=some (xs.getD i.toNat d):=by
 have h2:i.toNat<xs.length:=by omega
 exact gH (n:=i.toNat) (by omega) (by simp[h2])
def mkS(l:List Nat):Str:=⟨l.toArray⟩
theorem k9(a b:List Nat):mkS a++mkS b=mkS (a++b):=by
 show Str.mk (a.toArray++b.toArray)=_;simp[mkS]
@[simp] theorem eQ(a:List Nat):(mkS a).length=a.length:=by simp[mkS,Str.length]
@[simp] theorem fX(a:List Nat):(mkS a).cps.toList=a:=by simp[mkS]
theorem q0(c:Nat):(⟨#[c]⟩:Str)=mkS [c]:=rfl
theorem fE:("":Str)=mkS []:=by decide +kernel
theorem xT(l:List Nat)(z:Int)(h0:0<=z)(h1:z<l.length)(hl:l.length<=16777216):gIx (.str (mkS l)) (.int z)=some (.str ⟨#[l.getD z.toNat 0]⟩):=
 wO (by simpa using hl) (by rw[fX];exact yD 0 h0 h1)
theorem gy(x:List Nat)(c:Nat)(hx:x.length<=1000):fK (.str (mkS x)) (.str ⟨#[c]⟩)=some (.str (mkS (x++[c]))):=by
 rw[q0,jI (by simp;omega),k9]
theorem sU(xs:List Str):jk (xs.map .str)=some xs:=by
 induction xs with
 | nil=>rfl
 | cons x r ih=>simp[jk,ih]
theorem Cv{s:Str}{xs:List Str}(h:(xs.map (·.length)).sum+xs.length * s.length<=16777216):vg (.str s) (.lst (xs.map .str))=some (.str (OS s xs)):=by
 show (jk (xs.map PV.str)).bind (fun ys=>if (ys.map (·.length)).sum+ys.length * s.length<=16777216 then some (PV.str (Txt.join s ys)) else none)=_;rw[sU,P0,if_pos h,xS]
end PU
namespace MT
open PySem L2 PU
inductive Room where
 | menu (text:Str) (keys:List (Str×Str)) (wrong waits:Int×Str)
 | names (text:Str) (words:List (Str×Str)) (wrong waits:Int×Str)
 | hours (spans:List (Int×Int×Str)) (last:Str)
 | hand (text:Str)
 | fin (text:Str)
structure House where
 first:Str
 letters:List (Str×Str)
 rooms:List (Str×Room)
def pv2(p:Str×Str):PV:=.tup [.str p.1,.str p.2]
def pvI(p:Int×Str):PV:=.tup [.int p.1,.str p.2]
noncomputable def pv3(p:Int×Int×Str):PV:=.tup [.int p.1,.int p.2.1,.str p.2.2]
def Room.pv:Room->PV
 | .menu t ks wr wa=>.tup [.str "menu",.str t,.tup (ks.map pv2),pvI wr,pvI wa]
 | .names t ks wr wa=>.tup [.str "names",.str t,.tup (ks.map pv2),pvI wr,pvI wa]
 | .hours sp l=>.tup [.str "hours",.tup (sp.map pv3),.str l]
 | .hand t=>.tup [.str "hand",.str t]
 | .fin t=>.tup [.str "end",.str t]
def au(rs:List (Str×Room)):PV:=.dct (rs.map fun r=>.inr r.1) (rs.map fun r=>r.2.pv)
def House.pv (h:House):PV:=.dct [.inr "first",.inr "letters",.inr "rooms"] [.str h.first,.lst (h.letters.map pv2),au h.rooms]
def num(i:Int):Str:=toString i
abbrev sp:Str:=" "
noncomputable def zx(kind name:Str)(wr wa:Int×Str)(t:Str):Str:=kind++(sp++(name++(sp++(num wr.1++(sp++(wr.2++(sp++(num wa.1++(sp++(wa.2++(sp++t)))))))))))
def C6(a b c:Str):Str:=a++(sp++(b++(sp++c)))
def IL(a b c d:Str):Str:=a++(sp++(b++(sp++(c++(sp++d)))))
def xf(name:Str):Room->List Str
 | .menu t ks wr wa=>zx "menu" name wr wa t::ks.map fun k=>C6 "key" k.1 k.2
 | .names t ks wr wa=>zx "names" name wr wa t::ks.map fun k=>C6 "name" k.1 k.2
 | .hours sp l=>C6 "hours" name l::sp.map fun s=>IL "from" (num s.1) (num s.2.1) s.2.2
 | .hand t=>[C6 "hand" name t]
 | .fin t=>[C6 "end" name t]
def House.rows (h:House):List Str:=("first"++(sp++h.first):Str)::(h.letters.map (fun l=>C6 "letters" l.1 l.2)++h.rooms.flatMap fun r=>xf r.1 r.2)
def House.text (h:House):Str:=OS "\n" h.rows
end MT
end
namespace PU
open PySem L2
def chZ(fc:PSt->R PV)(g':PV->PV->Option PV)(ρ:PSt)(q:PV):PV->R PV
 | .bl true=>jj (opP g' q) (fc ρ)
 | .bl false=>.ok (.bl false)
 | _=>.no
def chQ(fc:PSt->R PV)(g g':PV->PV->Option PV)(ρ:PSt)(p q:PV):R PV:=jj (chZ fc g' ρ q) (R.ofO (g p q))
@[simp] theorem GQ(fc:PSt->R PV)(g':PV->PV->Option PV)(ρ:PSt)(q:PV):chZ fc g' ρ q (.bl true)=jj (opP g' q) (fc ρ):=by unfold chZ;exact KW _
@[simp] theorem Jd(fc:PSt->R PV)(g':PV->PV->Option PV)(ρ:PSt)(q:PV):chZ fc g' ρ q (.bl false)=.ok (.bl false):=by unfold chZ;exact KW _
@[simp] theorem GR(fc:PSt->R PV)(g g':PV->PV->Option PV)(ρ:PSt)(p q:PV):chQ fc g g' ρ p q=jj (chZ fc g' ρ q) (R.ofO (g p q)):=by unfold chQ;exact KW _
@[simp] theorem Fj{fa fb fc:PSt->R PV}{g g':PV->PV->Option PV}{ρ:PSt}:rN fa fb fc g g' ρ=o5 (chQ fc g g' ρ) (fa ρ) (fb ρ):=by
 unfold rN;cases fa ρ with
 | ok p=>
  cases fb ρ with
  | ok q=>
   simp only[R.ok_bind,uT,GR];cases g p q with
   | none=>rfl
   | some z=>
    simp only[R.ofO_some,R.ok_bind,lq];cases z with
    | bl b=>
     cases b with
     | true=>
      rw[GQ];cases fc ρ <;> rfl
     | false=>rfl
    | _=>rfl
  | _=>rfl
 | _=>cases fb ρ <;> rfl
theorem jg{α:Type}{enc:α->PV}{h:Tgt}{t:PSt->R Bool}{fe:PSt->R PV}{ρ:PSt}(P:α->Bool)(F:α->PV):∀(xs:List α),
  (∀x∈xs,∃ρ1,h (enc x) ρ=some ρ1/\t ρ1=.ok (P x)/\(P x=true->fe ρ1=.ok (F x)))->de h t fe ρ (xs.map enc)=.ok ((xs.filter P).map F)
 | [],_=>rfl
 | x::xs,hs=>by
  obtain⟨ρ1,e1,e2,e3⟩:=hs x (KJ ..);have ih:=jg P F xs fun y hy=>hs y (KI _ hy);rw[JQ];unfold de;rw[e1];simp only[R.ofO_some,R.ok_bind,e2];cases hp:P x with
  | true=>
   rw[if_pos rfl,e3 hp,O3 hp,JQ];simp only[R.ok_bind,ih]
  | false=>
   rw[if_neg JU,O4 (by rw[hp];exact JU)];exact ih
theorem iu{α:Type}{enc:α->PV}{h:Tgt}{g:PSt->R Fl}(P:α->Bool)(F:α->PV)(I:PSt->Prop)
  (hs:∀(x:α)(ρ:PSt),I ρ->∃ρ1,h (enc x) ρ=some ρ1/\(P x=true->g ρ1=.ok (.ret (F x)))/\(P x=false->∃ρ2,g ρ1=.ok (.next ρ2)/\I ρ2)) :
  ∀(xs:List α)(ρ:PSt),I ρ->(∀x,xs.find? P=some x->fO h g (xs.map enc) ρ=.ok (.ret (F x)))/\(xs.find? P=none->∃ρ',fO h g (xs.map enc) ρ=.ok (.next ρ')/\I ρ')
 | [],ρ,h0=>⟨fun x e=>(by cases e),fun _=>⟨ρ,rfl,h0⟩⟩
 | x::xs,ρ,h0=>by
  obtain⟨ρ1,e1,e2,e3⟩:=hs x ρ h0;cases hp:P x with
  | true=>
   rw[Mr hp];refine⟨fun y e=>?_,fun e=>by cases e⟩;cases e;rw[JQ];unfold fO;rw[e1];simp only[R.ofO_some,R.ok_bind,e2 hp]
  | false=>
   obtain⟨ρ2,e4,i2⟩:=e3 hp;obtain⟨k1,k2⟩:=iu P F I hs xs ρ2 i2;rw[M4 (by rw[hp];exact JU)]
   have e5:fO h g ((x::xs).map enc) ρ=fO h g (xs.map enc) ρ2:=by
    rw[JQ]
    conv=>lhs;unfold fO
    rw[e1];simp only[R.ofO_some,R.ok_bind,e4]
   rw[e5];exact⟨k1,k2⟩
@[simp] theorem FI{n:Nat}{t:PSt->R Bool}{g:PSt->R Fl}{ρ:PSt}:whS n t g ρ=whF t g n ρ:=by unfold whS;exact KW _
end PU
namespace WO
open PySem L2 PU MT
def sg(c:Nat):PV:=.str ⟨#[c]⟩
theorem xa(l:List Nat):fQ (mkS l)=l.map sg:=by unfold fQ sg;rw[fX]
theorem it_mk(l:List Nat):gz (.str (mkS l))=some (l.map sg):=by rw[← xa];unfold gz;exact KW _
theorem in_one(c:Nat)(l:List Nat):gIn (sg c) (.str (mkS l))=some (.bl (decide (c∈l))):=by
 show some (PV.bl (inS ⟨#[c]⟩ (mkS l)))=_;have e:=PySem.StrLaws.found_one (mkS l) c;rw[fX] at e;unfold inS;rw[e]
noncomputable def keyPv(o:Option Nat):PV:=match o with
 | some k=>sg k
 | none=>.non
noncomputable def codePv(o:Option (List Nat)):PV:=match o with
 | some c=>.str (mkS c)
 | none=>.non
abbrev Lts:=List (Nat×List Nat)
noncomputable def ltPv(ls:Lts):PV:=.lst (ls.map fun l=>.tup [sg l.1,.str (mkS l.2)])
noncomputable def keyL(ls:Lts)(c:Nat):Option Nat:=(ls.find? fun l=>decide (c∈l.2)).map (·.1)
def codeL(ls:Lts)(x:List Nat):Option (List Nat):=if x.all (fun c=>(keyL ls c).isSome)=true then some (x.map fun c=>(keyL ls c).getD 0) else none
theorem uV:∀l:List Nat,OS "" (l.map fun c=>(⟨#[c]⟩:Str))=mkS l
 | []=>by rw[← fE];rfl
 | [a]=>rfl
 | a::b::r=>by
  have ih:=uV (b::r);have e:OS "" (((a::b::r:List Nat)).map fun c=>(⟨#[c]⟩:Str))=(⟨#[a]⟩:Str)++""++OS "" ((b::r).map fun c=>(⟨#[c]⟩:Str)):=rfl;rw[e,ih,q0,fE,k9,k9];rfl
theorem joinV (l:List Nat) (h:l.length<=1000):vg (.str "") (.lst (l.map sg))=some (.str (mkS l)):=by
 have e:l.map sg=(l.map fun c=>(⟨#[c]⟩:Str)).map PV.str:=by rw[K4];rfl
 rw[e,Cv,uV];rw[K4];have:(List.map ((fun x=>x.length) ∘ fun c=>({ cps:=#[c] }:Str)) l)=l.map fun _=>1:=rfl;rw[this];have:("":Str).length=0:=by decide +kernel
 have h2:∀l:List Nat,(l.map fun _=>1).sum=l.length:=fun l=>by
  induction l with
  | nil=>rfl
  | cons a r ih=>simp only[JQ,List.sum_cons,ih,KU];omega
 rw[h2,this];omega
theorem l5(ls:Lts)(x:List Nat):(x.map fun c=>keyPv (keyL ls c)).all nV=true:=by
 rw[N2];intro p hp;obtain⟨c,_,rfl⟩:=JS.mp hp;cases keyL ls c <;> rfl
theorem none_in(ls:Lts)(x:List Nat):gIn .non (.lst (x.map fun c=>keyPv (keyL ls c)))=some (.bl (!x.all fun c=>(keyL ls c).isSome)):=by
 have e:gIn .non (.lst (x.map fun c=>keyPv (keyL ls c)))=if nV .non=true/\(x.map fun c=>keyPv (keyL ls c)).all nV=true then some (.bl (inV (scV .non) ((x.map fun c=>keyPv (keyL ls c)).map scV))) else none:=rfl
 rw[e,if_pos ⟨rfl,l5 ls x⟩]
 congr 2
 clear e
 induction x with
 | nil=>rfl
 | cons c r ih=>
  simp only[JQ,M9,Bool.not_and,inV,LK];rw[← ih];unfold inV;cases keyL ls c <;> simp[keyPv,sg,scV,eqV]
theorem in_list_comp{α:Type}{enc:α->PV}{h:Tgt}{fe:PSt->R PV}{ρ:PSt}(F:α->PV)(xs:List α)
  (hs:∀x∈xs,∃ρ1,h (enc x) ρ=some ρ1/\fe ρ1=.ok (F x)):de h qB fe ρ (xs.map enc)=.ok (xs.map F):=by
 have e:=jg (t:=qB) (fun _=>true) F xs fun x hx=>by
  obtain⟨ρ1,a,b⟩:=hs x hx;exact⟨ρ1,a,Cc,fun _=>b⟩
 rw[List.filter_eq_self.mpr (fun _ _=>rfl)] at e;exact e
end WO
section
namespace PU
open PySem
theorem vp{α β:Type}{f:α->List β}{b:Nat}:∀{l:List α},(∀x∈l,(f x).length<=b)->(l.flatMap f).length<=l.length * b
 | [],_=>by simp
 | a::l,h=>by
  have:=vp (l:=l) fun x hx=>h x (KI _ hx);have h1:=h a (KJ ..);simp only[Np,KF,KU,Nat.succ_mul];omega
end PU
namespace FA
open PySem L2 PU MT
@[simp] theorem xi:(JK "menu"=JK "names")=False:=by decide +kernel
@[simp] theorem xj:(JK "menu"=JK "hours")=False:=by decide +kernel
@[simp] theorem zc:(JK "menu"=JK "hand")=False:=by decide +kernel
@[simp] theorem AD:(JK "menu"=JK "end")=False:=by decide +kernel
@[simp] theorem xg:(JK "names"=JK "menu")=False:=by decide +kernel
@[simp] theorem wj:(JK "names"=JK "hours")=False:=by decide +kernel
@[simp] theorem xh:(JK "names"=JK "hand")=False:=by decide +kernel
@[simp] theorem zb:(JK "names"=JK "end")=False:=by decide +kernel
@[simp] theorem xk:(JK "hours"=JK "menu")=False:=by decide +kernel
@[simp] theorem wk:(JK "hours"=JK "names")=False:=by decide +kernel
@[simp] theorem zd:(JK "hand"=JK "menu")=False:=by decide +kernel
@[simp] theorem xl:(JK "hand"=JK "names")=False:=by decide +kernel
@[simp] theorem xm:(JK "hand"=JK "hours")=False:=by decide +kernel
@[simp] theorem AE:(JK "hand"=JK "end")=False:=by decide +kernel
@[simp] theorem AF:(JK "end"=JK "menu")=False:=by decide +kernel
@[simp] theorem ze:(JK "end"=JK "names")=False:=by decide +kernel
@[simp] theorem zf:(JK "end"=JK "hours")=False:=by decide +kernel
@[simp] theorem AG:(JK "end"=JK "hand")=False:=by decide +kernel
@[simp] theorem sX:(JK "first"=JK "letters")=False:=by decide +kernel
@[simp] theorem wm:(JK "first"=JK "rooms")=False:=by decide +kernel
@[simp] theorem sW:(JK "letters"=JK "rooms")=False:=by decide +kernel
noncomputable def holds(hour:Int)(s:Int×Int×Str):Bool:=decide (s.1<=hour) && decide (hour<s.2.1)
def handOf(spans:List (Int×Int×Str))(last:Str)(hour:Int):Str:=match spans.find? (holds hour) with
 | some s=>s.2.2
 | none=>last
abbrev Rooms:=List (Str×Room)
noncomputable def lookR(rs:Rooms)(n:Str):Option Room:=(rs.find? fun r=>decide (r.1=n)).map (·.2)
def names(rs:Rooms):List Str:=rs.map (·.1)
theorem lP(n:Str):∀rs:Rooms,bT (rs.map fun r=>.inr r.1) (rs.map fun r=>r.2.pv) (.inr n)=(lookR rs n).map Room.pv
 | []=>rfl
 | r::rs=>by
  have ih:=lP n rs;unfold lookR at ih ⊢
  by_cases h:r.1=n
  ·simp[h]
  ·simp only[JQ,lE]
   rw[if_neg (by simpa using h),M4 (by simpa using h)];exact ih
theorem ix_rooms(rs:Rooms)(n:Str):gIx (au rs) (.str n)=(lookR rs n).map Room.pv:=lP n rs
theorem look_some(rs:Rooms)(n:Str)(h:n∈names rs):∃r,lookR rs n=some r:=by
 unfold lookR;cases e:rs.find? fun r=>decide (r.1=n) with
 | some r=>exact⟨_,rfl⟩
 | none=>
  obtain⟨r,hr,e2⟩:=JS.mp h;exact absurd (Mk.mp e r hr) (by simpa using e2)
theorem keys_rooms(rs:Rooms):gz (au rs)=some ((names rs).map .str):=by
 have e:gz (au rs)=some ((rs.map fun r=>(LW r.1:Key)).map wx):=rfl;rw[e,K4];unfold names;rw[K4];rfl
end FA
end
namespace FA
open PySem L2 PU MT
theorem cut_from{α:Type}(xs:List α)(i:Nat)(h:i<xs.length):pL xs (some ((i:Int)+1)) none=xs.drop (i+1):=by
 unfold pL HT.sIx;simp;have e1:¬ ((i:Int)+1<0):=by omega
 have e2:((i:Int)+1).toNat=i+1:=by omega
 try simp[e1,e2]
 try rw[Nat.min_eq_left (by omega)]
 try exact OD (by simp)
end FA
namespace MT
open PySem L2 PU
mutual
noncomputable def flat:PV->Bool
 | .tup ps=>vo ps
 | .lst ps=>vo ps
 | .dct _ _=>false
 | .dtt _ _=>false
 | .fn _ _=>false
 | _=>true
noncomputable def vo:List PV->Bool
 | []=>true
 | p::ps=>flat p && vo ps
end
mutual
theorem xw:∀(p:PV),flat p=true->bS p p=some true
 | .non,_=>by simp[bS]
 | .bl _,_=>by simp[bS]
 | .int _,_=>by simp[bS]
 | .str _,_=>by simp[bS]
 | .tup ps,h=>by
  simp only[bS];exact k7 ps (by simpa [flat] using h)
 | .lst ps,h=>by
  simp only[bS];exact k7 ps (by simpa [flat] using h)
 | .dct _ _,h=>by simp[flat] at h
 | .dtt _ _,h=>by simp[flat] at h
 | .fn _ _,h=>by simp[flat] at h
theorem k7:∀(ps:List PV),vo ps=true->cX ps ps=some true
 | [],_=>by simp[cX]
 | p::ps,h=>by
  simp only[vo,Ks] at h;simp only[cX,xw p h.1,k7 ps h.2,P0,Bool.and_self]
end
noncomputable def D7(rs:List (Str×Room))(k:Str)(r:Room):List (Str×Room):=if k∈rs.map (·.1) then rs.map (fun x=>if x.1=k then (x.1,r) else x) else rs++[(k,r)]
theorem u7(rs:List (Str×Room))(k:Str)(r:Room):gD (rs.map fun r=>.inr r.1) (rs.map fun r=>r.2.pv) (.inr k) r.pv=au (D7 rs k r):=by
 unfold gD D7
 by_cases h:k∈rs.map (·.1)
 ·rw[if_pos h,if_pos (by
   obtain⟨x,hx,e⟩:=JS.mp h;rw[LG];exact⟨.inr x.1,JS.mpr ⟨x,hx,rfl⟩,by simp[e]⟩)]
  have e1:(rs.map fun x=>if x.1=k then (x.1,r) else x).map (fun r=>(LW r.1:Key))=rs.map fun r=>.inr r.1:=by
   rw[K4];apply NO;intro x _;simp only[MW]
   split <;> rfl
  have e2:jm (rs.map fun r=>.inr r.1) (rs.map fun r=>r.2.pv) (.inr k) r.pv=(rs.map fun x=>if x.1=k then (x.1,r) else x).map fun r=>r.2.pv:=by
   unfold jm;clear h e1
   induction rs with
   | nil=>rfl
   | cons x rs ih=>
    simp only[JQ,Lf,ih,OO]
    congr 1
    split <;> rfl
  unfold au;rw[e1,e2]
 ·rw[if_neg h,if_neg (by
   rw[LG];rintro⟨j,hj,e⟩;obtain⟨x,hx,rfl⟩:=JS.mp hj;exact h (JS.mpr ⟨x,hx,by simpa using e⟩))]
  unfold au;simp
end MT
namespace NM
open PySem L2 PU MT
noncomputable def c24:List Nat:=[97,99,100,101,102,103,104,105,106,108,109,110,111,112,113,114,115,116,117,118,119,120,121,122]
def Dy(n:Int):Nat:=(1+n % 8).toNat
def J4(n:Int):Int:=n / 8 % (1+n % 8)
def Dz(n:Int)(t k:Nat):Nat:=c24.getD ((n / ((k:Int)+2)+(t:Int) * (if (k:Int)=J4 n then 1 else 0)) % 24).toNat 0
def B1(n:Int)(t i:Nat):List Nat:=(KQ i).map (Dz n t)
noncomputable def nm(n:Int)(t:Nat):Str:=mkS (B1 n t (Dy n))
theorem Ig(ss:List Str)(i:Nat)(hi:i<ss.length):atI (ss.map PV.str) (i:Int)=some (.str ss[i]):=gH rfl (by
 rw[K2,KO hi];rfl)
def comeGo(rs:FA.Rooms)(hour:Int):Nat->Str->Option Str
 | 0,_=>none
 | n+1,x=>match FA.lookR rs x with
  | some (.hours sp l)=>comeGo rs hour n (FA.handOf sp l hour)
  | some _=>some x
  | none=>none
theorem ki(rs:FA.Rooms)(n:Str)(r:Room)(h:FA.lookR rs n=some r):(n,r)∈rs:=by
 unfold FA.lookR at h;cases e:rs.find? fun r=>decide (r.1=n) with
 | none=>rw[e] at h;cases h
 | some q=>
  rw[e] at h;cases h;have h1:=NH e;have h1:q.1=n:=by simpa using h1
  subst h1;exact Kg e
end NM
section
namespace PU
open PySem L2
def G8(p:PV)(lh:Option Int×Option Int):R PV:=R.ofO (yb p lh.1 lh.2)
@[simp] theorem J9(p:PV)(a b:Option Int):G8 p (a,b)=R.ofO (yb p a b):=by unfold G8;exact KW _
@[simp] theorem Fd{f:PSt->R PV}{l h:PSt->R (Option Int)}{ρ:PSt}:j7 f l h ρ=o5 G8 (f ρ) (o5 oC (l ρ) (h ρ)):=by unfold j7;cases f ρ <;> cases l ρ <;> cases h ρ <;> rfl
theorem Af{x:Str}(lo hi:Option Int)(h:x.length<=16777216):yb (.str x) lo hi=some (.str (LJ x lo hi)):=if_pos h
@[simp] theorem Cq(ps:List PV)(lo hi:Option Int):yb (.lst ps) lo hi=some (.lst (pL ps lo hi)):=rfl
end PU
namespace NM
open PySem L2 PU MT
theorem nR(ls:List Int)(k:Nat)(hk:k<ls.length):atI (ls.map PV.int) (k:Int)=some (.int ls[k]):=gH rfl (by rw[K2,KO hk];rfl)
theorem cut_1{α:Type}(xs:List α)(h:0<xs.length):pL xs (some 1) none=xs.drop 1:=FA.cut_from xs 0 h
end NM
end
section
namespace PU
open PySem L2 MT
def FH:PV->PV->R (List PV)
 | .lst ps,.lst qs=>if (ps.all gV || qs.all gV)=true then .ok ((wF ps qs).map .tup) else .no
 | _,_=>.no
@[simp] theorem DR(ps qs:List PV)(h:(ps.all gV || qs.all gV)=true):FH (.lst ps) (.lst qs)=.ok ((wF ps qs).map .tup):=by unfold FH;exact if_pos h
@[simp] theorem p8{α:Type}(f:α->Str)(l:List α):(l.map fun x=>PV.str (f x)).all gV=true:=by induction l <;> simp_all [gV]
@[simp] theorem Hh{f g:PSt->R PV}{ρ:PSt}:F9 f g ρ=o5 FH (f ρ) (g ρ):=by
 unfold F9;cases f ρ with
 | ok p=>
  cases g ρ with
  | ok q=>rw[R.ok_bind,R.ok_bind,uT];cases p <;> cases q <;> rfl
  | er x=>rfl
  | no=>rfl
 | er x=>rfl
 | no=>rfl
def FC(fe fd:PSt->R PV)(g:PV->PV->PV->Option PV)(ρ:PSt)(p:PV):R PV:=if Bl p=true then o5 (fun q y=>R.ofO (g p q y)) (fe ρ) (fd ρ) else .no
@[simp] theorem HW(fe fd:PSt->R PV)(g:PV->PV->PV->Option PV)(ρ:PSt)(ks:List Key)(ps:List PV):FC fe fd g ρ (.dct ks ps)=o5 (fun q y=>R.ofO (g (.dct ks ps) q y)) (fe ρ) (fd ρ):=by unfold FC;exact if_pos rfl
@[simp] theorem Fg{fo fe fd:PSt->R PV}{g:PV->PV->PV->Option PV}{ρ:PSt}:qY fo fe fd g ρ=jj (FC fe fd g ρ) (fo ρ):=by
 unfold qY;cases fo ρ with
 | ok p=>
  rw[R.ok_bind,lq];unfold FC
  split
  ·cases fe ρ with
   | ok q=>cases fd ρ <;> rfl
   | er x=>rfl
   | no=>rfl
  ·rfl
 | er x=>rfl
 | no=>rfl
theorem mi(l:List Nat)(n:Nat):LJ (mkS l) none (some (n:Int))=mkS (l.take n):=by
 have main:∀m:Nat,m<=l.length->LJ (mkS l) none (some (m:Int))=mkS (l.take m):=fun m hm=>by
  have e:=PySem.StrLaws.sliceText_to (x:=mkS l) (j:=m) ⟨by omega,by rw[fX];omega⟩;have e2:LJ (mkS l) none (some (m:Int))=PySem.StrLaws.sliceText (mkS l) none (some (m:Int)):=rfl;rw[e2,e,fX];have:((m:Int)-0).toNat=m:=by omega
  rw[this];rfl
 by_cases h:n<=l.length
 ·exact main n h
 ·have e:LJ (mkS l) none (some (n:Int))=LJ (mkS l) none (some (l.length:Int)):=by
   have e1:My none (some (n:Int)) 1 (mkS l).length=My none (some (l.length:Int)) 1 (mkS l).length:=by
    rw[eQ];unfold My;have a:¬ ((n:Int)<0):=by omega
    have b:¬ ((l.length:Int)<0):=by omega
    have c:max (0:Int) (min (n:Int) (l.length:Int))=max 0 (min (l.length:Int) (l.length:Int)):=by omega
    simp only[a,b,if_false,c,show (1:Int) > 0 from by decide,if_true]
   unfold LJ;rw[e1]
  rw[e,main l.length (K8 _),List.take_length,OD (by omega)]
end PU
namespace BG
open PySem L2 PU MT
abbrev W:=List Nat
def pre(p c:W):Bool:=p.isPrefixOf c
theorem iO{p c:W}:pre p c=true ↔ p <+: c:=List.isPrefixOf_iff_prefix
def many(cs:List W)(p:W):Nat:=(cs.filter (pre p)).length
noncomputable def own(cs:List W)(c:W):W:=match (KQ (c.length-1)).find? (fun i=>decide (many cs (c.take (i+1))=1)) with
 | some i=>c.take (i+1)
 | none=>c
def Code(c:W):Prop:=∃x:W,c=x++[35]/\35 ∉ x
theorem yx{c d:W}(hc:Code c)(hd:Code d)(h:c <+: d):c=d:=by
 obtain⟨x,rfl,hx⟩:=hc;obtain⟨y,rfl,hy⟩:=hd;obtain⟨t,e⟩:=h;cases ht:t.reverse with
 | nil=>
  have:t=[]:=by simpa using ht
  rw[this,Kq] at e;exact e
 | cons a r=>
  exfalso
  have e1:t=r.reverse++[a]:=by
   have:=congrArg List.reverse ht;simpa using this
  rw[e1,← LP] at e;have e2:=List.append_inj' e rfl;exact hy (by rw[← e2.1];simp)
theorem mM(cs:List W)(c:W):own cs c <+: c:=by
 unfold own
 split
 ·exact MS _ _
 ·exact O0 _
theorem zi(cs:List W)(c:W)(h:c≠[]):own cs c≠[]:=by
 unfold own
 split
 ·intro e
  cases c with
  | nil=>exact h rfl
  | cons a r=>simp at e
 ·exact h
theorem uo{cs:List W}(hcs:∀c∈cs,Code c){c d:W}(hc:c∈cs)(hd:d∈cs)(h:own cs c <+: d):c=d:=by
 unfold own at h;split at h
 ·rename_i i e
  have h1:many cs (c.take (i+1))=1:=by simpa using NH e
  unfold many at h1;have m1:c∈cs.filter (pre (c.take (i+1))):=LQ.mpr ⟨hc,iO.mpr (MS _ _)⟩;have m2:d∈cs.filter (pre (c.take (i+1))):=LQ.mpr ⟨hd,iO.mpr h⟩;generalize cs.filter (pre (c.take (i+1)))=l at h1 m1 m2
  match l,h1,m1,m2 with
  | [a],_,m1,m2=>rw[JX.mp m1,JX.mp m2]
 ·exact yx (hcs c hc) (hcs d hd) h
theorem AK{p q r:W}(hp:p <+: r)(hq:q <+: r):p <+: q\/q <+: p:=by
 rcases Nat.le_total p.length q.length with h | h
 ·exact .inl (P9 hp hq h)
 ·exact .inr (P9 hq hp h)
theorem uq{cs:List W}(hcs:∀c∈cs,Code c){c d r:W}(hc:c∈cs)(hd:d∈cs)(h1:own cs c <+: r)(h2:own cs d <+: r):c=d:=by
 rcases AK h1 h2 with h | h
 ·exact uo hcs hc hd (Ny h (mM cs d))
 ·exact(uo hcs hd hc (Ny h (mM cs c))).symm
def sY(c:W):List W:=(KQ c.length).map fun i=>c.take (i+1)
theorem vM{l:List W}{p:W}(nd:l.Nodup)(h:p∈l):l.count p=1:=by
 induction l with
 | nil=>cases h
 | cons a r ih=>
  rw[Kf] at nd
  by_cases e:a=p
  ·subst e
   rw[List.count_cons_self,Om.mpr nd.1]
  ·rw[List.count_cons_of_ne e]
   exact ih nd.2 ((K9.mp h).resolve_left fun z=>e z.symm)
theorem sO(c p:W):(sY c).count p=if p≠[]/\p <+: c then 1 else 0:=by
 have nd:(sY c).Nodup:=by
  unfold sY Qx;rw[P1];refine NF (R:=fun a b=>a<b) (fun {a b} ha hb hab e=>?_) OE;rw[LD] at ha hb;have:=congrArg Lj e;rw[Lx,Lx] at this;omega
 by_cases h:p≠[]/\p <+: c
 ·rw[if_pos h]
  refine vM nd ?_;unfold sY;refine JS.mpr ⟨p.length-1,LD.mpr ?_,?_⟩
  ·have:=h.2.length_le
   have:p.length≠0:=fun e=>h.1 (O2.mp e);omega
  ·have:p.length≠0:=fun e=>h.1 (O2.mp e)
   rw[show p.length-1+1=p.length by omega];exact(Mo.mp h.2).symm
 ·rw[if_neg h]
  refine Om.mpr fun hm=>h ?_;unfold sY at hm;obtain⟨i,hi,rfl⟩:=JS.mp hm;rw[LD] at hi;refine⟨fun e=>?_,MS _ _⟩;have:=congrArg Lj e;rw[Lx,Lb] at this;omega
theorem vN(cs:List W)(p:W)(hp:p≠[]):(cs.flatMap sY).count p=many cs p:=by
 induction cs with
 | nil=>rfl
 | cons c r ih=>
  rw[Np,RE,ih,sO];unfold many
  by_cases h:p <+: c
  ·rw[if_pos ⟨hp,h⟩,O3 (iO.mpr h),KU]
   omega
  ·rw[if_neg fun z=>h z.2,O4 fun z=>h (iO.mp z)]
   omega
structure Cnt(L:List W)(ks:List Key)(ps:List PV):Prop where
 len:ks.length=ps.length
 le:ks.length<=L.length
 at_:∀p:W,bT ks ps (.inr (mkS p))=if L.count p=0 then none else some (.int (L.count p))
theorem mkS_inj{a b:W}(h:mkS a=mkS b):a=b:=by
 have:=congrArg (fun s:Str=>s.cps.toList) h;simpa using this
theorem look_put(ks:List Key)(ps:List PV)(k:Key)(v:PV)(hl:ks.length=ps.length):∃ks' ps',gD ks ps k v=.dct ks' ps'/\ks'.length=ps'.length/\ks'.length<=ks.length+1/\∀j,bT ks' ps' j=if k=j then some v else bT ks ps j:=by
 unfold gD
 by_cases hk:(ks.any fun j=>decide (j=k))=true
 ·rw[if_pos hk]
  refine⟨ks,jm ks ps k v,rfl,by simp[jm,hl],by omega,fun j=>?_⟩
  induction ks generalizing ps with
  | nil=>simp at hk
  | cons a ks ih=>
   cases ps with
   | nil=>simp at hl
   | cons b ps=>
    have hl':ks.length=ps.length:=by simpa using hl
    have e:jm (a::ks) (b::ps) k v=(if a=k then v else b)::jm ks ps k v:=rfl;rw[e];simp only[lE]
    by_cases haj:a=j
    ·rw[if_pos haj,if_pos haj]
     by_cases hkj:k=j
     ·rw[if_pos (haj.trans hkj.symm),if_pos hkj]
     ·rw[if_neg fun z=>hkj (z.symm.trans haj),if_neg hkj]
    ·rw[if_neg haj,if_neg haj]
     by_cases hk2:(ks.any fun j=>decide (j=k))=true
     ·exact ih ps hl' hk2
     ·have hak:a=k:=by
       rw[LK] at hk;simp only[Pe,decide_eq_true_eq] at hk;exact hk.resolve_right hk2
      have hkj:¬ k=j:=fun z=>haj (hak.trans z);rw[if_neg hkj]
      have:jm ks ps k v=ps:=by
       clear ih hk e hl
       induction ks generalizing ps with
       | nil=>cases ps with
        | nil=>rfl
        | cons=>simp at hl'
       | cons c ks ih=>
        cases ps with
        | nil=>simp at hl'
        | cons d ps=>
         have e:jm (c::ks) (d::ps) k v=(if c=k then v else d)::jm ks ps k v:=rfl;rw[LK] at hk2;simp only[Pe,decide_eq_true_eq,not_or] at hk2;rw[e,if_neg hk2.1,ih ps (by simpa using hl') hk2.2]
      rw[this]
 ·rw[if_neg hk]
  refine⟨ks++[k],ps++[v],rfl,by simp[hl],by simp,fun j=>?_⟩
  induction ks generalizing ps with
  | nil=>
   cases ps with
   | nil=>simp[bT]
   | cons=>simp at hl
  | cons a ks ih=>
   cases ps with
   | nil=>simp at hl
   | cons b ps=>
    rw[LK] at hk;simp only[Pe,decide_eq_true_eq,not_or] at hk;simp only[Lz,lE]
    by_cases haj:a=j
    ·rw[if_pos haj,if_pos haj,if_neg fun z=>hk.1 (haj.trans z.symm)]
    ·rw[if_neg haj,if_neg haj]
     exact ih ps (by simpa using hl) hk.2
theorem BM{L:List W}{ks:List Key}{ps:List PV}(c:Cnt L ks ps)(p:W):∃ks' ps',gD ks ps (.inr (mkS p)) (.int ((L.count p:Int)+1))=.dct ks' ps'/\Cnt (L++[p]) ks' ps':=by
 obtain⟨ks',ps',e,h1,h2,h3⟩:=look_put ks ps (.inr (mkS p)) (.int ((L.count p:Int)+1)) c.len;refine⟨ks',ps',e,h1,by rw[KF,MA];have:=c.le;omega,fun q=>?_⟩;rw[h3,RE]
 by_cases hq:p=q
 ·subst hq
  rw[if_pos rfl,List.count_singleton_self,if_neg (by omega)]
  congr 2
 ·rw[if_neg fun z=>hq (mkS_inj (Lw z)),c.at_ q]
  have:List.count q [p]=0:=Om.mpr (by simp;exact fun z=>hq z.symm);rw[this,Nat.add_zero]
theorem BN{L:List W}{ks:List Key}{ps:List PV}(c:Cnt L ks ps)(p:W):sI (.dct ks ps) (.str (mkS p)) (.int 0)=some (.int (L.count p)):=by
 show some ((bT ks ps (.inr (mkS p))).getD (.int 0))=_;rw[c.at_ p]
 split
 ·rename_i h
  rw[h];rfl
 ·rfl
end BG
end
namespace NW
open PySem L2 PU MT BG
noncomputable def jl(p:W)(o:Option PV)(x:W×Str):Option PV:=if x.1=p then some (.str x.2) else if p≠[]/\p <+: x.1 then some .non else o
def zZ(bs:List (W×Str))(p:W):Option PV:=bs.foldl (jl p) none
def wz(p:W)(x:W×Str):Bool:=decide (p≠[]) && pre p x.1
theorem gu{p:W}{x:W×Str}:wz p x=true ↔ p≠[]/\p <+: x.1:=by simp[wz,iO]
theorem gY(p:W)(hp:p≠[]):∀(bs:List (W×Str))(o:Option PV),bs.foldl (jl p) o=match (bs.filter (wz p)).getLast? with
  | none=>o
  | some x=>if x.1=p then some (.str x.2) else some .non
 | [],o=>rfl
 | x::bs,o=>by
  rw[Lc,gY p hp bs]
  by_cases h:wz p x=true
  ·rw[O3 h]
   have h':=(gu.mp h)
   have e:jl p o x=if x.1=p then some (.str x.2) else some .non:=by
    unfold jl;rw[if_pos h']
   cases hl:bs.filter (wz p) with
   | nil=>simp only[List.getLast?_nil,QD];exact e
   | cons a r=>
    rw[List.getLast?_cons_cons];cases hg:(a::r).getLast? with
    | none=>simp at hg
    | some y=>rfl
  ·rw[O4 h]
   have h':¬ (p≠[]/\p <+: x.1):=fun z=>h (gu.mpr z)
   have e:jl p o x=o:=by
    unfold jl;rw[if_neg h',if_neg fun e=>h' ⟨hp,by rw[e];exact O0 _⟩]
   rw[e]
section
variable{bs : List (W×Str)}(hne : ∀x ∈ bs, x.1 ≠ [])(hpf : ∀x ∈ bs, ∀y ∈ bs, x.1 <+: y.1 → x = y)
include hne hpf
theorem wJ{x:W×Str}(hx:x∈bs):zZ bs x.1=some (.str x.2):=by
 unfold zZ;rw[gY x.1 (hne x hx)];have m:x∈bs.filter (wz x.1):=LQ.mpr ⟨hx,gu.mpr ⟨hne x hx,O0 _⟩⟩;cases e:(bs.filter (wz x.1)).getLast? with
 | none=>rw[Q1.mp e] at m;cases m
 | some y=>
  have my:=LQ.mp (QZ e);have:=hpf x hx y my.1 (gu.mp my.2).2;subst this;simp
theorem wI{x:W×Str}(hx:x∈bs){p:W}(hp:p≠[])(h1:p <+: x.1)(h2:p≠x.1):zZ bs p=some .non:=by
 unfold zZ;rw[gY p hp];have m:x∈bs.filter (wz p):=LQ.mpr ⟨hx,gu.mpr ⟨hp,h1⟩⟩;cases e:(bs.filter (wz p)).getLast? with
 | none=>rw[Q1.mp e] at m;cases m
 | some y=>
  have my:=LQ.mp (QZ e)
  have h3:¬ y.1=p:=fun z=>by
   have:y=x:=hpf y my.1 x hx (by rw[z];exact h1);exact h2 (by rw[← z,this])
  simp only[if_neg h3]
omit hpf in
theorem t7{p:W}(h:∀x∈bs,p≠[]->¬ p <+: x.1):zZ bs p=none:=by
 unfold zZ
 by_cases hp:p=[]
 ·subst hp
  have:∀(l:List (W×Str)),(∀x∈l,x.1≠[])->l.foldl (jl []) none=none:=by
   intro l
   induction l with
   | nil=>intro _;rfl
   | cons x l ih=>
    intro hl;rw[Lc]
    have e:jl [] none x=none:=by
     unfold jl;rw[if_neg (hl x KJ),if_neg (by simp)]
    rw[e];exact ih fun y hy=>hl y (KI _ hy)
  exact this bs hne
 ·rw[gY p hp]
  have:bs.filter (wz p)=[]:=List.filter_eq_nil_iff.mpr fun x hx z=>h x hx hp (gu.mp z).2;rw[this];rfl
end
structure Tells(ks:List Key)(ps:List PV)(F:W->Option PV):Prop where
 len:ks.length=ps.length
 at_:∀p,bT ks ps (.inr (mkS p))=F p
 nf:∀x∈ps,noFn x=true
theorem fW:∀ps:List PV,aL ps=true ↔ ∀p∈ps,noFn p=true
 | []=>by simp[aL]
 | p::ps=>by
  have e:aL (p::ps)=(noFn p && aL ps):=by simp[aL]
  rw[e,Ks,fW ps];constructor
  ·rintro⟨h1,h2⟩ q hq
   rcases K9.mp hq with rfl | hq
   ·exact h1
   ·exact h2 q hq
  ·intro h
   exact⟨h p (by simp),fun q hq=>h q (by simp[hq])⟩
theorem t4{k:Key}{v x:PV}:∀(ks:List Key)(ps:List PV),x∈ks.zipWith (fun j q=>if j=k then v else q) ps->x∈ps\/x=v
 | [],_,h=>by simp at h
 | _::_,[],h=>by simp at h
 | j::ks,p::ps,h=>by
  rw[Lf] at h;rcases K9.mp h with h | h
  ·by_cases e:j=k
   ·rw[if_pos e] at h;exact .inr h
   ·rw[if_neg e] at h;exact .inl (by simp[h])
  ·rcases t4 ks ps h with h | h
   ·exact .inl (by simp[h])
   ·exact .inr h
theorem u4{ks ks':List Key}{ps ps':List PV}{k:Key}{v:PV}(e:gD ks ps k v=.dct ks' ps'){x:PV}(hx:x∈ps'):x∈ps\/x=v:=by
 unfold gD at e;split at e
 ·injection e with e1 e2
  subst e2;exact t4 ks ps hx
 ·injection e with e1 e2
  subst e2;simpa using hx
theorem Tells.put{ks:List Key}{ps:List PV}{F:W->Option PV}(h:Tells ks ps F)(p0:W)(v:PV)(hv:noFn v=true):∃ks' ps',gD ks ps (.inr (mkS p0)) v=.dct ks' ps'/\ks'.length<=ks.length+1/\Tells ks' ps' (fun p=>if p0=p then some v else F p):=by
 obtain⟨ks',ps',e,h1,h2,h3⟩:=look_put ks ps (.inr (mkS p0)) v h.len;refine⟨ks',ps',e,h2,h1,fun p=>?_,fun x hx=>(u4 e hx).elim (h.nf x) fun z=>z▸hv⟩;rw[h3,h.at_]
 by_cases hp:p0=p
 ·rw[if_pos hp,if_pos (by rw[hp])]
 ·rw[if_neg hp,if_neg fun z=>hp (mkS_inj (Lw z))]
theorem r8{k:Key}:∀(ks:List Key)(ps:List PV),ks.length=ps.length->(ks.any fun j=>decide (j=k))=(bT ks ps k).isSome
 | [],[],_=>rfl
 | [],_::_,h=>by simp at h
 | _::_,[],h=>by simp at h
 | j::ks,p::ps,h=>by
  rw[lE,LK]
  by_cases e:j=k
  ·simp[e]
  ·rw[if_neg e,r8 ks ps (by simpa using h)]
   simp[e]
theorem Tells.notIn{ks:List Key}{ps:List PV}{F:W->Option PV}(h:Tells ks ps F)(p:W):c5 (.str (mkS p)) (.dct ks ps)=some (.bl (!(F p).isSome)):=by
 have e:c5 (.str (mkS p)) (.dct ks ps)=some (.bl (!(ks.any fun j=>decide (j=.inr (mkS p))))):=rfl;rw[e,r8 ks ps h.len,h.at_]
theorem Tells.ix{ks:List Key}{ps:List PV}{F:W->Option PV}(h:Tells ks ps F)(p:W):gIx (.dct ks ps) (.str (mkS p))=F p:=h.at_ p
noncomputable def yP(wt:List (W×Str)):PV:=.tup (wt.map fun p=>.tup [.str (mkS p.1),.str p.2])
noncomputable def wtD(wt:List (W×Str)):PV:=.dct (wt.map fun p=>.inr (mkS p.1)) (wt.map fun p=>.str p.2)
theorem oA:∀wt:List (W×Str),eW (wt.map fun p=>PV.tup [.str (mkS p.1),.str p.2])=some (wt.map fun p=>(.inr (mkS p.1),.str p.2))
 | []=>rfl
 | p::wt=>by
  rw[JQ,JQ];unfold eW;rw[oA wt];rfl
theorem gO{ks:List Key}{ps:List PV}{k:Key}{v:PV}(h:k ∉ ks):gD ks ps k v=.dct (ks++[k]) (ps++[v]):=by
 unfold gD;rw[if_neg]
 ·simpa using h
theorem vn:∀(wt:List (W×Str))(ks:List Key)(ps:List PV),((wt.map (·.1)).Nodup)->(∀p∈wt,(.inr (mkS p.1):Key) ∉ ks)->(wt.map fun p=>((.inr (mkS p.1):Key),PV.str p.2)).foldl wb (.dct ks ps)=.dct (ks++wt.map fun p=>.inr (mkS p.1)) (ps++wt.map fun p=>.str p.2)
 | [],ks,ps,_,_=>by simp
 | p::wt,ks,ps,nd,hk=>by
  rw[JQ,Lc];have e:wb (.dct ks ps) (.inr (mkS p.1),.str p.2)=.dct (ks++[.inr (mkS p.1)]) (ps++[.str p.2]):=gO (hk p KJ);rw[e,vn wt _ _ (Kf.mp nd).2]
  ·simp
  ·intro q hq z
   rcases Kd.mp z with z | z
   ·exact hk q (KI _ hq) z
   ·have z:=Lw (JX.mp z)
    have z:=mkS_inj z;exact(Kf.mp nd).1 (JS.mpr ⟨q,hq,z⟩)
theorem vH(wt:List (W×Str))(hl:wt.length<=1000)(nd:(wt.map (·.1)).Nodup):oZ (yP wt)=some (wtD wt):=by
 have e:oZ (yP wt)=if (wt.map fun p=>PV.tup [.str (mkS p.1),.str p.2]).length<=1000 then (eW (wt.map fun p=>PV.tup [.str (mkS p.1),.str p.2])).map i7 else none:=rfl
 rw[e,if_pos (by simpa using hl),oA];show some (i7 _)=_;have m:∀l,i7 l=l.foldl wb (.dct [] []):=fun l=>rfl;rw[m,vn wt [] [] nd (by simp)];simp[wtD]
theorem B9(wt:List (W×Str)):vf (wtD wt)=some (.lst (wt.map fun p=>.str (mkS p.1))):=by
 show some (PV.lst ((wt.map fun p=>(.inr (mkS p.1):Key)).map wx))=_;rw[K4];rfl
theorem wX(wt:List (W×Str))(nd:(wt.map (·.1)).Nodup){p:W×Str}(hp:p∈wt):bT (wt.map fun p=>.inr (mkS p.1)) (wt.map fun p=>.str p.2) (.inr (mkS p.1))=some (.str p.2):=by
 induction wt with
 | nil=>cases hp
 | cons q wt ih=>
  rw[JQ,JQ,lE];rcases K9.mp hp with rfl | h
  ·rw[if_pos rfl]
  ·have nd':=Kf.mp nd
   rw[if_neg fun z=>nd'.1 (JS.mpr ⟨p,h,(mkS_inj (Lw z)).symm⟩)];exact ih nd'.2 h
theorem oW{α β:Type}(f:α->β):∀(l:List α),(l.map f).Nodup->∀x∈l,∀y∈l,f x=f y->x=y
 | [],_,x,hx,_,_,_=>by cases hx
 | a::l,nd,x,hx,y,hy,e=>by
  rw[JQ,Kf] at nd;rcases K9.mp hx with h1 | h1
  ·rcases K9.mp hy with h2 | h2
   ·rw[h1,h2]
   ·exact absurd (JS.mpr ⟨y,h2,by rw[← e,h1]⟩) nd.1
  ·rcases K9.mp hy with h2 | h2
   ·exact absurd (JS.mpr ⟨x,h1,by rw[e,h2]⟩) nd.1
   ·exact oW f l nd.2 x h1 y h2 e
end NW
namespace PU
open PySem L2
theorem mG{m n:Nat}{g:PSt->R Fl}{ps:List PV}{p:PV}(hl:ps.length=m)(h:g (PU.start n ps)=.ok (.ret p)):runN m n g ps=some p:=by
 unfold runN;rw[if_pos hl,h]
@[simp] theorem FK(p:PV)(ρ:PSt):z7 0 (.own p::ρ)=.ok (.ret p):=by unfold z7;exact KW _
@[simp] theorem FJ(i:Nat)(l:Sl)(ρ:PSt):z7 (i+1) (l::ρ)=z7 i ρ:=by unfold z7;rw[KB]
end PU
namespace K39
open PySem L2 PU
noncomputable section
abbrev dJ:Addr:=160
abbrev f7:Addr:=139
def gg:Stmt:=(aW (KC.main.body.getD 30 (.Pass ⟨0,0,0,0⟩))).getD 2 (.Pass ⟨0,0,0,0⟩)
def gf:Stmt:=(aW (KC.main.body.getD 30 (.Pass ⟨0,0,0,0⟩))).getD 3 (.Pass ⟨0,0,0,0⟩)
abbrev PTS:List Addr:=[dJ,f7]
abbrev tw (w:KH):TW:={ w:=w,tabs:=PTS,qual:=fun l _=>if l=(rL ⟨0,0,0,0⟩ gf).line then "compare.<locals>.is_apart" else if l=(rL ⟨0,0,0,0⟩ gg).line then "compare.<locals>.lead" else "places.<locals>.<lambda>" }
theorem lF{w:KH}:dJ∈@TW.tabs (tw w):=.head _
theorem o9{w:KH}:f7∈@TW.tabs (tw w):=.tail _ (.head _)
def c_CODE_END:PV:=(.str "#")
noncomputable def c_HEARD:PV:=(.dct [(.inr "menu"),(.inr "names"),(.inr "hand"),(.inr "end")] [(.str "asked"),(.str "asked"),(.str "hand"),(.str "end")])
def c_SIGNS:PV:=(.str "0123456789*#w")
def c_WAIT:PV:=(.str "w")
def dX:PSt->R Fl:=(aU (sS 2 (aq (getV 3) (kI 5040) e9)) (cn 3 (aq (getV 3) (kI 5040) Eg)))
def dW:PSt->R Fl:=(aU (cn 3 (aq (aq (aq (aq (getV 3) (getV 4) fK) (kI 1) fK) (kI 48271) ve) (kI 2147483647) e9)) (sS 2 (aq (aq (getV 3) (kI 69621) ve) (kI 2147483629) e9)))
def dE:PSt->R Fl:=(aU (pI 2 (l7 aI)) (aU (cn 3 (aq (getV 0) (kI 2) Eg)) (aU (ifF (dZ (aq (aq (getV 0) (kI 2) e9) (kI 1) gEq)) (aU (kJ (z6 (getV 1)) (aC 4) dX) (zI 2 (cG (getV 2)))) cO) (aU (cn 3 (aq (getV 3) (kI 2147483647) e9)) (aU (kJ (z6 (aq (getV 1) (kI 1) fK)) (aC 4) dW) (cG (jN (lX 2) (j3 (kI 1)) eX)))))))
def aY:List PV->Option PV:=ff 2 5 dE
def dI:PSt->R Fl:=(cn 7 (aq (getV 7) (aq (getV 1) (aq (aq (aq (getV 2) (getV 8) gIx) (aq (aq (kI 3) (getV 6) ve) (un1 (aq (getV 8) (getV 4) gEq) FF) ve) fK) (kI 20) e9) gIx) fK))
def dH:PSt->R Fl:=(aU (cn 7 (kS "")) (aU (kJ (z6 (getV 3)) (aC 8) dI) (sS 5 (getV 7))))
def gT:PSt->R Fl:=(aU (cn 1 (kS "bcdfghjlmnpqrstvwxyz")) (aU (cn 2 (aO (ab (getV 0) (ab (kI 10) aI)) aY)) (aU (cn 3 (aq (kI 1) (aq (aq (getV 2) (kI 8) gIx) (kI 8) e9) fK)) (aU (cn 4 (aq (aq (getV 2) (kI 9) gIx) (getV 3) e9)) (aU (pI 5 (l7 aI)) (aU (kJ (z6 (kI 5)) (aC 6) dH) (zI 5 (cG (getV 5)))))))))
def dU:List PV->Option PV:=ff 1 9 gT
def dF:PSt->R Fl:=(aU (ifF (dZ (aq (getV 1) (un1 (getV 0) rj) gLt)) (cG (aq (getV 0) (getV 1) gIx)) cO) (cG (kI 0)))
def aw:List PV->Option PV:=ff 2 2 dF
def cT:PSt->R Fl:=(ifF (dZ (aq (aq (aq (getV 4) (getV 7) gIx) (kI 3) e9) (kI 0) gEq)) (sS 6 (dB (ab (getV 8) (ab (aq (aq (getV 1) (l7 (ab (kS "back") aI)) fK) (aq (aq (getV 4) (aq (getV 7) (kI 12) fK) gIx) (kI 6) e9) gIx) aI)))) cO)
def cj:PSt->R Fl:=(aU (cn 15 (getV 7)) (aU (ifF (dZ (getV 3)) (cn 15 (aq (kI 4) (getV 7) Ef)) cO) (so 14 (aq (getV 1) (getV 15) gIx) (aq (getV 13) (getV 15) gIx))))
def gU:PSt->R Fl:=(aU (cn 4 (aO (ab (aO (ab (getV 0) (ab (kI 1) aI)) aw) (ab (kI 30) aI)) aY)) (aU (cn 5 (aO (ab (aO (ab (getV 0) (ab (kI 2) aI)) aw) (ab (kI 16) aI)) aY)) (aU (pI 6 (l7 aI)) (aU (kJ (yi (kS "0123456789*#")) (jq 2 (bt (aC 7) (bt (aC 8) jv))) cT) (aU (cn 9 (dB (ab (aq (kI 1) (aq (aq (getV 4) (kI 24) gIx) (kI 2) e9) fK) (ab (aq (getV 1) (aq (aq (getV 4) (kI 25) gIx) (kI 5) e9) gIx) aI)))) (aU (cn 10 (dB (ab (kS "menu") (ab (kS "Hello") (ab (un1 (lX 6) ri) (ab (getV 9) (ab (dB (ab (aq (kI 1) (aq (aq (getV 4) (kI 26) gIx) (kI 2) e9) fK) (ab (aq (getV 1) (aq (aq (getV 4) (kI 27) gIx) (kI 5) e9) gIx) aI))) aI))))))) (aU (cn 11 (qH (dB (ab (dB (ab (kS "bo") (ab (aq (getV 1) (aq (aq (getV 5) (kI 0) gIx) (kI 5) e9) gIx) aI))) (ab (dB (ab (kS "lee") (ab (aq (getV 1) (aq (aq (getV 5) (kI 1) gIx) (kI 5) e9) gIx) aI))) aI))) eX (j3 (aq (kI 1) (aq (aq (getV 5) (kI 2) gIx) (kI 2) e9) fK)))) (aU (cn 9 (dB (ab (kI 1) (ab (aq (getV 1) (aq (aq (getV 5) (kI 4) gIx) (kI 5) e9) gIx) aI)))) (aU (cn 12 (dB (ab (aq (aq (getV 5) (kI 5) gIx) (kI 24) e9) (ab (kI 24) (ab (aq (getV 1) (aq (l7 (ab (kI 0) (ab (kI 1) (ab (kI 3) aI)))) (aq (aq (getV 5) (kI 6) gIx) (kI 3) e9) gIx) gIx) aI))))) (aU (cn 13 (l7 (ab (getV 10) (ab (dB (ab (kS "names") (ab (kS "Spell") (ab (getV 11) (ab (getV 9) (ab (dB (ab (kI 1) (ab (aq (getV 1) (aq (aq (getV 5) (kI 8) gIx) (kI 5) e9) gIx) aI))) aI)))))) aI)))) (aU (cn 13 (aq (getV 13) (l7 (ab (dB (ab (kS "hours") (ab (dB (ab (getV 12) aI)) (ab (aq (getV 1) (aq (l7 (ab (kI 0) (ab (kI 1) (ab (kI 4) aI)))) (aq (aq (getV 5) (kI 9) gIx) (kI 3) e9) gIx) gIx) aI)))) (ab (dB (ab (kS "hand") (ab (aq (getV 2) (kI 0) gIx) aI))) (ab (dB (ab (kS "end") (ab (aq (getV 2) (kI 1) gIx) aI))) aI)))) fK)) (aU (pI 14 newD) (aU (kJ (z6 (kI 5)) (aC 7) cj) (aU (cn 16 (l7 (ab (dB (ab (kS "3") (ab (kS "def") aI))) (ab (dB (ab (kS "4") (ab (kS "abc") aI))) (ab (dB (ab (kS "5") (ab (kS "jkl") aI))) (ab (dB (ab (kS "6") (ab (kS "mno") aI))) aI)))))) (cG (xI (.inr "rooms") 14 (pq (kS "first") (aq (getV 1) (aq (aq (getV 5) (kI 10) gIx) (kI 5) e9) gIx) (pq (kS "letters") (getV 16) DA))))))))))))))))))
def bI:List PV->Option PV:=runN 4 17 gU
def f6:PSt->R Fl:=(ifF (dZ (rN (getV 2) (getV 1) (getV 3) gLe gLt)) (cG (getV 4)) cO)
def jz:PSt->R Fl:=(aU (kJ (itF (aq (getV 0) (kI 1) gIx)) (jq 3 (bt (aC 2) (bt (aC 3) (bt (aC 4) jv)))) f6) (cG (aq (getV 0) (kI 2) gIx)))
def jC:List PV->Option PV:=ff 2 5 jz
def fG:PSt->R Fl:=(cn 3 (aO (ab (aq (aq (getV 0) (kS "rooms") gIx) (getV 3) gIx) (ab (getV 1) aI)) jC))
def kA:PSt->R Fl:=(aU (cn 3 (getV 2)) (aU (whS 300 (dZ (aq (aq (aq (aq (getV 0) (kS "rooms") gIx) (getV 3) gIx) (kI 0) gIx) (kS "hours") gEq)) fG) (cG (getV 3))))
def iz:List PV->Option PV:=ff 3 4 kA
def kD:PSt->R Fl:=(cG (dB (ab (aO (ab (getV 0) (ab (getV 1) (ab (getV 2) aI))) iz) (ab (getV 3) (ab (kI 0) (ab (kI 0) (ab (kS "") aI)))))))
def bU:List PV->Option PV:=ff 4 4 kD
def qo:PSt->R Fl:=(cG (aO (ab (getV 0) (ab (getV 1) (ab (aq (getV 0) (kS "first") gIx) (ab (kS "") aI)))) bU))
def c6:List PV->Option PV:=ff 2 2 qo
def dj:PSt->R Fl:=(aU (cn 3 (aq (aq (aq (getV 0) (kS "rooms") gIx) (aq (getV 2) (kI 0) gIx) gIx) (kI 3) gIx)) (aU (cn 4 (aq (aq (getV 2) (kI 2) gIx) (kI 1) fK)) (aU (ifF (dZ (aq (getV 4) (aq (getV 3) (kI 0) gIx) gEq)) (cG (aO (ab (getV 0) (ab (getV 1) (ab (aq (getV 3) (kI 1) gIx) (ab (aq (getV 2) (kI 0) gIx) aI)))) bU)) cO) (cG (dB (ab (aq (getV 2) (kI 0) gIx) (ab (aq (getV 2) (kI 1) gIx) (ab (getV 4) (ab (aq (getV 2) (kI 3) gIx) (ab (kS "") aI))))))))))
def bJ:List PV->Option PV:=ff 3 5 dj
def fD:PSt->R Fl:=(aU (cn 5 (aq (aq (getV 3) (kI 4) gIx) (getV 4) fK)) (aU (ifF (dZ (aq (getV 5) (getV 2) c5)) (cG (aO (ab (getV 0) (ab (getV 1) (ab (getV 3) aI))) bJ)) cO) (aU (cn 6 (ifV (dZ (aq (aq (getV 2) (getV 5) gIx) (kS "back") gEq)) (aq (getV 3) (kI 1) gIx) (aq (getV 2) (getV 5) gIx))) (aU (ifF (dZ (aq (getV 6) kN yd)) (cG (dB (ab (aq (getV 3) (kI 0) gIx) (ab (aq (getV 3) (kI 1) gIx) (ab (aq (getV 3) (kI 2) gIx) (ab (aq (getV 3) (kI 3) gIx) (ab (getV 5) aI))))))) cO) (aU (ifF (dZ (aq (getV 6) (kS "") gEq)) (cG (aO (ab (getV 0) (ab (getV 1) (ab (getV 3) aI))) bJ)) cO) (cG (aO (ab (getV 0) (ab (getV 1) (ab (getV 6) (ab (aq (getV 3) (kI 0) gIx) aI)))) bU)))))))
def dG:List PV->Option PV:=ff 5 7 fD
def ik:PSt->R Fl:=(aU (cn 3 (aq (aq (aq (getV 0) (kS "rooms") gIx) (aq (getV 2) (kI 0) gIx) gIx) (kI 4) gIx)) (aU (cn 4 (aq (aq (getV 2) (kI 3) gIx) (kI 1) fK)) (aU (ifF (dZ (aq (getV 4) (aq (getV 3) (kI 0) gIx) gEq)) (cG (aO (ab (getV 0) (ab (getV 1) (ab (aq (getV 3) (kI 1) gIx) (ab (aq (getV 2) (kI 0) gIx) aI)))) bU)) cO) (cG (dB (ab (aq (getV 2) (kI 0) gIx) (ab (aq (getV 2) (kI 1) gIx) (ab (aq (getV 2) (kI 2) gIx) (ab (getV 4) (ab (kS "") aI))))))))))
def iA:List PV->Option PV:=ff 3 5 ik
def eI:PSt->R Fl:=(aU (cn 5 (aq (aq (aq (getV 0) (kS "rooms") gIx) (aq (getV 3) (kI 0) gIx) gIx) (kI 0) gIx)) (aU (ifF (orB (dZ (aq (getV 5) (kS "hand") gEq)) (dZ (aq (getV 5) (kS "end") gEq))) (cG (getV 3)) cO) (aU (ifF (dZ (aq (getV 4) (kP c_WAIT) gEq)) (cG (aO (ab (getV 0) (ab (getV 1) (ab (getV 3) aI))) iA)) cO) (cG (aO (ab (getV 0) (ab (getV 1) (ab (getV 2) (ab (getV 3) (ab (getV 4) aI))))) dG)))))
def bR:List PV->Option PV:=ff 5 6 eI
def iU:PSt->R Fl:=(aU (cn 2 (aq (aq (getV 0) (kS "rooms") gIx) (aq (getV 1) (kI 0) gIx) gIx)) (cG (dB (ab (aq (kP c_HEARD) (aq (getV 2) (kI 0) gIx) gIx) (ab (aq (getV 2) (kI 1) gIx) aI)))))
def dz:List PV->Option PV:=ff 2 3 iU
def lC:Expr:=za 1 (.Constant .none 0 ⟨0,0,0,0⟩) ((aW (KC.main.body.getD 26 (.Pass ⟨0,0,0,0⟩))).getD 1 (.Pass ⟨0,0,0,0⟩))
def bM:Lam:=Bc "places.<locals>.<lambda>" ["ways","hour","H"] (ae (KC.main.body.getD 26 (.Pass ⟨0,0,0,0⟩))) lC
def gw:PSt->R PV:=(aO (ab (getV 4) (ab (getV 3) (ab (aq (getV 2) (aq (getV 0) (kI 0) gIx) gIx) (ab (getV 0) (ab (getV 1) aI))))) bR)
def lB:Expr:=za 2 (.Constant .none 0 ⟨0,0,0,0⟩) ((aW (KC.main.body.getD 26 (.Pass ⟨0,0,0,0⟩))).getD 1 (.Pass ⟨0,0,0,0⟩))
def bz:Lam:=Bc "places.<locals>.<lambda>" [] (ae (KC.main.body.getD 26 (.Pass ⟨0,0,0,0⟩))) lB
def m5:PSt->R PV:=(kB false)
def aT:Lam:=BE "compare.<locals>.lead" ["ways","others","hour","H","G"] (ae (KC.main.body.getD 30 (.Pass ⟨0,0,0,0⟩))) gg
def g8:PSt->R Fl:=(aU (cn 7 (aO (ab (getV 5) (ab (getV 4) (ab (aq (getV 2) (aq (aq (getV 0) (kI 0) gIx) (kI 0) gIx) gIx) (ab (aq (getV 0) (kI 0) gIx) (ab (getV 1) aI))))) bR)) (cG (dB (ab (getV 7) (ab (aO (ab (getV 6) (ab (getV 4) (ab (aq (getV 3) (aq (aq (getV 0) (kI 1) gIx) (kI 0) gIx) gIx) (ab (aq (getV 0) (kI 1) gIx) (ab (getV 1) aI))))) bR) aI)))))
def jf:PSt->R PV:=qy 1 g8
def aE:Lam:=BE "compare.<locals>.is_apart" ["H","G"] (ae (KC.main.body.getD 30 (.Pass ⟨0,0,0,0⟩))) gf
def g7:PSt->R Fl:=(cG (aq (aO (ab (getV 1) (ab (aq (getV 0) (kI 0) gIx) aI)) dz) (aO (ab (getV 2) (ab (aq (getV 0) (kI 1) gIx) aI)) dz) gNe))
def je:PSt->R PV:=qy 0 g7
open Classical in
noncomputable def appL(L:Lam)(qs cs:List PV):Option PV:=if L=bM then zy 2 gw qs cs else if L=bz then zy 1 m5 qs cs else if L=aT then zy 2 jf qs cs else if L=aE then zy 1 je qs cs else none
def bL:PSt->R Fl:=(so 1 (j7 (getV 2) eX (j3 (getV 3))) (aq (qY (lX 1) (j7 (getV 2) eX (j3 (getV 3))) (kI 0) sI) (kI 1) fK))
def bK:PSt->R Fl:=(kJ (C8 (kI 1) (aq (un1 (getV 2) rj) (kI 1) fK)) (aC 3) bL)
def cR:PSt->R Fl:=(aU (pI 1 newD) (aU (kJ (itF (getV 0)) (aC 2) bK) (zI 1 (cG (getV 1)))))
def bG:List PV->Option PV:=ff 1 4 cR
def gx:PSt->R Fl:=(ifF (dZ (aq (getV 1) (getV 3) gIn)) (cG (getV 2)) cO)
def jy:PSt->R Fl:=(aU (kJ (itF (getV 0)) (jq 2 (bt (aC 2) (bt (aC 3) jv))) gx) (cG kN))
def jA:List PV->Option PV:=ff 2 4 jy
def gW:PSt->R PV:=(aO (ab (getV 1) (ab (getV 0) aI)) jA)
def kC:PSt->R Fl:=(aU (cn 2 (iB (itF (getV 1)) (aC 0) qB gW 1 [0])) (cG (ifV (dZ (aq kN (getV 2) gIn)) kN (xM (kS "") (getV 2) vg))))
def gb:List PV->Option PV:=ff 2 3 kC
def cg:PSt->R Fl:=(ifF (dZ (aq (aq (getV 1) (j7 (getV 0) eX (j3 (getV 2))) gIx) (kI 1) gEq)) (cG (j7 (getV 0) eX (j3 (getV 2)))) cO)
def cQ:PSt->R Fl:=(aU (kJ (C8 (kI 1) (un1 (getV 0) rj)) (aC 2) cg) (cG (getV 0)))
def cS:List PV->Option PV:=ff 2 3 cQ
def eS:PSt->R PV:=(aq (aO (ab (getV 1) (ab (getV 0) aI)) gb) (kP c_CODE_END) fK)
def eR:PSt->R PV:=(dB (ab (getV 0) (ab (aO (ab (getV 1) (ab (getV 2) aI)) cS) aI)))
def g9:PSt->R Fl:=(aU (cn 2 (iB (itF (getV 1)) (aC 0) qB eS 1 [0])) (aU (cn 3 (aO (ab (getV 2) aI) bG)) (cG (iB (F9 (getV 1) (getV 2)) (jq 2 (bt (aC 0) (bt (aC 1) jv))) qB eR 2 [3]))))
def dq:List PV->Option PV:=ff 2 4 g9
def cB:PSt->R Fl:=(so 2 (j7 (getV 4) eX (j3 (getV 5))) kN)
def cA:PSt->R Fl:=(aU (kJ (C8 (kI 1) (un1 (getV 4) rj)) (aC 5) cB) (so 2 (getV 4) (aq (getV 1) (getV 3) gIx)))
def fY:PSt->R Fl:=(aU (pI 2 newD) (aU (kJ (itF (aO (ab (getV 0) (ab (un1 (getV 1) vf) aI)) dq)) (jq 2 (bt (aC 3) (bt (aC 4) jv))) cA) (zI 2 (cG (getV 2)))))
def eK:List PV->Option PV:=ff 2 6 fY
def d7:PSt->R Fl:=(aU (cn 2 (aq (aq (getV 0) (kS "rooms") gIx) (getV 1) gIx)) (aU (ifF (dZ (aq (aq (getV 2) (kI 0) gIx) (kS "menu") gEq)) (cG (un1 (aq (getV 2) (kI 2) gIx) oZ)) cO) (aU (ifF (dZ (aq (aq (getV 2) (kI 0) gIx) (kS "names") gEq)) (cG (aO (ab (aq (getV 0) (kS "letters") gIx) (ab (un1 (aq (getV 2) (kI 2) gIx) oZ) aI)) eK)) cO) (cG newD))))
def aG:List PV->Option PV:=ff 2 3 d7
def eT:PSt->R Fl:=(so 1 (getV 2) (aO (ab (getV 0) (ab (getV 2) aI)) aG))
def fZ:PSt->R Fl:=(aU (pI 1 newD) (aU (kJ (itF (aq (getV 0) (kS "rooms") gIx)) (aC 2) eT) (zI 1 (cG (getV 1)))))
def bq:List PV->Option PV:=ff 1 3 fZ
def aR:PSt->R Fl:=(aU (cn 8 (jn 1 (ab (aq (getV 6) (kI 0) gIx) (ab (getV 7) aI)) appL)) (ifF (dZ (aq (getV 8) (lX 3) iV)) (aU (ox 3 (getV 8) (kB true)) (aU (sS 4 (dB (ab (getV 8) (ab (aq (aq (getV 6) (kI 1) gIx) (getV 7) fK) aI)))) (ifF (dZ (jn 2 (ab (getV 8) aI) appL)) EY cO))) cO))
def aQ:PSt->R Fl:=(aU (cn 6 (aq (lX 4) (getV 5) gIx)) (aU (BU 5 (kI 1)) (kJ (itF (kP c_SIGNS)) (aC 7) aR)))
def eJ:PSt->R Fl:=(aU (pI 3 (sM (getV 0) (kB true))) (aU (pI 4 (l7 (ab (dB (ab (getV 0) (ab (kS "") aI))) aI))) (aU (cn 5 (kI 0)) (aU (whS 10500000 (BY (dZ (aq (getV 5) (un1 (lX 4) rj) gLt)) (Dw (dZ (jn 2 (ab (aq (aq (lX 4) (un1 (kI 1) wB) gIx) (kI 0) gIx) aI) appL)))) aQ) (z7 4)))))
def bF:List PV->Option PV:=runN 3 9 eJ
def fF:PSt->R PV:=(dB (ab (aq (getV 0) (kI 0) gIx) (ab (aq (getV 0) (kI 1) gIx) (ab (getV 1) aI))))
def ij:PSt->R Fl:=(aU (cn 3 (aO (ab (getV 0) aI) bq)) (aU (cn 4 (aO (ab (getV 1) aI) bq)) (zQ 5 (zQ 6 (aU (cn 7 (ji (wM (dB (ab (aO (ab (getV 0) (ab (getV 2) aI)) c6) (ab (aO (ab (getV 1) (ab (getV 2) aI)) c6) aI))) (pK aT [3,4,2,0,1] (pK aE [0,1] aI))) bF)) (aU (cn 8 (iB (itF (getV 7)) (jq 2 (bt (aC 0) (bt (aC 1) jv))) qB fF 2 [])) (aU (cn 9 (aq (getV 7) (un1 (kI 1) wB) gIx)) (aU (ifF (dZ (m7 aE [0,1] (ab (aq (getV 9) (kI 0) gIx) aI) appL)) (cG (dB (ab (kS "apart") (ab (aq (getV 9) (kI 1) gIx) (ab (jN (getV 8) eX (j3 (un1 (kI 1) wB))) aI))))) cO) (cG (dB (ab (kS "alike") (ab (getV 8) aI))))))))))))
def ax:List PV->Option PV:=ff 3 10 ij
def nr:PSt->R Fl:=(aU (cn 2 (aO (ab (getV 0) aI) bq)) (cG (ji (wM (aO (ab (getV 0) (ab (getV 1) aI)) c6) (pK bM [2,1,0] (pK bz [] aI))) bF)))
def iy:List PV->Option PV:=ff 2 3 nr
def nu:PSt->R Fl:=(cG (aq (aq (aO (ab (getV 0) (ab (getV 1) aI)) dz) (kI 0) gIx) (kS "asked") gNe))
def jB:List PV->Option PV:=ff 2 2 nu
def nQ:PSt->R Fl:=(ifF (dZ (aO (ab (getV 0) (ab (getV 3) aI)) jB)) (tQ 2 (aq (getV 3) (kI 0) gIx) (getV 4)) cO)
def vd:PSt->R Fl:=(aU (pI 2 newD) (aU (kJ (itF (aO (ab (getV 0) (ab (getV 1) aI)) iy)) (jq 2 (bt (aC 3) (bt (aC 4) jv))) nQ) (cG (un1 (lX 2) nv))))
def pb:List PV->Option PV:=ff 2 5 vd
def nO:PSt->R Fl:=(ifF (dZ (aq (aq (aO (ab (getV 6) (ab (getV 7) (ab (getV 3) aI))) ax) (kI 0) gIx) (kS "alike") gNe)) (cG (kB false)) cO)
def kZ:PSt->R Fl:=(aU (cn 11 (aO (ab (getV 4) (ab (aO (ab (getV 0) (ab (getV 2) (ab (getV 10) (ab (kB false) aI)))) bI) (ab (getV 3) aI))) ax)) (aU (ifF (BY (dZ (aq (getV 9) (getV 8) gIn)) (dZ (aq (jN (getV 11) eX (j3 (kI 2))) (dB (ab (kS "apart") (ab (aq (getV 8) (getV 9) gIx) aI))) gNe))) (cG (kB false)) cO) (ifF (BY (dZ (aq (getV 9) (getV 8) c5)) (dZ (aq (aq (getV 11) (kI 0) gIx) (kS "alike") gNe))) (cG (kB false)) cO)))
def ya:PSt->R Fl:=(aU (cn 1 (aO (ab (aO (ab (getV 0) (ab (kI 0) aI)) aw) aI) dU)) (aU (cn 2 (aO (ab (aO (ab (getV 0) (ab (kI 3) aI)) aw) aI) dU)) (aU (cn 3 (aq (aO (ab (getV 0) (ab (kI 4) aI)) aw) (kI 24) e9)) (aU (cn 4 (aO (ab (getV 0) (ab (getV 1) (ab (l7 (ab (kS "Ann") (ab (kS "Bye") aI))) (ab (kB false) aI)))) bI)) (aU (cn 5 (aO (ab (getV 0) (ab (getV 2) (ab (l7 (ab (kS "Ann") (ab (kS "Bye") aI))) (ab (kB true) aI)))) bI)) (aU (kJ (itF (l7 (ab (dB (ab (getV 4) (ab (getV 5) aI))) (ab (dB (ab (getV 5) (ab (getV 4) aI))) (ab (dB (ab (getV 4) (ab (getV 4) aI))) (ab (dB (ab (getV 5) (ab (getV 5) aI))) aI)))))) (jq 2 (bt (aC 6) (bt (aC 7) jv))) nO) (aU (cn 8 (un1 (aO (ab (getV 4) (ab (getV 3) aI)) pb) rz)) (aU (kJ (itF (l7 (ab (dB (ab (aq (getV 1) (kI 3) gIx) (ab (l7 (ab (kS "Anna") (ab (kS "Bye") aI))) aI))) (ab (dB (ab (aq (getV 1) (kI 4) gIx) (ab (l7 (ab (kS "Ann") (ab (kS "Bye.") aI))) aI))) aI)))) (jq 2 (bt (aC 9) (bt (aC 10) jv))) kZ) (aU (uA 12 (aO (ab (getV 0) (ab (getV 2) (ab (l7 (ab (kS "Ann") (ab (kS "Bye") aI))) (ab (kB false) aI)))) bI) (.inr "rooms") (aq (getV 2) (kI 3) gIx) (dB (ab (kS "end") (ab (kS "Ann") aI)))) (aU (cn 11 (aO (ab (getV 4) (ab (getV 12) (ab (getV 3) aI))) ax)) (aU (ifF (dZ (aq (aq (getV 1) (kI 3) gIx) (getV 8) gIn)) (cG (aq (jN (getV 11) eX (j3 (kI 2))) (dB (ab (kS "apart") (ab (aq (getV 8) (aq (getV 1) (kI 3) gIx) gIx) aI))) gEq)) cO) (cG (aq (aq (getV 11) (kI 0) gIx) (kS "alike") gEq)))))))))))))
def vx:List PV->Option PV:=ff 1 13 ya
end
end K39
namespace K39
open PySem L2 PU MT
theorem Cf(ls:WO.Lts)(c:Nat):jA [WO.ltPv ls,WO.sg c]=some (WO.keyPv (WO.keyL ls c)):=by
 refine aF rfl ?_
 obtain⟨k1,k2⟩:=iu (enc:=fun l:Nat×List Nat=>PV.tup [WO.sg l.1,.str (mkS l.2)]) (h:=jq 2 (bt (aC 2) (bt (aC 3) jv))) (g:=gx) (fun l=>decide (c∈l.2)) (fun l=>WO.sg l.1)
  (I:=fun ρ=>∃a b,ρ=[.val (WO.ltPv ls),.val (WO.sg c),a,b]) (by
   rintro l ρ ⟨a,b,rfl⟩;have e:=WO.in_one c l.2;refine⟨_,rfl,fun hp=>?_,fun hp=>⟨_,?_,.val (WO.sg l.1),.val (.str (mkS l.2)),rfl⟩⟩
   ·rw[hp] at e
    simp[gx,e]
   ·rw[hp] at e
    simp[gx,e]) ls [.val (WO.ltPv ls),.val (WO.sg c),.no,.no] ⟨_,_,rfl⟩
 have ei:gz (WO.ltPv ls)=some (ls.map fun l=>PV.tup [WO.sg l.1,.str (mkS l.2)]):=rfl;cases e:ls.find? (fun l=>decide (c∈l.2)) with
 | some l=>
  have k:=k1 l e;simp[jy,PU.start,ei];rw[k];simp[WO.keyPv,WO.keyL,e]
 | none=>
  obtain⟨ρ',k,a,b,rfl⟩:=k2 e;simp[jy,PU.start,ei];rw[k];simp[WO.keyPv,WO.keyL,e]
theorem Ad(ls:WO.Lts)(x:List Nat)(hx:x.length<=1000):gb [WO.ltPv ls,.str (mkS x)]=some (WO.codePv (WO.codeL ls x)):=by
 refine aF rfl ?_
 have c1:de (aC 0) qB gW [.no,.val (WO.ltPv ls)] (x.map WO.sg)=.ok (x.map fun c=>WO.keyPv (WO.keyL ls c)):=
  WO.in_list_comp (fun c=>WO.keyPv (WO.keyL ls c)) x fun c _=>⟨_,pM _,by simp[gW,Cf]⟩
 have c2:=WO.none_in ls x;have hl:x.length<=16777216:=by omega
 simp[kC,PU.start,WO.it_mk,t6,KZ,c1,hl,c2];cases h:x.all fun c=>(WO.keyL ls c).isSome with
 | false=>simp[WO.codeL,h,WO.codePv]
 | true=>
  have e:(x.map fun c=>WO.keyPv (WO.keyL ls c))=(x.map fun c=>(WO.keyL ls c).getD 0).map WO.sg:=by
   rw[K4];apply NO;intro c hc;have:=N2.mp h c hc;cases h2:WO.keyL ls c with
   | none=>rw[h2] at this;cases this
   | some k=>simp[WO.keyPv,h2]
  have j:=WO.joinV (x.map fun c=>(WO.keyL ls c).getD 0) (by simpa using hx);rw[e];simp[-K4,j,WO.codeL,h,WO.codePv]
open BG
abbrev bst(codes:PV)(ks:List Key)(ps:List PV)(a b:Sl):PSt:=[.val codes,.own (.dct ks ps),a,b]
theorem Hf(codes:PV)(L:List W)(ks:List Key)(ps:List PV)(h:Cnt L ks ps)(c:W)(n:Nat)(hc:c.length<=100)(hL:L.length<=10000):∃ks' ps',Cnt (L++[c.take n]) ks' ps'/\
  bL (bst codes ks ps (.val (.str (mkS c))) (.val (.int n)))=.ok (.next (bst codes ks' ps' (.val (.str (mkS c))) (.val (.int n)))):=by
 obtain⟨ks',ps',e,h'⟩:=BM h (c.take n);have e1:=Af (x:=mkS c) none (some (n:Int)) (by rw[eQ];omega);rw[mi] at e1;have e2:=BN h (c.take n);have z:ks.length<16777216:=by have:=h.le;omega
 refine⟨ks',ps',h',?_⟩;simp[bL,bst,e1,e2,z,e]
theorem He(codes:PV)(L:List W)(ks:List Key)(ps:List PV)(h:Cnt L ks ps)(c:W)(b:Sl)(hc:c.length<=100)(hL:L.length<=9000):∃ks' ps' b',Cnt (L++sY c) ks' ps'/\
  bK (bst codes ks ps (.val (.str (mkS c))) b)=.ok (.next (bst codes ks' ps' (.val (.str (mkS c))) b')):=by
 obtain⟨ρ',f1,ks',ps',b',rfl,h'⟩:=forR (n:=c.length) (lo:=1) (h:=aC 3) (g:=bL) (ρ:=bst codes ks ps (.val (.str (mkS c))) b)
  (I:=fun i ρ=>∃ks ps b,ρ=bst codes ks ps (.val (.str (mkS c))) b/\Cnt (L++(KQ i).map fun j=>c.take (j+1)) ks ps) ⟨ks,ps,b,rfl,by simpa using h⟩ (by
   rintro i ρ hi ⟨ks,ps,b,rfl,h⟩;obtain⟨ks',ps',h',e⟩:=Hf codes _ ks ps h c (i+1) hc (by simp;omega);have ei:(1:Int)+(i:Int)=((i+1:Nat):Int):=by omega
   rw[ei];refine⟨_,_,rfl,.inl e,ks',ps',_,rfl,?_⟩;rw[Mg,KL,← LP];exact h')
 refine⟨ks',ps',b',h',?_⟩;have e1:rj (.str (mkS c))=some (.int c.length):=by rw[jH (by rw[eQ];omega),eQ]
 have e2:C7 (.int 1) (.int ((c.length:Int)+1))=.ok (ck 1 c.length):=by rw[t9 (by omega) (by omega) (by omega) (by omega)];congr 2;omega
 simp[bK,e1,e2];exact f1
theorem vX(cs:List W)(hn:cs.length<=12)(hc:∀c∈cs,c.length<=20):∃ks ps,Cnt (cs.flatMap sY) ks ps/\bG [.lst (cs.map fun c=>.str (mkS c))]=some (.dct ks ps):=by
 obtain⟨ρ',f1,ks,ps,a,b,rfl,h⟩:=forM (enc:=fun c:W=>PV.str (mkS c)) (xs:=cs) (h:=aC 2) (g:=bK) (ρ:=bst (.lst (cs.map fun c=>.str (mkS c))) [] [] .no .no)
  (I:=fun pre ρ=>∃ks ps a b,ρ=bst (.lst (cs.map fun c=>.str (mkS c))) ks ps a b/\Cnt (pre.flatMap sY) ks ps) ⟨[],[],_,_,rfl,⟨rfl,by simp,fun p=>by simp[bT]⟩⟩ (by
   rintro pre c post ρ hx ⟨ks,ps,a,b,rfl,h⟩;have hcm:c∈cs:=by rw[hx];simp
   have hpl:pre.length<=12:=by
    have:=congrArg Lj hx;rw[KF] at this;omega
   have hfl:=vp (l:=pre) (f:=sY) (b:=20) fun x hxm=>by
    unfold sY;rw[JT,List.length_range];exact hc x (by rw[hx];exact N9 _ hxm)
   obtain⟨ks',ps',b',h',e⟩:=He (.lst (cs.map fun c=>.str (mkS c))) _ ks ps h c b (by have:=hc c hcm;omega) (by omega);refine⟨_,_,rfl,.inl e,ks',ps',_,_,rfl,?_⟩;rw[List.flatMap_append];simpa using h')
 refine⟨ks,ps,h,aF rfl ?_⟩;simp[cR,PU.start];rw[f1];simp
theorem F0(cs:List W)(ks:List Key)(ps:List PV)(h:Cnt (cs.flatMap sY) ks ps)(c:W)(hc:c∈cs)(hne:c≠[])(hl:c.length<=100):cS [.str (mkS c),.dct ks ps]=some (.str (mkS (own cs c))):=by
 refine aF rfl ?_
 have key:∀i:Nat,gIx (.dct ks ps) (.str (mkS (c.take (i+1))))=some (.int (many cs (c.take (i+1)))):=fun i=>by
  have hp:c.take (i+1)≠[]:=fun e=>by
   cases c with
   | nil=>exact hne rfl
   | cons a r=>simp at e
  show bT ks ps (.inr (mkS (c.take (i+1))))=_;rw[h.at_,vN cs _ hp,if_neg];intro e;unfold many at e;have:c∈cs.filter (pre (c.take (i+1))):=LQ.mpr ⟨hc,iO.mpr (MS _ _)⟩;rw[O2.mp e] at this;cases this
 obtain⟨k1,k2⟩:=iu (enc:=fun i:Nat=>PV.int (1+(i:Nat))) (h:=aC 2) (g:=cg) (fun i=>decide (many cs (c.take (i+1))=1)) (fun i=>PV.str (mkS (c.take (i+1))))
  (I:=fun ρ=>∃a,ρ=[.val (.str (mkS c)),.val (.dct ks ps),a]) (by
   rintro i ρ ⟨a,rfl⟩;have e1:=Af (x:=mkS c) none (some ((i+1:Nat):Int)) (by rw[eQ];omega);rw[mi] at e1;have ei:(1:Int)+(i:Int)=((i+1:Nat):Int):=by omega
   have e2:=key i;have e2:((e6 (.str (mkS (c.take (i+1))))).bind fun k=>bT ks ps k)=some (.int (many cs (c.take (i+1)))):=e2;rw[ei];refine⟨_,rfl,fun hp=>?_,fun hp=>⟨_,?_,.val (.int ((i+1:Nat):Int)),rfl⟩⟩
   ·have hp:many cs (c.take (i+1))=1:=by simpa using hp
    rw[hp] at e2;have e2:bT ks ps (.inr (mkS (c.take (i+1))))=some (.int 1):=e2;have e1:yb (.str (mkS c)) none (some ((i:Int)+1))=some (.str (mkS (c.take (i+1)))):=e1;simp[cg,e1,e2]
   ·have hp:¬ many cs (c.take (i+1))=1:=by simpa using hp
    have hp2:¬ ((many cs (c.take (i+1)):Nat):Int)=1:=by omega
    have e2:bT ks ps (.inr (mkS (c.take (i+1))))=some (.int (many cs (c.take (i+1)))):=e2;have e1:yb (.str (mkS c)) none (some ((i:Int)+1))=some (.str (mkS (c.take (i+1)))):=e1;simp[cg,e1,e2,hp2]) (KQ (c.length-1)) [.val (.str (mkS c)),.val (.dct ks ps),.no] ⟨_,rfl⟩
 have e1:rj (.str (mkS c))=some (.int c.length):=by rw[jH (by rw[eQ];omega),eQ]
 have e2:C7 (.int 1) (.int (c.length:Int))=.ok ((KQ (c.length-1)).map fun i:Nat=>PV.int (1+(i:Nat))):=by rw[t9 (by omega) (by omega) (by omega) (by omega),show ((c.length:Int)-1).toNat=c.length-1 by omega];rfl
 unfold own;cases e:(KQ (c.length-1)).find? (fun i=>decide (many cs (c.take (i+1))=1)) with
 | some i=>
  have k:=k1 i e;simp only[cQ,PU.start,JQ,M3,KU,Lb,KZ,Lz,Mh,t5,yN,yL,Ht,Cd,pN,lq,DU,e1,R.ofO_some,uT,e2,DY,k,uU]
 | none=>
  obtain⟨ρ',k,a,rfl⟩:=k2 e;simp only[cQ,PU.start,JQ,M3,KU,Lb,KZ,Lz,Mh,t5,yN,yL,Ht,Cd,pN,lq,DU,e1,R.ofO_some,uT,e2,DY,k,lS,yM,DV]
def cdW(ls:WO.Lts)(w:W):W:=w.map (fun c=>(WO.keyL ls c).getD 0)
def cdH(ls:WO.Lts)(w:W):W:=cdW ls w++[35]
def Aj(ls:WO.Lts)(ws:List W)(w:W):PV:=.tup [.str (mkS w),.str (mkS (own (ws.map (cdH ls)) (cdH ls w)))]
theorem yB(ls:WO.Lts)(ws:List W)(hn:ws.length<=12)(hw:∀w∈ws,w.length<=12/\∀c∈w,(WO.keyL ls c).isSome=true):dq [WO.ltPv ls,.lst (ws.map fun w=>.str (mkS w))]=some (.lst (ws.map (Aj ls ws))):=by
 refine aF rfl ?_;have hash:("#":Str)=mkS [35]:=by decide +kernel
 have c1:de (aC 0) qB eS [.no,.val (WO.ltPv ls)] (ws.map fun w=>.str (mkS w))=.ok (ws.map fun w=>.str (mkS (cdH ls w))):=
  WO.in_list_comp (enc:=fun w:W=>PV.str (mkS w)) (fun w=>.str (mkS (cdH ls w))) ws fun w hwm=>by
   have h:=hw w hwm;have e:=Ad ls w (by omega)
   have e2:WO.codeL ls w=some (cdW ls w):=by
    unfold WO.codeL;rw[if_pos (N2.mpr fun c hc=>h.2 c hc)];rfl
   rw[e2] at e;have e:gb [WO.ltPv ls,.str (mkS w)]=some (.str (mkS (cdW ls w))):=e
   have e3:fK (.str (mkS (cdW ls w))) c_CODE_END=some (.str (mkS (cdH ls w))):=by
    show fK (.str (mkS (cdW ls w))) (.str "#")=_;rw[hash,jI (by simp[cdW];omega),k9];rfl
   exact⟨_,pM _,by simp[eS,e,e3]⟩
 obtain⟨ks,ps,h,e2⟩:=vX (ws.map (cdH ls)) (by simpa using hn) (fun c hc=>by
  obtain⟨w,hwm,rfl⟩:=JS.mp hc;have:=(hw w hwm).1;simp[cdH,cdW];omega)
 have e2:bG [.lst (ws.map fun w=>.str (mkS (cdH ls w)))]=some (.dct ks ps):=by rw[← e2,K4];rfl
 have ez:∀l:List W,(wF (l.map fun w=>PV.str (mkS w)) (l.map fun w=>PV.str (mkS (cdH ls w)))).map PV.tup=l.map fun w=>PV.tup [.str (mkS w),.str (mkS (cdH ls w))]:=by
  intro l;unfold wF
  induction l with
  | nil=>rfl
  | cons a r ih=>simp only[JQ,Lf];rw[ih]
 have c2:de (jq 2 (bt (aC 0) (bt (aC 1) jv))) qB eR [.no,.no,.val (.dct ks ps)] (ws.map fun w=>PV.tup [.str (mkS w),.str (mkS (cdH ls w))])=.ok (ws.map (Aj ls ws)):=
  WO.in_list_comp (enc:=fun w:W=>PV.tup [.str (mkS w),.str (mkS (cdH ls w))]) (Aj ls ws) ws fun w hwm=>by
   have:=(hw w hwm).1;have e:=F0 (ws.map (cdH ls)) ks ps h (cdH ls w) (JS.mpr ⟨w,hwm,rfl⟩) (by simp[cdH]) (by simp[cdH,cdW];omega);exact⟨[.val (.str (mkS w)),.val (.str (mkS (cdH ls w))),.val (.dct ks ps)],rfl,by simp[eR,e,Aj]⟩
 have z:ws.length<=16777216:=by omega
 have ei:gz (.lst (ws.map fun w=>PV.str (mkS w)))=some (ws.map fun w=>PV.str (mkS w)):=rfl;have zq:=DR (ws.map fun w=>PV.str (mkS w)) (ws.map fun w=>PV.str (mkS (cdH ls w))) (by rw[p8];rfl);simp[g9,PU.start,t6,KZ,c1,z,e2,zq];rw[ez,c2];simp[z]
open NW
abbrev wu(L D:PV)(ks:List Key)(ps:List PV)(a b c:Sl):PSt:=[.val L,.val D,.own (.dct ks ps),a,b,c]
theorem GE(L D:PV)(ks:List Key)(ps:List PV)(F:W->Option PV)(h:Tells ks ps F)(a:Sl)(b:W)(n:Nat)(hb:b.length<=100)(hk:ks.length<=100000):∃ks' ps',Tells ks' ps' (fun p=>if b.take n=p then some .non else F p)/\ks'.length<=ks.length+1/\
  cB (wu L D ks ps a (.val (.str (mkS b))) (.val (.int n)))=.ok (.next (wu L D ks' ps' a (.val (.str (mkS b))) (.val (.int n)))):=by
 obtain⟨ks',ps',e,h1,h2⟩:=h.put (b.take n) .non (by simp[noFn]);have e1:=Af (x:=mkS b) none (some (n:Int)) (by rw[eQ];omega);rw[mi] at e1;have z:ks.length<16777216:=by omega
 refine⟨ks',ps',h2,h1,?_⟩;simp[cB,wu,e1,z,e]
theorem GD(L D:PV)(ks:List Key)(ps:List PV)(F:W->Option PV)(h:Tells ks ps F)(w b:W)(t:Str)(hne:b≠[])(hD:gIx D (.str (mkS w))=some (.str t))(x:Sl)(hb:b.length<=100)(hk:ks.length<=10000):∃ks' ps' x',Tells ks' ps' (fun p=>jl p (F p) (b,t))/\ks'.length<=ks.length+100/\
  cA (wu L D ks ps (.val (.str (mkS w))) (.val (.str (mkS b))) x)=.ok (.next (wu L D ks' ps' (.val (.str (mkS w))) (.val (.str (mkS b))) x')):=by
 have hbl:1<=b.length:=by cases b with | nil=>exact absurd rfl hne | cons _ _=>simp
 obtain⟨ρ',f1,ks1,ps1,x1,rfl,h1,l1⟩:=forR (n:=b.length-1) (lo:=1) (h:=aC 5) (g:=cB) (ρ:=wu L D ks ps (.val (.str (mkS w))) (.val (.str (mkS b))) x)
  (I:=fun i ρ=>∃ks1 ps1 x1,ρ=wu L D ks1 ps1 (.val (.str (mkS w))) (.val (.str (mkS b))) x1/\Tells ks1 ps1 (fun p=>if p∈(KQ i).map (fun j=>b.take (j+1)) then some .non else F p)/\ks1.length<=ks.length+i)
  ⟨ks,ps,x,rfl,⟨h.len,fun p=>by rw[h.at_,if_neg (by simp)],h.nf⟩,by omega⟩ (by
   rintro i ρ hi ⟨ks1,ps1,x1,rfl,h1,l1⟩;obtain⟨ks2,ps2,h2,l2,e⟩:=GE L D ks1 ps1 _ h1 (.val (.str (mkS w))) b (i+1) hb (by omega);have ei:(1:Int)+(i:Int)=((i+1:Nat):Int):=by omega
   rw[ei];refine⟨_,_,rfl,.inl e,ks2,ps2,_,rfl,⟨h2.len,fun p=>?_,h2.nf⟩,by omega⟩;rw[h2.at_,Mg,KL]
   by_cases hp:b.take (i+1)=p
   ·rw[if_pos hp,if_pos (Kc _ (by simp[hp]))]
   ·rw[if_neg hp]
    by_cases hq:p∈(KQ i).map (fun j=>b.take (j+1))
    ·rw[if_pos hq,if_pos (N9 _ hq)]
    ·rw[if_neg hq,if_neg]
     intro z;rcases Kd.mp z with z | z
     ·exact hq z
     ·rw[Qw,JX] at z
      exact hp z.symm)
 obtain⟨ks2,ps2,e2,l2,h2⟩:=h1.put b (.str t) (by simp[noFn]);refine⟨ks2,ps2,x1,⟨h2.len,fun p=>?_,h2.nf⟩,by omega,?_⟩
 ·rw[h2.at_]
  unfold jl
  by_cases hp:b=p
  ·simp only[if_pos hp]
  ·simp only[if_neg hp]
   by_cases hq:p≠[]/\p <+: b
   ·rw[if_pos hq,if_pos]
    have hl:=LV hq.2
    have h0:1<=p.length:=by
     cases p with
     | nil=>exact absurd rfl hq.1
     | cons _ _=>simp
    have ht:=Mo.mp hq.2;have hlt:p.length≠b.length:=fun z=>hp (by rw[z,List.take_length] at ht;exact ht.symm);exact JS.mpr ⟨p.length-1,LD.mpr (by omega),by rw[show p.length-1+1=p.length by omega];exact ht.symm⟩
   ·rw[if_neg hq,if_neg]
    intro z;obtain⟨j,q2,rfl⟩:=JS.mp z;have q2:=LD.mp q2;refine hq ⟨fun z=>?_,MS _ _⟩;cases b with
    | nil=>exact hne rfl
    | cons a r=>simp at z
 ·have e1:rj (.str (mkS b))=some (.int b.length):=by rw[jH (by rw[eQ];omega),eQ]
  have e3:C7 (.int 1) (.int (b.length:Int))=.ok (ck 1 (b.length-1)):=by rw[t9 (by omega) (by omega) (by omega) (by omega)];congr 2;omega
  have z:ks1.length<16777216:=by omega
  have f1:fO (aC 5) cB (ck 1 (b.length-1)) [.val L,.val D,.own (.dct ks ps),.val (.str (mkS w)),.val (.str (mkS b)),x]=.ok (.next [.val L,.val D,.own (.dct ks1 ps1),.val (.str (mkS w)),.val (.str (mkS b)),x1]):=f1;simp only[wu];simp[cA,e1,e3,f1,hD,z,e2]
def wC(ls:WO.Lts)(wt:List (W×Str)):List (W×Str):=wt.map fun p=>(own ((wt.map (·.1)).map (cdH ls)) (cdH ls p.1),p.2)
theorem xE(ls:WO.Lts)(wt:List (W×Str))(hn:wt.length<=12)(hw:∀p∈wt,p.1.length<=12/\∀c∈p.1,(WO.keyL ls c).isSome=true)(nd:(wt.map (·.1)).Nodup):∃ks ps,Tells ks ps (zZ (wC ls wt))/\eK [WO.ltPv ls,wtD wt]=some (.dct ks ps):=by
 have eb:=yB ls (wt.map (·.1)) (by simpa using hn) (fun w hwm=>by obtain⟨p,hp,rfl⟩:=JS.mp hwm;exact hw p hp);have el:=B9 wt;rw[K4] at eb;have eb:dq [WO.ltPv ls,.lst (wt.map fun p=>.str (mkS p.1))]=some (.lst ((wt.map (·.1)).map (Aj ls (wt.map (·.1))))):=eb;rw[K4] at eb
 let B:W×Str->W:=fun p=>own ((wt.map (·.1)).map (cdH ls)) (cdH ls p.1)
 have hB:∀p∈wt,B p≠[]/\(B p).length<=100:=fun p hp=>⟨zi _ _ (by simp[cdH]),by
  have h1:=LV (mM ((wt.map (·.1)).map (cdH ls)) (cdH ls p.1));have h2:=(hw p hp).1;have h3:(cdH ls p.1).length=p.1.length+1:=by simp[cdH,cdW]
  show (own _ _).length<=100;omega⟩
 obtain⟨ρ',f1,ks,ps,a,b,c,rfl,h,l⟩:=forM (enc:=fun p:W×Str=>PV.tup [.str (mkS p.1),.str (mkS (B p))]) (xs:=wt) (h:=jq 2 (bt (aC 3) (bt (aC 4) jv))) (g:=cA) (ρ:=wu (WO.ltPv ls) (wtD wt) [] [] .no .no .no)
  (I:=fun pre ρ=>∃ks ps a b c,ρ=wu (WO.ltPv ls) (wtD wt) ks ps a b c/\Tells ks ps (fun p=>(pre.map fun q=>(B q,q.2)).foldl (jl p) none)/\ks.length<=pre.length * 100) ⟨[],[],.no,.no,.no,rfl,⟨rfl,fun p=>rfl,by simp⟩,by simp⟩ (by
   rintro pre p post ρ hx ⟨ks,ps,a,b,c,rfl,h,l⟩;have hp:p∈wt:=by rw[hx];simp
   have hpl:pre.length<=12:=by
    have:=congrArg Lj hx;rw[KF] at this;omega
   have hD:gIx (wtD wt) (.str (mkS p.1))=some (.str p.2):=wX wt nd hp;obtain⟨ks',ps',x',h',l',e⟩:=GD (WO.ltPv ls) (wtD wt) ks ps _ h p.1 (B p) p.2 (hB p hp).1 hD c (hB p hp).2 (by omega);refine⟨_,_,rfl,.inl e,ks',ps',_,_,_,rfl,⟨h'.len,fun q=>?_,h'.nf⟩,by simp;omega⟩;rw[h'.at_,KL,MF];rfl)
 refine⟨ks,ps,h,aF rfl ?_⟩;have ei:gz (.lst (wt.map (Aj ls (wt.map (·.1)) ∘ fun x=>x.1)))=some (wt.map fun p:W×Str=>PV.tup [.str (mkS p.1),.str (mkS (B p))]):=rfl;have f1:fO (jq 2 (bt (aC 3) (bt (aC 4) jv))) cA (wt.map fun p:W×Str=>PV.tup [.str (mkS p.1),.str (mkS (B p))]) [.val (WO.ltPv ls),.val (wtD wt),.own (.dct [] []),.no,.no,.no]=.ok (.next [.val (WO.ltPv ls),.val (wtD wt),.own (.dct ks ps),a,b,c]):=f1;generalize (wt.map fun p:W×Str=>PV.tup [.str (mkS p.1),.str (mkS (B p))])=TL at *;generalize PV.lst (wt.map (Aj ls (wt.map (·.1)) ∘ fun x=>x.1))=TQ at *;generalize PV.lst (wt.map fun p=>.str (mkS p.1))=WL at *;generalize wtD wt=DD at *;generalize WO.ltPv ls=LL at *;simp[fY,PU.start,el,eb,ei,f1]
theorem Bf{ls:WO.Lts}{c:Nat}(h:(WO.keyL ls c).isSome=true):∃l∈ls,(WO.keyL ls c).getD 0=l.1:=by
 unfold WO.keyL at h ⊢;cases e:ls.find? fun l=>decide (c∈l.2) with
 | none=>rw[e] at h;cases h
 | some l=>exact⟨l,Kg e,rfl⟩
theorem EH{ls:WO.Lts}(hk:∀l∈ls,l.1≠35){w:W}(hw:∀c∈w,(WO.keyL ls c).isSome=true):Code (cdH ls w):=by
 refine⟨cdW ls w,rfl,fun z=>?_⟩;obtain⟨c,hc,e⟩:=JS.mp z;obtain⟨l,hl,e2⟩:=Bf (hw c hc);exact hk l hl (by rw[← e2,e])
section
variable{ls : WO.Lts}{wt : List (W×Str)}(hk : ∀l ∈ ls, l.1 ≠ 35)(hw : ∀p ∈ wt, ∀c ∈ p.1, (WO.keyL ls c).isSome = true)(nc : (wt.map fun p => cdH ls p.1).Nodup)
omit hk hw nc in
theorem Hc:∀x∈wC ls wt,x.1≠[]:=fun x hx=>by
 obtain⟨p,_,rfl⟩:=JS.mp hx;exact zi _ _ (by simp[cdH])
include hk hw nc
theorem BI:∀c∈(wt.map (·.1)).map (cdH ls),Code c:=fun c hc=>by
 obtain⟨w,hwm,rfl⟩:=JS.mp hc;obtain⟨p,hp,rfl⟩:=JS.mp hwm;exact EH hk (hw p hp)
omit hk hw in
theorem EJ{p q:W×Str}(hp:p∈wt)(hq:q∈wt)(e:cdH ls p.1=cdH ls q.1):p=q:=
 oW (fun p:W×Str=>cdH ls p.1) wt nc p hp q hq e
theorem Hb:∀x∈wC ls wt,∀y∈wC ls wt,x.1 <+: y.1->x=y:=fun x hx y hy h=>by
 obtain⟨p,hp,rfl⟩:=JS.mp hx;obtain⟨q,hq,rfl⟩:=JS.mp hy;have m:∀{p:W×Str},p∈wt->cdH ls p.1∈(wt.map (·.1)).map (cdH ls):=fun hp=>JS.mpr ⟨_,JS.mpr ⟨_,hp,rfl⟩,rfl⟩;have:=uq (BI hk hw nc) (m hp) (m hq) h (O0 _);rw[EJ nc hp hq this]
end
theorem Bq (H:PV) (rs:FA.Rooms) (hR:gIx H (.str "rooms")=some (au rs)) (hl:rs.length<=1000) (Dn:Str->PV) (hD:∀n∈FA.names rs,aG [H,.str n]=some (Dn n)) (hF:∀n∈FA.names rs,noFn (Dn n)=true):∃ks ps,bq [H]=some (.dct ks ps)/\(∀n∈FA.names rs,gIx (.dct ks ps) (.str n)=some (Dn n))/\noFn (.dct ks ps)=true:=by
 have hnl:(FA.names rs).length=rs.length:=by simp[FA.names]
 obtain⟨ρ',f1,ks,ps,a,rfl,h1,h2,h3,h4⟩:=forM (enc:=PV.str) (xs:=FA.names rs) (h:=aC 2) (g:=eT) (ρ:=[.val H,.own (.dct [] []),.no])
  (I:=fun pre ρ=>∃ks ps a,ρ=[.val H,.own (.dct ks ps),a]/\ks.length=ps.length/\ks.length<=pre.length/\(∀n∈pre,bT ks ps (.inr n)=some (Dn n))/\∀x∈ps,noFn x=true) ⟨[],[],.no,rfl,rfl,by simp,by simp,by simp⟩ (by
   rintro pre n post ρ hx ⟨ks,ps,a,rfl,h1,h2,h3,h4⟩;have hn:n∈FA.names rs:=by rw[hx];simp
   have hpl:pre.length<=1000:=by
    have:=congrArg Lj hx;rw[KF] at this;omega
   obtain⟨ks',ps',e,g1,g2,g3⟩:=BG.look_put ks ps (.inr n) (Dn n) h1;have z:ks.length<16777216:=by omega
   have ed:=hD n hn;refine⟨_,[.val H,.own (.dct ks' ps'),.val (.str n)],pM _,.inl ?_,ks',ps',_,rfl,g1,by simp;omega,fun m hm=>?_,fun x hx=>(u4 e hx).elim (h4 x) fun z=>z▸hF n hn⟩
   ·simp[eT,ed,z,e]
   ·rw[g3]
    by_cases hmn:n=m
    ·rw[if_pos (by rw[hmn]),hmn]
    ·rw[if_neg fun z=>hmn (Lw z)]
     rcases Kd.mp hm with hm | hm
     ·exact h3 m hm
     ·exact absurd (JX.mp hm).symm hmn)
 refine⟨ks,ps,aF rfl ?_,h3,by have:=(fW ps).mpr h4;simpa [noFn] using this⟩;have ei:=FA.keys_rooms rs;generalize (FA.names rs).map PV.str=NL at *;generalize au rs=RM at *;simp[fZ,PU.start,hR,ei,f1]
theorem vt(spans:List (Int×Int×Str))(last:Str)(hour:Int):jC [(Room.hours spans last).pv,.int hour]=some (.str (FA.handOf spans last hour)):=by
 refine aF rfl ?_
 obtain⟨k1,k2⟩:=iu (enc:=pv3) (h:=jq 3 (bt (aC 2) (bt (aC 3) (bt (aC 4) jv)))) (g:=f6) (FA.holds hour) (fun s=>PV.str s.2.2)
  (I:=fun ρ=>∃a b c,ρ=[.val (Room.hours spans last).pv,.val (.int hour),a,b,c]) (by
   rintro s ρ ⟨a,b,c,rfl⟩;refine⟨_,rfl,fun hp=>?_,fun hp=>⟨_,?_,.val (.int s.1),.val (.int s.2.1),.val (.str s.2.2),rfl⟩⟩
   ·unfold FA.holds at hp
    simp only[Ks,decide_eq_true_eq] at hp;simp[f6,hp.1,hp.2]
   ·unfold FA.holds at hp
    by_cases h1:s.1<=hour
    ·have h2:¬ hour<s.2.1:=by simpa [h1] using hp
     simp[f6,h1,h2]
    ·simp[f6,h1]) spans [.val (Room.hours spans last).pv,.val (.int hour),.no,.no,.no] ⟨_,_,_,rfl⟩
 unfold FA.handOf;cases e:spans.find? (FA.holds hour) with
 | some s=>
  have k:=k1 s e;simp only[Room.pv] at k ⊢;simp[jz,PU.start];rw[k];rfl
 | none=>
  obtain⟨ρ',k,a,b,c,rfl⟩:=k2 e;simp only[Room.pv] at k ⊢;simp[jz,PU.start];rw[k];simp
theorem vS (H:PV) (rs:FA.Rooms) (hR:gIx H (.str "rooms")=some (au rs)) (hour:Int) (a:Sl):∀(n N:Nat) (x y:Str),n<=N->NM.comeGo rs hour n x=some y->
  whF (dZ (aq (aq (aq (aq (getV 0) (kS "rooms") gIx) (getV 3) gIx) (kI 0) gIx) (kS "hours") gEq)) fG N [.val H,.val (.int hour),a,.val (.str x)]=.ok (.next [.val H,.val (.int hour),a,.val (.str y)])
 | 0,N,x,y,h,e=>by cases e
 | n+1,0,x,y,h,e=>by omega
 | n+1,N+1,x,y,h,e=>by
  have n2:=FA.ix_rooms rs x;unfold NM.comeGo at e;unfold whF;cases hr:FA.lookR rs x with
  | none=>rw[hr] at e;cases e
  | some r=>
   rw[hr] at e n2;have n2:gIx (au rs) (.str x)=some r.pv:=n2;cases r with
   | hours sp l=>
    have n3:gIx (Room.hours sp l).pv (.int 0)=some (.str "hours"):=rfl;have n4:=vt sp l hour;have ih:=vS H rs hR hour a n N (FA.handOf sp l hour) y (by omega) e;have t:dZ (aq (aq (aq (aq (getV 0) (kS "rooms") gIx) (getV 3) gIx) (kI 0) gIx) (kS "hours") gEq) [.val H,.val (.int hour),a,.val (.str x)]=.ok true:=by simp[hR,n2,n3]
    have b:fG [.val H,.val (.int hour),a,.val (.str x)]=.ok (.next [.val H,.val (.int hour),a,.val (.str (FA.handOf sp l hour))]):=by simp[fG,hR,n2,n4]
    simp only[t,R.ok_bind,if_true,b];exact ih
   | menu t ks wr wa=>
    have n3:gIx (Room.menu t ks wr wa).pv (.int 0)=some (.str "menu"):=rfl;have t:dZ (aq (aq (aq (aq (getV 0) (kS "rooms") gIx) (getV 3) gIx) (kI 0) gIx) (kS "hours") gEq) [.val H,.val (.int hour),a,.val (.str x)]=.ok false:=by simp[hR,n2,n3]
    cases e;simp only[t,R.ok_bind,Km,if_false]
   | names t ks wr wa=>
    have n3:gIx (Room.names t ks wr wa).pv (.int 0)=some (.str "names"):=rfl;have t:dZ (aq (aq (aq (aq (getV 0) (kS "rooms") gIx) (getV 3) gIx) (kI 0) gIx) (kS "hours") gEq) [.val H,.val (.int hour),a,.val (.str x)]=.ok false:=by simp[hR,n2,n3]
    cases e;simp only[t,R.ok_bind,Km,if_false]
   | hand t=>
    have n3:gIx (Room.hand t).pv (.int 0)=some (.str "hand"):=rfl;have t:dZ (aq (aq (aq (aq (getV 0) (kS "rooms") gIx) (getV 3) gIx) (kI 0) gIx) (kS "hours") gEq) [.val H,.val (.int hour),a,.val (.str x)]=.ok false:=by simp[hR,n2,n3]
    cases e;simp only[t,R.ok_bind,Km,if_false]
   | fin t=>
    have n3:gIx (Room.fin t).pv (.int 0)=some (.str "end"):=rfl;have t:dZ (aq (aq (aq (aq (getV 0) (kS "rooms") gIx) (getV 3) gIx) (kI 0) gIx) (kS "hours") gEq) [.val H,.val (.int hour),a,.val (.str x)]=.ok false:=by simp[hR,n2,n3]
    cases e;simp only[t,R.ok_bind,Km,if_false]
theorem BL (H:PV) (rs:FA.Rooms) (hR:gIx H (.str "rooms")=some (au rs)) (hour:Int) (n:Nat) (x y:Str) (hn:n<=300) (e:NM.comeGo rs hour n x=some y):iz [H,.int hour,.str x]=some (.str y):=by
 refine aF rfl ?_;have k:=vS H rs hR hour (.val (.str x)) n 300 x y hn e;simp only[kA,PU.start,JQ,M3,KU,Lb,KZ,Lz,Mh,t5,Ce,Ab,pN,DV,GM,lS,Qv,Qu,FI,k,yM]
theorem BO(ns:List Int)(k:Nat):aw [.lst (ns.map .int),.int k]=some (.int (ns.getD k 0)):=by
 refine aF rfl ?_
 by_cases hk:k<ns.length
 ·have h2:(k:Int)<ns.length:=by omega
  have h3:atI (ns.map PV.int) (k:Int)=some (.int ns[k]):=gH rfl (by simp[hk]);simp[dF,PU.start,h2,h3,hk]
 ·have h2:¬ (k:Int)<ns.length:=by omega
  simp[dF,PU.start,h2,hk]
theorem pX(cell:Int)(many:Nat)(hm:many<=100):∃ls:List Int,ls.length=many/\(∀x∈ls,0<=x)/\aY [.int cell,.int many]=some (.lst (ls.map .int)):=by
 by_cases h2:cell % 2=1
 ·obtain⟨ρ',f1,ls,n,a,rfl,h1,h3⟩:=forR (n:=many) (lo:=0) (h:=aC 4) (g:=dX) (ρ:=[.val (.int cell),.val (.int many),.own (.lst []),.val (.int (cell / 2)),.no])
   (I:=fun i ρ=>∃(ls:List Int)(n:Int)(a:Sl),ρ=[.val (.int cell),.val (.int many),.own (.lst (ls.map .int)),.val (.int n),a]/\ls.length=i/\∀x∈ls,0<=x) ⟨[],_,_,rfl,rfl,by simp⟩ (by
    rintro i ρ hi ⟨ls,n,a,rfl,h1,h3⟩;have hq:ls.length<16777216:=by omega
    refine⟨_,[.val (.int cell),.val (.int many),.own (.lst ((ls++[n % 5040]).map .int)),.val (.int (n / 5040)),.val (.int (0+(i:Int)))],rfl,.inl ?_,ls++[n % 5040],n / 5040,_,rfl,by simp[h1],fun x hx=>?_⟩
    ·simp (disch:=omega) [dX,iH,Ah,hq]
    ·rcases Kd.mp hx with hx | hx
     ·exact h3 x hx
     ·rw[JX.mp hx];omega)
  refine⟨ls,h1,h3,aF rfl ?_⟩;simp (disch:=omega) [dE,PU.start,iH,Ah,h2,tf];rw[f1];simp
 ·obtain⟨ρ',f1,ls,n,a,rfl,h1,h3⟩:=forR (n:=many+1) (lo:=0) (h:=aC 4) (g:=dW) (ρ:=[.val (.int cell),.val (.int many),.own (.lst []),.val (.int (cell / 2 % 2147483647)),.no])
   (I:=fun i ρ=>∃(ls:List Int)(n:Int)(a:Sl),ρ=[.val (.int cell),.val (.int many),.own (.lst (ls.map .int)),.val (.int n),a]/\ls.length=i/\∀x∈ls,0<=x) ⟨[],_,_,rfl,rfl,by simp⟩ (by
    rintro i ρ hi ⟨ls,n,a,rfl,h1,h3⟩;have hq:ls.length<16777216:=by omega
    rw[PB];have m1:ve (.int (n+(i:Int)+1)) (.int 48271)=some (.int ((n+(i:Int)+1) * 48271)):=wN (.inr (by decide));have m2:∀z:Int,ve (.int z) (.int 69621)=some (.int (z * 69621)):=fun z=>wN (.inr (by decide));refine⟨_,[.val (.int cell),.val (.int many),.own (.lst ((ls++[(n+(i:Int)+1) * 48271 % 2147483647 * 69621 % 2147483629]).map .int)),.val (.int ((n+(i:Int)+1) * 48271 % 2147483647)),.val (.int (i:Int))],rfl,.inl ?_,_,_,_,rfl,by simp[h1],fun x hx=>?_⟩
    ·simp (disch:=omega) [dW,iH,m1,m2,hq]
    ·rcases Kd.mp hx with hx | hx
     ·exact h3 x hx
     ·rw[JX.mp hx];omega)
  refine⟨ls.drop 1,by simp[h1],fun x hx=>h3 x (List.mem_of_mem_drop hx),aF rfl ?_⟩;have e1:(((many:Int)+1)).toNat=many+1:=by omega
  have e2:=NM.cut_1 (ls.map PV.int) (by rw[JT];omega);simp (disch:=omega) [dE,PU.start,iH,Ah,h2,tf,e1];rw[f1];simp[e2]
end K39
namespace K39
open PySem L2 PU MT NM BG NW
noncomputable def c20:List Nat:=[98,99,100,102,103,104,106,108,109,110,112,113,114,115,116,118,119,120,121,122]
theorem EX:("bcdfghjlmnpqrstvwxyz":Str)=mkS c20:=by decide +kernel
theorem yz:∀i:Fin 20,∀j:Fin 20,c20.getD i.1 0=c20.getD j.1 0->i.1=j.1:=by decide +kernel
theorem BS(i j:Nat)(hi:i<20)(hj:j<20)(e:c20.getD i 0=c20.getD j 0):i=j:=yz ⟨i,hi⟩ ⟨j,hj⟩ e
def sgn(ls:List Int)(at_:Int)(t k:Nat):Nat:=c20.getD ((ls.getD k 0+3 * (t:Int) * (if (k:Int)=at_ then 1 else 0)) % 20).toNat 0
def cds(ls:List Int)(at_:Int)(t i:Nat):List Nat:=(KQ i).map (sgn ls at_ t)
abbrev nst(c:Int)(ls:List Int)(size at_:Int)(done:List PV)(a b d:Sl):PSt:=
 [.val (.int c),.val (.str (mkS c20)),.val (.lst (ls.map .int)),.val (.int size),.val (.int at_),.own (.lst done),a,b,d]
theorem xK(c:Int)(ls:List Int)(size at_:Int)(done:List PV)(t k:Nat)(x:List Nat)(hl:ls.length=10)(hk:k<8)(hx:x.length<=100) :
  dI (nst c ls size at_ done (.val (.int t)) (.val (.str (mkS x))) (.val (.int k)))=.ok (.next (nst c ls size at_ done (.val (.int t)) (.val (.str (mkS (x++[sgn ls at_ t k])))) (.val (.int k)))):=by
 have i1:atI (ls.map PV.int) (k:Int)=some (.int (ls.getD k 0)):=by
  rw[nR ls k (by omega),LO,KO (by omega)];rfl
 have m1:ve (.int 3) (.int t)=some (.int (3 * t)):=wN (.inl (by decide));have hq:(if (k:Int)=at_ then (1:Int) else 0).natAbs<18446744073709551616:=by split <;> decide
 have m2:ve (.int (3 * (t:Int))) (.int (if (k:Int)=at_ then 1 else 0))=some (.int (3 * (t:Int) * (if (k:Int)=at_ then 1 else 0))):=wN (.inr hq);have h3:∀z:Int,gIx (.str (mkS c20)) (.int (z % 20))=some (.str ⟨#[c20.getD (z % 20).toNat 0]⟩):=fun z=>xT c20 (z % 20) (by omega) (by show _<(20:Int);omega) (by decide);have h4:=gy x (sgn ls at_ t k) (by omega);unfold sgn at h4 ⊢;simp (disch:=omega) [-LO,dI,nst,i1,m1,m2,iH,h3,h4]
theorem xJ(c:Int)(ls:List Int)(size:Nat)(at_:Int)(done:List PV)(t:Nat)(b d:Sl)(hl:ls.length=10)(hs:size<=8)(hd:done.length<=100):∃d',
  dH (nst c ls size at_ done (.val (.int t)) b d)=.ok (.next (nst c ls size at_ (done++[.str (mkS (cds ls at_ t size))]) (.val (.int t)) (.val (.str (mkS (cds ls at_ t size)))) d')):=by
 obtain⟨ρ',f1,d',rfl⟩:=forR (n:=size) (lo:=0) (h:=aC 8) (g:=dI) (ρ:=nst c ls size at_ done (.val (.int t)) (.val (.str (mkS []))) d)
  (I:=fun i ρ=>∃d,ρ=nst c ls size at_ done (.val (.int t)) (.val (.str (mkS (cds ls at_ t i)))) d) ⟨d,rfl⟩ (by
   rintro i ρ hi ⟨d,rfl⟩;have e:=xK c ls size at_ done t i (cds ls at_ t i) hl (by omega) (by simp[cds];omega);have:cds ls at_ t (i+1)=cds ls at_ t i++[sgn ls at_ t i]:=by simp[cds,Mg]
   rw[PB,this];exact⟨_,_,rfl,.inl e,_,rfl⟩)
 refine⟨d',?_⟩;have hq:done.length<16777216:=by omega
 simp (disch:=omega) [dH,fE,tf];rw[f1];simp[hq]
theorem names (c:Int):∃nms:List Str,nms.length=5/\nms.Nodup/\(∀x∈nms,x≠"back"/\x≠"")/\dU [.int c]=some (.lst (nms.map .str)):=by
 obtain⟨ls,l1,l2,el⟩:=pX c 10 (by omega);have el:aY [.int c,.int 10]=some (.lst (ls.map .int)):=el;have i8:atI (ls.map PV.int) 8=some (.int ls[8]):=nR ls 8 (by omega);have i9:atI (ls.map PV.int) 9=some (.int ls[9]):=nR ls 9 (by omega);generalize ls[8]=z8 at i8;generalize ls[9]=z9 at i9;obtain⟨size,hsz,h1,h8⟩:∃size:Nat,(1+z8 % 8)=(size:Int)/\1<=size/\size<=8:=⟨(1+z8 % 8).toNat,by omega,by omega,by omega⟩;obtain⟨at_,hat,ha0,ha1⟩:∃at_:Int,z9 % (size:Int)=at_/\0<=at_/\at_<size:=⟨z9 % (size:Int),rfl,Pl _ (by omega),RG _ (by omega)⟩
 obtain⟨ρ',f1,a,b,d,rfl⟩:=forR (n:=5) (lo:=0) (h:=aC 6) (g:=dH) (ρ:=nst c ls size at_ [] .no .no .no)
  (I:=fun i ρ=>∃a b d,ρ=nst c ls size at_ ((KQ i).map fun t=>.str (mkS (cds ls at_ t size))) a b d) ⟨_,_,_,rfl⟩ (by
   rintro i ρ hi ⟨a,b,d,rfl⟩;obtain⟨d',e⟩:=xJ c ls size at_ ((KQ i).map fun t=>.str (mkS (cds ls at_ t size))) i b d l1 h8 (by simp;omega);rw[PB,Mg,KL];exact⟨_,_,rfl,.inl e,_,_,_,rfl⟩)
 refine⟨(KQ 5).map fun t=>mkS (cds ls at_ t size),by simp,?_,?_,aF rfl ?_⟩
 ·unfold Qx
  rw[P1];refine NF (R:=fun a b=>a<b) (fun {i j} hi hj hij e=>?_) OE;rw[LD] at hi hj;have e:=BG.mkS_inj e;have hs:at_.toNat<size:=by omega
  have e2:=congrArg (fun l:List Nat=>l[at_.toNat]?) e;simp only[cds,K2,NQ hs,O9] at e2;have e3:sgn ls at_ i at_.toNat=sgn ls at_ j at_.toNat:=Kl e2;unfold sgn at e3;rw[if_pos (by omega)] at e3;have e4:=BS _ _ (by omega) (by omega) e3;omega
 ·intro x hx
  obtain⟨t,_,rfl⟩:=JS.mp hx;have hb:("back":Str)=mkS [98,97,99,107]:=by decide +kernel
  refine⟨fun e=>?_,fun e=>?_⟩
  ·rw[hb] at e
   have e:=BG.mkS_inj e;have m:97∈cds ls at_ t size:=by rw[e];simp
   obtain⟨k,_,ek⟩:=JS.mp m;have:∀z:Nat,z<20->c20.getD z 0≠97:=by decide +kernel
   exact this _ (by omega) ek
  ·rw[fE] at e
   have e:=BG.mkS_inj e;have:=congrArg Lj e;simp[cds] at this;omega
 ·simp only[nst] at f1
  have hsz0:(0:Int)<size:=by omega
  simp (disch:=omega) [-K4,gT,PU.start,EX,el,i8,i9,iH,hsz,hat,tf];rw[f1];simp
def enc(w:W):PV:=.str (mkS w)
def W8:List W:=[[98,111],[108,101,101]]
noncomputable def LSa:WO.Lts:=[(51,[100,101,102]),(52,[97,98,99]),(53,[106,107,108]),(54,[109,110,111])]
class LX where
 ls:WO.Lts
 two:ls=LSa\/ls=LSa
def LS5[LX]:WO.Lts:=LX.ls
theorem oM[LX]:LS5=LSa\/LS5=LSa:=LX.two
theorem DK[LX]:∀w∈W8,∀c∈w,(WO.keyL LS5 c).isSome=true:=by rcases oM with h | h <;> rw[h] <;> decide +kernel
theorem GK[LX]:(W8.map (cdH LS5)).Nodup:=by rcases oM with h | h <;> rw[h] <;> decide +kernel
theorem GJ[LX]:∀l∈LS5,l.1≠35:=by rcases oM with h | h <;> rw[h] <;> decide +kernel
theorem FV:W8.Nodup:=by decide +kernel
theorem yQ:∀w∈W8,w.length<=4:=by decide +kernel
theorem lpa:PV.lst [.tup [.str "3",.str "def"],.tup [.str "4",.str "abc"],.tup [.str "5",.str "jkl"],.tup [.str "6",.str "mno"]]=WO.ltPv LSa:=by kernel_rfl
def K12:List Nat:=[48,49,50,51,52,53,54,55,56,57,42,35]
noncomputable def E12:List (Nat×Nat):=[(0,48),(1,49),(2,50),(3,51),(4,52),(5,53),(6,54),(7,55),(8,56),(9,57),(10,42),(11,35)]
def e12(p:Nat×Nat):PV:=.tup [.int p.1,WO.sg p.2]
theorem Ez:sL (.str "0123456789*#")=some (E12.map e12):=by kernel_rfl
theorem H9:E12.map (·.2)=K12:=by decide
theorem Ey:∀p∈E12,p.1<12:=by decide
theorem E3:K12.Nodup:=by decide
def pvk(p:Nat×Str):PV:=.tup [WO.sg p.1,.str p.2]
def mk2(p:Nat×Str):Str×Str:=(⟨#[p.1]⟩,p.2)
theorem zr(ks:List (Nat×Str)):(ks.map mk2).map pv2=ks.map pvk:=by rw[K4];rfl
def mw2(p:W×Str):Str×Str:=(mkS p.1,p.2)
theorem DF(wt:List (W×Str)):PV.tup ((wt.map mw2).map pv2)=yP wt:=by rw[K4];rfl
def RW(nms:List Str):Room->Prop
 | .menu _ ks wr wa=>(∃kt:List (Nat×Str),ks=kt.map mk2/\Ms (kt.map (·.1)) K12/\∀k∈kt,k.2="back"\/k.2∈nms)/\wr.2∈nms/\wa.2∈nms/\(1<=wr.1/\wr.1<=2)/\(1<=wa.1/\wa.1<=2)
 | .names _ ws wr wa=>(∃wt:List (W×Str),ws=wt.map mw2/\Ms (wt.map (·.1)) W8/\wt≠[]/\∀p∈wt,p.2∈nms)/\wr.2∈nms/\wa.2∈nms/\(1<=wr.1/\wr.1<=2)/\(1<=wa.1/\wa.1<=2)
 | _=>True
def Fit(nms ord:List Str)(r:Str×Room):Prop:=∃(k:Nat)(hk:k<ord.length),ord[k]=r.1/\(∀sp l,r.2=.hours sp l->l∈ord.drop (k+1)/\∀s∈sp,s.2.2∈ord.drop (k+1))/\RW nms r.2
structure Good(nms ord:List Str)(rs:FA.Rooms):Prop where
 ok:∀r∈rs,Fit nms ord r
 nd:(rs.map (·.1)).Nodup
theorem Ai(rs:FA.Rooms):au rs=.dct (rs.map fun r=>.inr r.1) (rs.map fun r=>r.2.pv):=rfl
theorem vR(nms ord:List Str)(rs:FA.Rooms)(nd:ord.Nodup)(g:Good nms ord rs)(hall:∀x∈ord,x∈FA.names rs)(hour:Int):∀(n k:Nat)(hk:k<ord.length),ord.length-k<=n->∃y r,comeGo rs hour n ord[k]=some y/\FA.lookR rs y=some r/\y∈ord/\∀sp l,r≠.hours sp l
 | 0,k,hk,h=>by omega
 | n+1,k,hk,h=>by
  obtain⟨r,hr⟩:=FA.look_some rs ord[k] (hall _ (MV hk));obtain⟨k',hk',e,ht,_⟩:=g.ok _ (ki rs _ r hr);have ek:k'=k:=(PP nd).mp e;subst ek;unfold comeGo;rw[hr]
  by_cases hh:∃sp l,r=.hours sp l
  ·obtain⟨sp,l,rfl⟩:=hh
   obtain⟨h1,h2⟩:=ht sp l rfl
   have hin:FA.handOf sp l hour∈ord.drop (k'+1):=by
    unfold FA.handOf;cases e:sp.find? (FA.holds hour) with
    | none=>exact h1
    | some s=>exact h2 s (Kg e)
   obtain⟨j,hj,e2⟩:=Lu hin;rw[PN] at hj;rw[List.getElem_drop] at e2;dsimp only;rw[← e2];exact vR nms ord rs nd g hall hour n (k'+1+j) (by omega) (by omega)
  ·refine⟨ord[k'],r,?_,hr,MV _,fun sp l e=>hh ⟨sp,l,e⟩⟩
   cases r with
   | hours sp l=>exact absurd ⟨sp,l,rfl⟩ hh
   | _=>rfl
structure HG[LX](h:House)(nms ord:List Str):Prop where
 nd:ord.Nodup
 ol:ord.length<=20
 g:Good nms ord h.rooms
 all:∀x∈ord,x∈FA.names h.rooms
 nm:∀x∈nms,x∈ord
 mn:∀x∈ord,x∈nms
 nb:∀x∈nms,x≠"back"/\x≠""
 fst:h.first∈nms
 lets:gIx h.pv (.str "letters")=some (WO.ltPv LS5)
 rl:h.rooms.length<=20
 nl:nms.length<=7
noncomputable def ltS(ls:WO.Lts):List (Str×Str):=ls.map fun l=>(⟨#[l.1]⟩,mkS l.2)
theorem zw(ls:WO.Lts):PV.lst ((ltS ls).map pv2)=WO.ltPv ls:=by
 unfold ltS WO.ltPv;rw[K4];rfl
noncomputable def sT(r b:Str)(w v:Int)(t:W):PV:=.tup [.str r,.str b,.int w,.int v,.str (mkS t)]
structure St where
 r:Str
 b:Str
 w:Int
 v:Int
 t:W
deriving DecidableEq
def St.pv(s:St):PV:=sT s.r s.b s.w s.v s.t
section
variable[LX]
def beg(wt:List (W×Str))(w:W):W:=own ((wt.map (·.1)).map (cdH LS5)) (cdH LS5 w)
def TY:Room->W->Prop
 | .menu ..,t=>t=[]
 | .names _ ws _ _,t=>∀wt:List (W×Str),ws=wt.map mw2->(t=[]\/∃p∈wt,t <+: beg wt p.1/\t≠beg wt p.1)
 | _,t=>t=[]
theorem tm(r:Room):TY r []:=by
 cases r with
 | names=>exact fun _ _=>.inl rfl
 | _=>exact rfl
noncomputable def wrB:Room->Int
 | .menu _ _ wr _=>wr.1
 | .names _ _ wr _=>wr.1
 | _=>2
noncomputable def waB:Room->Int
 | .menu _ _ _ wa=>wa.1
 | .names _ _ _ wa=>wa.1
 | _=>2
theorem RW.b{nms:List Str}{room:Room}(h:RW nms room):(1<=wrB room/\wrB room<=2)/\1<=waB room/\waB room<=2:=by
 cases room with
 | menu t ks wr wa=>exact⟨h.2.2.2.1,h.2.2.2.2⟩
 | names t ks wr wa=>exact⟨h.2.2.2.1,h.2.2.2.2⟩
 | _=>exact⟨⟨show (1:Int)<=2 by decide,show (2:Int)<=2 by decide⟩,show (1:Int)<=2 by decide,show (2:Int)<=2 by decide⟩
structure OK(h:House)(nms:List Str)(r b:Str)(room:Room)(w v:Int)(t:W):Prop where
 lk:FA.lookR h.rooms r=some room
 nh:∀sp l,room≠.hours sp l
 rn:r∈nms
 bn:b=""\/b∈nms
 tl:t.length<=50
 ty:TY room t
 hw:0<=w/\w<wrB room
 hv:0<=v/\v<waB room
def Ok(h:House)(nms:List Str)(s:St):Prop:=∃room,OK h nms s.r s.b room s.w s.v s.t
def cmS (h:House) (hour:Int) (x:Str):Str:=(comeGo h.rooms hour 20 x).getD ""
def arS(h:House)(hour:Int)(x b:Str):St:=⟨cmS h hour x,b,0,0,[]⟩
def wrS(h:House)(hour:Int)(r b:Str)(w v:Int)(wr:Int×Str):St:=if w+1=wr.1 then arS h hour wr.2 r else ⟨r,b,w+1,v,[]⟩
def waS(h:House)(hour:Int)(r b:Str)(w v:Int)(wa:Int×Str):St:=if v+1=wa.1 then arS h hour wa.2 r else ⟨r,b,w,v+1,[]⟩
def goS(h:House)(hour:Int)(r b:Str)(w v:Int)(wr:Int×Str)(o:Option (Option Str))(t:W):St:=match o with
 | none=>wrS h hour r b w v wr
 | some none=>⟨r,b,w,v,t⟩
 | some (some x)=>if x=JK "back" then (if b=JK "" then wrS h hour r b w v wr else arS h hour b r) else arS h hour x r
section
variable{h : House}{nms ord : List Str}(hg : HG h nms ord)(hour : Int)
include hg
theorem hRo:gIx h.pv (.str "rooms")=some (au h.rooms):=by simp[House.pv]
theorem sE(r:Str)(room:Room)(lk:FA.lookR h.rooms r=some room):RW nms room:=by
 obtain⟨_,_,_,_,hw⟩:=hg.g.ok _ (ki h.rooms r room lk);exact hw
theorem cm (x:Str) (hx:x∈nms):comeGo h.rooms hour 20 x=some (cmS h hour x)/\∃room,∀b:Str,(b=""\/b∈nms)->OK h nms (cmS h hour x) b room 0 0 []:=by
 obtain⟨k,hk,ek⟩:=Lu (hg.nm x hx);obtain⟨y,r,ey,hr,hy,hh⟩:=vR nms ord h.rooms hg.nd hg.g hg.all hour 20 k hk (by have:=hg.ol;omega);rw[ek] at ey;have bb:=(sE hg y r hr).b;have ec:cmS h hour x=y:=by unfold cmS;rw[ey];rfl
 rw[ec];exact⟨ey,r,fun b hb=>⟨hr,hh,hg.mn y hy,hb,by simp,tm r,⟨by omega,by omega⟩,⟨by omega,by omega⟩⟩⟩
theorem arr (x:Str) (hx:x∈nms) (b:Str) (hb:b=""\/b∈nms):Ok h nms (arS h hour x b)/\bU [h.pv,.int hour,.str x,.str b]=some (arS h hour x b).pv:=by
 obtain⟨e,room,ok⟩:=cm hg hour x hx;refine⟨⟨room,ok b hb⟩,?_⟩;have k:=BL h.pv h.rooms (hRo hg) hour 20 x _ (by omega) e;refine aF rfl ?_;have em:=fE
 have u:(arS h hour x b).pv=.tup [.str (cmS h hour x),.str b,.int 0,.int 0,.str ""]:=by
  show sT (cmS h hour x) b 0 0 []=_;unfold sT;rw[← em]
 rw[u];generalize cmS h hour x=y at *;simp[kD,PU.start,k]
theorem wrong(r b:Str)(w v:Int)(t:W)(room:Room)(ok:OK h nms r b room w v t)(wr:Int×Str)(h3:gIx room.pv (.int 3)=some (.tup [.int wr.1,.str wr.2]))(hm:wrB room=wr.1)(hx:wr.2∈nms) :
  Ok h nms (wrS h hour r b w v wr)/\bJ [h.pv,.int hour,sT r b w v t]=some (wrS h hour r b w v wr).pv:=by
 have n2:=FA.ix_rooms h.rooms r;rw[ok.lk] at n2;have n2:gIx (au h.rooms) (.str r)=some room.pv:=n2;have hR:=hRo hg;have em:=fE;unfold wrS
 by_cases hw:w+1=wr.1
 ·rw[if_pos hw]
  obtain⟨ok',e1⟩:=arr hg hour wr.2 hx r (.inr ok.rn);refine⟨ok',aF rfl ?_⟩;unfold sT;generalize (arS h hour wr.2 r).pv=AP at *;generalize mkS t=T at *;generalize room.pv=RP at *;generalize au h.rooms=RM at *;generalize h.pv=H at *;simp[dj,PU.start,hR,n2,h3,hw,e1]
 ·rw[if_neg hw]
  have hw1:=ok.hw;refine⟨⟨room,ok.lk,ok.nh,ok.rn,ok.bn,by simp,tm room,⟨by show 0<=w+1;omega,by show w+1<wrB room;omega⟩,ok.hv⟩,aF rfl ?_⟩
  have u:St.pv ⟨r,b,w+1,v,[]⟩=.tup [.str r,.str b,.int (w+1),.int v,.str ""]:=by
   show sT r b (w+1) v []=_;unfold sT;rw[← em]
  rw[u];unfold sT;generalize mkS t=T at *;generalize room.pv=RP at *;generalize au h.rooms=RM at *;generalize h.pv=H at *;simp[dj,PU.start,hR,n2,h3,hw]
theorem wait(r b:Str)(w v:Int)(t:W)(room:Room)(ok:OK h nms r b room w v t)(wa:Int×Str)(h3:gIx room.pv (.int 4)=some (.tup [.int wa.1,.str wa.2]))(hm:waB room=wa.1)(hx:wa.2∈nms) :
  Ok h nms (waS h hour r b w v wa)/\iA [h.pv,.int hour,sT r b w v t]=some (waS h hour r b w v wa).pv:=by
 have n2:=FA.ix_rooms h.rooms r;rw[ok.lk] at n2;have n2:gIx (au h.rooms) (.str r)=some room.pv:=n2;have hR:=hRo hg;have em:=fE;unfold waS
 by_cases hw:v+1=wa.1
 ·rw[if_pos hw]
  obtain⟨ok',e1⟩:=arr hg hour wa.2 hx r (.inr ok.rn);refine⟨ok',aF rfl ?_⟩;unfold sT;generalize (arS h hour wa.2 r).pv=AP at *;generalize mkS t=T at *;generalize room.pv=RP at *;generalize au h.rooms=RM at *;generalize h.pv=H at *;simp[ik,PU.start,hR,n2,h3,hw,e1]
 ·rw[if_neg hw]
  have hw1:=ok.hv;refine⟨⟨room,ok.lk,ok.nh,ok.rn,ok.bn,by simp,tm room,ok.hw,⟨by show 0<=v+1;omega,by show v+1<waB room;omega⟩⟩,aF rfl ?_⟩
  have u:St.pv ⟨r,b,w,v+1,[]⟩=.tup [.str r,.str b,.int w,.int (v+1),.str ""]:=by
   show sT r b w (v+1) []=_;unfold sT;rw[← em]
  rw[u];unfold sT;generalize mkS t=T at *;generalize room.pv=RP at *;generalize au h.rooms=RM at *;generalize h.pv=H at *;simp[ik,PU.start,hR,n2,h3,hw]
end
theorem G9(a b:Nat):gEq (WO.sg a) (WO.sg b)=some (.bl (decide (a=b))):=by
 unfold WO.sg;rw[wQ]
 congr 2
 exact decide_eq_decide.mpr ⟨fun e=>by injection e with e;injection e with e;injection e,fun e=>by rw[e]⟩
theorem Ip:PV.str "w"=WO.sg 119:=by kernel_rfl
theorem HM (c:Nat):gEq (WO.sg c) (.str "w")=some (.bl (decide (c=119))):=by rw[Ip,G9]
section
variable{h : House}{nms ord : List Str}(hg : HG h nms ord)(hour : Int)
include hg
structure Goes(h:House)(nms:List Str)(hour:Int)(D:PV)(st:PV)(c:Nat)(s':St):Prop where
 ok:Ok h nms s'
 fo:bR [h.pv,.int hour,D,st,WO.sg c]=some s'.pv
theorem rh (r b:Str) (w v:Int) (t:W) (room:Room) (ok:OK h nms r b room w v t) (c:Nat) (k:Str) (h0:gIx room.pv (.int 0)=some (.str k)) (hk:k="hand"\/k="end") (D:PV):Goes h nms hour D (sT r b w v t) c ⟨r,b,w,v,t⟩:=by
 have n2:=FA.ix_rooms h.rooms r;rw[ok.lk] at n2;have n2:gIx (au h.rooms) (.str r)=some room.pv:=n2;have hR:=hRo hg;have s0:gIx (sT r b w v t) (.int 0)=some (.str r):=rfl;refine⟨⟨room,ok⟩,aF rfl ?_⟩;show _=PU.R.ok (Fl.ret (sT r b w v t));generalize sT r b w v t=S at *;generalize room.pv=RP at *;generalize au h.rooms=RM at *;generalize h.pv=H at *;rcases hk with rfl | rfl
 ·simp[eI,PU.start,s0,hR,n2,h0]
 ·simp[eI,PU.start,s0,hR,n2,h0]
theorem zH (r b:Str) (w v:Int) (t:W) (room:Room) (ok:OK h nms r b room w v t) (k:Str) (h0:gIx room.pv (.int 0)=some (.str k)) (hk:k="menu"\/k="names") (wa:Int×Str) (h4:gIx room.pv (.int 4)=some (.tup [.int wa.1,.str wa.2])) (hm:waB room=wa.1) (hx:wa.2∈nms) (D:PV):Goes h nms hour D (sT r b w v t) 119 (waS h hour r b w v wa):=by
 obtain⟨ok',e1⟩:=wait hg hour r b w v t room ok wa h4 hm hx;have n2:=FA.ix_rooms h.rooms r;rw[ok.lk] at n2;have n2:gIx (au h.rooms) (.str r)=some room.pv:=n2;have hR:=hRo hg;have s0:gIx (sT r b w v t) (.int 0)=some (.str r):=rfl;have q:=HM 119;have cw:c_WAIT=.str "w":=rfl;refine⟨ok',aF rfl ?_⟩;generalize sT r b w v t=S at *;generalize (waS h hour r b w v wa).pv=S' at *;generalize room.pv=RP at *;generalize au h.rooms=RM at *;generalize h.pv=H at *;generalize WO.sg 119=G at *;rcases hk with rfl | rfl
 ·simp[eI,PU.start,s0,hR,n2,h0,cw,q,e1]
 ·simp[eI,PU.start,s0,hR,n2,h0,cw,q,e1]
theorem kK (r b:Str) (w v:Int) (t:W) (room:Room) (ok:OK h nms r b room w v t) (k:Str) (h0:gIx room.pv (.int 0)=some (.str k)) (hk:k="menu"\/k="names") (D X:PV) (c:Nat) (hc:c≠119) (e:dG [h.pv,.int hour,D,sT r b w v t,WO.sg c]=some X):bR [h.pv,.int hour,D,sT r b w v t,WO.sg c]=some X:=by
 have n2:=FA.ix_rooms h.rooms r;rw[ok.lk] at n2;have n2:gIx (au h.rooms) (.str r)=some room.pv:=n2;have hR:=hRo hg;have s0:gIx (sT r b w v t) (.int 0)=some (.str r):=rfl;have q:=HM c;rw[decide_eq_false hc] at q;have cw:c_WAIT=.str "w":=rfl;generalize sT r b w v t=S at *;generalize room.pv=RP at *;generalize au h.rooms=RM at *;generalize h.pv=H at *;generalize WO.sg c=G at *;refine aF rfl ?_;rcases hk with rfl | rfl
 ·simp[eI,PU.start,s0,hR,n2,h0,cw,q,e]
 ·simp[eI,PU.start,s0,hR,n2,h0,cw,q,e]
end
section
variable{h : House}{nms ord : List Str}(hg : HG h nms ord)(hour : Int)
theorem zE(r b:Str)(w v:Int)(t:W)(c:Nat)(ht:t.length<=100)(ks:List Key)(ps:List PV)(F:W->Option PV)(T:Tells ks ps F)(hF:F (t++[c])=none)(X:PV)(e:bJ [h.pv,.int hour,sT r b w v t]=some X):dG [h.pv,.int hour,.dct ks ps,sT r b w v t,WO.sg c]=some X:=by
 have ad:fK (.str (mkS t)) (WO.sg c)=some (.str (mkS (t++[c]))):=gy t c (by omega);have ni:=T.notIn (t++[c]);rw[hF] at ni;have ni:c5 (.str (mkS (t++[c]))) (.dct ks ps)=some (.bl true):=ni;have s4:gIx (sT r b w v t) (.int 4)=some (.str (mkS t)):=rfl;generalize sT r b w v t=S at *;generalize PV.dct ks ps=D at *;generalize WO.sg c=G at *;generalize mkS (t++[c])=TT at *;generalize h.pv=H at *;refine aF rfl ?_;simp[fD,PU.start,s4,ad,ni,e]
theorem Be(r b:Str)(w v:Int)(t:W)(c:Nat)(ht:t.length<=100)(ks:List Key)(ps:List PV)(F:W->Option PV)(T:Tells ks ps F)(hF:F (t++[c])=some .non):dG [h.pv,.int hour,.dct ks ps,sT r b w v t,WO.sg c]=some (sT r b w v (t++[c])):=by
 have ad:fK (.str (mkS t)) (WO.sg c)=some (.str (mkS (t++[c]))):=gy t c (by omega);have ni:=T.notIn (t++[c]);have ix:=T.ix (t++[c]);rw[hF] at ni ix;have ni:c5 (.str (mkS (t++[c]))) (.dct ks ps)=some (.bl false):=ni;have s0:gIx (sT r b w v t) (.int 0)=some (.str r):=rfl;have s1:gIx (sT r b w v t) (.int 1)=some (.str b):=rfl;have s2:gIx (sT r b w v t) (.int 2)=some (.int w):=rfl;have s3:gIx (sT r b w v t) (.int 3)=some (.int v):=rfl;have s4:gIx (sT r b w v t) (.int 4)=some (.str (mkS t)):=rfl;have q:gEq .non (.str "back")=some (.bl false):=rfl;have n:yd .non .non=some (.bl true):=rfl;generalize sT r b w v t=S at *;generalize PV.dct ks ps=D at *;generalize WO.sg c=G at *;unfold sT;generalize mkS (t++[c])=TT at *;generalize h.pv=H at *;refine aF rfl ?_;simp[fD,PU.start,s0,s1,s2,s3,s4,ad,ni,ix,q,n]
theorem zF (r b:Str) (w v:Int) (t:W) (c:Nat) (ht:t.length<=100) (ks:List Key) (ps:List PV) (F:W->Option PV) (T:Tells ks ps F) (x:Str) (hF:F (t++[c])=some (.str x)) (h1:x≠"back") (h2:x≠"") (X:PV) (e:bU [h.pv,.int hour,.str x,.str r]=some X):dG [h.pv,.int hour,.dct ks ps,sT r b w v t,WO.sg c]=some X:=by
 have ad:fK (.str (mkS t)) (WO.sg c)=some (.str (mkS (t++[c]))):=gy t c (by omega);have ni:=T.notIn (t++[c]);have ix:=T.ix (t++[c]);rw[hF] at ni ix;have ni:c5 (.str (mkS (t++[c]))) (.dct ks ps)=some (.bl false):=ni;have s0:gIx (sT r b w v t) (.int 0)=some (.str r):=rfl;have s1:gIx (sT r b w v t) (.int 1)=some (.str b):=rfl;have s4:gIx (sT r b w v t) (.int 4)=some (.str (mkS t)):=rfl;have n:yd (.str x) .non=some (.bl false):=rfl;generalize sT r b w v t=S at *;generalize PV.dct ks ps=D at *;generalize WO.sg c=G at *;generalize mkS (t++[c])=TT at *;generalize h.pv=H at *;refine aF rfl ?_;simp[fD,PU.start,s0,s1,s4,ad,ni,ix,h1,h2,n,e]
theorem xR (r b:Str) (w v:Int) (t:W) (c:Nat) (ht:t.length<=100) (ks:List Key) (ps:List PV) (F:W->Option PV) (T:Tells ks ps F) (hF:F (t++[c])=some (.str "back")) (h2:b≠"") (X:PV) (e:bU [h.pv,.int hour,.str b,.str r]=some X):dG [h.pv,.int hour,.dct ks ps,sT r b w v t,WO.sg c]=some X:=by
 have ad:fK (.str (mkS t)) (WO.sg c)=some (.str (mkS (t++[c]))):=gy t c (by omega);have ni:=T.notIn (t++[c]);have ix:=T.ix (t++[c]);rw[hF] at ni ix;have ni:c5 (.str (mkS (t++[c]))) (.dct ks ps)=some (.bl false):=ni;have s0:gIx (sT r b w v t) (.int 0)=some (.str r):=rfl;have s1:gIx (sT r b w v t) (.int 1)=some (.str b):=rfl;have s4:gIx (sT r b w v t) (.int 4)=some (.str (mkS t)):=rfl;have n:yd (.str b) .non=some (.bl false):=rfl;generalize sT r b w v t=S at *;generalize PV.dct ks ps=D at *;generalize WO.sg c=G at *;generalize mkS (t++[c])=TT at *;generalize h.pv=H at *;refine aF rfl ?_;simp[fD,PU.start,s0,s1,s4,ad,ni,ix,h2,n,e]
theorem qg (r:Str) (w v:Int) (t:W) (c:Nat) (ht:t.length<=100) (ks:List Key) (ps:List PV) (F:W->Option PV) (T:Tells ks ps F) (hF:F (t++[c])=some (.str "back")) (X:PV) (e:bJ [h.pv,.int hour,sT r "" w v t]=some X):dG [h.pv,.int hour,.dct ks ps,sT r "" w v t,WO.sg c]=some X:=by
 have ad:fK (.str (mkS t)) (WO.sg c)=some (.str (mkS (t++[c]))):=gy t c (by omega);have ni:=T.notIn (t++[c]);have ix:=T.ix (t++[c]);rw[hF] at ni ix;have ni:c5 (.str (mkS (t++[c]))) (.dct ks ps)=some (.bl false):=ni;have s0:gIx (sT r "" w v t) (.int 0)=some (.str r):=rfl;have s1:gIx (sT r "" w v t) (.int 1)=some (.str ""):=rfl;have s4:gIx (sT r "" w v t) (.int 4)=some (.str (mkS t)):=rfl;have n:yd (.str "") .non=some (.bl false):=rfl;generalize sT r "" w v t=S at *;generalize PV.dct ks ps=D at *;generalize WO.sg c=G at *;generalize mkS (t++[c])=TT at *;generalize h.pv=H at *;refine aF rfl ?_;simp[fD,PU.start,s0,s1,s4,ad,ni,ix,n,e]
noncomputable def kw(kt:List (Nat×Str)):List (W×Str):=kt.map fun p=>([p.1],p.2)
def kF(kt:List (Nat×Str))(p:W):Option PV:=((kw kt).find? fun q=>decide (q.1=p)).map fun q=>.str q.2
theorem iJ:∀(wt:List (W×Str)),Tells (wt.map fun p=>.inr (mkS p.1)) (wt.map fun p=>.str p.2) fun p=>(wt.find? fun q=>decide (q.1=p)).map fun q=>.str q.2
 | []=>⟨rfl,fun p=>rfl,by simp⟩
 | q::wt=>⟨by simp,fun p=>by
   rw[JQ,JQ,lE]
   by_cases h:q.1=p
   ·rw[if_pos (by rw[h]),Mr (by simpa using h)]
    rfl
   ·rw[if_neg fun z=>h (mkS_inj (Lw z)),M4 (by simpa using h)]
    exact(iJ wt).at_ p,fun x hx=>by
   obtain⟨p,_,rfl⟩:=JS.mp hx;simp[noFn]⟩
theorem Bd(kt:List (Nat×Str))(c:Nat):kF kt [c]=(kt.find? fun q=>decide (q.1=c)).map fun q=>.str q.2:=by
 unfold kF kw;rw[Ly,Option.map_map]
 have:((fun q:W×Str=>decide (q.1=[c])) ∘ fun p:Nat×Str=>([p.1],p.2))=fun q:Nat×Str=>decide (q.1=c):=by
  funext q
  simp
 rw[this];rfl
include hg in
theorem kh(r:Str)(room:Room)(lk:FA.lookR h.rooms r=some room)(t:Str)(kt:List (Nat×Str))(wr wa:Int×Str)(hr:room=.menu t (kt.map mk2) wr wa)(hs:Ms (kt.map (·.1)) K12):aG [h.pv,.str r]=some (wtD (kw kt)):=by
 have n2:=FA.ix_rooms h.rooms r;rw[lk,hr] at n2;have n2:gIx (au h.rooms) (.str r)=some (.tup [.str "menu",.str t,.tup ((kt.map mk2).map pv2),.tup [.int wr.1,.str wr.2],.tup [.int wa.1,.str wa.2]]):=n2;have hR:=hRo hg
 have e:PV.tup ((kt.map mk2).map pv2)=yP (kw kt):=by
  rw[zr];unfold yP kw;rw[K4];rfl
 have kl:kt.length<=12:=by
  have h1:=hs.length_le;have h2:K12.length=12:=rfl;rw[JT] at h1;omega
 have d:=vH (kw kt) (by simp[kw];omega) (by
  unfold kw;rw[K4];have nd:=hs.nodup E3;have:(List.map ((fun x:W×Str=>x.1) ∘ fun p:Nat×Str=>([p.1],p.2)) kt)=(kt.map (·.1)).map (fun c=>[c]):=by rw[K4];rfl
  rw[this]
  have inj:∀l:List Nat,l.Nodup->(l.map fun c=>[c]).Nodup:=by
   intro l
   induction l with
   | nil=>intro _;simp
   | cons a l ih=>
    intro h1;rw[Kf] at h1;rw[JQ,Kf];refine⟨fun z=>?_,ih h1.2⟩;obtain⟨b,hb,e⟩:=JS.mp z;have:b=a:=by simpa using e
    subst this;exact h1.1 hb
  exact inj _ nd)
 rw[e] at n2;generalize yP (kw kt)=KP at *;generalize wtD (kw kt)=KD at *;generalize au h.rooms=RM at *;generalize h.pv=H at *;refine aF rfl ?_;simp[d7,PU.start,hR,n2,d]
noncomputable def mF(ks:List (Str×Str))(c:Nat):Option (Option Str):=(ks.find? fun q=>decide (q.1=(⟨#[c]⟩:Str))).map fun q=>some q.2
theorem GI(kt:List (Nat×Str))(c:Nat):mF (kt.map mk2) c=(kt.find? fun q=>decide (q.1=c)).map fun q=>some q.2:=by
 unfold mF;rw[Ly,Option.map_map]
 have:((fun q:Str×Str=>decide (q.1=(⟨#[c]⟩:Str))) ∘ mk2)=fun q:Nat×Str=>decide (q.1=c):=by
  funext q
  exact decide_eq_decide.mpr ⟨fun e=>by injection e with e;injection e with e;injection e,fun e=>by show (⟨#[q.1]⟩:Str)=_;rw[e]⟩
 rw[this];rfl
include hg in
theorem vb(r b:Str)(w v:Int)(room:Room)(tt:W)(ok:OK h nms r b room w v tt)(t:Str)(ks:List (Str×Str))(wr wa:Int×Str)(hr:room=.menu t ks wr wa)(c:Nat)(hc:c≠119):∃D,aG [h.pv,.str r]=some D/\Goes h nms hour D (sT r b w v tt) c (goS h hour r b w v wr (mF ks c) [c]):=by
 have hw:=sE hg r room ok.lk;rw[hr] at hw;obtain⟨⟨kt,rfl,hs,ht⟩,hwr,hwa,_,_⟩:=hw;have tt0:tt=[]:=by have:=ok.ty;rw[hr] at this;exact this
 subst tt0;have ew:=kh hg r room ok.lk t kt wr wa hr hs;have TL:=iJ (kw kt);have TLf:∀c,((kw kt).find? fun q=>decide (q.1=[c])).map (fun q=>PV.str q.2)=(kt.find? fun q=>decide (q.1=c)).map fun q=>.str q.2:=Bd kt;have h0:gIx room.pv (.int 0)=some (.str "menu"):=by rw[hr];rfl
 have h3:gIx room.pv (.int 3)=some (.tup [.int wr.1,.str wr.2]):=by rw[hr];rfl
 obtain⟨ok1,e1⟩:=wrong hg hour r b w v [] room ok wr h3 (by rw[hr];rfl) hwr;rw[GI];cases hf:kt.find? fun q=>decide (q.1=c) with
 | none=>
  refine⟨_,ew,ok1,kK hg hour r b w v [] room ok "menu" h0 (.inl rfl) _ _ c hc ?_⟩;exact zE hour r b w v [] c (by simp) _ _ _ TL (by show ((kw kt).find? fun q=>decide (q.1=[c])).map (fun q=>PV.str q.2)=none;rw[TLf,hf];rfl) _ e1
 | some p=>
  have pm:=Kg hf
  have hF:((kw kt).find? fun q=>decide (q.1=[]++[c])).map (fun q=>PV.str q.2)=some (.str p.2):=by
   show ((kw kt).find? fun q=>decide (q.1=[c])).map (fun q=>PV.str q.2)=_;rw[TLf,hf];rfl
  show ∃D,_/\Goes h nms hour D _ c (if p.2=JK "back" then (if b=JK "" then wrS h hour r b w v wr else arS h hour b r) else arS h hour p.2 r)
  by_cases hb:p.2=JK "back"
  ·rw[if_pos hb]
   rw[hb] at hF
   by_cases hbb:b=JK ""
   ·rw[if_pos hbb]
    subst hbb;refine⟨_,ew,ok1,kK hg hour r "" w v [] room ok "menu" h0 (.inl rfl) _ _ c hc ?_⟩;exact qg hour r w v [] c (by simp) _ _ _ TL hF _ e1
   ·rw[if_neg hbb]
    have hbn:b∈nms:=ok.bn.resolve_left hbb;obtain⟨ok2,a1⟩:=arr hg hour b hbn r (.inr ok.rn);refine⟨_,ew,ok2,kK hg hour r b w v [] room ok "menu" h0 (.inl rfl) _ _ c hc ?_⟩;exact xR hour r b w v [] c (by simp) _ _ _ TL hF hbb _ a1
  ·rw[if_neg hb]
   have hpn:p.2∈nms:=(ht p pm).resolve_left hb;obtain⟨ok2,a1⟩:=arr hg hour p.2 hpn r (.inr ok.rn);refine⟨_,ew,ok2,kK hg hour r b w v [] room ok "menu" h0 (.inl rfl) _ _ c hc ?_⟩;exact zF hour r b w v [] c (by simp) _ _ _ TL p.2 hF hb (hg.nb p.2 hpn).2 _ a1
end
theorem BP{a:W}(ha:a∈W8):(cdH LS5 a).length<=5/\1<=(cdH LS5 a).length:=by
 have:=yQ a ha;simp[cdH,cdW];omega
structure WT(wt:List (W×Str))(nms:List Str):Prop where
 sb:Ms (wt.map (·.1)) W8
 ne:wt≠[]
 tn:∀p∈wt,p.2∈nms
section
variable{wt : List (W×Str)}{nms : List Str}(k : WT wt nms)
include k
theorem WT.w8:∀p∈wt,p.1∈W8:=fun p hp=>k.sb.subset (JS.mpr ⟨p,hp,rfl⟩)
theorem WT.nd:(wt.map (·.1)).Nodup:=k.sb.nodup FV
theorem WT.len:wt.length<=8:=by
 have h1:=k.sb.length_le;have h2:W8.length<=8:=by decide
 rw[JT] at h1;omega
theorem WT.ok:∀p∈wt,p.1.length<=12/\∀c∈p.1,(WO.keyL LS5 c).isSome=true:=fun p hp=>⟨by have:=yQ p.1 (k.w8 p hp);omega,DK p.1 (k.w8 p hp)⟩
theorem WT.nc:(wt.map fun p=>cdH LS5 p.1).Nodup:=by
 have:((wt.map (·.1)).map (cdH LS5)).Nodup:=(k.sb.map (cdH LS5)).nodup GK;rw[K4] at this;exact this
theorem WT.bs:(∀x∈wC LS5 wt,x.1≠[])/\∀x∈wC LS5 wt,∀y∈wC LS5 wt,x.1 <+: y.1->x=y:=⟨Hc,Hb GJ (fun p hp=>(k.ok p hp).2) k.nc⟩
theorem WT.mem{p:W×Str}(hp:p∈wt):(beg wt p.1,p.2)∈wC LS5 wt:=JS.mpr ⟨p,hp,rfl⟩
theorem WT.inv{x:W×Str}(hx:x∈wC LS5 wt):∃p∈wt,x=(beg wt p.1,p.2):=by
 obtain⟨p,hp,rfl⟩:=JS.mp hx;exact⟨p,hp,rfl⟩
theorem WT.pre{p:W×Str}(hp:p∈wt):beg wt p.1 <+: cdH LS5 p.1:=by unfold beg;exact mM _ _
theorem WT.bl{p:W×Str}(hp:p∈wt):(beg wt p.1).length<=5:=by
 have h1:=LV (k.pre hp);have h2:=(BP (k.w8 p hp)).1;omega
end
theorem qF(b ty:W):b.take ty.length=ty ↔ ty <+: b:=⟨fun e=>by rw[← e];exact MS _ _,fun e=>(Mo.mp e).symm⟩
def fits(wt:List (W×Str))(ty:W)(q:W×Str):Bool:=decide ((beg wt q.1).take ty.length=ty)
theorem B7:∀(a b:List (W×Str)),a.map mw2=b.map mw2->a=b:=by
 intro a
 induction a with
 | nil=>intro b e;cases b with | nil=>rfl | cons _ _=>cases e
 | cons x a ih=>
  intro b e;cases b with
  | nil=>cases e
  | cons y b=>
   rw[JQ,JQ] at e;injection e with e1 e2;have e3:x.1=y.1:=mkS_inj (show (mw2 x).1=(mw2 y).1 by rw[e1]);have e4:x.2=y.2:=(show (mw2 x).2=(mw2 y).2 by rw[e1]);rw[ih b e2,Pp e3 e4]
def unw(q:Str×Str):W×Str:=(q.1.cps.toList,q.2)
theorem tj(wt:List (W×Str)):(wt.map mw2).map unw=wt:=by
 rw[K4]
 have:(unw ∘ mw2)=fun q:W×Str=>q:=by
  funext q
  show ((mkS q.1).cps.toList,q.2)=q;unfold mkS;simp
 rw[this];simp
def nF(wt:List (W×Str))(ty:W):Option (Option Str):=(wt.find? (fits wt ty)).map fun p=>if beg wt p.1=ty then some p.2 else none
section
variable{h : House}{nms ord : List Str}(hg : HG h nms ord)(hour : Int)
include hg
theorem D0 (r:Str) (room:Room) (lk:FA.lookR h.rooms r=some room) (t:Str) (wt:List (W×Str)) (wr wa:Int×Str) (hr:room=.names t (wt.map mw2) wr wa):gIx (au h.rooms) (.str r)=some (.tup [.str "names",.str t,yP wt,.tup [.int wr.1,.str wr.2],.tup [.int wa.1,.str wa.2]]):=by
 have n2:=FA.ix_rooms h.rooms r;rw[lk,hr] at n2;rw[← DF];exact n2
theorem jw(r:Str)(room:Room)(lk:FA.lookR h.rooms r=some room)(t:Str)(ks:List (Str×Str))(wr wa:Int×Str)(hr:room=.names t ks wr wa):∃wt,ks=wt.map mw2/\WT wt nms/\wr.2∈nms/\wa.2∈nms:=by
 have hw:=sE hg r room lk;rw[hr] at hw;obtain⟨⟨wt,e,hs,hne,ht⟩,hwr,hwa,_,_⟩:=hw;exact⟨wt,e,⟨hs,hne,ht⟩,hwr,hwa⟩
theorem fB(r:Str)(room:Room)(lk:FA.lookR h.rooms r=some room)(t:Str)(wt:List (W×Str))(wr wa:Int×Str)(hr:room=.names t (wt.map mw2) wr wa)(k:WT wt nms):∃ks ps,Tells ks ps (zZ (wC LS5 wt))/\aG [h.pv,.str r]=some (.dct ks ps):=by
 obtain⟨ks,ps,tl,e⟩:=xE LS5 wt (by have:=k.len;omega) k.ok k.nd;have d:=vH wt (by have:=k.len;omega) k.nd;have n2:=D0 hg r room lk t wt wr wa hr;have hR:=hRo hg;have hL:=hg.lets;refine⟨ks,ps,tl,aF rfl ?_⟩;generalize yP wt=WP at *;generalize wtD wt=WD at *;generalize WO.ltPv LS5=LL at *;generalize au h.rooms=RM at *;generalize h.pv=H at *;simp[d7,PU.start,hR,n2,hL,d,e]
theorem sH(r b:Str)(w v:Int)(room:Room)(tt:W)(ok:OK h nms r b room w v tt)(t:Str)(ks:List (Str×Str))(wr wa:Int×Str)(hr:room=.names t ks wr wa)(c:Nat)(hc:c≠119):∃D,aG [h.pv,.str r]=some D/\Goes h nms hour D (sT r b w v tt) c (goS h hour r b w v wr (nF (ks.map unw) (tt++[c])) (tt++[c])):=by
 obtain⟨wt,rfl,k,hwr,hwa⟩:=jw hg r room ok.lk t ks wr wa hr;obtain⟨dk,dp,TL,ew⟩:=fB hg r room ok.lk t wt wr wa hr k;have h0:gIx room.pv (.int 0)=some (.str "names"):=by rw[hr];rfl
 have h3:gIx room.pv (.int 3)=some (.tup [.int wr.1,.str wr.2]):=by rw[hr];rfl
 have tl:=ok.tl;obtain⟨b1,b2⟩:=k.bs;rw[tj];unfold nF;cases hf:wt.find? (fits wt (tt++[c])) with
 | none=>
  obtain⟨ok1,e1⟩:=wrong hg hour r b w v tt room ok wr h3 (by rw[hr];rfl) hwr;refine⟨_,ew,ok1,kK hg hour r b w v tt room ok "names" h0 (.inr rfl) _ _ c hc ?_⟩;refine zE hour r b w v tt c (by omega) _ _ _ TL ?_ _ e1;refine t7 b1 fun x hx _ hp=>?_;obtain⟨p,hp2,rfl⟩:=k.inv hx;have:=Mk.mp hf p hp2;exact this (decide_eq_true ((qF _ _).mpr hp))
 | some p=>
  have pm:=Kg hf;have pf:fits wt (tt++[c]) p=true:=NH hf;have pp:(tt++[c]) <+: beg wt p.1:=(qF _ _).mp (of_decide_eq_true pf);show ∃D,_/\Goes h nms hour D _ c (goS h hour r b w v wr (some (if beg wt p.1=tt++[c] then some p.2 else none)) (tt++[c]))
  by_cases hb:beg wt p.1=tt++[c]
  ·rw[if_pos hb]
   have hpn:=k.tn p pm;obtain⟨ok2,a1⟩:=arr hg hour p.2 hpn r (.inr ok.rn);have e:goS h hour r b w v wr (some (some p.2)) (tt++[c])=arS h hour p.2 r:=if_neg (hg.nb p.2 hpn).1;rw[e];refine⟨_,ew,ok2,kK hg hour r b w v tt room ok "names" h0 (.inr rfl) _ _ c hc ?_⟩;refine zF hour r b w v tt c (by omega) _ _ _ TL p.2 ?_ (hg.nb p.2 hpn).1 (hg.nb p.2 hpn).2 _ a1;rw[← hb];exact wJ b1 b2 (k.mem pm)
  ·rw[if_neg hb]
   have bl:=k.bl pm;have ttl:=LV pp;refine⟨_,ew,⟨room,ok.lk,ok.nh,ok.rn,ok.bn,(by show (tt++[c]).length<=50;omega),?_,ok.hw,ok.hv⟩,kK hg hour r b w v tt room ok "names" h0 (.inr rfl) _ _ c hc ?_⟩
   ·rw[hr]
    intro wt' e';have:=B7 wt wt' e';subst this;exact .inr ⟨p,pm,pp,fun z=>hb z.symm⟩
   ·refine Be hour r b w v tt c (by omega) _ _ _ TL ?_
    exact wI b1 b2 (k.mem pm) (by simp) pp (fun z=>hb z.symm)
def stp(h:House)(hour:Int)(s:St)(c:Nat):St:=match FA.lookR h.rooms s.r with
 | some (.menu _ ks wr wa)=>if c=119 then waS h hour s.r s.b s.w s.v wa else goS h hour s.r s.b s.w s.v wr (mF ks c) [c]
 | some (.names _ ks wr wa)=>if c=119 then waS h hour s.r s.b s.w s.v wa else goS h hour s.r s.b s.w s.v wr (nF (ks.map unw) (s.t++[c])) (s.t++[c])
 | _=>s
theorem Jh(s:St)(room:Room)(ok:OK h nms s.r s.b room s.w s.v s.t)(c:Nat):∃D,aG [h.pv,.str s.r]=some D/\Goes h nms hour D s.pv c (stp h hour s c):=by
 obtain⟨r,b,w,v,tt⟩:=s;have ok:OK h nms r b room w v tt:=ok;show ∃D,aG [h.pv,.str r]=some D/\Goes h nms hour D (sT r b w v tt) c _;have n2:=FA.ix_rooms h.rooms r;rw[ok.lk] at n2;have n2:gIx (au h.rooms) (.str r)=some room.pv:=n2;have hR:=hRo hg
 have plain:∀k:Str,gIx room.pv (.int 0)=some (.str k)->¬ k="menu"->¬ k="names"->aG [h.pv,.str r]=some (.dct [] []):=fun k h0 h1 h2=>by
  refine aF rfl ?_;generalize room.pv=RP at *;generalize au h.rooms=RM at *;generalize h.pv=H at *;simp[d7,PU.start,hR,n2,h0,h1,h2]
 unfold stp;rw[ok.lk];cases hroom:room with
 | hours sp l=>exact absurd hroom (ok.nh sp l)
 | menu t ks wr wa=>
  show ∃D,_/\Goes h nms hour D _ c (if c=119 then waS h hour r b w v wa else goS h hour r b w v wr (mF ks c) [c])
  by_cases hc:c=119
  ·rw[if_pos hc]
   subst hc;have hw:=sE hg r room ok.lk;rw[hroom] at hw;obtain⟨⟨kt,rfl,hs,ht⟩,hwr,hwa,_,_⟩:=hw;have ew:=kh hg r room ok.lk t kt wr wa hroom hs;exact⟨_,ew,zH hg hour r b w v tt room ok "menu" (by rw[hroom];rfl) (.inl rfl) wa (by rw[hroom];rfl) (by rw[hroom];rfl) hwa (wtD (kw kt))⟩
  ·rw[if_neg hc]
   exact vb hg hour r b w v room tt ok t ks wr wa hroom c hc
 | names t ks wr wa=>
  show ∃D,_/\Goes h nms hour D _ c (if c=119 then waS h hour r b w v wa else goS h hour r b w v wr (nF (ks.map unw) (tt++[c])) (tt++[c]))
  by_cases hc:c=119
  ·rw[if_pos hc]
   subst hc;obtain⟨wt,rfl,k,hwr,hwa⟩:=jw hg r room ok.lk t ks wr wa hroom;obtain⟨dk,dp,TL,ew⟩:=fB hg r room ok.lk t wt wr wa hroom k;exact⟨_,ew,zH hg hour r b w v tt room ok "names" (by rw[hroom];rfl) (.inr rfl) wa (by rw[hroom];rfl) (by rw[hroom];rfl) hwa (.dct dk dp)⟩
  ·rw[if_neg hc]
   exact sH hg hour r b w v room tt ok t ks wr wa hroom c hc
 | hand t=>exact⟨_,plain "hand" (by rw[hroom];rfl) (by simp) (by simp),rh hg hour r b w v tt room ok c "hand" (by rw[hroom];rfl) (.inl rfl) _⟩
 | fin t=>exact⟨_,plain "end" (by rw[hroom];rfl) (by simp) (by simp),rh hg hour r b w v tt room ok c "end" (by rw[hroom];rfl) (.inr rfl) _⟩
theorem Az(n:Str)(room:Room)(lk:FA.lookR h.rooms n=some room):∃D,aG [h.pv,.str n]=some D/\noFn D=true:=by
 have n2:=FA.ix_rooms h.rooms n;rw[lk] at n2;have n2:gIx (au h.rooms) (.str n)=some room.pv:=n2;have hR:=hRo hg
 have plain:∀k:Str,gIx room.pv (.int 0)=some (.str k)->¬ k="menu"->¬ k="names"->aG [h.pv,.str n]=some (.dct [] []):=fun k h0 h1 h2=>by
  refine aF rfl ?_;generalize room.pv=RP at *;generalize au h.rooms=RM at *;generalize h.pv=H at *;simp[d7,PU.start,hR,n2,h0,h1,h2]
 have z:noFn (.dct [] [])=true:=by simp[noFn,aL]
 cases hroom:room with
 | hours sp l=>exact⟨_,plain "hours" (by rw[hroom];rfl) (by simp) (by simp),z⟩
 | hand t=>exact⟨_,plain "hand" (by rw[hroom];rfl) (by simp) (by simp),z⟩
 | fin t=>exact⟨_,plain "end" (by rw[hroom];rfl) (by simp) (by simp),z⟩
 | menu t ks wr wa=>
  have hw:=sE hg n room lk;rw[hroom] at hw;obtain⟨⟨kt,rfl,hs,ht⟩,hwr,hwa,_,_⟩:=hw;refine⟨_,kh hg n room lk t kt wr wa hroom hs,?_⟩;have:=(fW _).mpr (iJ (kw kt)).nf;simpa [wtD,noFn] using this
 | names t ks wr wa=>
  obtain⟨wt,rfl,k,hwr,hwa⟩:=jw hg n room lk t ks wr wa hroom;obtain⟨dk,dp,TL,ew⟩:=fB hg n room lk t wt wr wa hroom k;refine⟨_,ew,?_⟩;have:=(fW _).mpr TL.nf;simpa [noFn] using this
theorem Ae:∃WD,bq [h.pv]=some WD/\noFn WD=true/\∀r b room w v tt,OK h nms r b room w v tt->∀D,aG [h.pv,.str r]=some D->gIx WD (.str r)=some D:=by
 have rx:∀n∈FA.names h.rooms,∃D,aG [h.pv,.str n]=some D/\noFn D=true:=fun n hn=>by
  obtain⟨room,hr⟩:=FA.look_some h.rooms n hn;exact Az hg n room hr
 obtain⟨ks,ps,e,g,nf⟩:=Bq h.pv h.rooms (hRo hg) (by have:=hg.rl;omega) (fun n=>(aG [h.pv,.str n]).getD .non) (fun n hn=>by
  obtain⟨D,e,_⟩:=rx n hn;rw[e];rfl) (fun n hn=>by
  obtain⟨D,e,f⟩:=rx n hn;rw[e];exact f)
 refine⟨_,e,nf,fun r b room w v tt ok D hD=>?_⟩;rw[g r (hg.all r (hg.nm r ok.rn)),hD];rfl
theorem yA:Ok h nms (arS h hour h.first "")/\c6 [h.pv,.int hour]=some (arS h hour h.first "").pv:=by
 obtain⟨ok,e1⟩:=arr hg hour h.first hg.fst "" (.inl rfl);refine⟨ok,aF rfl ?_⟩;have hF:gIx h.pv (.str "first")=some (.str h.first):=by simp[House.pv]
 generalize (arS h hour h.first "").pv=S at *;generalize h.pv=H at *;simp[qo,PU.start,hF,e1]
end
end
noncomputable def St.key(s:St):cU:=[.inl (.inr s.r),.inl (.inr s.b),.inl (.inl s.w),.inl (.inl s.v),.inl (.inr (mkS s.t))]
theorem St.tk(s:St):rZ s.pv=some s.key:=rfl
theorem St.kinj{a b:St}(e:a.key=b.key):a=b:=by
 cases a;cases b;simp only[St.key,M0,OO,Sum.inl.injEq,and_true] at e;obtain⟨h1,h2,h3,h4,h5⟩:=e;have h5:=mkS_inj h5;subst h1 h2 h3 h4 h5;rfl
theorem St.nf(s:St):noFn s.pv=true:=by simp[St.pv,sT,noFn,aL]
def S13:List Nat:=[48,49,50,51,52,53,54,55,56,57,42,35,119]
def cd(i:Nat):Nat:=S13.getD i 0
theorem yY:gz (.str "0123456789*#w")=some ((KQ 13).map fun i=>WO.sg (cd i)):=by kernel_rfl
theorem qz(L:List PV)(st:PV):gIx (.lst (L++[st])) (.int (-1))=some st:=by
 show atI (L++[st]) (-1)=some st
 have e:ixN (L++[st]).length (-1)=some L.length:=by
  rw[KF,MA];unfold ixN;rw[if_neg (by omega)]
  first
   | (rw[if_pos (by omega)];congr 1;omega)
   | (simp;omega)
   | simp
 unfold atI;rw[e];simp
theorem mV{n:Nat}{fe:PSt->R PV}{qs cs:List PV}{p:PV}(hl:qs.length=n)(h:fe ((qs++cs).map .val)=.ok p):zy n fe qs cs=some p:=by
 unfold zy;rw[if_pos hl,h]
theorem iI{i:Nat}{fs:PSt->R (List PV)}{app:Lam->List PV->List PV->Option PV}{ρ:PSt}{L:Lam}{cs qs:List PV}{p:PV}(h:ρ[i]?=some (.val (.fn L cs)))(hq:fs ρ=.ok qs)(n1:aL qs=true)(n2:aL cs=true)(e:app L qs cs=some p):jn i fs app ρ=.ok p:=by
 unfold jn;rw[h];show (fs ρ >>= fun qs=>if aL qs=true/\aL cs=true then R.ofO (app L qs cs) else .no)=_;rw[hq];show (if aL qs=true/\aL cs=true then R.ofO (app L qs cs) else .no)=_;rw[if_pos ⟨n1,n2⟩,e];rfl
theorem dR{α:Type}(f:α->PV)(l:List α)(h:∀x∈l,noFn (f x)=true):aL (l.map f)=true:=(fW _).mpr fun p hp=>by
 obtain⟨x,hx,rfl⟩:=JS.mp hp;exact h x hx
theorem uy(p:Str×Str):noFn (pv2 p)=true:=by simp[pv2,noFn,aL]
theorem DB(p:Int×Int×Str):noFn (pv3 p)=true:=by simp[pv3,noFn,aL]
theorem B2(r:Room):noFn r.pv=true:=by
 cases r with
 | menu t ks wr wa=>simp[Room.pv,pvI,noFn,aL,dR pv2 ks fun x _=>uy x]
 | names t ks wr wa=>simp[Room.pv,pvI,noFn,aL,dR pv2 ks fun x _=>uy x]
 | hours sp l=>simp[Room.pv,noFn,aL,dR pv3 sp fun x _=>DB x]
 | hand t=>simp[Room.pv,noFn,aL]
 | fin t=>simp[Room.pv,noFn,aL]
theorem xF(h:House):noFn h.pv=true:=by
 have h1:=dR pv2 h.letters fun x _=>uy x;have h2:=dR (fun r:Str×Room=>r.2.pv) h.rooms fun x _=>B2 x.2;simp[House.pv,au,noFn,aL,h1,h2]
theorem xn{ks:List cU}{ps:List PV}{k:cU}{v:PV}(h:(ks.any fun j=>decide (j=k))=false):wo ks ps k v=.dtt (ks++[k]) (ps++[v]):=by
 unfold wo;rw[h];rfl
theorem Ag{i:Nat}{fk fv:PSt->R PV}{ρ:PSt}{ks:List cU}{ps:List PV}{p kp:PV}{k:cU}(h:ρ[i]?=some (.own (.dtt ks ps)))(hv:fv ρ=.ok p)(hk:fk ρ=.ok kp)(ht:rZ kp=some k)(hl:ks.length<16777216):ox i fk fv ρ=.ok (.next (ρ.set i (.own (wo ks ps k p)))):=by
 unfold ox;rw[h];show (fv ρ >>= fun p=>fk ρ >>= fun kp=>R.ofO (rZ kp) >>= fun k=>if ks.length<16777216 then R.ok (Fl.next (ρ.set i (.own (wo ks ps k p)))) else R.no)=_;rw[hv];show (fk ρ >>= fun kp=>R.ofO (rZ kp) >>= fun k=>if ks.length<16777216 then R.ok (Fl.next (ρ.set i (.own (wo ks ps k p)))) else R.no)=_;rw[hk];show (R.ofO (rZ kp) >>= fun k=>if ks.length<16777216 then R.ok (Fl.next (ρ.set i (.own (wo ks ps k p)))) else R.no)=_;rw[ht];exact if_pos hl
section
variable[LX]
def Nx(h:House)(nms:List Str)(hour:Int)(s:St)(i:Nat)(s':St):Prop:=Ok h nms s'/\∃D,aG [h.pv,.str s.r]=some D/\bR [h.pv,.int hour,D,s.pv,WO.sg (cd i)]=some s'.pv
def lead(h:House)(hour:Int)(s:St)(i:Nat):St:=stp h hour s (cd i)
def TL:List W:=W8.flatMap fun w=>(KQ (cdH LS5 w).length).map fun n=>(cdH LS5 w).take n
def univ (nms:List Str):List St:=nms.flatMap fun r=>(JK ""::nms).flatMap fun b=>[(0:Int),1].flatMap fun w=>[(0:Int),1].flatMap fun v=>TL.map fun t=>⟨r,b,w,v,t⟩
theorem oS{α β:Type}(f:α->List β)(n:Nat):∀l:List α,(∀x∈l,(f x).length=n)->(l.flatMap f).length=l.length * n
 | [],_=>by simp
 | x::l,h=>by
  rw[Np,KF,h x (by simp),oS f n l fun y hy=>h y (by simp[hy]),KU,Nat.add_mul];omega
theorem wV(nms:List Str)(h:nms.length<=7):(univ nms).length<=1848:=by
 have hT:TL.length=7:=by unfold TL;rcases oM with q | q <;> rw[q] <;> decide +kernel
 have e:(univ nms).length=nms.length * ((nms.length+1) * (2 * (2 * 7))):=by
  unfold univ;refine oS _ _ _ fun r _=>?_;refine(oS _ (2 * (2 * 7)) _ fun b _=>?_);refine(oS _ (2 * 7) _ fun w _=>?_);refine(oS _ 7 _ fun v _=>?_);rw[JT,hT]
 rw[e];have h2:nms.length * ((nms.length+1) * (2 * (2 * 7)))<=7 * ((7+1) * (2 * (2 * 7))):=Q0 h (Q0 (by omega) (K8 _));omega
section
variable{h : House}{nms ord : List Str}(hg : HG h nms ord)(hour : Int)
include hg
theorem wU(s:St)(hs:Ok h nms s):s∈univ nms:=by
 obtain⟨room,ok⟩:=hs;have bb:=(sE hg s.r room ok.lk).b;have h1:=ok.hw;have h2:=ok.hv
 have ht:s.t∈TL:=by
  have z:([]:W)∈TL:=by unfold TL;rcases oM with q | q <;> rw[q] <;> decide +kernel
  have ty:=ok.ty;cases hroom:room with
  | names t ks wr wa=>
   obtain⟨wt,rfl,k,_,_⟩:=jw hg s.r room ok.lk t ks wr wa hroom;rw[hroom] at ty;rcases ty wt rfl with e | ⟨p,hp,h1,h2⟩
   ·rw[e];exact z
   ·have pre:=Ny h1 (k.pre hp)
    have l1:=LV h1;have l3:=LV (k.pre hp);have l4:s.t.length≠(beg wt p.1).length:=fun e=>h2 (h1.eq_of_length e);refine MU.mpr ⟨p.1,k.w8 p hp,JS.mpr ⟨s.t.length,LD.mpr (by omega),?_⟩⟩;exact(Mo.mp pre).symm
  | _=>
   rw[hroom] at ty;have ty:s.t=[]:=ty;rw[ty];exact z
 have hw:s.w=0\/s.w=1:=by omega
 have hv:s.v=0\/s.v=1:=by omega
 refine MU.mpr ⟨s.r,ok.rn,MU.mpr ⟨s.b,?_,MU.mpr ⟨s.w,?_,MU.mpr ⟨s.v,?_,JS.mpr ⟨s.t,ht,rfl⟩⟩⟩⟩⟩
 ·rcases ok.bn with e | e
  ·rw[e];exact KJ
  ·exact KI _ e
 ·rcases hw with e | e <;> simp[e]
 ·rcases hv with e | e <;> simp[e]
theorem uG(s:St)(hs:Ok h nms s)(i:Nat):Nx h nms hour s i (lead h hour s i):=by
 obtain⟨room,ok⟩:=hs;obtain⟨D,e,g⟩:=Jh hg hour s room ok (cd i);exact⟨g.ok,D,e,g.fo⟩
end
structure WD(h:House)(nms:List Str)(D:PV):Prop where
 eq:bq [h.pv]=some D
 nf:noFn D=true
 ix:∀s:St,Ok h nms s->∀X,aG [h.pv,.str s.r]=some X->gIx D (.str s.r)=some X
theorem FU{h:House}{nms ord:List Str}(hg:HG h nms ord):∃D,WD h nms D:=by
 obtain⟨D,h1,h2,h3⟩:=Ae hg;exact⟨D,h1,h2,fun s ⟨room,ok⟩ X hX=>h3 s.r s.b room s.w s.v s.t ok X hX⟩
section
variable{h : House}{nms ord : List Str}(hg : HG h nms ord)(hour : Int){D : PV}(hD : WD h nms D)
include hg hD
theorem Jl(s:St)(hs:Ok h nms s)(i:Nat):∃X,gIx D (.str s.r)=some X/\bR [h.pv,.int hour,X,s.pv,WO.sg (cd i)]=some (lead h hour s i).pv:=by
 obtain⟨_,X,e1,e2⟩:=uG hg hour s hs i;exact⟨X,hD.ix s hs X e1,e2⟩
end
end
noncomputable def kindOf:Room->Str
 | .hand _=>"hand"
 | .fin _=>"end"
 | _=>"asked"
noncomputable def jM:Room->Str
 | .menu t ..=>t
 | .names t ..=>t
 | .hand t=>t
 | .fin t=>t
 | .hours ..=>""
def hP(h:House)(s:St):Str×Str:=match FA.lookR h.rooms s.r with
 | some room=>(kindOf room,jM room)
 | none=>("","")
def hE(x:Str×Str):PV:=.tup [.str x.1,.str x.2]
structure Mach(H:PV)(hour:Int) where
 ok:St->Prop
 lead:St->Nat->St
 hp:St->Str×Str
 univ:List St
 ways:PV
 s0:St
 nfH:noFn H=true
 nfW:noFn ways=true
 ok0:ok s0
 okl:∀s,ok s->∀i,ok (lead s i)
 eb:c6 [H,.int hour]=some s0.pv
 ew:bq [H]=some ways
 fol:∀s,ok s->∀i,∃X,gIx ways (.str s.r)=some X/\bR [H,.int hour,X,s.pv,WO.sg (cd i)]=some (lead s i).pv
 hrd:∀s,ok s->dz [H,s.pv]=some (hE (hp s))
 mem:∀s,ok s->s∈univ
 ul:univ.length<=1848
section
variable[LX]
section
variable{h : House}{nms ord : List Str}(hg : HG h nms ord)
include hg
theorem heard(r b:Str)(w v:Int)(room:Room)(tt:W)(ok:OK h nms r b room w v tt):dz [h.pv,sT r b w v tt]=some (.tup [.str (kindOf room),.str (jM room)]):=by
 refine aF rfl ?_;have n2:=FA.ix_rooms h.rooms r;rw[ok.lk] at n2;have n2:gIx (au h.rooms) (.str r)=some room.pv:=n2;have hR:=hRo hg;have g0:gIx (sT r b w v tt) (.int 0)=some (.str r):=rfl;have c:c_HEARD=.dct [.inr "menu",.inr "names",.inr "hand",.inr "end"] [.str "asked",.str "asked",.str "hand",.str "end"]:=rfl;have nh:=ok.nh;generalize sT r b w v tt=S at *;generalize au h.rooms=RM at *;generalize h.pv=H at *;cases room with
 | hours sp l=>exact absurd rfl (nh sp l)
 | menu t ks wr wa=>
  have n2:gIx RM (.str r)=some (.tup [.str "menu",.str t,.tup (ks.map pv2),.tup [.int wr.1,.str wr.2],.tup [.int wa.1,.str wa.2]]):=n2;simp[iU,PU.start,hR,g0,n2,c,kindOf,jM]
 | names t ks wr wa=>
  have n2:gIx RM (.str r)=some (.tup [.str "names",.str t,.tup (ks.map pv2),.tup [.int wr.1,.str wr.2],.tup [.int wa.1,.str wa.2]]):=n2;simp[iU,PU.start,hR,g0,n2,c,kindOf,jM]
 | hand t=>
  have n2:gIx RM (.str r)=some (.tup [.str "hand",.str t]):=n2;simp[iU,PU.start,hR,g0,n2,c,kindOf,jM]
 | fin t=>
  have n2:gIx RM (.str r)=some (.tup [.str "end",.str t]):=n2;simp[iU,PU.start,hR,g0,n2,c,kindOf,jM]
end
theorem y7{h:House}{nms ord:List Str}(hg:HG h nms ord)(s:St)(hs:Ok h nms s):dz [h.pv,s.pv]=some (hE (hP h s)):=by
 obtain⟨room,ok⟩:=hs;have:=heard hg s.r s.b s.w s.v room s.t ok;unfold hP;rw[ok.lk];exact this
theorem mO {h:House} {nms ord:List Str} (hg:HG h nms ord) (hour:Int):∃M:Mach h.pv hour,M.lead=lead h hour/\M.hp=hP h/\M.s0=arS h hour h.first "":=by
 obtain⟨D,hD⟩:=FU hg;obtain⟨h0,hb⟩:=yA hg hour;exact⟨⟨Ok h nms,lead h hour,hP h,univ nms,D,_,xF h,hD.nf,h0,fun s hs i=>(uG hg hour s hs i).1,hb,hD.eq,fun s hs i=>Jl hg hour hD s hs i,fun s hs=>y7 hg s hs,fun s hs=>wU hg s hs,wV nms hg.nl⟩,rfl,rfl,rfl⟩
end
theorem w9(x:List Nat)(c:Nat)(hx:x.length<=16000000):fK (.str (mkS x)) (.str ⟨#[c]⟩)=some (.str (mkS (x++[c]))):=by
 rw[q0,jI (by simp;omega),k9]
def gN(l:List Nat):Str:=mkS (l.map cd)
theorem tX(r:List Nat)(i:Nat)(h:r.length<=16000000):fK (.str (gN r)) (WO.sg (cd i))=some (.str (gN (r++[i]))):=by
 unfold gN;rw[KL];exact w9 (r.map cd) (cd i) (by simp;omega)
theorem uF{α β:Type}(f:α->List β)(n:Nat):∀l:List α,(∀x∈l,(f x).length=n)->(l.flatMap f).length=l.length * n
 | [],_=>by simp
 | x::l,h=>by
  rw[Np,KF,h x (by simp),uF f n l fun y hy=>h y (by simp[hy]),KU,Nat.add_mul];omega
abbrev P2:=St×St
def p2(s:P2):PV:=.tup [s.1.pv,s.2.pv]
noncomputable def kf(s:St):List Key:=[.inr s.r,.inr s.b,.inl s.w,.inl s.v,.inr (mkS s.t)]
theorem zD{a b:St}(e:kf a=kf b):a=b:=by
 cases a;cases b;simp only[kf,M0,OO,Sum.inl.injEq,and_true] at e;obtain⟨h1,h2,h3,h4,h5⟩:=e;have h5:=mkS_inj h5;subst h1 h2 h3 h4 h5;rfl
def wy(s:P2):cU:=[.inr (kf s.1),.inr (kf s.2)]
theorem tk2(s:P2):rZ (p2 s)=some (wy s):=rfl
theorem GS{a b:P2}(e:wy a=wy b):a=b:=by
 unfold wy at e;simp only[M0,OO,and_true] at e;exact Pp (zD e.1) (zD e.2)
theorem su(s:P2):noFn (p2 s)=true:=by simp[p2,noFn,aL,St.nf]
def aX(p:BF.Row P2):PV:=.tup [p2 p.1,.str (gN p.2)]
def kL(found:List (BF.Row P2)):List cU:=found.map fun p=>wy p.1
noncomputable def tL(found:List (BF.Row P2)):List PV:=found.map fun _=>PV.bl true
theorem BX(found:List (BF.Row P2))(s:P2):((kL found).any fun j=>decide (j=wy s))=decide (s∈found.map (·.1)):=by
 rw[Lp];simp only[kL,Lg,LG,MW,decide_eq_true_eq,JS];constructor
 ·rintro⟨p,hp,e⟩
  exact⟨p,hp,GS e⟩
 ·rintro⟨p,hp,e⟩
  exact⟨p,hp,by rw[e]⟩
theorem HR(a b:Str×Str):gNe (hE a) (hE b)=some (.bl (!decide (a=b)))/\gEq (hE a) (hE b)=some (.bl (decide (a=b))):=by
 have e:cX [PV.str a.1,.str a.2] [PV.str b.1,.str b.2]=some (decide (a=b)):=by
  have:decide (a=b)=(decide (a.1=b.1) && decide (a.2=b.2)):=by
   rw[← Bool.decide_and];exact decide_eq_decide.mpr Prod.ext_iff
  rw[this]
  have qq:∀x y:Str,bS (PV.str x) (.str y)=some (decide (x=y)):=fun x y=>by
   show some (x == y)=_;rw[show (x == y)=decide (x=y) by rw[Lp,beq_iff_eq,decide_eq_true_iff]]
  simp only[cX,qq,P0,Oe]
 have z:e8 [PV.str a.1,.str a.2]<=60:=by simp[xB,e8]
 constructor
 ·have q:gNe (hE a) (hE b)=if e8 [PV.str a.1,.str a.2]<=60 then (cX [PV.str a.1,.str a.2] [PV.str b.1,.str b.2]).map fun b=>.bl (!b) else none:=rfl
  rw[q,if_pos z,e];rfl
 ·have q:gEq (hE a) (hE b)=if e8 [PV.str a.1,.str a.2]<=60 then (cX [PV.str a.1,.str a.2] [PV.str b.1,.str b.2]).map .bl else none:=rfl
  rw[q,if_pos z,e];rfl
theorem rK(q:Str)(k:List Str)(sc:Scope)(e:Stmt):(BE q k sc e).kept=k:=by
 cases e <;> rfl
theorem vW{n:Nat}{g:PSt->R Fl}{ρ:PSt}{p:PV}(h:g (ρ++KZ n .no)=.ok (.ret p)):qy n g ρ=.ok p:=by
 unfold qy;rw[h]
theorem oT(q:Str)(k:List Str)(sc:Scope)(e:Expr):(Bc q k sc e).kept=k:=by
 cases e <;> rfl
theorem kp1:bM.kept=(["ways","hour","H"]:List Str):=oT _ _ _ _
theorem kp2:bz.kept=[]:=oT _ _ _ _
theorem kc1:aT.kept=(["ways","others","hour","H","G"]:List Str):=rK _ _ _ _
theorem kc2:aE.kept=(["H","G"]:List Str):=rK _ _ _ _
theorem Ca{A B:Lam}(h:A.kept≠B.kept):A≠B:=fun e=>h (by rw[e])
theorem Jr(S1 S2 G W1 W2 T1 T2 X1 X2 H1 H2:PV)(hour:Int)(r1 r2:Str)(h0:gIx S1 (.int 0)=some (.str r1))(h0':gIx S2 (.int 0)=some (.str r2))(h1:gIx W1 (.str r1)=some X1)(h1':gIx W2 (.str r2)=some X2)(h2:bR [H1,.int hour,X1,S1,G]=some T1)(h2':bR [H2,.int hour,X2,S2,G]=some T2) :
  appL aT [.tup [S1,S2],G] [W1,W2,.int hour,H1,H2]=some (.tup [T1,T2]):=by
 unfold appL;rw[if_neg (Ca (by rw[kc1,kp1];decide)),if_neg (Ca (by rw[kc1,kp2];decide)),if_pos rfl];refine mV rfl (vW ?_);show g8 [.val (.tup [S1,S2]),.val G,.val W1,.val W2,.val (.int hour),.val H1,.val H2,.no]=_;have i0:gIx (.tup [S1,S2]) (.int 0)=some S1:=rfl;have i1:gIx (.tup [S1,S2]) (.int 1)=some S2:=rfl;generalize PV.tup [S1,S2]=SS at *;simp[g8,i0,i1,h0,h0',h1,h1',h2,h2']
theorem Jq(S1 S2 H1 H2:PV)(a b:Str×Str)(h1:dz [H1,S1]=some (hE a))(h2:dz [H2,S2]=some (hE b)):appL aE [.tup [S1,S2]] [H1,H2]=some (.bl (!decide (a=b))):=by
 unfold appL;rw[if_neg (Ca (by rw[kc2,kp1];decide)),if_neg (Ca (by rw[kc2,kp2];decide)),if_neg (Ca (by rw[kc2,kc1];decide)),if_pos rfl];refine mV rfl (vW ?_);show g7 [.val (.tup [S1,S2]),.val H1,.val H2]=_;have i0:gIx (.tup [S1,S2]) (.int 0)=some S1:=rfl;have i1:gIx (.tup [S1,S2]) (.int 1)=some S2:=rfl;have e:=(HR a b).1;generalize PV.tup [S1,S2]=SS at *;generalize hE a=A at *;generalize hE b=B at *;simp[g7,i0,i1,h1,h2,e]
theorem Ej(S0 F1 F2:PV)(KS:List cU)(PS FS:List PV)(d:Int)(NP SG T:PV)(c:Sl)(x x':Str)(k:cU)(lb:Bool)
  (h1:jn 1 (ab (aq (getV 6) (kI 0) gIx) (ab (getV 7) aI)) appL [.val S0,.val F1,.val F2,.own (.dtt KS PS),.own (.lst FS),.val (.int d),.val NP,.val SG,c]=.ok T)
  (h2:∀KS PS FS,jn 2 (ab (getV 8) aI) appL [.val S0,.val F1,.val F2,.own (.dtt KS PS),.own (.lst FS),.val (.int d),.val NP,.val SG,.val T]=.ok (.bl lb))
  (hk:rZ T=some k) (hx:gIx NP (.int 1)=some (.str x)) (ha:fK (.str x) SG=some (.str x')) (hl:KS.length<16777216) (hf:FS.length<16777216) :
  aR [.val S0,.val F1,.val F2,.own (.dtt KS PS),.own (.lst FS),.val (.int d),.val NP,.val SG,c]=.ok (if (KS.any fun j=>decide (j=k))=true then .next [.val S0,.val F1,.val F2,.own (.dtt KS PS),.own (.lst FS),.val (.int d),.val NP,.val SG,.val T] else if lb=true then .brk [.val S0,.val F1,.val F2,.own (.dtt (KS++[k]) (PS++[.bl true])),.own (.lst (FS++[.tup [T,.str x']])),.val (.int d),.val NP,.val SG,.val T] else .next [.val S0,.val F1,.val F2,.own (.dtt (KS++[k]) (PS++[.bl true])),.own (.lst (FS++[.tup [T,.str x']])),.val (.int d),.val NP,.val SG,.val T]):=by
 have ni:iV T (.dtt KS PS)=some (.bl (!(KS.any fun j=>decide (j=k)))):=by
  show (rZ T).map _=_;rw[hk];rfl
 by_cases hh:(KS.any fun j=>decide (j=k))=true
 ·rw[if_pos hh]
  rw[hh] at ni;simp[aR,h1,ni]
 ·have hh':(KS.any fun j=>decide (j=k))=false:=(MX _).mp hh
  rw[if_neg hh];rw[hh'] at ni
  have pt:ox 3 (getV 8) (kB true) [.val S0,.val F1,.val F2,.own (.dtt KS PS),.own (.lst FS),.val (.int d),.val NP,.val SG,.val T]=.ok (.next [.val S0,.val F1,.val F2,.own (.dtt (KS++[k]) (PS++[.bl true])),.own (.lst FS),.val (.int d),.val NP,.val SG,.val T]):=by
   rw[Ag (ks:=KS) (ps:=PS) (p:=.bl true) (kp:=T) (k:=k) rfl rfl rfl hk hl,xn hh'];rfl
  have h3:=h2 (KS++[k]) (PS++[.bl true]) (FS++[.tup [T,.str x']]);cases lb with
  | false=>simp[aR,h1,ni,pt,hx,ha,hf,h3]
  | true=>simp[aR,h1,ni,pt,hx,ha,hf,h3]
abbrev kE(S0 F1 F2:PV)(found:List (BF.Row P2))(d:Nat)(a b c:Sl):PSt:=[.val S0,.val F1,.val F2,.own (.dtt (kL found) (tL found)),.own (.lst (found.map aX)),.val (.int d),a,b,c]
section
variable{H G : PV}{hour : Int}(M : Mach H hour)(N : Mach G hour)
abbrev F1:PV:=.fn aT [M.ways,N.ways,.int hour,H,G]
abbrev F2(H G:PV):PV:=.fn aE [H,G]
def bQ(s:P2)(i:Nat):P2:=(M.lead s.1 i,N.lead s.2 i)
def cV(s:P2):Bool:=!decide (M.hp s.1=N.hp s.2)
def ok2(s:P2):Prop:=M.ok s.1/\N.ok s.2
def u2:List P2:=M.univ.flatMap fun a=>N.univ.map fun b=>(a,b)
theorem CC:(u2 M N).length<=3415104:=by
 have:(u2 M N).length=M.univ.length * N.univ.length:=by
  unfold u2;exact uF _ _ _ fun a _=>by rw[JT]
 rw[this];exact Ko (Q0 M.ul N.ul) (by decide)
theorem CB(s:P2)(h:ok2 M N s):s∈u2 M N:=by
 unfold u2;exact MU.mpr ⟨s.1,M.mem _ h.1,JS.mpr ⟨s.2,N.mem _ h.2,rfl⟩⟩
theorem Du(s:P2)(h:ok2 M N s)(i:Nat):ok2 M N (bQ M N s i):=⟨M.okl _ h.1 i,N.okl _ h.2 i⟩
theorem lW(s0:P2)(h0:ok2 M N s0){found:List (BF.Row P2)}(I:BF.Inv (bQ M N) s0 found):(∀p∈found,ok2 M N p.1)/\found.length<=3415104:=by
 have a:=BF.inv_P (bQ M N) s0 (ok2 M N) h0 fun s hs i _=>Du M N s hs i;refine⟨a found I,?_⟩;have:=BF.inv_len (bQ M N) s0 (u2 M N) (fun f J p hp=>CB M N p.1 (a f J p hp)) I;have:=CC M N;omega
theorem Ha(s:P2)(h:ok2 M N s)(i:Nat):appL aT [p2 s,WO.sg (cd i)] [M.ways,N.ways,.int hour,H,G]=some (p2 (bQ M N s i)):=by
 obtain⟨X1,a1,b1⟩:=M.fol s.1 h.1 i;obtain⟨X2,a2,b2⟩:=N.fol s.2 h.2 i;exact Jr s.1.pv s.2.pv _ _ _ _ _ X1 X2 H G hour s.1.r s.2.r rfl rfl a1 a2 b1 b2
theorem BR(s:P2)(h:ok2 M N s):appL aE [p2 s] [H,G]=some (.bl (cV M N s)):=Jq _ _ _ _ _ _ (M.hrd _ h.1) (N.hrd _ h.2)
theorem Ei(S0:PV)(found:List (BF.Row P2))(near:BF.Row P2)(hn:ok2 M N near.1)(i d:Nat)(c:Sl)(hl:found.length<16000000)(hr:near.2.length<=16000000) :
  aR (kE S0 (F1 M N) (F2 H G) found d (.val (aX near)) (.val (WO.sg (cd i))) c)=.ok (if bQ M N near.1 i∈found.map (·.1) then .next (kE S0 (F1 M N) (F2 H G) found d (.val (aX near)) (.val (WO.sg (cd i))) (.val (p2 (bQ M N near.1 i))))
   else if cV M N (bQ M N near.1 i)=true then .brk (kE S0 (F1 M N) (F2 H G) (found++[(bQ M N near.1 i,near.2++[i])]) d (.val (aX near)) (.val (WO.sg (cd i))) (.val (p2 (bQ M N near.1 i))))
   else .next (kE S0 (F1 M N) (F2 H G) (found++[(bQ M N near.1 i,near.2++[i])]) d (.val (aX near)) (.val (WO.sg (cd i))) (.val (p2 (bQ M N near.1 i))))):=by
 have n1:aL [p2 near.1,WO.sg (cd i)]=true:=by simp[aL,su,WO.sg,noFn]
 have n2:aL [M.ways,N.ways,.int hour,H,G]=true:=by simp[aL,M.nfW,N.nfW,M.nfH,N.nfH,noFn]
 have n3:aL [p2 (bQ M N near.1 i)]=true:=by simp[aL,su]
 have n4:aL [H,G]=true:=by simp[aL,M.nfH,N.nfH]
 have B:=Ej S0 (F1 M N) (F2 H G) (kL found) (tL found) (found.map aX) d (aX near) (WO.sg (cd i)) (p2 (bQ M N near.1 i)) c (gN near.2) (gN (near.2++[i])) (wy (bQ M N near.1 i)) (cV M N (bQ M N near.1 i))
  (iI (L:=aT) (cs:=[M.ways,N.ways,.int hour,H,G]) (qs:=[p2 near.1,WO.sg (cd i)]) rfl rfl n1 n2 (Ha M N near.1 hn i))
  (fun KS PS FS=>iI (L:=aE) (cs:=[H,G]) (qs:=[p2 (bQ M N near.1 i)]) rfl rfl n3 n4 (BR M N _ (Du M N _ hn i)))
  (tk2 _) rfl (tX near.2 i hr) (by simp[kL];omega) (by simp;omega)
 rw[BX] at B;refine B.trans ?_
 by_cases hm:bQ M N near.1 i∈found.map (·.1)
 ·rw[if_pos hm,if_pos (decide_eq_true hm)]
 ·rw[if_neg hm,if_neg (by simpa using hm)]
  simp only[kE,kL,tL,KL];rfl
theorem ny(S0:PV)(s0:P2)(h0:ok2 M N s0)(near:BF.Row P2)(d:Nat):∀(m k:Nat)(found:List (BF.Row P2))(b c:Sl),k+m=13->BF.Mid (bQ M N) s0 (cV M N) found d k near->∃found' b' c',
  fO (aC 7) aR ((QY k m).map fun i=>WO.sg (cd i)) (kE S0 (F1 M N) (F2 H G) found (d+1) (.val (aX near)) b c)=.ok (.next (kE S0 (F1 M N) (F2 H G) found' (d+1) (.val (aX near)) b' c'))/\
   (BF.Mid (bQ M N) s0 (cV M N) found' d 13 near\/∃init fin,found'=init++[fin]/\cV M N fin.1=true/\BF.Res (bQ M N) s0 (cV M N) found')
 | 0,k,found,b,c,hk,I=>⟨found,b,c,rfl,.inl ((show k=13 by omega)▸I)⟩
 | m+1,k,found,b,c,hk,I=>by
  have hn:ok2 M N near.1:=(lW M N s0 h0 I.inv).1 near (KA I.at_);have hl:=(lW M N s0 h0 I.inv).2;have hd:=(JL.mp I.at_).1;have hr:=I.inv.len d near I.at_;have e1:=Ei M N S0 found near hn k (d+1) c (by omega) (by omega);have e0:aC 7 (WO.sg (cd k)) (kE S0 (F1 M N) (F2 H G) found (d+1) (.val (aX near)) b c)=some (kE S0 (F1 M N) (F2 H G) found (d+1) (.val (aX near)) (.val (WO.sg (cd k))) c):=rfl;rw[PL,JQ];unfold fO;rw[e0];simp only[R.ofO_some,R.ok_bind,e1]
  by_cases hm:bQ M N near.1 k∈found.map (·.1)
  ·rw[if_pos hm]
   have lf:cV M N (bQ M N near.1 k)=false:=by
    obtain⟨q,hq,e⟩:=JS.mp hm;rw[← e];exact I.nl q hq
   have I2:=I.go (by omega) lf;unfold BF.inn at I2;rw[if_pos hm] at I2;exact ny S0 s0 h0 near d m (k+1) found _ _ (by omega) I2
  ·rw[if_neg hm]
   by_cases hb:cV M N (bQ M N near.1 k)=true
   ·rw[if_pos hb]
    exact⟨_,_,_,rfl,.inr ⟨found,_,rfl,hb,I.stop (by omega) hm hb⟩⟩
   ·rw[if_neg hb]
    have I2:=I.go (by omega) ((MX _).mp hb);unfold BF.inn at I2;rw[if_neg hm] at I2;exact ny S0 s0 h0 near d m (k+1) _ _ _ (by omega) I2
theorem GX(S0:PV)(s0:P2)(h0:ok2 M N s0)(found:List (BF.Row P2))(near:BF.Row P2)(d:Nat)(hd:found[d]?=some near)(O:BF.Out (bQ M N) s0 (cV M N) found d)(a b c:Sl):∃found' b' c',
  aQ (kE S0 (F1 M N) (F2 H G) found d a b c)=.ok (.next (kE S0 (F1 M N) (F2 H G) found' (d+1) (.val (aX near)) b' c'))/\
   ((BF.Out (bQ M N) s0 (cV M N) found' (d+1)/\d<found'.length)\/∃init fin,found'=init++[fin]/\cV M N fin.1=true/\BF.Res (bQ M N) s0 (cV M N) found'):=by
 obtain⟨found',b',c',e,r⟩:=ny M N S0 s0 h0 near d 13 0 found b c rfl (O.mid hd);refine⟨found',b',c',?_,r.imp (fun r=>⟨r.out,(JL.mp r.at_).1⟩) id⟩;have i0:atI (found.map aX) (d:Int)=some (aX near):=gH rfl (by rw[K2,hd];rfl);have es:c_SIGNS=.str "0123456789*#w":=rfl;have it:=yY;have er:QY 0 13=KQ 13:=rfl;rw[er] at e;have ag:∀(A1 A2 A3 A4 A5 A6 A7 A8:Sl),BU 5 (kI 1) [A1,A2,A3,A4,A5,.val (.int d),A6,A7,A8]=.ok (.next [A1,A2,A3,A4,A5,.val (.int ((d+1:Nat):Int)),A6,A7,A8]):=fun _ _ _ _ _ _ _ _=>rfl;have e:fO (aC 7) aR ((KQ 13).map fun i=>WO.sg (cd i)) [.val S0,.val (F1 M N),.val (F2 H G),.own (.dtt (kL found) (tL found)),.own (.lst (found.map aX)),.val (.int ((d+1:Nat):Int)),.val (aX near),b,c]=_:=e;rw[← e];simp only[kE];generalize F1 M N=G1 at *;generalize F2 H G=G2 at *;generalize found.map aX=FS at *;generalize PV.dtt (kL found) (tL found)=KD at *;generalize aX near=NP at *;generalize (KQ 13).map (fun i=>WO.sg (cd i))=SS at *;simp[aQ,i0,ag,es,it]
noncomputable def tst:PSt->R Bool:=(BY (dZ (aq (getV 5) (un1 (lX 4) rj) gLt)) (Dw (dZ (jn 2 (ab (aq (aq (lX 4) (un1 (kI 1) wB) gIx) (kI 0) gIx) aI) appL))))
theorem zJ(S0 G1:PV)(f':List (BF.Row P2))(p:BF.Row P2)(hp:ok2 M N p.1)(d:Nat)(a b c:Sl):tst (kE S0 G1 (F2 H G) (f'++[p]) d a b c)=.ok (decide (d<(f'++[p]).length) && !cV M N p.1):=by
 by_cases hd:d<(f'++[p]).length
 ·have l:gIx (.lst ((f'++[p]).map aX)) (.int (-1))=some (aX p):=by
   rw[KL];exact qz (f'.map aX) (aX p)
  have ng:wB (.int 1)=some (.int (-1)):=rfl;have g0:gIx (aX p) (.int 0)=some (p2 p.1):=rfl
  have cv:jn 2 (ab (aq (aq (lX 4) (un1 (kI 1) wB) gIx) (kI 0) gIx) aI) appL (kE S0 G1 (F2 H G) (f'++[p]) d a b c)=.ok (.bl (cV M N p.1)):=by
   refine iI (L:=aE) (cs:=[H,G]) (qs:=[p2 p.1]) rfl ?_ (by simp[aL,su]) (by simp[aL,M.nfH,N.nfH]) (BR M N _ hp);simp only[kE];generalize (f'++[p]).map aX=FS at *;generalize aX p=NP at *;simp[ng,l,g0]
  have hd':(d:Int)<((f'++[p]).map aX).length:=by rw[JT];omega
  rw[decide_eq_true hd];simp only[kE] at cv ⊢;generalize (f'++[p]).map aX=FS at *;generalize PV.dtt (kL (f'++[p])) (tL (f'++[p]))=KD at *;simp[tst,hd',cv]
 ·rw[decide_eq_false hd]
  have hd':¬ (d:Int)<(((f'++[p]).map aX).length:Nat):=by rw[JT];omega
  simp only[kE];generalize (f'++[p]).map aX=FS at *;simp[tst,hd']
theorem zK(S0 G1:PV)(f':List (BF.Row P2))(p:BF.Row P2)(hp:ok2 M N p.1)(hl:cV M N p.1=true)(n d:Nat)(a b c:Sl):whF tst aQ (n+1) (kE S0 G1 (F2 H G) (f'++[p]) d a b c)=.ok (.next (kE S0 G1 (F2 H G) (f'++[p]) d a b c)):=by
 unfold whF;rw[zJ M N S0 G1 f' p hp d a b c,hl,R.ok_bind];simp
theorem rB(S0:PV)(s0:P2)(h0:ok2 M N s0):∀(n d:Nat)(found:List (BF.Row P2))(a b c:Sl),BF.Out (bQ M N) s0 (cV M N) found d->d<=found.length->3415104<d+n->∃found' d' a' b' c',
  whF tst aQ (n+1) (kE S0 (F1 M N) (F2 H G) found d a b c)=.ok (.next (kE S0 (F1 M N) (F2 H G) found' d' a' b' c'))/\BF.Res (bQ M N) s0 (cV M N) found'
 | n,d,found,a,b,c,O,hd,hn=>by
  obtain⟨k1,k2⟩:=lW M N s0 h0 O.inv;have hne:found≠[]:=by obtain⟨tl,e⟩:=O.inv.h0;rw[e];simp
  obtain⟨f',p,hf⟩:∃f' p,found=f'++[p]:=⟨found.dropLast,found.getLast hne,(Ld hne).symm⟩;have pm:p∈found:=by rw[hf];simp
  have ht:=zJ M N S0 (F1 M N) f' p (k1 p pm) d a b c;rw[← hf,O.nl p pm] at ht;cases e:found[d]? with
  | none=>
   have hge:¬ d<found.length:=by have:=Nj.mp e;omega
   rw[decide_eq_false hge] at ht;refine⟨found,d,a,b,c,?_,O.done (by omega)⟩;unfold whF;rw[ht,R.ok_bind];simp
  | some near=>
   have hdl:d<found.length:=(JL.mp e).1;rw[decide_eq_true hdl] at ht;obtain⟨found1,b',c',eb,r⟩:=GX M N S0 s0 h0 found near d e O a b c;cases n with
   | zero=>omega
   | succ n=>
    unfold whF;rw[ht,R.ok_bind];simp only[Bool.not_false,Bool.and_self,if_true];rw[eb,R.ok_bind];rcases r with⟨r,hge⟩|⟨init,fin,rfl,hb,r⟩
    ·exact rB S0 s0 h0 n (d+1) found1 _ b' c' r hge (by omega)
    ·exact⟨_,_,_,_,_,zK M N S0 (F1 M N) init fin ((lW M N s0 h0 r.inv).1 fin (by simp)) hb n (d+1) _ b' c',r⟩
termination_by n=>n
end
def qE(p:BF.Row P2):PV:=.tup [p.1.1.pv,p.1.2.pv,.str (gN p.2)]
theorem yt{α:Type}(l:List α)(x:α):pL (l++[x]) none (some (-1))=l:=by
 have e0:HT.sIx (l++[x]).length 0 none=0:=rfl
 have e1:HT.sIx (l++[x]).length (l++[x]).length (some (-1))=l.length:=by
  rw[KF,MA];unfold HT.sIx
  first
   | (simp;omega)
   | simp
   | (split <;> omega)
 unfold pL;rw[e0,e1];simp
theorem wR{L:Lam}{idx:List Nat}{fs:PSt->R (List PV)}{app:Lam->List PV->List PV->Option PV}{ρ:PSt}{cs qs:List PV}{p:PV}(hc:qw ρ idx=.ok cs)(hq:fs ρ=.ok qs)(n1:aL qs=true)(n2:aL cs=true)(e:app L qs cs=some p)(n3:noFn p=true):m7 L idx fs app ρ=.ok p:=by
 unfold m7;rw[hc];show (fs ρ >>= _)=_;rw[hq];show (if aL qs=true/\aL cs=true then _ else _)=_;rw[if_pos ⟨n1,n2⟩,e];show (if noFn p=true then _ else _)=_;rw[if_pos n3]
theorem yO{i:Nat}{g:PSt->R Fl}{ρ:PSt}(h:ρ[i]?=some .no):zQ i g ρ=g ρ:=by
 unfold zQ;rw[h]
theorem CZ(p:BF.Row P2):noFn (aX p)=true:=by simp[aX,noFn,aL,su]
section
variable{H G : PV}{hour : Int}(M : Mach H hour)(N : Mach G hour)
theorem yg:∃found,BF.Res (bQ M N) (M.s0,N.s0) (cV M N) found/\bF [p2 (M.s0,N.s0),F1 M N,F2 H G]=some (.lst (found.map aX)):=by
 have h0:ok2 M N (M.s0,N.s0):=⟨M.ok0,N.ok0⟩
 have r0:aX ((M.s0,N.s0),[])=.tup [p2 (M.s0,N.s0),.str ""]:=by
  unfold aX gN;rfl
 obtain⟨found,d',a',b',c',ew,RR0⟩:∃found d' a' b' c',whF tst aQ 10500000 (kE (p2 (M.s0,N.s0)) (F1 M N) (F2 H G) [((M.s0,N.s0),[])] 0 .no .no .no)=.ok (.next (kE (p2 (M.s0,N.s0)) (F1 M N) (F2 H G) found d' a' b' c'))/\BF.Res (bQ M N) (M.s0,N.s0) (cV M N) found:=by
  cases hl:cV M N (M.s0,N.s0) with
  | true=>exact⟨_,_,_,_,_,zK M N (p2 (M.s0,N.s0)) (F1 M N) [] ((M.s0,N.s0),[]) h0 hl 10499999 0 .no .no .no,BF.res_0 hl⟩
  | false=>exact rB M N (p2 (M.s0,N.s0)) (M.s0,N.s0) h0 10499999 0 [((M.s0,N.s0),[])] .no .no .no (BF.out_0 hl) (by simp) (by decide)
 refine⟨found,RR0,mG rfl ?_⟩;have tk:=tk2 (M.s0,N.s0);have ew:whF tst aQ 10500000 [.val (p2 (M.s0,N.s0)),.val (F1 M N),.val (F2 H G),.own (.dtt [wy (M.s0,N.s0)] [.bl true]),.own (.lst [aX ((M.s0,N.s0),[])]),.val (.int 0),.no,.no,.no]=.ok (.next [.val (p2 (M.s0,N.s0)),.val (F1 M N),.val (F2 H G),.own (.dtt (kL found) (tL found)),.own (.lst (found.map aX)),.val (.int d'),a',b',c']):=ew;rw[r0] at ew
 have dt:sM (getV 0) (kB true) [.val (p2 (M.s0,N.s0)),.val (F1 M N),.val (F2 H G),.no,.no,.no,.no,.no,.no]=.ok (.dtt [wy (M.s0,N.s0)] [.bl true]):=by
  unfold sM;rw[show getV 0 [.val (p2 (M.s0,N.s0)),.val (F1 M N),.val (F2 H G),.no,.no,.no,.no,.no,.no]=.ok (p2 (M.s0,N.s0)) from rfl];simp only[R.ok_bind,Hu,tk,R.ofO_some]
 unfold tst at ew;generalize F1 M N=G1 at *;generalize F2 H G=G2 at *;generalize PV.dtt (kL found) (tL found)=KD at *;generalize PV.dtt [wy (M.s0,N.s0)] [.bl true]=K0 at *;generalize found.map aX=FS at *;generalize p2 (M.s0,N.s0)=S at *;simp[eJ,PU.start,dt];rw[ew];simp
theorem sP:∃found,BF.Inv (bQ M N) (M.s0,N.s0) found/\((BF.Whole (bQ M N) (cV M N) found/\ax [H,G,.int hour]=some (.tup [.str "alike",.lst (found.map qE)])) ∨
  ∃init fin,found=init++[fin]/\BF.Stops (bQ M N) (cV M N) init fin/\ax [H,G,.int hour]=some (.tup [.str "apart",.str (gN fin.2),.lst (init.map qE)])):=by
 obtain⟨found,RR0,ef⟩:=yg M N;have h0:ok2 M N (M.s0,N.s0):=⟨M.ok0,N.ok0⟩;obtain⟨k1,k2⟩:=lW M N _ h0 RR0.inv;refine⟨found,RR0.inv,?_⟩;have hne:found≠[]:=by obtain⟨tl,e⟩:=RR0.inv.h0;rw[e];simp
 obtain⟨f',p,hf⟩:∃f' p,found=f'++[p]:=⟨found.dropLast,found.getLast hne,(Ld hne).symm⟩;have pm:p∈found:=by rw[hf];simp
 have ew1:=M.ew;have ew2:=N.ew;have eb1:=M.eb;have eb2:=N.eb
 have nfl:noFn (.lst (found.map aX))=true:=by
  have:=dR aX found fun p _=>CZ p;simpa [noFn] using this
 have n0:noFn (p2 (M.s0,N.s0))=true:=su _
 have fa:∀a5 a6 a7 a8 a9:Sl,ji (wM (dB (ab (aO (ab (getV 0) (ab (getV 2) aI)) c6) (ab (aO (ab (getV 1) (ab (getV 2) aI)) c6) aI))) (pK aT [3,4,2,0,1] (pK aE [0,1] aI))) bF [.val H,.val G,.val (.int hour),.val M.ways,.val N.ways,a5,a6,a7,a8,a9]=.ok (.lst (found.map aX)):=fun a5 a6 a7 a8 a9=>by
  have e1:(wM (dB (ab (aO (ab (getV 0) (ab (getV 2) aI)) c6) (ab (aO (ab (getV 1) (ab (getV 2) aI)) c6) aI))) (pK aT [3,4,2,0,1] (pK aE [0,1] aI))) [.val H,.val G,.val (.int hour),.val M.ways,.val N.ways,a5,a6,a7,a8,a9]=.ok [p2 (M.s0,N.s0),F1 M N,F2 H G]:=by
   unfold wM;rw[show dB (ab (aO (ab (getV 0) (ab (getV 2) aI)) c6) (ab (aO (ab (getV 1) (ab (getV 2) aI)) c6) aI)) [.val H,.val G,.val (.int hour),.val M.ways,.val N.ways,a5,a6,a7,a8,a9]=.ok (p2 (M.s0,N.s0)) by simp[eb1,eb2,p2]];simp only[R.ok_bind,n0,if_true];rfl
  unfold ji;rw[e1];simp only[R.ok_bind,ef,R.ofO_some,nfl,if_true]
 have it:gz (.lst (found.map aX))=some (found.map aX):=rfl
 have cc:de (jq 2 (bt (aC 0) (bt (aC 1) jv))) qB fF [.no,.no] (found.map aX)=.ok (found.map qE):=by
  exact WO.in_list_comp (enc:=aX) (h:=jq 2 (bt (aC 0) (bt (aC 1) jv))) (fe:=fF) (ρ:=[.no,.no]) qE found fun p _=>⟨[.val (p2 p.1),.val (.str (gN p.2))],rfl,by
   have i0:gIx (p2 p.1) (.int 0)=some p.1.1.pv:=rfl;have i1:gIx (p2 p.1) (.int 1)=some p.1.2.pv:=rfl;unfold qE;generalize p2 p.1=Q at *;generalize gN p.2=RR at *;generalize p.1.1.pv=A at *;generalize p.1.2.pv=B at *;simp[fF,i0,i1]⟩
 have z1:(found.map qE).length<=16777216:=by rw[JT];omega
 have la:gIx (.lst (found.map aX)) (.int (-1))=some (aX p):=by
  rw[hf,KL];exact qz (f'.map aX) (aX p)
 have ng:wB (.int 1)=some (.int (-1)):=rfl;have g0:gIx (aX p) (.int 0)=some (p2 p.1):=rfl;have g1:gIx (aX p) (.int 1)=some (.str (gN p.2)):=rfl
 have cf:∀a2 a3 a4 a5 a6 a7 a8:Sl,m7 aE [0,1] (ab (aq (getV 9) (kI 0) gIx) aI) appL [.val H,.val G,a2,a3,a4,a5,a6,a7,a8,.val (aX p)]=.ok (.bl (cV M N p.1)):=fun _ _ _ _ _ _ _=>by
  refine wR (cs:=[H,G]) (qs:=[p2 p.1]) rfl ?_ (by simp[aL,su]) (by simp[aL,M.nfH,N.nfH]) (BR M N _ (k1 p pm)) rfl;generalize aX p=NP at *;simp[g0]
 have sl:gSl (.lst (found.map qE)) none (some (-1))=some (.lst (f'.map qE)):=by
  show some (PV.lst (pL (found.map qE) none (some (-1))))=_;rw[hf,KL,Qw,yt]
 have d5:∀(g:PSt->R Fl)(A B C D E a7 a8 a9:Sl),zQ 5 g [A,B,C,D,E,.no,.no,a7,a8,a9]=g [A,B,C,D,E,.no,.no,a7,a8,a9]:=fun g A B C D E a7 a8 a9=>yO rfl;have d6:∀(g:PSt->R Fl)(A B C D E a7 a8 a9:Sl),zQ 6 g [A,B,C,D,E,.no,.no,a7,a8,a9]=g [A,B,C,D,E,.no,.no,a7,a8,a9]:=fun g A B C D E a7 a8 a9=>yO rfl
 have main:ax [H,G,.int hour]=some (if cV M N p.1=true then .tup [.str "apart",.str (gN p.2),.lst (f'.map qE)] else .tup [.str "alike",.lst (found.map qE)]):=by
  refine aF rfl ?_;generalize F1 M N=G1 at *;generalize found.map aX=FS at *;generalize found.map qE=FT at *;generalize f'.map qE=IT at *;generalize aX p=RP at *;generalize gN p.2=RR at *;generalize M.ways=W1 at *;generalize N.ways=W2 at *;cases hb:cV M N p.1 with
  | true=>
   rw[hb] at cf;simp[ij,PU.start,ew1,ew2,d5,d6,fa,it,cF,cc,z1,ng,la,cf,g1,sl]
  | false=>
   rw[hb] at cf;simp[ij,PU.start,ew1,ew2,d5,d6,fa,it,cF,cc,z1,ng,la,cf]
 rcases RR0.res with W | ⟨init,fin,e,S⟩
 ·refine .inl ⟨W,?_⟩
  rw[main,W.1 p pm];rfl
 ·have e2:=hf.symm.trans e
  obtain⟨e3,e4⟩:=List.append_inj' e2 rfl;injection e4 with e4 _;refine .inr ⟨init,fin,e,S,?_⟩;rw[main,e4,S.1,e3];rfl
end
def bE(p:BF.Row St):PV:=.tup [p.1.pv,.str (gN p.2)]
def kL1(found:List (BF.Row St)):List cU:=found.map fun p=>p.1.key
noncomputable def tL1(found:List (BF.Row St)):List PV:=found.map fun _=>PV.bl true
theorem F5(found:List (BF.Row St))(s:St):((kL1 found).any fun j=>decide (j=s.key))=decide (s∈found.map (·.1)):=by
 rw[Lp];simp only[kL1,Lg,LG,MW,decide_eq_true_eq,JS];constructor
 ·rintro⟨p,hp,e⟩
  exact⟨p,hp,St.kinj e⟩
 ·rintro⟨p,hp,e⟩
  exact⟨p,hp,by rw[e]⟩
abbrev nW(S0 F1 F2:PV)(found:List (BF.Row St))(d:Nat)(a b c:Sl):PSt:=[.val S0,.val F1,.val F2,.own (.dtt (kL1 found) (tL1 found)),.own (.lst (found.map bE)),.val (.int d),a,b,c]
theorem ap1(S G W_ T X:PV)(hour:Int)(H:PV)(r:Str)(h0:gIx S (.int 0)=some (.str r))(h1:gIx W_ (.str r)=some X)(h2:bR [H,.int hour,X,S,G]=some T):appL bM [S,G] [W_,.int hour,H]=some T:=by
 unfold appL;rw[if_pos rfl];refine mV rfl ?_;show gw [.val S,.val G,.val W_,.val (.int hour),.val H]=_;simp[gw,h0,h1,h2]
theorem ap2(S:PV):appL bz [S] []=some (.bl false):=by
 unfold appL;rw[if_neg (Ca (by rw[kp2,kp1];decide)),if_pos rfl];exact mV rfl rfl
section
variable{H : PV}{hour : Int}(M : Mach H hour)
abbrev FA1:PV:=.fn bM [M.ways,.int hour,H]
abbrev FB1:PV:=.fn bz []
theorem fo1(S0:PV)(found:List (BF.Row St))(near:BF.Row St)(hn:M.ok near.1)(i d:Nat)(c:Sl)(hl:found.length<1000000)(hr:near.2.length<=100000) :
  aR (nW S0 (FA1 M) FB1 found d (.val (bE near)) (.val (WO.sg (cd i))) c)=.ok (.next (nW S0 (FA1 M) FB1 (BF.inn M.lead near found i) d (.val (bE near)) (.val (WO.sg (cd i))) (.val (M.lead near.1 i).pv))):=by
 obtain⟨X,e1,e2⟩:=M.fol near.1 hn i;have n1:aL [near.1.pv,WO.sg (cd i)]=true:=by simp[aL,St.nf,WO.sg,noFn]
 have n2:aL [M.ways,.int hour,H]=true:=by simp[aL,M.nfW,M.nfH,noFn]
 have n3:aL [(M.lead near.1 i).pv]=true:=by simp[aL,St.nf]
 have B:=Ej S0 (FA1 M) FB1 (kL1 found) (tL1 found) (found.map bE) d (bE near) (WO.sg (cd i)) (M.lead near.1 i).pv c (gN near.2) (gN (near.2++[i])) (M.lead near.1 i).key false
  (iI (L:=bM) (cs:=[M.ways,.int hour,H]) (qs:=[near.1.pv,WO.sg (cd i)]) rfl rfl n1 n2 (ap1 near.1.pv (WO.sg (cd i)) M.ways _ X hour H near.1.r rfl e1 e2))
  (fun KS PS FS=>iI (L:=bz) (cs:=[]) (qs:=[(M.lead near.1 i).pv]) rfl rfl n3 rfl (ap2 _))
  (St.tk _) rfl (tX near.2 i (by omega)) (by simp[kL1];omega) (by simp;omega)
 rw[F5] at B;refine B.trans ?_;unfold BF.inn
 by_cases hm:M.lead near.1 i∈found.map (·.1)
 ·rw[if_pos hm,if_pos (decide_eq_true hm)]
 ·rw[if_neg hm,if_neg (by simpa using hm),if_neg (by decide)]
  simp only[nW,kL1,tL1,KL];rfl
theorem Bp(lead:St->Nat->St)(near:BF.Row St)(found:List (BF.Row St))(i:Nat):(BF.inn lead near found i).length<=found.length+1:=by
 unfold BF.inn
 split
 ·omega
 ·simp
theorem fs1(S0:PV)(near:BF.Row St)(hn:M.ok near.1)(d:Nat)(hr:near.2.length<=100000):∀(l:List Nat)(found:List (BF.Row St))(b c:Sl),found.length+l.length<1000000->∃b' c',
  fO (aC 7) aR (l.map fun i=>WO.sg (cd i)) (nW S0 (FA1 M) FB1 found d (.val (bE near)) b c)=.ok (.next (nW S0 (FA1 M) FB1 (l.foldl (BF.inn M.lead near) found) d (.val (bE near)) b' c'))
 | [],found,b,c,_=>⟨b,c,rfl⟩
 | i::l,found,b,c,hl=>by
  rw[KU] at hl;have e1:=fo1 M S0 found near hn i d c (by omega) hr;have il:=Bp M.lead near found i;obtain⟨b',c',e2⟩:=fs1 S0 near hn d hr l (BF.inn M.lead near found i) (.val (WO.sg (cd i))) (.val (M.lead near.1 i).pv) (by omega);refine⟨b',c',?_⟩;have e0:aC 7 (WO.sg (cd i)) (nW S0 (FA1 M) FB1 found d (.val (bE near)) b c)=some (nW S0 (FA1 M) FB1 found d (.val (bE near)) (.val (WO.sg (cd i))) c):=rfl;rw[JQ,Lc];unfold fO;rw[e0];simp only[R.ofO_some,R.ok_bind,e1];exact e2
theorem fb1(S0:PV)(found:List (BF.Row St))(near:BF.Row St)(d:Nat)(hd:found[d]?=some near)(hn:M.ok near.1)(hr:near.2.length<=100000)(a b c:Sl)(hl:found.length<100000):∃b' c',
  aQ (nW S0 (FA1 M) FB1 found d a b c)=.ok (.next (nW S0 (FA1 M) FB1 (BF.sweep M.lead near found) (d+1) (.val (bE near)) b' c')):=by
 obtain⟨b',c',e⟩:=fs1 M S0 near hn (d+1) hr (KQ 13) found b c (by simp;omega);refine⟨b',c',?_⟩;have i0:atI (found.map bE) (d:Int)=some (bE near):=gH rfl (by rw[K2,hd];rfl);have es:c_SIGNS=.str "0123456789*#w":=rfl;have it:=yY;have ag:∀(A1 A2 A3 A4 A5 A6 A7 A8:Sl),BU 5 (kI 1) [A1,A2,A3,A4,A5,.val (.int d),A6,A7,A8]=.ok (.next [A1,A2,A3,A4,A5,.val (.int ((d+1:Nat):Int)),A6,A7,A8]):=fun _ _ _ _ _ _ _ _=>rfl;have e:fO (aC 7) aR ((KQ 13).map fun i=>WO.sg (cd i)) [.val S0,.val (FA1 M),.val FB1,.own (.dtt (kL1 found) (tL1 found)),.own (.lst (found.map bE)),.val (.int ((d+1:Nat):Int)),.val (bE near),b,c]=_:=e;show _=R.ok (Fl.next (nW S0 (FA1 M) FB1 ((KQ 13).foldl (BF.inn M.lead near) found) (d+1) (.val (bE near)) b' c'));rw[← e];simp only[nW];generalize FA1 M=G1 at *;generalize FB1=G2 at *;generalize found.map bE=FS at *;generalize PV.dtt (kL1 found) (tL1 found)=KD at *;generalize bE near=NP at *;generalize (KQ 13).map (fun i=>WO.sg (cd i))=SS at *;simp[aQ,i0,ag,es,it]
theorem ft1(S0 G1:PV)(found:List (BF.Row St))(hne:found≠[])(d:Nat)(a b c:Sl):tst (nW S0 G1 FB1 found d a b c)=.ok (decide (d<found.length)):=by
 by_cases hd:d<found.length
 ·obtain⟨f',p,rfl⟩:∃f' p,found=f'++[p]:=⟨found.dropLast,found.getLast hne,(Ld hne).symm⟩
  have l:gIx (.lst ((f'++[p]).map bE)) (.int (-1))=some (bE p):=by
   rw[KL];exact qz (f'.map bE) (bE p)
  have ng:wB (.int 1)=some (.int (-1)):=rfl;have g0:gIx (bE p) (.int 0)=some p.1.pv:=rfl
  have cv:jn 2 (ab (aq (aq (lX 4) (un1 (kI 1) wB) gIx) (kI 0) gIx) aI) appL (nW S0 G1 FB1 (f'++[p]) d a b c)=.ok (.bl false):=by
   refine iI (L:=bz) (cs:=[]) (qs:=[p.1.pv]) rfl ?_ (by simp[aL,St.nf]) rfl (ap2 _);simp only[nW];generalize (f'++[p]).map bE=FS at *;generalize bE p=NP at *;simp[ng,l,g0]
  have hd':(d:Int)<((f'++[p]).map bE).length:=by rw[JT];omega
  rw[decide_eq_true hd];simp only[nW] at cv ⊢;generalize (f'++[p]).map bE=FS at *;generalize PV.dtt (kL1 (f'++[p])) (tL1 (f'++[p]))=KD at *;simp[tst,hd',cv]
 ·rw[decide_eq_false hd]
  have hd':¬ (d:Int)<((found.map bE).length:Nat):=by rw[JT];omega
  simp only[nW];generalize found.map bE=FS at *;simp[tst,hd']
theorem fw1(S0:PV)(s0:St)(U:List St)(hUl:U.length<=19999)(hU:∀found,BF.Inv M.lead s0 found->∀p∈found,p.1∈U)(hP:∀found,BF.Inv M.lead s0 found->∀p∈found,M.ok p.1):∀(n d:Nat)(found:List (BF.Row St))(a b c:Sl),BF.Inv M.lead s0 found->(∀near,found[d]?=some near->∀p∈found,BF.lt p.2 (near.2++[0]))->d<=found.length->U.length<d+n->∃d' a' b' c',
  whF tst aQ n (nW S0 (FA1 M) FB1 found d a b c)=.ok (.next (nW S0 (FA1 M) FB1 (BF.bfs M.lead n d found) d' a' b' c'))
 | 0,d,found,a,b,c,I,top,hd,hn=>by
  have:=BF.inv_len M.lead s0 U hU I;omega
 | n+1,d,found,a,b,c,I,top,hd,hn=>by
  have hl:=BF.inv_len M.lead s0 U hU I;have hne:found≠[]:=by obtain⟨tl,e⟩:=I.h0;rw[e];simp
  have ht:=ft1 S0 (FA1 M) found hne d a b c;unfold whF BF.bfs;rw[ht];cases e:found[d]? with
  | none=>
   have:¬ d<found.length:=by have:=Nj.mp e;omega
   rw[decide_eq_false this];exact⟨d,a,b,c,rfl⟩
  | some near=>
   have hdl:d<found.length:=(JL.mp e).1;rw[decide_eq_true hdl];have nm:near∈found:=KA e;obtain⟨b',c',eb⟩:=fb1 M S0 found near d e (hP found I near nm) (by have:=I.len d near e;omega) a b c (by omega);obtain⟨I2,⟨tl,e2⟩,t2⟩:=BF.sweep_keep M.lead s0 I e (top near e);obtain⟨d',a2,b2,c2,ew⟩:=fw1 S0 s0 U hUl hU hP n (d+1) (BF.sweep M.lead near found) (.val (bE near)) b' c' I2 t2 (by rw[e2,KF];omega) (by omega);refine⟨d',a2,b2,c2,?_⟩;rw[R.ok_bind,if_pos rfl,eb,R.ok_bind];exact ew
structure Found(found:List (BF.Row St)):Prop where
 inv:BF.Inv M.lead M.s0 found
 cl:∀p∈found,∀i<13,BF.Cl M.lead found p i
 ok:∀p∈found,M.ok p.1
 ln:found.length<=1848
theorem Ay(p:BF.Row St):noFn (bE p)=true:=by simp[bE,noFn,aL,St.nf]
theorem ud:∃found,Found M found/\iy [H,.int hour]=some (.lst (found.map bE)):=by
 have hP:∀found,BF.Inv M.lead M.s0 found->∀p∈found,M.ok p.1:=BF.inv_P _ M.s0 M.ok M.ok0 fun s hs i _=>M.okl s hs i;have hU:∀found,BF.Inv M.lead M.s0 found->∀p∈found,p.1∈M.univ:=fun found I p hp=>M.mem p.1 (hP found I p hp);have hUl:=M.ul;obtain⟨J1,J2⟩:=BF.bfs_all M.lead M.s0 M.univ 10500000 (by omega) hU;obtain⟨d',a',b',c',ew⟩:=fw1 M M.s0.pv M.s0 M.univ (by omega) hU hP 10500000 0 [(M.s0,[])] .no .no .no (BF.inv_0 _ M.s0) (fun near e=>BF.top_0 M.s0 near e) (by simp) (by omega);have hl:=BF.inv_len M.lead M.s0 M.univ hU J1;generalize BF.bfs M.lead 10500000 0 [(M.s0,[])]=found at *;refine⟨found,⟨J1,J2,hP _ J1,by omega⟩,?_⟩
 have nfl:noFn (.lst (found.map bE))=true:=by
  have:=dR bE found fun p _=>Ay p;simpa [noFn] using this
 have r0:bE (M.s0,[])=.tup [M.s0.pv,.str ""]:=by
  unfold bE gN;rfl
 have tk:=M.s0.tk;have ew:whF tst aQ 10500000 [.val M.s0.pv,.val (FA1 M),.val FB1,.own (.dtt [M.s0.key] [.bl true]),.own (.lst [bE (M.s0,[])]),.val (.int 0),.no,.no,.no]=.ok (.next [.val M.s0.pv,.val (FA1 M),.val FB1,.own (.dtt (kL1 found) (tL1 found)),.own (.lst (found.map bE)),.val (.int d'),a',b',c']):=ew;rw[r0] at ew
 have dt:sM (getV 0) (kB true) [.val M.s0.pv,.val (FA1 M),.val FB1,.no,.no,.no,.no,.no,.no]=.ok (.dtt [M.s0.key] [.bl true]):=by
  unfold sM;rw[show getV 0 [.val M.s0.pv,.val (FA1 M),.val FB1,.no,.no,.no,.no,.no,.no]=.ok M.s0.pv from rfl];simp only[R.ok_bind,Hu,tk,R.ofO_some]
 have snf:=M.s0.nf;have hW:=M.ew;have hb:=M.eb;generalize found.map bE=FS at *;generalize PV.dtt (kL1 found) (tL1 found)=KD at *
 have fr:bF [M.s0.pv,FA1 M,FB1]=some (.lst FS):=by
  refine mG rfl ?_;unfold tst at ew;generalize FA1 M=G1 at *;generalize FB1=G2 at *;generalize PV.dtt [M.s0.key] [.bl true]=K0 at *;generalize M.s0.pv=S at *;simp[eJ,PU.start,dt];rw[ew];simp
 have fa:(wM (aO (ab (getV 0) (ab (getV 1) aI)) c6) (pK bM [2,1,0] (pK bz [] aI))) [.val H,.val (.int hour),.val M.ways]=.ok [M.s0.pv,FA1 M,FB1]:=by
  unfold wM;rw[show aO (ab (getV 0) (ab (getV 1) aI)) c6 [.val H,.val (.int hour),.val M.ways]=.ok M.s0.pv by simp[hb]];simp only[R.ok_bind,snf,if_true];rfl
 have cl:ji (wM (aO (ab (getV 0) (ab (getV 1) aI)) c6) (pK bM [2,1,0] (pK bz [] aI))) bF [.val H,.val (.int hour),.val M.ways]=.ok (.lst FS):=by
  unfold ji;rw[fa];simp only[R.ok_bind,fr,R.ofO_some,nfl,if_true]
 refine aF rfl ?_;simp[nr,PU.start,hW,cl]
end
theorem HN{H G:PV}{hour:Int}(M:Mach H hour)(N:Mach G hour):∀(r:List Nat)(s:P2),BF.run (bQ M N) s r=(r.foldl M.lead s.1,r.foldl N.lead s.2)
 | [],_=>rfl
 | i::r,s=>HN M N r (bQ M N s i)
abbrev lA{H G:PV}{hour:Int}(M:Mach H hour)(N:Mach G hour)(q:List Nat):Prop:=M.hp (q.foldl M.lead M.s0)=N.hp (q.foldl N.lead N.s0)
theorem mS{H G:PV}{hour:Int}(M:Mach H hour)(N:Mach G hour)(q:List Nat):cV M N (BF.run (bQ M N) (M.s0,N.s0) q)=!decide (lA M N q):=by rw[HN];rfl
theorem pO {H G:PV} {hour:Int} (M:Mach H hour) (N:Mach G hour):(∃found,BF.Inv (bQ M N) (M.s0,N.s0) found/\BF.Whole (bQ M N) (cV M N) found/\ax [H,G,.int hour]=some (.tup [.str "alike",.lst (found.map qE)])/\∀q:List Nat,(∀i∈q,i<13)->lA M N q) ∨
  ∃t L,ax [H,G,.int hour]=some (.tup [.str "apart",.str (gN t),L])/\(∀i∈t,i<13)/\t.length<=10497600/\¬ lA M N t/\∀q:List Nat,(∀i∈q,i<13)->BF.lt q t->lA M N q:=by
 obtain⟨found,I,h⟩:=sP M N;rcases h with⟨W,e⟩|⟨init,fin,rfl,S,e⟩
 ·refine .inl ⟨_,I,W,e,fun q hq=>?_⟩
  have:=BF.whole_rows I W q hq;rw[mS] at this;simpa using this
 ·have fm:fin∈init++[fin]:=by simp
  refine .inr ⟨fin.2,_,e,I.rng fin fm,?_,?_,fun q hq hl=>?_⟩
  ·have h1:=I.len init.length fin (by simp)
   have h2:=(lW M N _ ⟨M.ok0,N.ok0⟩ I).2;rw[KF,MA] at h2;omega
  ·have:=S.1
   rw[← I.run fin fm,mS] at this;simpa using this
  ·have:=BF.stops_rows I S q hq hl
   rw[mS] at this;simpa using this
def Tg (Q:Str->Str->Prop) (x y:Str):Prop:=(x=JK "back"/\y=JK "back")\/Q x y
def RR(Q:Str->Str->Prop):Room->Room->Prop
 | .menu t ks wr wa,.menu t' ks' wr' wa'=>t=t'/\(∃l:List (Str×Str×Str),ks=l.map (fun p=>(p.1,p.2.1))/\ks'=l.map (fun p=>(p.1,p.2.2))/\∀p∈l,Tg Q p.2.1 p.2.2)/\(wr.1=wr'.1/\Q wr.2 wr'.2)/\wa.1=wa'.1/\Q wa.2 wa'.2
 | .names t ks wr wa,.names t' ks' wr' wa'=>t=t'/\(∃l:List (W×Str×Str),ks=l.map (fun p=>(mkS p.1,p.2.1))/\ks'=l.map (fun p=>(mkS p.1,p.2.2))/\∀p∈l,Q p.2.1 p.2.2)/\(wr.1=wr'.1/\Q wr.2 wr'.2)/\wa.1=wa'.1/\Q wa.2 wa'.2
 | .hours sp l,.hours sp' l'=>(∃m:List (Int×Int×Str×Str),sp=m.map (fun p=>(p.1,p.2.1,p.2.2.1))/\sp'=m.map (fun p=>(p.1,p.2.1,p.2.2.2))/\∀p∈m,Q p.2.2.1 p.2.2.2)/\Q l l'
 | .hand _,.hand _=>True
 | .hand _,.fin _=>True
 | .fin _,.hand _=>True
 | .fin _,.fin _=>True
 | _,_=>False
structure Sim(h h':House)(hour:Int)(Q:Str->Str->Prop):Prop where
 rm:∀x y,Q x y->∃r r',FA.lookR h.rooms x=some r/\FA.lookR h'.rooms y=some r'/\RR Q r r'
 nb:∀x y,Q x y->(x≠JK "back"/\x≠JK "")/\y≠JK "back"/\y≠JK ""
 fst:Q h.first h'.first
 cm:∀x y,Q x y->comeGo h.rooms hour 20 x=some (cmS h hour x)
def Bk (Q:Str->Str->Prop) (b b':Str):Prop:=(b=JK ""/\b'=JK "")\/Q b b'
structure SR(Q:Str->Str->Prop)(s s':St):Prop where
 r:Q s.r s'.r
 b:Bk Q s.b s'.b
 w:s.w=s'.w
 v:s.v=s'.v
 t:s.t=s'.t
inductive OR (Q:Str->Str->Prop):Option (Option Str)->Option (Option Str)->Prop
 | non:OR Q none none
 | pre:OR Q (some none) (some none)
 | tgt (x y:Str) (q:Tg Q x y):OR Q (some (some x)) (some (some y))
theorem CQ{Q:Str->Str->Prop}(l:List (Str×Str×Str))(k:∀p∈l,Tg Q p.2.1 p.2.2)(c:Nat):OR Q (mF (l.map fun p=>(p.1,p.2.1)) c) (mF (l.map fun p=>(p.1,p.2.2)) c):=by
 unfold mF;rw[Ly,Ly];have u1:((fun q:Str×Str=>decide (q.1=(⟨#[c]⟩:Str))) ∘ fun p:Str×Str×Str=>(p.1,p.2.1))=fun p=>decide (p.1=(⟨#[c]⟩:Str)):=rfl;have u2:((fun q:Str×Str=>decide (q.1=(⟨#[c]⟩:Str))) ∘ fun p:Str×Str×Str=>(p.1,p.2.2))=fun p=>decide (p.1=(⟨#[c]⟩:Str)):=rfl;rw[u1,u2];cases e:l.find? fun p=>decide (p.1=(⟨#[c]⟩:Str)) with
 | none=>exact .non
 | some p=>exact .tgt _ _ (k p (Kg e))
theorem CP[LX]{Q:Str->Str->Prop}(l:List (W×Str×Str))(k:∀p∈l,Q p.2.1 p.2.2)(t:W):OR Q (nF ((l.map fun p=>(mkS p.1,p.2.1)).map unw) t) (nF ((l.map fun p=>(mkS p.1,p.2.2)).map unw) t):=by
 have v1:(l.map fun p=>(mkS p.1,p.2.1)).map unw=l.map fun p=>(p.1,p.2.1):=by
  have e:l.map (fun p=>(mkS p.1,p.2.1))=(l.map fun p=>(p.1,p.2.1)).map mw2:=by rw[K4];rfl
  rw[e,tj]
 have v2:(l.map fun p=>(mkS p.1,p.2.2)).map unw=l.map fun p=>(p.1,p.2.2):=by
  have e:l.map (fun p=>(mkS p.1,p.2.2))=(l.map fun p=>(p.1,p.2.2)).map mw2:=by rw[K4];rfl
  rw[e,tj]
 rw[v1,v2]
 have b1:∀w,beg (l.map fun p=>(p.1,p.2.1)) w=own ((l.map (·.1)).map (cdH LS5)) (cdH LS5 w):=fun w=>by
  have e:(l.map fun p=>(p.1,p.2.1)).map (·.1)=l.map (·.1):=by rw[K4];rfl
  unfold beg;rw[e]
 have b2:∀w,beg (l.map fun p=>(p.1,p.2.2)) w=own ((l.map (·.1)).map (cdH LS5)) (cdH LS5 w):=fun w=>by
  have e:(l.map fun p=>(p.1,p.2.2)).map (·.1)=l.map (·.1):=by rw[K4];rfl
  unfold beg;rw[e]
 unfold nF;rw[Ly,Ly]
 have u1:(fits (l.map fun p=>(p.1,p.2.1)) t ∘ fun p:W×Str×Str=>(p.1,p.2.1))=fun p=>decide ((own ((l.map (·.1)).map (cdH LS5)) (cdH LS5 p.1)).take t.length=t):=by
  funext p
  show decide ((beg (l.map fun p=>(p.1,p.2.1)) p.1).take t.length=t)=_;rw[b1]
 have u2:(fits (l.map fun p=>(p.1,p.2.2)) t ∘ fun p:W×Str×Str=>(p.1,p.2.2))=fun p=>decide ((own ((l.map (·.1)).map (cdH LS5)) (cdH LS5 p.1)).take t.length=t):=by
  funext p
  show decide ((beg (l.map fun p=>(p.1,p.2.2)) p.1).take t.length=t)=_;rw[b2]
 rw[u1,u2];cases e:l.find? fun p=>decide ((own ((l.map (·.1)).map (cdH LS5)) (cdH LS5 p.1)).take t.length=t) with
 | none=>exact .non
 | some p=>
  show OR Q (some (if beg (l.map fun p=>(p.1,p.2.1)) p.1=t then some p.2.1 else none)) (some (if beg (l.map fun p=>(p.1,p.2.2)) p.1=t then some p.2.2 else none));rw[b1,b2]
  by_cases c:own ((l.map (·.1)).map (cdH LS5)) (cdH LS5 p.1)=t
  ·rw[if_pos c,if_pos c]
   exact .tgt _ _ (.inr (k p (Kg e)))
  ·rw[if_neg c,if_neg c]
   exact .pre
section
variable{h h' : House}{hour : Int}{Q : Str → Str → Prop}(S : Sim h h' hour Q)
include S
theorem qI:∀(n:Nat)(x y a:Str),Q x y->comeGo h.rooms hour n x=some a->∃b,comeGo h'.rooms hour n y=some b/\Q a b
 | 0,x,y,a,q,e=>by cases e
 | n+1,x,y,a,q,e=>by
  obtain⟨r,r',e1,e2,rr⟩:=S.rm x y q;unfold comeGo at e ⊢;rw[e1] at e;rw[e2];cases r with
  | hours sp l=>
   cases r' with
   | hours sp' l'=>
    obtain⟨⟨m,rfl,rfl,hm⟩,hl⟩:=rr
    have hq:Q (FA.handOf (m.map fun p=>(p.1,p.2.1,p.2.2.1)) l hour) (FA.handOf (m.map fun p=>(p.1,p.2.1,p.2.2.2)) l' hour):=by
     unfold FA.handOf;rw[Ly,Ly];have u1:(FA.holds hour ∘ fun p:Int×Int×Str×Str=>(p.1,p.2.1,p.2.2.1))=fun p=>decide (p.1<=hour) && decide (hour<p.2.1):=rfl;have u2:(FA.holds hour ∘ fun p:Int×Int×Str×Str=>(p.1,p.2.1,p.2.2.2))=fun p=>decide (p.1<=hour) && decide (hour<p.2.1):=rfl;rw[u1,u2];cases e:m.find? fun p=>decide (p.1<=hour) && decide (hour<p.2.1) with
     | none=>exact hl
     | some p=>exact hm p (Kg e)
    exact qI n _ _ a hq e
   | menu=>exact rr.elim
   | names=>exact rr.elim
   | hand=>exact rr.elim
   | fin=>exact rr.elim
  | menu=>cases r' with
   | menu=>cases e;exact⟨y,rfl,q⟩
   | hours=>exact rr.elim
   | names=>exact rr.elim
   | hand=>exact rr.elim
   | fin=>exact rr.elim
  | names=>cases r' with
   | names=>cases e;exact⟨y,rfl,q⟩
   | hours=>exact rr.elim
   | menu=>exact rr.elim
   | hand=>exact rr.elim
   | fin=>exact rr.elim
  | hand=>cases r' with
   | hand=>cases e;exact⟨y,rfl,q⟩
   | fin=>cases e;exact⟨y,rfl,q⟩
   | hours=>exact rr.elim
   | menu=>exact rr.elim
   | names=>exact rr.elim
  | fin=>cases r' with
   | fin=>cases e;exact⟨y,rfl,q⟩
   | hand=>cases e;exact⟨y,rfl,q⟩
   | hours=>exact rr.elim
   | menu=>exact rr.elim
   | names=>exact rr.elim
theorem CS(x y:Str)(q:Q x y):Q (cmS h hour x) (cmS h' hour y):=by
 obtain⟨b,e,hb⟩:=qI S 20 x y _ q (S.cm x y q);have:cmS h' hour y=b:=by unfold cmS;rw[e];rfl
 rw[this];exact hb
theorem oj(x y b b':Str)(q:Q x y)(k:Bk Q b b'):SR Q (arS h hour x b) (arS h' hour y b'):=⟨CS S x y q,k,rfl,rfl,rfl⟩
theorem yV{s s':St}(R:SR Q s s')(wr wr':Int×Str)(e:wr.1=wr'.1)(q:Q wr.2 wr'.2):SR Q (wrS h hour s.r s.b s.w s.v wr) (wrS h' hour s'.r s'.b s'.w s'.v wr'):=by
 unfold wrS;rw[← R.w,← e]
 by_cases c:s.w+1=wr.1
 ·rw[if_pos c,if_pos c]
  exact oj S _ _ _ _ q (.inr R.r)
 ·rw[if_neg c,if_neg c]
  exact⟨R.r,R.b,rfl,R.v,rfl⟩
theorem yW{s s':St}(R:SR Q s s')(wa wa':Int×Str)(e:wa.1=wa'.1)(q:Q wa.2 wa'.2):SR Q (waS h hour s.r s.b s.w s.v wa) (waS h' hour s'.r s'.b s'.w s'.v wa'):=by
 unfold waS;rw[← R.v,← e]
 by_cases c:s.v+1=wa.1
 ·rw[if_pos c,if_pos c]
  exact oj S _ _ _ _ q (.inr R.r)
 ·rw[if_neg c,if_neg c]
  exact⟨R.r,R.b,R.w,rfl,rfl⟩
theorem yX{s s':St}(R:SR Q s s')(wr wr':Int×Str)(e:wr.1=wr'.1)(q:Q wr.2 wr'.2)(o o':Option (Option Str))(k:OR Q o o')(t:W):SR Q (goS h hour s.r s.b s.w s.v wr o t) (goS h' hour s'.r s'.b s'.w s'.v wr' o' t):=by
 cases k with
 | non=>exact yV S R wr wr' e q
 | pre=>exact⟨R.r,R.b,R.w,R.v,rfl⟩
 | tgt x y k=>
  show SR Q (if x=JK "back" then (if s.b=JK "" then wrS h hour s.r s.b s.w s.v wr else arS h hour s.b s.r) else arS h hour x s.r) (if y=JK "back" then (if s'.b=JK "" then wrS h' hour s'.r s'.b s'.w s'.v wr' else arS h' hour s'.b s'.r) else arS h' hour y s'.r);rcases k with⟨k1,k2⟩ | k
  ·rw[if_pos k1,if_pos k2]
   rcases R.b with⟨b1,b2⟩ | b
   ·rw[if_pos b1,if_pos b2]
    exact yV S R wr wr' e q
   ·rw[if_neg (S.nb _ _ b).1.2,if_neg (S.nb _ _ b).2.2]
    exact oj S _ _ _ _ b (.inr R.r)
  ·rw[if_neg (S.nb _ _ k).1.1,if_neg (S.nb _ _ k).2.1]
   exact oj S _ _ _ _ k (.inr R.r)
theorem Au[LX]{s s':St}(R:SR Q s s')(c:Nat):SR Q (stp h hour s c) (stp h' hour s' c):=by
 obtain⟨r,r',e1,e2,rr⟩:=S.rm _ _ R.r;unfold stp;rw[e1,e2];cases r with
 | menu t ks wr wa=>cases r' with
  | menu t' ks' wr' wa'=>
   obtain⟨_,⟨l,rfl,rfl,hl⟩,⟨w1,w2⟩,v1,v2⟩:=rr;show SR Q (if c=119 then _ else _) (if c=119 then _ else _)
   by_cases hc:c=119
   ·rw[if_pos hc,if_pos hc]
    exact yW S R wa wa' v1 v2
   ·rw[if_neg hc,if_neg hc]
    exact yX S R wr wr' w1 w2 _ _ (CQ l hl c) _
  | hours=>exact rr.elim
  | names=>exact rr.elim
  | hand=>exact rr.elim
  | fin=>exact rr.elim
 | names t ks wr wa=>cases r' with
  | names t' ks' wr' wa'=>
   obtain⟨_,⟨l,rfl,rfl,hl⟩,⟨w1,w2⟩,v1,v2⟩:=rr;show SR Q (if c=119 then _ else _) (if c=119 then _ else _)
   by_cases hc:c=119
   ·rw[if_pos hc,if_pos hc]
    exact yW S R wa wa' v1 v2
   ·rw[if_neg hc,if_neg hc,← R.t]
    exact yX S R wr wr' w1 w2 _ _ (CP l hl _) _
  | hours=>exact rr.elim
  | menu=>exact rr.elim
  | hand=>exact rr.elim
  | fin=>exact rr.elim
 | hours sp l=>cases r' with
  | hours=>exact R
  | menu=>exact rr.elim
  | names=>exact rr.elim
  | hand=>exact rr.elim
  | fin=>exact rr.elim
 | hand t=>cases r' with
  | hand=>exact R
  | fin=>exact R
  | hours=>exact rr.elim
  | menu=>exact rr.elim
  | names=>exact rr.elim
 | fin t=>cases r' with
  | fin=>exact R
  | hand=>exact R
  | hours=>exact rr.elim
  | menu=>exact rr.elim
  | names=>exact rr.elim
theorem Av [LX] (q:List Nat):SR Q (q.foldl (lead h hour) (arS h hour h.first "")) (q.foldl (lead h' hour) (arS h' hour h'.first "")):=by
 have go:∀(q:List Nat)(s s':St),SR Q s s'->SR Q (q.foldl (lead h hour) s) (q.foldl (lead h' hour) s'):=by
  intro q
  induction q with
  | nil=>exact fun s s' R=>R
  | cons i q ih=>exact fun s s' R=>ih _ _ (Au S R (cd i))
 exact go q _ _ (oj S _ _ _ _ S.fst (.inl ⟨rfl,rfl⟩))
end
noncomputable def nm (nms:List Str) (i:Nat):Str:=(nms++[JK "back"]).getD i ""
theorem oI{nms:List Str}(h:nms.length=5)(i:Nat)(hi:i<5):nm nms i=nms[i]:=by
 unfold nm;rw[LO,JW (by omega),KO (by omega)];rfl
theorem gR{nms:List Str}(h:nms.length=5)(i:Nat)(hi:i<5):nm nms i∈nms/\atI (nms.map PV.str) (i:Int)=some (.str (nm nms i)):=by
 rw[oI h i hi];exact⟨MV _,Ig nms i (by omega)⟩
theorem GG {nms:List Str} (h:nms.length=5):nm nms 5=JK "back":=by
 unfold nm;rw[LO,KN (by omega),h];rfl
theorem ux{nms:List Str}(h:nms.length=5)(nd:nms.Nodup)(i j:Nat)(hi:i<5)(hj:j<5)(hij:i≠j):nm nms i≠nm nms j:=fun e=>by
 rw[oI h i hi,oI h j hj] at e;exact hij ((PP nd).mp e)
theorem J0 {nms:List Str} (h:nms.length=5) (i:Nat) (hi:i<6):gIx (.lst (nms.map PV.str++[.str "back"])) (.int i)=some (.str (nm nms i)):=by
 have e:nms.map PV.str++[.str "back"]=(nms++[JK "back"]).map PV.str:=by rw[KL];rfl
 rw[e];have:=Ig (nms++[JK "back"]) i (by simp;omega);refine this.trans ?_;unfold nm;rw[LO,KO (by simp;omega)];rfl
noncomputable def md(ls:List Int)(i:Nat)(m:Nat):Nat:=(ls.getD i 0 % (m:Int)).toNat
theorem cY(ls:List Int)(i m:Nat)(h:0<m):md ls i m<m:=by
 have h0:=Pl (ls.getD i 0) (b:=(m:Int)) (by omega);have h1:=RG (ls.getD i 0) (b:=(m:Int)) (by omega);unfold md;omega
theorem gF(ls:List Int)(i m:Nat)(h:0<m):e9 (.int (ls.getD i 0)) (.int m)=some (.int (md ls i m)):=by
 have h0:=Pl (ls.getD i 0) (b:=(m:Int)) (by omega);have e:((md ls i m:Nat):Int)=ls.getD i 0 % (m:Int):=by unfold md;omega
 rw[iH (by omega),e]
theorem BV(ls:List Int)(k:Nat)(hk:k<ls.length):atI (ls.map PV.int) (k:Int)=some (.int (ls.getD k 0)):=by
 rw[nR ls k hk,LO,KO hk];rfl
def kPv(nms:List Str)(p:Nat×Nat):PV:=.tup [WO.sg p.1,.str (nm nms p.2)]
def klf(ls:List Int)(e:Nat×Nat):Option (Nat×Nat):=if ls.getD e.1 0 % 3=0 then some (e.2,md ls (e.1+12) 6) else none
def kl(ls:List Int):List (Nat×Nat):=E12.filterMap (klf ls)
def qf(nms:List Str)(ls:List Int):List (Nat×Str):=(kl ls).map fun p=>(p.1,nm nms p.2)
def xN (nms:List Str) (ls:List Int):Room:=.menu "Hello" ((qf nms ls).map mk2) (1+ls.getD 24 0 % 2,nm nms (md ls 25 5)) (1+ls.getD 26 0 % 2,nm nms (md ls 27 5))
abbrev kst(NS TX MN:PV)(bo:Bool)(nms:List Str)(ls:List Int)(kt:List (Nat×Nat))(a b:Sl):PSt:=[.val NS,.val (.lst (nms.map .str)),.val TX,.val (.bl bo),.val (.lst (ls.map .int)),.val MN,.own (.lst (kt.map (kPv nms))),a,b,.no,.no,.no,.no,.no,.no,.no,.no]
theorem xQ(NS TX MN:PV)(bo:Bool){nms:List Str}(h:nms.length=5)(ls:List Int)(hl:ls.length=30):∃a b,fO (jq 2 (bt (aC 7) (bt (aC 8) jv))) cT (E12.map e12) (kst NS TX MN bo nms ls [] .no .no)=.ok (.next (kst NS TX MN bo nms ls (kl ls) a b)):=by
 obtain⟨ρ',f1,a,b,rfl⟩:=forM (enc:=e12) (xs:=E12) (h:=jq 2 (bt (aC 7) (bt (aC 8) jv))) (g:=cT) (ρ:=kst NS TX MN bo nms ls [] .no .no)
  (I:=fun pre ρ=>∃a b,ρ=kst NS TX MN bo nms ls (pre.filterMap (klf ls)) a b) ⟨_,_,rfl⟩ (by
   rintro pre p post ρ hx ⟨a,b,rfl⟩;have hp:p.1<12:=Ey p (by rw[hx];simp);have hE:E12.length=12:=rfl
   have hkl:(pre.filterMap (klf ls)).length<=12:=by
    have e1:=Q8 (klf ls) pre;have e2:=congrArg Lj hx;rw[KF] at e2;omega
   have i1:=BV ls p.1 (by omega);have i2:=BV ls (p.1+12) (by omega);have n2:((p.1+12:Nat):Int)=(p.1:Int)+12:=by omega
   rw[n2] at i2;have ek:(pre++[p]).filterMap (klf ls)=pre.filterMap (klf ls)++[p].filterMap (klf ls):=List.filterMap_append;have z:((pre.filterMap (klf ls)).map (kPv nms)).length<16777216:=by rw[JT];omega
   have fx:klf ls p=if ls.getD p.1 0 % 3=0 then some (p.2,md ls (p.1+12) 6) else none:=rfl
   have d6:e9 (.int (ls.getD (p.1+12) 0)) (.int 6)=_:=gF ls (p.1+12) 6 (by omega);have hk:=cY ls (p.1+12) 6 (by omega);have d3:e9 (.int (ls.getD p.1 0)) (.int 3)=some (.int (ls.getD p.1 0 % 3)):=iH (by decide);generalize ls.getD (p.1+12) 0=y at i2 d6;generalize ls.getD p.1 0=x at i1 fx d3;generalize md ls (p.1+12) 6=k at d6 hk fx
   by_cases g1:x % 3=0
   ·rw[if_pos g1] at fx
    have e1:[p].filterMap (klf ls)=[(p.2,k)]:=by simp[fx]
    rw[e1] at ek;have ba:=J0 h k hk;have ad:fK (.lst (nms.map PV.str)) (.lst [.str "back"])=some (.lst (nms.map PV.str++[.str "back"])):=nZ (by simp;omega);refine⟨kst NS TX MN bo nms ls (pre.filterMap (klf ls)) (.val (.int p.1)) (.val (WO.sg p.2)),kst NS TX MN bo nms ls ((pre++[p]).filterMap (klf ls)) (.val (.int p.1)) (.val (WO.sg p.2)),rfl,.inl ?_,_,_,rfl⟩;have e:((pre++[p]).filterMap (klf ls)).map (kPv nms)=(pre.filterMap (klf ls)).map (kPv nms)++[.tup [WO.sg p.2,.str (nm nms k)]]:=by rw[ek,KL];rfl
    simp only[kst,e];generalize (pre.filterMap (klf ls)).map (kPv nms)=KT at *;generalize PV.lst (nms.map PV.str++[.str "back"])=NB at *;generalize nms.map PV.str=NN at *;generalize ls.map PV.int=LN at *;generalize nm nms k=TT at *;simp[cT,i1,i2,d3,d6,g1,z,ad,ba]
   ·rw[if_neg g1] at fx
    have e1:[p].filterMap (klf ls)=[]:=by simp[fx]
    rw[e1,Kq] at ek;refine⟨kst NS TX MN bo nms ls (pre.filterMap (klf ls)) (.val (.int p.1)) (.val (WO.sg p.2)),kst NS TX MN bo nms ls ((pre++[p]).filterMap (klf ls)) (.val (.int p.1)) (.val (WO.sg p.2)),rfl,.inl ?_,_,_,rfl⟩;rw[ek];simp only[kst];generalize (pre.filterMap (klf ls)).map (kPv nms)=KT at *;generalize nms.map PV.str=NN at *;generalize ls.map PV.int=LN at *;simp[cT,i1,d3,g1])
 exact⟨a,b,f1⟩
def HL(p:PV)(q:Option Int×Option Int):R PV:=R.ofO (FE p q.1 q.2)
@[simp] theorem Fb{f:PSt->R PV}{ρ:PSt}{l h:PSt->R (Option Int)}:qH f l h ρ=o5 HL (f ρ) (o5 oC (l ρ) (h ρ)):=by unfold qH;cases f ρ <;> cases l ρ <;> cases h ρ <;> rfl
def wL(ms:List Int):List (W×Nat):=if ms.getD 2 0 % 2=0 then [([98,111],md ms 0 5)] else [([98,111],md ms 0 5),([108,101,101],md ms 1 5)]
def wS(nms:List Str)(ms:List Int):List (W×Str):=(wL ms).map fun p=>(p.1,nm nms p.2)
def qX (nms:List Str) (ms:List Int):Room:=.names "Spell" ((wS nms ms).map mw2) (1,nm nms (md ms 4 5)) (1,nm nms (md ms 8 5))
def o3(c k:Nat):Nat:=[0,1,c].getD k 0
theorem sy(c k:Nat)(hc:c<5)(hk:k<3):o3 c k<5/\(c≠2->o3 c k≠2):=by
 match k,hk with
 | 0,_=>exact⟨by show 0<5;omega,fun _=>by show 0≠2;omega⟩
 | 1,_=>exact⟨by show 1<5;omega,fun _=>by show 1≠2;omega⟩
 | 2,_=>exact⟨hc,id⟩
theorem Dv(c k:Nat)(hk:k<3):gIx (.lst [.int 0,.int 1,.int c]) (.int k)=some (.int (o3 c k:Nat)):=by
 match k,hk with
 | 0,_=>rfl
 | 1,_=>rfl
 | 2,_=>rfl
def oX(nms:List Str)(ms:List Int):Room:=.hours [(ms.getD 5 0 % 24,24,nm nms (o3 3 (md ms 6 3)))] (nm nms (o3 4 (md ms 9 3)))
def tld(nms:List Str)(ls ms:List Int)(r3 r4:Room)(i:Nat):Room:=[xN nms ls,qX nms ms,oX nms ms,r3].getD i r4
def tn(bo:Bool)(k:Nat):Nat:=if bo=true then 4-k else k
theorem o8(bo:Bool)(k:Nat)(h:k<5):tn bo k<5:=by unfold tn;split <;> omega
theorem yR(bo:Bool)(j k:Nat)(hj:j<5)(hk:k<5)(e:tn bo j=tn bo k):j=k:=by
 unfold tn at e;split at e <;> omega
def fN(nms:List Str)(rm:Nat->Room)(bo:Bool)(n:Nat):FA.Rooms:=(KQ n).map fun k=>(nm nms (tn bo k),rm (tn bo k))
def hou(nms:List Str)(ls ms:List Int)(r3 r4:Room)(bo:Bool):House:=⟨nm nms (md ms 10 5),ltS LSa,fN nms (tld nms ls ms r3 r4) bo 5⟩
theorem gO(rs:FA.Rooms)(k:Str)(r:Room)(h:k ∉ FA.names rs):gD (rs.map fun r=>.inr r.1) (rs.map fun r=>r.2.pv) (.inr k) r.pv=au (rs++[(k,r)]):=by
 rw[u7];unfold D7;exact congrArg _ (if_neg h)
theorem slw (t0 t1:Str) (z:Int):FE (.tup [.tup [.str "bo",.str t0],.tup [.str "lee",.str t1]]) none (some (1+z % 2))=some (.tup ((((if z % 2=0 then [([98,111],t0)] else [([98,111],t0),([108,101,101],t1)]):List (W×Str)).map mw2).map pv2)):=by
 have eb:(JK "bo")=mkS [98,111]:=by decide +kernel
 have ee:(JK "lee")=mkS [108,101,101]:=by decide +kernel
 rw[eb,ee];obtain⟨k,hk,hk9⟩:∃k:Nat,z % 2=(k:Int)/\k<2:=⟨(z % 2).toNat,by omega,by omega⟩;rw[hk]
 match k,hk9 with
 | 0,_=>rfl
 | 1,_=>rfl
abbrev rst(A0:Sl)(NN:List PV)(A2:Sl)(bo:Bool)(A4 A5 A6 a A8 A9 A10 A11 A12:Sl)(T5:List PV)(D:PV)(c:Sl):PSt:=[A0,.val (.lst NN),A2,.val (.bl bo),A4,A5,A6,a,A8,A9,A10,A11,A12,.val (.lst T5),.own D,c,.no]
theorem CF(nms:List Str)(ls ms:List Int)(r3 r4:Room)(i:Nat)(hi:i<5):atI [(xN nms ls).pv,(qX nms ms).pv,(oX nms ms).pv,r3.pv,r4.pv] (i:Int)=some (tld nms ls ms r3 r4 i).pv:=by
 match i,hi with
 | 0,_=>rfl
 | 1,_=>rfl
 | 2,_=>rfl
 | 3,_=>rfl
 | 4,_=>rfl
theorem tY{nms:List Str}(h:nms.length=5)(nd:nms.Nodup)(rm:Nat->Room)(T5:List PV)(ht:∀i:Nat,i<5->atI T5 (i:Int)=some (rm i).pv)(bo:Bool)(A0 A2 A4 A5 A6 a A8 A9 A10 A11 A12 c:Sl) :
  ∃a' c',fO (aC 7) cj (ck 0 5) (rst A0 (nms.map .str) A2 bo A4 A5 A6 a A8 A9 A10 A11 A12 T5 (.dct [] []) c)=.ok (.next (rst A0 (nms.map .str) A2 bo A4 A5 A6 a' A8 A9 A10 A11 A12 T5 (au (fN nms rm bo 5)) c')):=by
 obtain⟨ρ',f1,a',c',rfl⟩:=forR (n:=5) (lo:=0) (h:=aC 7) (g:=cj) (ρ:=rst A0 (nms.map .str) A2 bo A4 A5 A6 a A8 A9 A10 A11 A12 T5 (.dct [] []) c)
  (I:=fun i ρ=>∃a c,ρ=rst A0 (nms.map .str) A2 bo A4 A5 A6 a A8 A9 A10 A11 A12 T5 (au (fN nms rm bo i)) c) ⟨a,c,rfl⟩ (by
   rintro i ρ hi ⟨a,c,rfl⟩;rw[PB]
   have hn:nm nms (tn bo i) ∉ FA.names (fN nms rm bo i):=fun z=>by
    unfold FA.names fN at z;rw[K4] at z;obtain⟨j,hj,e⟩:=JS.mp z;rw[LD] at hj;have e:nm nms (tn bo j)=nm nms (tn bo i):=e;exact ux h nd _ _ (o8 bo j (by omega)) (o8 bo i hi) (fun e=>by have:=yR bo j i (by omega) hi e;omega) e
   have p:=gO (fN nms rm bo i) (nm nms (tn bo i)) (rm (tn bo i)) hn
   have e:fN nms rm bo (i+1)=fN nms rm bo i++[(nm nms (tn bo i),rm (tn bo i))]:=by
    unfold fN;rw[Mg,KL];rfl
   have z:(fN nms rm bo i).length<16777216:=by simp[fN];omega
   have a1:=(gR h (tn bo i) (o8 bo i hi)).2;have a2:=ht (tn bo i) (o8 bo i hi);have u:=Ai (fN nms rm bo i);rw[← e] at p;refine⟨_,_,rfl,.inl ?_,.val (.int i),.val (.int (tn bo i:Nat)),rfl⟩;show cj (rst A0 (nms.map .str) A2 bo A4 A5 A6 (.val (.int i)) A8 A9 A10 A11 A12 T5 (au (fN nms rm bo i)) c)=_;simp only[rst];rw[u];generalize au (fN nms rm bo (i+1))=RR at *;generalize fN nms rm bo i=RI at *;generalize (rm (tn bo i)).pv=RP at *;generalize nm nms (tn bo i)=NI at *;generalize nms.map PV.str=NN at *;cases bo with
   | false=>
    have a1:atI NN i=some (.str NI):=a1;have a2:atI T5 i=some RP:=a2;simp[cj,a1,a2,z,p];rfl
   | true=>
    have t:((tn true i:Nat):Int)=4-i:=by
     show ((4-i:Nat):Int)=4-i;omega
    rw[t] at a1 a2;simp[cj,a1,a2,z,p,t])
 exact⟨a',c',f1⟩
theorem DC {ρ:PSt} {f1 f2:PSt->R PV} {a b q:PV} (e1:f1 ρ=.ok a) (e2:f2 ρ=.ok b) (e3:ρ[14]?=some (.own q)):xI (.inr "rooms") 14 (pq (kS "first") f1 (pq (kS "letters") f2 DA)) ρ=.ok (.dct [.inr "first",.inr "letters",.inr "rooms"] [a,b,q]):=by
 have e:pq (kS "first") f1 (pq (kS "letters") f2 DA) ρ=.ok [(.inr "first",a),(.inr "letters",b)]:=by
  unfold pq;rw[e1];unfold DA;rw[e2];rfl
 unfold xI;rw[e]
 show (match ρ[14]? with
  | some (.own q)=>_
  | _=>_)=_
 rw[e3];refine if_pos ⟨by show 2<=14;omega,?_⟩;show ([.inr (JK "first"),.inr (JK "letters"),.inr (JK "rooms")]:List Key).Nodup;decide +kernel
theorem ig{nms:List Str}(h:nms.length=5)(nd:nms.Nodup)(NS:PV)(z1 z2:Int)(c1:aw [NS,.int 1]=some (.int z1))(c2:aw [NS,.int 2]=some (.int z2))(ls ms:List Int)(l1:ls.length=30)(m1:ms.length=16)
  (el:aY [.int z1,.int 30]=some (.lst (ls.map .int))) (em:aY [.int z2,.int 16]=some (.lst (ms.map .int))) (t0 t1:Str) (bo:Bool):bI [NS,.lst (nms.map .str),.lst [.str t0,.str t1],.bl bo]=some (hou nms ls ms (.hand t0) (.fin t1) bo).pv:=by
 have j:∀(k:Nat),k<16->atI (ms.map PV.int) (k:Int)=some (.int (ms.getD k 0)):=fun k hk=>BV ms k (by omega);have j0:atI (ms.map PV.int) 0=_:=j 0 (by decide);have j1:atI (ms.map PV.int) 1=_:=j 1 (by decide);have j2:atI (ms.map PV.int) 2=_:=j 2 (by decide);have j4:atI (ms.map PV.int) 4=_:=j 4 (by decide);have j5:atI (ms.map PV.int) 5=_:=j 5 (by decide);have j6:atI (ms.map PV.int) 6=_:=j 6 (by decide);have j8:atI (ms.map PV.int) 8=_:=j 8 (by decide);have j9:atI (ms.map PV.int) 9=_:=j 9 (by decide);have j10:atI (ms.map PV.int) 10=_:=j 10 (by decide);have i24:atI (ls.map PV.int) 24=some (.int (ls.getD 24 0)):=BV ls 24 (by omega);have i25:atI (ls.map PV.int) 25=some (.int (ls.getD 25 0)):=BV ls 25 (by omega);have i26:atI (ls.map PV.int) 26=some (.int (ls.getD 26 0)):=BV ls 26 (by omega);have i27:atI (ls.map PV.int) 27=some (.int (ls.getD 27 0)):=BV ls 27 (by omega);have d24:e9 (.int (ls.getD 24 0)) (.int 2)=some (.int (ls.getD 24 0 % 2)):=iH (by decide);have d26:e9 (.int (ls.getD 26 0)) (.int 2)=some (.int (ls.getD 26 0 % 2)):=iH (by decide);have d25:e9 (.int (ls.getD 25 0)) (.int 5)=_:=gF ls 25 5 (by omega);have d27:e9 (.int (ls.getD 27 0)) (.int 5)=_:=gF ls 27 5 (by omega);clear j;have d0:e9 (.int (ms.getD 0 0)) (.int 5)=_:=gF ms 0 5 (by omega);have d1:e9 (.int (ms.getD 1 0)) (.int 5)=_:=gF ms 1 5 (by omega);have d2:e9 (.int (ms.getD 2 0)) (.int 2)=some (.int (ms.getD 2 0 % 2)):=iH (by decide);have d4:e9 (.int (ms.getD 4 0)) (.int 5)=_:=gF ms 4 5 (by omega);have d5:e9 (.int (ms.getD 5 0)) (.int 24)=some (.int (ms.getD 5 0 % 24)):=iH (by decide);have d6:e9 (.int (ms.getD 6 0)) (.int 3)=_:=gF ms 6 3 (by omega);have d8:e9 (.int (ms.getD 8 0)) (.int 5)=_:=gF ms 8 5 (by omega);have d9:e9 (.int (ms.getD 9 0)) (.int 3)=_:=gF ms 9 3 (by omega);have d10:e9 (.int (ms.getD 10 0)) (.int 5)=_:=gF ms 10 5 (by omega);have lt6:=cY ms 6 3 (by omega);have lt9:=cY ms 9 3 (by omega);have s6:=(sy 3 _ (by omega) lt6).1;have s9:=(sy 4 _ (by omega) lt9).1;have x6:atI [PV.int 0,.int 1,.int 3] (md ms 6 3)=_:=Dv 3 (md ms 6 3) lt6;have x9:atI [PV.int 0,.int 1,.int 4] (md ms 9 3)=_:=Dv 4 (md ms 9 3) lt9;have at5:∀k:Nat,k<5->atI (nms.map PV.str) (k:Int)=some (.str (nm nms k)):=fun k hk=>(gR h k hk).2;have a0:=at5 _ (cY ms 0 5 (by omega));have a1:=at5 _ (cY ms 1 5 (by omega));have a4:=at5 _ (cY ms 4 5 (by omega));have a8:=at5 _ (cY ms 8 5 (by omega));have a10:=at5 _ (cY ms 10 5 (by omega));have a25:=at5 _ (cY ls 25 5 (by omega));have a27:=at5 _ (cY ls 27 5 (by omega));have a6:=at5 _ s6;have a9:=at5 _ s9;have sl:=slw (nm nms (md ms 0 5)) (nm nms (md ms 1 5)) (ms.getD 2 0)
 have ws:wS nms ms=if ms.getD 2 0 % 2=0 then [([98,111],nm nms (md ms 0 5))] else [([98,111],nm nms (md ms 0 5)),([108,101,101],nm nms (md ms 1 5))]:=by
  unfold wS wL
  split <;> rfl
 rw[← ws] at sl;have pvn:(qX nms ms).pv=.tup [.str "names",.str "Spell",.tup (((wS nms ms).map mw2).map pv2),.tup [.int 1,.str (nm nms (md ms 4 5))],.tup [.int 1,.str (nm nms (md ms 8 5))]]:=rfl;have pvh:(oX nms ms).pv=.tup [.str "hours",.tup [.tup [.int (ms.getD 5 0 % 24),.int 24,.str (nm nms (o3 3 (md ms 6 3)))]],.str (nm nms (o3 4 (md ms 9 3)))]:=rfl
 have pvm:(xN nms ls).pv=.tup [.str "menu",.str "Hello",.tup ((kl ls).map (kPv nms)),.tup [.int (1+ls.getD 24 0 % 2),.str (nm nms (md ls 25 5))],.tup [.int (1+ls.getD 26 0 % 2),.str (nm nms (md ls 27 5))]]:=by
  show PV.tup [.str "menu",.str "Hello",.tup (((qf nms ls).map mk2).map pv2),pvI _,pvI _]=_;unfold qf;rw[zr,K4];rfl
 have zl:((kl ls).map (kPv nms)).length<=16777216:=by
  have e1:(kl ls).length<=_:=Q8 (klf ls) E12;have hE:E12.length=12:=rfl;rw[JT];omega
 have uH:(hou nms ls ms (.hand t0) (.fin t1) bo).pv=.dct [.inr "first",.inr "letters",.inr "rooms"] [.str (nm nms (md ms 10 5)),WO.ltPv LSa,au (fN nms (tld nms ls ms (.hand t0) (.fin t1)) bo 5)]:=by rw[← zw];rfl
 rw[uH];have hL:=lpa;have ee:=Ez;obtain⟨ka,kb,f1⟩:=xQ NS (.lst [.str t0,.str t1]) (.lst (ms.map .int)) bo h ls l1;have k3:(Room.hand t0).pv=.tup [.str "hand",.str t0]:=rfl;have k4:(Room.fin t1).pv=.tup [.str "end",.str t1]:=rfl;have f2:=tY h nd (tld nms ls ms (.hand t0) (.fin t1)) _ (CF nms ls ms (.hand t0) (.fin t1)) bo;rw[pvm,pvn,pvh,k3,k4] at f2;clear pvm pvn pvh k3 k4 ws h nd l1 m1 uH at5;simp only[kst,rst] at f1 f2;generalize au (fN nms (tld nms ls ms (.hand t0) (.fin t1)) bo 5)=RR at *;generalize ((wS nms ms).map mw2).map pv2=WT at *;generalize (kl ls).map (kPv nms)=KT at *;generalize nm nms (o3 3 (md ms 6 3))=T6 at *;generalize nm nms (o3 4 (md ms 9 3))=T9 at *;generalize nm nms (md ms 0 5)=T0 at *;generalize nm nms (md ms 1 5)=T1 at *;generalize nm nms (md ms 4 5)=T4 at *;generalize nm nms (md ms 8 5)=T8 at *;generalize nm nms (md ms 10 5)=T10 at *;generalize nm nms (md ls 25 5)=T25 at *;generalize nm nms (md ls 27 5)=T27 at *;generalize nms.map PV.str=N at *;generalize ls.map PV.int=LN at *;generalize ms.map PV.int=MN at *;generalize ms.getD 0 0=y0 at *;generalize ms.getD 1 0=y1 at *;generalize ms.getD 2 0=y2 at *;generalize ms.getD 4 0=y4 at *;generalize ms.getD 5 0=y5 at *;generalize ms.getD 6 0=y6 at *;generalize ms.getD 8 0=y8 at *;generalize ms.getD 9 0=y9 at *;generalize ms.getD 10 0=y10 at *;generalize ls.getD 24 0=w24 at *;generalize ls.getD 25 0=w25 at *;generalize ls.getD 26 0=w26 at *;generalize ls.getD 27 0=w27 at *;generalize E12.map e12=EE at *;have ad:∀a b c d e:PV,fK (.lst [a,b]) (.lst [c,d,e])=some (.lst [a,b,c,d,e]):=fun a b c d e=>nZ (by simp);refine mG rfl ?_;simp[gU,PU.start,c1,c2,el,em,ee];rw[M3] at f1;rw[f1];simp[i24,i25,i26,i27,d24,d25,d26,d27,a25,a27,zl,j0,j1,j2,d0,d1,d2,a0,a1,oC,HL,sl,j4,d4,a4,j5,d5,j6,d6,x6,a6,j8,d8,a8,j9,d9,x9,a9,tf,ad];obtain⟨a',c',f2⟩:=f2 (.val NS) (.val (.lst [.str t0,.str t1])) (.val (.lst LN)) (.val (.lst MN)) (.own (.lst KT)) ka kb (.val (.tup [.int 1,.str T4])) (.val (.tup [.str "menu",.str "Hello",.tup KT,.tup [.int (1+w24 % 2),.str T25],.tup [.int (1+w26 % 2),.str T27]])) (.val (.tup WT)) (.val (.tup [.int (y5 % 24),.int 24,.str T6])) .no;rw[f2];have e2:∀A B C D E F G H I J K L M O P:Sl,aq (getV 1) (aq (aq (getV 5) (kI 10) gIx) (kI 5) e9) gIx [A,.val (.lst N),B,C,D,.val (.lst MN),E,F,G,H,I,J,K,L,M,O,P]=.ok (.str T10):=fun _ _ _ _ _ _ _ _ _ _ _ _ _ _ _=>by simp[j10,d10,a10]
 simp[hL];rw[DC (e2 _ _ _ _ _ _ _ _ _ _ _ _ _ _ _) rfl rfl];rfl
instance lx:LX:=⟨LSa,.inl rfl⟩
def Out(r:Room):Prop:=∃t,r=.hand t\/r=.fin t
theorem Out.rw{nms:List Str}{r:Room}(h:Out r):RW nms r/\∀sp l,r≠.hours sp l:=by
 obtain⟨t,rfl | rfl⟩:=h
 ·exact⟨trivial,fun _ _ e=>by cases e⟩
 ·exact⟨trivial,fun _ _ e=>by cases e⟩
theorem zC(ls:List Int):∀l:List (Nat×Nat),Ms ((l.filterMap (klf ls)).map (·.1)) (l.map (·.2))
 | []=>List.Sublist.refl _
 | e::l=>by
  have ih:=zC ls l;rw[Lv,JQ];unfold klf
  by_cases c:ls.getD e.1 0 % 3=0
  ·rw[if_pos c]
   exact ih.cons₂ _
  ·rw[if_neg c]
   exact ih.cons _
theorem DM(ls:List Int):∀p∈kl ls,p.2<6:=fun p hp=>by
 obtain⟨e,_,he⟩:=Oj.mp hp;unfold klf at he;split at he
 ·cases he
  exact cY ls _ 6 (by omega)
 ·cases he
theorem Cg(ms:List Int):∀p∈wL ms,p.2<5:=fun p hp=>by
 have t0:=cY ms 0 5 (by omega);have t1:=cY ms 1 5 (by omega);unfold wL at hp;split at hp
 ·rw[JX.mp hp];exact t0
 ·rcases K9.mp hp with e | hp
  ·rw[e];exact t0
  ·rw[JX.mp hp];exact t1
section
variable{nms : List Str}(h : nms.length = 5)(nd : nms.Nodup)(ls ms : List Int)
include h
theorem Ax:RW nms (xN nms ls):=by
 refine⟨⟨qf nms ls,rfl,?_,fun k hk=>?_⟩,(gR h _ (cY ls 25 5 (by omega))).1,(gR h _ (cY ls 27 5 (by omega))).1,⟨?_,?_⟩,⟨?_,?_⟩⟩
 ·have:=zC ls E12
  rw[H9] at this;unfold qf;rw[K4];exact this
 ·obtain⟨p,hp,rfl⟩:=JS.mp hk
  have hlt:=DM ls p hp;rcases Li p.2 5 with z | z
  ·exact .inr (gR h _ z).1
  ·have e:p.2=5:=by omega
   refine .inl ?_;show nm nms p.2=_;rw[e];exact GG h
 ·show 1<=1+ls.getD 24 0 % 2;omega
 ·show 1+ls.getD 24 0 % 2<=2;omega
 ·show 1<=1+ls.getD 26 0 % 2;omega
 ·show 1+ls.getD 26 0 % 2<=2;omega
theorem xc:RW nms (qX nms ms):=by
 refine⟨⟨wS nms ms,rfl,?_,?_,fun p hp=>?_⟩,(gR h _ (cY ms 4 5 (by omega))).1,(gR h _ (cY ms 8 5 (by omega))).1,⟨?_,?_⟩,⟨?_,?_⟩⟩
 ·unfold wS wL
  split
  ·show Ms [[98,111]] W8
   decide +kernel
  ·show Ms [[98,111],[108,101,101]] W8
   decide +kernel
 ·unfold wS wL
  split <;> simp
 ·obtain⟨q,hq,rfl⟩:=JS.mp hp
  exact(gR h _ (Cg ms q hq)).1
 ·show (1:Int)<=1;omega
 ·show (1:Int)<=2;omega
 ·show (1:Int)<=1;omega
 ·show (1:Int)<=2;omega
omit h in
theorem tZ(rm:Nat->Room)(bo:Bool)(r:Str×Room)(hr:r∈fN nms rm bo 5):∃i,i<5/\r=(nm nms i,rm i):=by
 obtain⟨k,hk,rfl⟩:=JS.mp hr;exact⟨tn bo k,o8 bo k (LD.mp hk),rfl⟩
include nd
theorem D3(rm:Nat->Room)(bo:Bool):((fN nms rm bo 5).map (·.1)).Nodup:=by
 unfold fN;rw[K4];unfold Qx;rw[P1];refine NF (R:=fun a b=>a<b) (fun {i j} hi hj hij e=>?_) OE;rw[LD] at hi hj;exact ux h nd _ _ (o8 bo i hi) (o8 bo j hj) (fun e=>by have:=yR bo i j hi hj e;omega) e
theorem hZ(rm:Nat->Room)(bo:Bool)(i:Nat)(hi:i<5):FA.lookR (fN nms rm bo 5) (nm nms i)=some (rm i):=by
 have ne:=fun i j hi hj=>ux h nd i j hi hj
 have ex:∀r∈fN nms rm bo 5,r.1=nm nms i->r.2=rm i:=fun r hr e=>by
  obtain⟨j,hj,rfl⟩:=tZ rm bo r hr;rcases Nat.decEq j i with z | z
  ·exact absurd e (ne j i hj hi z)
  ·rw[z]
 have mem:nm nms i∈FA.names (fN nms rm bo 5):=by
  refine JS.mpr ⟨(nm nms i,rm i),JS.mpr ⟨tn bo i,LD.mpr (o8 bo i hi),?_⟩,rfl⟩
  have:tn bo (tn bo i)=i:=by
   unfold tn
   split <;> omega
  rw[this]
 obtain⟨r,hr⟩:=FA.look_some _ _ mem;rw[hr,show r=rm i from ex _ (ki _ _ r hr) rfl]
theorem va (nb:∀x∈nms,x≠JK "back"/\x≠JK "") (r3 r4:Room) (o3':Out r3) (o4':Out r4) (bo:Bool):∃ord,HG (hou nms ls ms r3 r4 bo) nms ord:=by
 have s6:=sy 3 _ (by omega) (cY ms 6 3 (by omega));have s9:=sy 4 _ (by omega) (cY ms 9 3 (by omega));have n6:=s6.2 (by omega);have n9:=s9.2 (by omega);have ft:nm nms (md ms 10 5)∈nms:=(gR h _ (cY ms 10 5 (by omega))).1;have r0:=Ax h ls;have r1:=xc h ms
 have lets:gIx (hou nms ls ms r3 r4 bo).pv (.str "letters")=some (WO.ltPv LS5):=by
  have uH:(hou nms ls ms r3 r4 bo).pv=.dct [.inr "first",.inr "letters",.inr "rooms"] [.str (nm nms (md ms 10 5)),WO.ltPv LSa,au (fN nms (tld nms ls ms r3 r4) bo 5)]:=by rw[← zw];rfl
  rw[uH];have:LS5=LSa:=rfl;rw[this];simp
 have rnd:=D3 h nd (tld nms ls ms r3 r4) bo;have rmm:=tZ (nms:=nms) (tld nms ls ms r3 r4) bo
 have all:∀x∈nms,x∈FA.names (hou nms ls ms r3 r4 bo).rooms:=fun x hx=>by
  obtain⟨i,hi,rfl⟩:=Lu hx;have e:=oI h i (by omega);rw[← e];have:=hZ h nd (tld nms ls ms r3 r4) bo i (by omega);exact JS.mpr ⟨_,ki _ _ _ this,rfl⟩
 have rl:(hou nms ls ms r3 r4 bo).rooms.length<=20:=by show (fN nms _ bo 5).length<=20;unfold fN;simp
 have hrm:(hou nms ls ms r3 r4 bo).rooms=fN nms (tld nms ls ms r3 r4) bo 5:=rfl;have hft:(hou nms ls ms r3 r4 bo).first=nm nms (md ms 10 5):=rfl;generalize hou nms ls ms r3 r4 bo=HH at *;have get:∀i,(hi:i<5)->nm nms i=nms[i]:=fun i hi=>oI h i hi
 obtain⟨n0,n1,n2,n3,n4,rfl⟩:∃n0 n1 n2 n3 n4,nms=[n0,n1,n2,n3,n4]:=by
  match nms,h with
  | [a,b,c,d,e],_=>exact⟨a,b,c,d,e,rfl⟩
 have dr:∀i,i<5->i≠2->nm [n0,n1,n2,n3,n4] i∈[n2,n0,n1,n3,n4].drop 1:=fun i hi h2=>by
  match i,hi,h2 with
  | 0,_,_=>simp[nm]
  | 1,_,_=>simp[nm]
  | 3,_,_=>simp[nm]
  | 4,_,_=>simp[nm]
 have pm:∀x,x∈[n0,n1,n2,n3,n4] ↔ x∈[n2,n0,n1,n3,n4]:=fun x=>by
  simp only[K9,O1,or_false];constructor
  ·rintro (h | h | h | h | h) <;> simp[h]
  ·rintro (h | h | h | h | h) <;> simp[h]
 refine⟨[n2,n0,n1,n3,n4],⟨?_,by simp,⟨fun r hr=>?_,by rw[hrm];exact rnd⟩,fun x hx=>all x ((pm x).mpr hx),fun x hx=>(pm x).mp hx,fun x hx=>(pm x).mpr hx,nb,by rw[hft];exact ft,lets,rl,by simp⟩⟩
 ·have p:List.Perm [n0,n1,n2,n3,n4] [n2,n0,n1,n3,n4]:=by
   show List.Perm ([n0,n1]++([n2]++[n3,n4])) ([n2]++([n0,n1]++[n3,n4]));rw[← LP,← LP];exact List.Perm.append_right _ List.perm_append_comm
  exact p.nodup_iff.mp nd
 ·rw[hrm] at hr
  obtain⟨i,hi,rfl⟩:=rmm r hr
  match i,hi with
  | 0,_=>exact⟨1,by simp,rfl,(fun sp l e=>by cases e),r0⟩
  | 1,_=>exact⟨2,by simp,rfl,(fun sp l e=>by cases e),r1⟩
  | 2,_=>
   refine⟨0,by simp,rfl,fun sp l e=>?_,trivial⟩;have e:oX [n0,n1,n2,n3,n4] ms=.hours sp l:=e;unfold oX at e;cases e;exact⟨dr _ s9.1 n9,fun s hs=>by rw[JX.mp hs];exact dr _ s6.1 n6⟩
  | 3,_=>exact⟨3,by simp,rfl,fun sp l e=>absurd e ((o3'.rw (nms:=[])).2 sp l),o3'.rw.1⟩
  | 4,_=>exact⟨4,by simp,rfl,fun sp l e=>absurd e ((o4'.rw (nms:=[])).2 sp l),o4'.rw.1⟩
end
theorem Je{t:PSt->R Bool}{f g:PSt->R Fl}{ρ:PSt}(h:t ρ=.ok true):ifF t f g ρ=f ρ:=by
 unfold ifF;rw[h];rfl
theorem Jf{t:PSt->R Bool}{f g:PSt->R Fl}{ρ:PSt}(h:t ρ=.ok false):ifF t f g ρ=g ρ:=by
 unfold ifF;rw[h];rfl
noncomputable def dP(L:List (Str×Str)):PV:=.dct (L.map fun x=>.inr x.1) (L.map fun x=>.str x.2)
def q2(x:Str×Str):PV:=.tup [.str x.1,.str x.2]
theorem zX(L:List (Str×Str))(r:Str):((L.map fun x=>(.inr x.1:Key)).any fun j=>decide (j=.inr r))=L.any fun x=>decide (x.1=r):=by
 rw[Lg]
 congr 1
 funext x
 simp[MW]
theorem xU(L:List (Str×Str))(hl:L.length<=16777216):nv (dP L)=some (.lst (L.map q2)):=by
 show (if (L.map fun x=>(.inr x.1:Key)).length<=16777216 then some (PV.lst ((jc (L.map fun x=>.inr x.1) (L.map fun x=>.str x.2)).map .tup)) else none)=_;rw[if_pos (by simpa using hl)]
 congr 2
 unfold jc
 induction L with
 | nil=>rfl
 | cons x L ih=>
  rw[JQ,JQ,Lf,JQ,ih (by rw[KU] at hl;omega),JQ];rfl
theorem oO(x:Str):∀L:List (Str×Str),bT (L.map fun x=>.inr x.1) (L.map fun x=>.str x.2) (.inr x)=(L.find? fun y=>decide (y.1=x)).map fun y=>.str y.2
 | []=>rfl
 | y::L=>by
  show (if (.inr y.1:Key)=.inr x then some (PV.str y.2) else bT (L.map fun x=>.inr x.1) (L.map fun x=>.str x.2) (.inr x))=_
  by_cases e:y.1=x
  ·rw[if_pos (by rw[e]),Mr (by simpa using e)]
   rfl
  ·rw[if_neg fun z=>e (Lw z),M4 (by simpa using e)]
   exact oO x L
section
variable{H : PV}{hour : Int}(M : Mach H hour)
def sv (s:St):Bool:=!decide ((M.hp s).1=JK "asked")
noncomputable def iT(L:List (Str×Str))(p:BF.Row St):List (Str×Str):=if sv M p.1=true then (if (L.any fun x=>decide (x.1=p.1.r))=true then L else L++[(p.1.r,gN p.2)]) else L
def bZ(f:List (BF.Row St)):List (Str×Str):=f.foldl (iT M) []
theorem sF(f:List (BF.Row St))(p:BF.Row St):bZ M (f++[p])=iT M (bZ M f) p:=by
 unfold bZ;rw[MF];rfl
theorem uK(L:List (Str×Str))(p:BF.Row St):(iT M L p).length<=L.length+1:=by
 unfold iT
 split
 ·split <;> simp
 ·omega
theorem mT(f:List (BF.Row St)):∀L,(f.foldl (iT M) L).length<=L.length+f.length:=by
 induction f with
 | nil=>intro L;simp
 | cons p f ih=>
  intro L;rw[Lc];have:=ih (iT M L p);have:=uK M L p;rw[KU];omega
theorem Bb(f:List (BF.Row St)):∀L:List (Str×Str),(L.map (·.1)).Nodup->((f.foldl (iT M) L).map (·.1)).Nodup:=by
 induction f with
 | nil=>intro L n;exact n
 | cons p f ih=>
  intro L n;rw[Lc];refine ih _ ?_;unfold iT
  split
  ·split
   ·exact n
   ·rename_i z
    rw[KL,LA];refine⟨n,by simp,fun a ha b hb e=>z ?_⟩;obtain⟨x,hx,rfl⟩:=JS.mp ha;rw[LG];refine⟨x,hx,decide_eq_true ?_⟩;simp at hb;rw[e,hb]
  ·exact n
theorem uJ(x:Str)(f:List (BF.Row St)):∀L:List (Str×Str),((f.foldl (iT M) L).find? fun y=>decide (y.1=x)).map (·.2)=((L.find? fun y=>decide (y.1=x)).map (·.2)).or ((f.find? fun p=>sv M p.1 && decide (p.1.r=x)).map fun p=>gN p.2):=by
 induction f with
 | nil=>intro L;simp
 | cons p f ih=>
  intro L;rw[Lc,ih,Kw];unfold iT;cases o:sv M p.1 with
  | false=>rw[if_neg (by simp)];rfl
  | true=>
   rw[if_pos rfl,Nr]
   by_cases a:(L.any fun y=>decide (y.1=p.1.r))=true
   ·rw[if_pos a]
    by_cases e:p.1.r=x
    ·rw[decide_eq_true e]
     rw[e] at a;obtain⟨y,hy,hh⟩:=LG.mp a;obtain⟨z,hz⟩:∃z,L.find? (fun y=>decide (y.1=x))=some z:=Ni.mp (List.find?_isSome.mpr ⟨y,hy,hh⟩);rw[hz];rfl
    ·rw[decide_eq_false e]
   ·rw[if_neg a,List.find?_append]
    by_cases e:p.1.r=x
    ·rw[decide_eq_true e]
     rw[e] at a
     have hz:L.find? (fun y=>decide (y.1=x))=none:=by
      rw[Mk];exact fun y hy hh=>a (LG.mpr ⟨y,hy,hh⟩)
     rw[hz];have:([(p.1.r,gN p.2)]:List (Str×Str)).find? (fun y=>decide (y.1=x))=some (p.1.r,gN p.2):=Mr (by simpa using e);rw[this];rfl
    ·rw[decide_eq_false e]
     have:([(p.1.r,gN p.2)]:List (Str×Str)).find? (fun y=>decide (y.1=x))=none:=by
      rw[M4 (by simpa using e)];rfl
     rw[this];cases L.find? (fun y=>decide (y.1=x)) <;> rfl
theorem uW(s:St)(hs:M.ok s):jB [H,s.pv]=some (.bl (sv M s)):=by
 have e:=M.hrd s hs;refine aF rfl ?_;have i0:gIx (hE (M.hp s)) (.int 0)=some (.str (M.hp s).1):=rfl
 have ne:gNe (.str (M.hp s).1) (.str "asked")=some (.bl (sv M s)):=by
  show (if nV (.str (M.hp s).1)=true/\nV (.str "asked")=true/\Aw (scV (.str (M.hp s).1)) (scV (.str "asked"))=true then some (PV.bl (!decide (scV (.str (M.hp s).1)=scV (.str "asked")))) else none)=_;rw[if_pos ⟨rfl,rfl,rfl⟩];unfold sv
  congr 3
  exact decide_eq_decide.mpr ⟨fun e=>by injection e,fun e=>by rw[e]⟩
 generalize sv M s=O at *;generalize hE (M.hp s)=E at *;generalize (M.hp s).1=K at *;generalize s.pv=S at *;simp[nu,PU.start,e,i0,ne]
theorem CU{i:Nat}{fk fv:PSt->R PV}{ρ:PSt}{L:List (Str×Str)}{p:BF.Row St}(hi:ρ[i]?=some (.own (dP L)))(hk:fk ρ=.ok (.str p.1.r))(hv:fv ρ=.ok (.str (gN p.2)))(ho:sv M p.1=true)(hl:L.length<16777216) :
  tQ i fk fv ρ=.ok (.next (ρ.set i (.own (dP (iT M L p))))):=by
 have il:i<ρ.length:=(JL.mp hi).1;have z:(L.map fun x=>(.inr x.1:Key)).length<16777216:=by simpa using hl
 unfold tQ;rw[hi];show (fk ρ >>= _)=_;rw[hk,R.ok_bind,hv,R.ok_bind];show (if (L.map fun x=>(.inr x.1:Key)).length<16777216 then R.ok (Fl.next (if ((L.map fun x=>(.inr x.1:Key)).any fun j=>decide (j=.inr p.1.r))=true then ρ else ρ.set i (.own (gD (L.map fun x=>.inr x.1) (L.map fun x=>.str x.2) (.inr p.1.r) (.str (gN p.2)))))) else .no)=_;rw[if_pos z];unfold iT gD;rw[if_pos ho,zX]
 by_cases a:(L.any fun x=>decide (x.1=p.1.r))=true
 ·rw[if_pos a,if_pos a]
  have:ρ.set i (.own (dP L))=ρ:=by
   refine RD fun j=>?_
   by_cases e:j=i
   ·subst e
    rw[Mq il,hi]
   ·rw[ML (LY e)]
  rw[this]
 ·rw[if_neg a,if_neg a,if_neg a]
  unfold dP;rw[KL,KL];rfl
theorem By{found:List (BF.Row St)}(F:Found M found)(ep:iy [H,.int hour]=some (.lst (found.map bE))):pb [H,.int hour]=some (.lst ((bZ M found).map q2)):=by
 refine aF rfl ?_;have hln:=F.ln
 obtain⟨ρ',f1,a,b,rfl⟩:=forM (enc:=bE) (xs:=found) (h:=jq 2 (bt (aC 3) (bt (aC 4) jv))) (g:=nQ) (ρ:=[.val H,.val (.int hour),.own (dP []),.no,.no])
  (I:=fun pre ρ=>∃a b,ρ=[.val H,.val (.int hour),.own (dP (bZ M pre)),a,b]) ⟨_,_,rfl⟩ (by
   rintro pre p post ρ hx ⟨a,b,rfl⟩;have pm:p∈found:=by rw[hx];simp
   have hpl:pre.length<found.length:=by rw[hx];simp
   have ll:=mT M pre [];have ll:(bZ M pre).length<=pre.length:=by simpa [bZ] using ll
   refine⟨[.val H,.val (.int hour),.own (dP (bZ M pre)),.val p.1.pv,.val (.str (gN p.2))],[.val H,.val (.int hour),.own (dP (bZ M (pre++[p]))),.val p.1.pv,.val (.str (gN p.2))],rfl,.inl ?_,_,_,rfl⟩;rw[sF];have e:=uW M p.1 (F.ok p pm);unfold nQ;cases o:sv M p.1 with
   | true=>
    rw[o] at e
    rw[Je (by
     generalize p.1.pv=S at *;generalize dP (bZ M pre)=D at *;simp[e]),CU M (L:=bZ M pre) (p:=p) rfl rfl rfl o (by omega)]
    rfl
   | false=>
    rw[o] at e
    rw[Jf (by
     generalize p.1.pv=S at *;generalize dP (bZ M pre)=D at *;simp[e])]
    unfold iT;rw[o];rfl)
 have ll:=mT M found [];have ll:(bZ M found).length<=found.length:=by simpa [bZ] using ll
 have it:gz (.lst (found.map bE))=some (found.map bE):=rfl;have e2:=xU (bZ M found) (by omega);have d0:dP []=.dct [] []:=rfl;rw[d0] at f1;generalize dP (bZ M found)=DD at *;generalize (bZ M found).map q2=EE at *;generalize found.map bE=FS at *;simp[vd,PU.start,ep,it];rw[f1];simp[e2]
end
theorem p6:∀(l:List (Key×PV))(ks:List Key)(ps:List PV),(ks++l.map (·.1)).Nodup->l.foldl wb (.dct ks ps)=.dct (ks++l.map (·.1)) (ps++l.map (·.2))
 | [],ks,ps,_=>by simp
 | (k,p)::l,ks,ps,nd=>by
  have e:wb (.dct ks ps) (k,p)=.dct (ks++[k]) (ps++[p]):=by
   show gD ks ps k p=_;unfold gD;rw[if_neg];intro h;obtain⟨j,hj,e⟩:=LG.mp h;have e:=of_decide_eq_true e;subst e;rw[JQ] at nd;exact(LA.mp nd).2.2 j hj j KJ rfl
  rw[Lc,e,p6 l _ _ (by simpa using nd)];simp
theorem oB:∀L:List (Str×Str),eW (L.map q2)=some (L.map fun x=>(.inr x.1,.str x.2))
 | []=>rfl
 | x::L=>by
  show (eW (L.map q2)).map (fun l=>(.inr x.1,.str x.2)::l)=_;rw[oB L];rfl
theorem yr(L:List (Str×Str))(nd:(L.map (·.1)).Nodup)(hl:L.length<=16777216):rz (.lst (L.map q2))=some (dP L):=by
 show (if (L.map q2).length<=16777216 then (eW (L.map q2)).map i7 else none)=_;rw[if_pos (by rw[JT];exact hl),oB];show some ((L.map fun x=>((.inr x.1:Key),PV.str x.2)).foldl wb (.dct [] []))=_
 rw[p6 _ _ _ (by
  rw[Mh,K4];have e:((fun x:Key×PV=>x.1) ∘ fun x:Str×Str=>((.inr x.1:Key),PV.str x.2))=LW ∘ fun x:Str×Str=>x.1:=rfl;rw[e,← K4];exact Pq _ (fun a b hne e=>hne (Lw e)) nd)]
 rw[K4,K4];rfl
theorem p9{α:Type}{f g:α->Bool}:∀l:List α,(∀p∈l,f p=g p)->l.find? f=l.find? g
 | [],_=>rfl
 | p::l,h=>by
  rw[Kw,Kw,h p (by simp),p9 l fun q hq=>h q (by simp[hq])]
theorem lZ{α:Type}{R:α->α->Prop}{P:α->Bool}{p q:α}:∀l:List α,l.Pairwise R->l.find? P=some p->q∈l->P q=true->q=p\/R p q
 | [],_,e,_,_=>by cases e
 | a::l,pw,e,hq,hP=>by
  rw[Kw] at e;rw[List.pairwise_cons] at pw;cases ha:P a with
  | true=>
   rw[ha] at e;cases e;rcases K9.mp hq with z | z
   ·exact .inl z
   ·exact .inr (pw.1 q z)
  | false=>
   rw[ha] at e;rcases K9.mp hq with z | z
   ·subst z
    rw[ha] at hP;cases hP
   ·exact lZ l pw.2 e z hP
section
variable{H G : PV}{hour : Int}(M : Mach H hour)(N : Mach G hour){found : List (BF.Row St)}(F : Found M found)
include F
theorem vj(r:List Nat):(∀i∈r,i<13)->∃p∈found,p.1=r.reverse.foldl M.lead M.s0/\(p.2=r.reverse\/BF.lt p.2 r.reverse):=by
 induction r with
 | nil=>
  intro _;obtain⟨tl,e⟩:=F.inv.h0;exact⟨(M.s0,[]),by rw[e];simp,rfl,.inl rfl⟩
 | cons i r ih=>
  intro hr;obtain⟨p,hp,e1,e2⟩:=ih fun j hj=>hr j (by simp[hj]);obtain⟨q,hq,c1,c2⟩:=F.cl p hp i (hr i (by simp));refine⟨q,hq,?_,?_⟩
  ·rw[c1,e1,RC,MF]
   rfl
  ·rw[RC]
   rcases e2 with e2 | e2
   ·rw[e2] at c2
    exact c2
   ·have:=BF.lt_snoc i i e2
    rcases c2 with c2 | c2
    ·rw[c2];exact .inr this
    ·exact .inr (BF.lt_trans c2 this)
theorem rC(q:List Nat)(hq:∀i∈q,i<13):∃p∈found,p.1=q.foldl M.lead M.s0/\(p.2=q\/BF.lt p.2 q):=by
 have:=vj M F q.reverse fun i hi=>hq i (PM.mp hi)
 rwa [List.reverse_reverse] at this
theorem DH(x:Str)(hx:∀p∈found,p.1.r=x->sv M p.1=true):((found.find? fun p=>decide (p.1.r=x))=none->gIn (.str x) (dP (bZ M found))=some (.bl false)/\c5 (.str x) (dP (bZ M found))=some (.bl true))/\
  ∀p,(found.find? fun p=>decide (p.1.r=x))=some p->gIn (.str x) (dP (bZ M found))=some (.bl true)/\c5 (.str x) (dP (bZ M found))=some (.bl false)/\gIx (dP (bZ M found)) (.str x)=some (.str (gN p.2)):=by
 have fc:(found.find? fun p=>sv M p.1 && decide (p.1.r=x))=found.find? fun p=>decide (p.1.r=x):=p9 found fun p hp=>by
  by_cases e:p.1.r=x
  ·rw[hx p hp e,Nr]
  ·rw[decide_eq_false e,Nb]
 have lf:=uJ M x found [];rw[fc] at lf;have lf:((bZ M found).find? fun y=>decide (y.1=x)).map (·.2)=(found.find? fun p=>decide (p.1.r=x)).map fun p=>gN p.2:=lf
 have gi:gIn (.str x) (dP (bZ M found))=some (.bl ((bZ M found).any fun y=>decide (y.1=x))):=by
  show some (PV.bl (((bZ M found).map fun x=>(.inr x.1:Key)).any fun j=>decide (j=.inr x)))=_;rw[zX]
 have gn:c5 (.str x) (dP (bZ M found))=some (.bl (!((bZ M found).any fun y=>decide (y.1=x)))):=by
  unfold c5;rw[gi];rfl
 constructor
 ·intro e
  rw[e] at lf
  have z:((bZ M found).any fun y=>decide (y.1=x))=false:=by
   rw[RF];exact Mk.mp (Option.map_eq_none_iff.mp lf)
  rw[gi,gn,z];exact⟨rfl,rfl⟩
 ·intro p e
  rw[e] at lf;obtain⟨y,ey,e2⟩:=JV.mp lf;have z:((bZ M found).any fun y=>decide (y.1=x))=true:=LG.mpr ⟨y,Kg ey,by have:=NH ey;exact this⟩;rw[gi,gn,z];refine⟨rfl,rfl,?_⟩;show bT ((bZ M found).map fun x=>.inr x.1) ((bZ M found).map fun x=>.str x.2) (.inr x)=_;rw[oO,ey];exact congrArg (fun z=>some (PV.str z)) e2
omit F in
theorem alike (hs:∀q,lA M N q):∃L,ax [H,G,.int hour]=some (.tup [.str "alike",L]):=by
 rcases pO M N with⟨f,_,_,e,_⟩|⟨t,L,e,_,_,ns,_⟩
 ·exact⟨_,e⟩
 ·exact absurd (hs t) ns
theorem tells (x:Str) (hs:∀q,lA M N q ↔ (q.foldl M.lead M.s0).r≠x):((found.find? fun p=>decide (p.1.r=x))=none->∃L,ax [H,G,.int hour]=some (.tup [.str "alike",L]))/\
  ∀p,(found.find? fun p=>decide (p.1.r=x))=some p->∃L,ax [H,G,.int hour]=some (.tup [.str "apart",.str (gN p.2),L]):=by
 constructor
 ·intro e
  rcases pO M N with⟨f,_,_,e,_⟩|⟨t,L,_,ht,_,ns,_⟩
  ·exact⟨_,e⟩
  ·obtain⟨p,hp,ep,_⟩:=rC M F t ht
   refine absurd ((hs t).mpr ?_) ns;rw[← ep];exact fun z=>Mk.mp e p hp (decide_eq_true z)
 ·intro p e
  have pm:=Kg e
  have px:p.1.r=x:=by
   have:=NH e;exact of_decide_eq_true this
  have rp:p.2.foldl M.lead M.s0=p.1:=F.inv.run p pm;have nsp:¬ lA M N p.2:=fun z=>(hs p.2).mp z (by rw[rp];exact px);rcases pO M N with⟨f,_,_,_,all⟩|⟨t,L,ec,ht,_,ns,least⟩
  ·exact absurd (all p.2 (F.inv.rng p pm)) nsp
  ·obtain⟨q,hq,eq,ql⟩:=rC M F t ht
   have qx:q.1.r=x:=by
    rw[eq];exact Classical.byContradiction fun z=>ns ((hs t).mpr z)
   have nlt:¬ BF.lt p.2 t:=fun z=>nsp (least p.2 (F.inv.rng p pm) z)
   have:p.2=t:=by
    rcases lZ found F.inv.srt e hq (decide_eq_true qx) with z | z
    ·rw[z] at ql
     exact ql.resolve_right nlt
    ·rcases ql with ql | ql
     ·rw[ql] at z
      exact absurd z nlt
     ·exact absurd (BF.lt_trans z ql) nlt
   rw[this];exact⟨L,ec⟩
end
def hr(r:Room):Str×Str:=(kindOf r,jM r)
def Qn(A B:List Str)(x y:Str):Prop:=∃i,i<5/\x=nm A i/\y=nm B i
section
variable {A B : List Str} (hA : A.length = 5) (hB : B.length = 5) (nA : A.Nodup) (nB : B.Nodup) (bA : ∀x ∈ A, x ≠ JK "back" ∧ x ≠ JK "") (bB : ∀x ∈ B, x ≠ JK "back" ∧ x ≠ JK "")
variable(ls ms : List Int){r3 r4 r3' r4' : Room}(o3A : Out r3)(o4A : Out r4)(o3B : Out r3')(o4B : Out r4')(b b' : Bool)(hour : Int)
theorem yZ{Q:Str->Str->Prop}{r r':Room}(h:Out r)(h':Out r'):RR Q r r':=by
 obtain⟨t,rfl | rfl⟩:=h
 ·obtain⟨t',rfl | rfl⟩:=h' <;> trivial
 ·obtain⟨t',rfl | rfl⟩:=h' <;> trivial
include hA hB o3A o4A o3B o4B in
theorem Ge(i:Nat)(hi:i<5):RR (Qn A B) (tld A ls ms r3 r4 i) (tld B ls ms r3' r4' i):=by
 have q:∀k,k<5->Qn A B (nm A k) (nm B k):=fun k hk=>⟨k,hk,rfl,rfl⟩
 match i,hi with
 | 0,_=>
  refine⟨rfl,⟨(kl ls).map fun p=>(⟨#[p.1]⟩,nm A p.2,nm B p.2),?_,?_,fun p hp=>?_⟩,⟨rfl,q _ (cY ls 25 5 (by omega))⟩,rfl,q _ (cY ls 27 5 (by omega))⟩
  ·unfold qf
   rw[K4,K4];rfl
  ·unfold qf
   rw[K4,K4];rfl
  ·obtain⟨e,he,rfl⟩:=JS.mp hp
   have hlt:=DM ls e he;rcases Li e.2 5 with z | z
   ·exact .inr (q _ z)
   ·have e5:e.2=5:=by omega
    refine .inl ⟨?_,?_⟩
    ·show nm A e.2=_
     rw[e5,GG hA]
    ·show nm B e.2=_
     rw[e5,GG hB]
 | 1,_=>
  refine⟨rfl,⟨(wL ms).map fun p=>(p.1,nm A p.2,nm B p.2),?_,?_,fun p hp=>?_⟩,⟨rfl,q _ (cY ms 4 5 (by omega))⟩,rfl,q _ (cY ms 8 5 (by omega))⟩
  ·unfold wS
   rw[K4,K4];rfl
  ·unfold wS
   rw[K4,K4];rfl
  ·obtain⟨e,he,rfl⟩:=JS.mp hp
   exact q _ (Cg ms e he)
 | 2,_=>
  refine⟨⟨[(ms.getD 5 0 % 24,24,nm A (o3 3 (md ms 6 3)),nm B (o3 3 (md ms 6 3)))],rfl,rfl,fun p hp=>?_⟩,q _ (sy 4 _ (by omega) (cY ms 9 3 (by omega))).1⟩;rw[JX.mp hp];exact q _ (sy 3 _ (by omega) (cY ms 6 3 (by omega))).1
 | 3,_=>exact yZ o3A o3B
 | 4,_=>exact yZ o4A o4B
include hA hB nA nB bA bB o3A o4A o3B o4B in
theorem CO:Sim (hou A ls ms r3 r4 b) (hou B ls ms r3' r4' b') hour (Qn A B):=by
 obtain⟨ord,hg⟩:=va hA nA ls ms bA r3 r4 o3A o4A b;refine⟨?_,?_,⟨_,cY ms 10 5 (by omega),rfl,rfl⟩,?_⟩
 ·rintro x y ⟨i,hi,rfl,rfl⟩
  exact⟨_,_,hZ hA nA _ b i hi,hZ hB nB _ b' i hi,Ge hA hB ls ms o3A o4A o3B o4B i hi⟩
 ·rintro x y ⟨i,hi,rfl,rfl⟩
  exact⟨bA _ (gR hA i hi).1,bB _ (gR hB i hi).1⟩
 ·rintro x y ⟨i,hi,rfl,rfl⟩
  exact(cm hg hour _ (gR hA i hi).1).1
include hA nA in
theorem Bs(i:Nat)(hi:i<5)(s:St)(e:s.r=nm A i):hP (hou A ls ms r3 r4 b) s=hr (tld A ls ms r3 r4 i):=by
 unfold hP;rw[e,show FA.lookR (hou A ls ms r3 r4 b).rooms (nm A i)=_ from hZ hA nA _ b i hi];rfl
include hA hB nA nB bA bB o3A o4A o3B o4B in
theorem tU {M:Mach (hou A ls ms r3 r4 b).pv hour} {N:Mach (hou B ls ms r3' r4' b').pv hour} (m1:M.lead=lead (hou A ls ms r3 r4 b) hour) (m2:M.hp=hP (hou A ls ms r3 r4 b)) (m3:M.s0=arS (hou A ls ms r3 r4 b) hour (hou A ls ms r3 r4 b).first "")
  (n1:N.lead=lead (hou B ls ms r3' r4' b') hour) (n2:N.hp=hP (hou B ls ms r3' r4' b')) (n3:N.s0=arS (hou B ls ms r3' r4' b') hour (hou B ls ms r3' r4' b').first "") (q:List Nat) :
  ∃i,i<5/\(q.foldl M.lead M.s0).r=nm A i/\(lA M N q ↔ hr (tld A ls ms r3 r4 i)=hr (tld B ls ms r3' r4' i)):=by
 have S:=Av (CO hA hB nA nB bA bB ls ms o3A o4A o3B o4B b b' hour) q;obtain⟨i,hi,e1,e2⟩:=S.r;refine⟨i,hi,by rw[m1,m3];exact e1,?_⟩;unfold lA;rw[m1,m2,m3,n1,n2,n3,Bs hA nA ls ms b i hi _ e1,Bs hB nB ls ms b' i hi _ e2]
end
theorem GV(A B:List Str)(ls ms:List Int)(r3 r4 r3' r4':Room)(i:Nat)(hi:i<3):hr (tld A ls ms r3 r4 i)=hr (tld B ls ms r3' r4' i):=by
 match i,hi with
 | 0,_=>rfl
 | 1,_=>rfl
 | 2,_=>rfl
structure Two(A B:List Str)(ls ms:List Int)(r3 r4 r3' r4':Room)(b b':Bool)(hour:Int):Prop where
 ok:A.length=5/\B.length=5/\A.Nodup/\B.Nodup/\(∀x∈A,x≠JK "back"/\x≠JK "")/\∀x∈B,x≠JK "back"/\x≠JK ""
 out:Out r3/\Out r4/\Out r3'/\Out r4'
theorem Two.alike {A B:List Str} {ls ms:List Int} {r3 r4 r3' r4':Room} {b b':Bool} {hour:Int} (T:Two A B ls ms r3 r4 r3' r4' b b' hour) (h3:hr r3=hr r3') (h4:hr r4=hr r4'):∃L,ax [(hou A ls ms r3 r4 b).pv,(hou B ls ms r3' r4' b').pv,.int hour]=some (.tup [.str "alike",L]):=by
 obtain⟨hA,hB,nA,nB,bA,bB⟩:=T.ok;obtain⟨o1,o2,o3',o4'⟩:=T.out;obtain⟨ord,hg⟩:=va hA nA ls ms bA r3 r4 o1 o2 b;obtain⟨ord',hg'⟩:=va hB nB ls ms bB r3' r4' o3' o4' b';obtain⟨M,m1,m2,m3⟩:=mO hg hour;obtain⟨N,n1,n2,n3⟩:=mO hg' hour;refine K39.alike M N fun q=>?_;obtain⟨i,hi,_,e⟩:=tU hA hB nA nB bA bB ls ms o1 o2 o3' o4' b b' hour m1 m2 m3 n1 n2 n3 q;rw[e];rcases Li i 3 with z | z
 ·exact GV _ _ _ _ _ _ _ _ i z
 ·rcases Li i 4 with z | z
  ·have e:i=3:=by omega
   subst e;exact h3
  ·have e:i=4:=by omega
   subst e;exact h4
structure Met(A:List Str)(ls ms:List Int)(r3 r4:Room)(b:Bool)(hour:Int)(E D:PV):Prop where
 en:pb [(hou A ls ms r3 r4 b).pv,.int hour]=some E
 dk:rz E=some D
 al:∀j,j=3\/j=4->(gIn (.str (nm A j)) D=some (.bl false)/\c5 (.str (nm A j)) D=some (.bl true)/\∀(B:List Str)(r3' r4':Room)(b':Bool),Two A B ls ms r3 r4 r3' r4' b b' hour->(∀i,i<5->(hr (tld A ls ms r3 r4 i)=hr (tld B ls ms r3' r4' i) ↔ i≠j))->
   ∃L,ax [(hou A ls ms r3 r4 b).pv,(hou B ls ms r3' r4' b').pv,.int hour]=some (.tup [.str "alike",L])) ∨
  ∃t:Str,gIn (.str (nm A j)) D=some (.bl true)/\c5 (.str (nm A j)) D=some (.bl false)/\gIx D (.str (nm A j))=some (.str t)/\∀(B:List Str)(r3' r4':Room)(b':Bool),Two A B ls ms r3 r4 r3' r4' b b' hour->(∀i,i<5->(hr (tld A ls ms r3 r4 i)=hr (tld B ls ms r3' r4' i) ↔ i≠j))->
   ∃L,ax [(hou A ls ms r3 r4 b).pv,(hou B ls ms r3' r4' b').pv,.int hour]=some (.tup [.str "apart",.str t,L])
theorem DG {A:List Str} (hA:A.length=5) (nA:A.Nodup) (bA:∀x∈A,x≠JK "back"/\x≠JK "") (ls ms:List Int) {r3 r4:Room} (o1:Out r3) (o2:Out r4) (b:Bool) (hour:Int):∃E D,Met A ls ms r3 r4 b hour E D:=by
 obtain⟨ord,hg⟩:=va hA nA ls ms bA r3 r4 o1 o2 b;obtain⟨M,m1,m2,m3⟩:=mO hg hour;obtain⟨found,F,ep⟩:=ud M;have ll:=mT M found [];have ll:(bZ M found).length<=found.length:=by simpa [bZ] using ll
 have hln:=F.ln;refine⟨_,_,By M F ep,yr _ (Bb M found [] (by simp)) (by show (bZ M found).length<=_;omega),fun j hj=>?_⟩;have j5:j<5:=by omega
 have hx:∀p∈found,p.1.r=nm A j->sv M p.1=true:=fun p hp e=>by
  unfold sv;rw[m2,Bs hA nA ls ms b j j5 _ e]
  have key:∀r:Room,Out r->(!decide ((hr r).1=JK "asked"))=true:=fun r hr=>by
   obtain⟨t,rfl | rfl⟩:=hr
   ·show (!decide (JK "hand"=JK "asked"))=true
    decide +kernel
   ·show (!decide (JK "end"=JK "asked"))=true
    decide +kernel
  rcases hj with rfl | rfl
  ·exact key _ o1
  ·exact key _ o2
 obtain⟨g1,g2⟩:=DH M F (nm A j) hx
 have tw:∀(B:List Str)(r3' r4':Room)(b':Bool),Two A B ls ms r3 r4 r3' r4' b b' hour->(∀i,i<5->(hr (tld A ls ms r3 r4 i)=hr (tld B ls ms r3' r4' i) ↔ i≠j))->∃N:Mach (hou B ls ms r3' r4' b').pv hour,∀q,lA M N q ↔ (q.foldl M.lead M.s0).r≠nm A j:=fun B r3' r4' b' T d=>by
  obtain⟨hA,hB,nA,nB,bA,bB⟩:=T.ok;obtain⟨o1,o2,o3',o4'⟩:=T.out;obtain⟨ord',hg'⟩:=va hB nB ls ms bB r3' r4' o3' o4' b';obtain⟨N,n1,n2,n3⟩:=mO hg' hour;refine⟨N,fun q=>?_⟩;obtain⟨i,hi,ei,e⟩:=tU hA hB nA nB bA bB ls ms o1 o2 o3' o4' b b' hour m1 m2 m3 n1 n2 n3 q;rw[e,ei,d i hi];constructor
  ·exact fun z=>ux hA nA i j hi j5 z
  ·exact fun z e=>z (by rw[e])
 cases hf:found.find? fun p=>decide (p.1.r=nm A j) with
 | none=>
  obtain⟨k1,k2⟩:=g1 hf;refine .inl ⟨k1,k2,fun B r3' r4' b' T d=>?_⟩;obtain⟨N,hs⟩:=tw B r3' r4' b' T d;exact(tells M N F (nm A j) hs).1 hf
 | some p=>
  obtain⟨k1,k2,k3⟩:=g2 p hf;refine .inr ⟨_,k1,k2,k3,fun B r3' r4' b' T d=>?_⟩;obtain⟨N,hs⟩:=tw B r3' r4' b' T d;exact(tells M N F (nm A j) hs).2 p hf
theorem gv{h:Tgt}{g:PSt->R Fl}{p:PV}{ps:List PV}{ρ ρ1 ρ2:PSt}(e1:h p ρ=some ρ1)(e2:g ρ1=.ok (.next ρ2)):fO h g (p::ps) ρ=fO h g ps ρ2:=by
 show (R.ofO (h p ρ) >>= _)=_;rw[e1,R.ofO_some,R.ok_bind,e2];rfl
theorem sl2(a b c:PV):gSl (.tup [a,b,c]) none (some 2)=some (.tup [a,b]):=rfl
theorem ne2 (t:Str):gNe (.tup [.str "apart",.str t]) (.tup [.str "apart",.str t])=some (.bl false)/\gEq (.tup [.str "apart",.str t]) (.tup [.str "apart",.str t])=some (.bl true):=by
 obtain⟨h1,h2⟩:=HR (JK "apart",t) (JK "apart",t);rw[decide_eq_true rfl] at h1 h2;exact⟨h1,h2⟩
theorem neA:gNe (.str "alike") (.str "alike")=some (.bl false)/\gEq (.str "alike") (.str "alike")=some (.bl true):=by
 constructor <;> kernel_rfl
section
variable(A0 A1 A2 : Sl)(hour HA HB : PV)
theorem yC (A6 A7 X Y L:PV) (e:ax [X,Y,hour]=some (.tup [.str "alike",L])):nO [A0,A1,A2,.val hour,.val HA,.val HB,.val X,.val Y,.no,.no,.no,.no,.no]=.ok (.next [A0,A1,A2,.val hour,.val HA,.val HB,.val X,.val Y,.no,.no,.no,.no,.no]):=by
 have n:=neA.1;simp[nO,e,n]
theorem Jk (L1 L2 L3 L4:PV) (e1:ax [HA,HB,hour]=some (.tup [.str "alike",L1])) (e2:ax [HB,HA,hour]=some (.tup [.str "alike",L2])) (e3:ax [HA,HA,hour]=some (.tup [.str "alike",L3])) (e4:ax [HB,HB,hour]=some (.tup [.str "alike",L4])) :
  fO (jq 2 (bt (aC 6) (bt (aC 7) jv))) nO [.tup [HA,HB],.tup [HB,HA],.tup [HA,HA],.tup [HB,HB]] [A0,A1,A2,.val hour,.val HA,.val HB,.no,.no,.no,.no,.no,.no,.no]=.ok (.next [A0,A1,A2,.val hour,.val HA,.val HB,.val HB,.val HB,.no,.no,.no,.no,.no]):=by
 rw[gv rfl (yC A0 A1 A2 hour HA HB .non .non HA HB L1 e1),gv rfl (yC A0 A1 A2 hour HA HB .non .non HB HA L2 e2),gv rfl (yC A0 A1 A2 hour HA HB .non .non HA HA L3 e3),gv rfl (yC A0 A1 A2 hour HA HB .non .non HB HB L4 e4)];rfl
theorem F3(NS NB D TX G:PV)(x:Str)(A6 A7 a:Sl)(eh:bI [NS,NB,TX,.bl false]=some G)
  (hm:(gIn (.str x) D=some (.bl false)/\c5 (.str x) D=some (.bl true)/\∃L,ax [HA,G,hour]=some (.tup [.str "alike",L]))\/∃t:Str,gIn (.str x) D=some (.bl true)/\c5 (.str x) D=some (.bl false)/\gIx D (.str x)=some (.str t)/\∃L,ax [HA,G,hour]=some (.tup [.str "apart",.str t,L])) :
  ∃v,kZ [.val NS,A1,.val NB,.val hour,.val HA,.val HB,A6,A7,.val D,.val (.str x),.val TX,a,.no]=.ok (.next [.val NS,A1,.val NB,.val hour,.val HA,.val HB,A6,A7,.val D,.val (.str x),.val TX,v,.no]):=by
 have n:=neA.1;rcases hm with⟨k1,k2,L,e⟩|⟨t,k1,k2,k3,L,e⟩
 ·refine⟨.val (.tup [.str "alike",L]),?_⟩
  simp[kZ,eh,k1,k2,e,n]
 ·have s:=sl2 (.str "apart") (.str t) L
  have n2:=(ne2 t).1;refine⟨.val (.tup [.str "apart",.str t,L]),?_⟩;simp[kZ,eh,k1,k2,k3,e,oC,slQ,s,n2]
end
theorem Gj{B:List Str}(hB:B.length=5)(nB:B.Nodup)(ls ms:List Int)(r3 r3' r4:Room):D7 (fN B (tld B ls ms r3 r4) false 5) (nm B 3) r3'=fN B (tld B ls ms r3' r4) false 5:=by
 have ne:=fun i j hi hj=>ux hB nB i j hi hj;have hl:=hZ hB nB (tld B ls ms r3 r4) false 3 (by omega);unfold D7;rw[if_pos (JS.mpr ⟨_,ki _ _ _ hl,rfl⟩)];show [if nm B 0=nm B 3 then (nm B 0,r3') else (nm B 0,tld B ls ms r3 r4 0),if nm B 1=nm B 3 then (nm B 1,r3') else (nm B 1,tld B ls ms r3 r4 1),if nm B 2=nm B 3 then (nm B 2,r3') else (nm B 2,tld B ls ms r3 r4 2),if nm B 3=nm B 3 then (nm B 3,r3') else (nm B 3,tld B ls ms r3 r4 3),if nm B 4=nm B 3 then (nm B 4,r3') else (nm B 4,tld B ls ms r3 r4 4)]=_;rw[if_neg (ne 0 3 (by omega) (by omega) (by omega)),if_neg (ne 1 3 (by omega) (by omega) (by omega)),if_neg (ne 2 3 (by omega) (by omega) (by omega)),if_pos rfl,if_neg (ne 4 3 (by omega) (by omega) (by omega))];rfl
theorem B4 {B:List Str} (hB:B.length=5) (nB:B.Nodup) (ls ms:List Int) (r3 r3' r4:Room):xH (hou B ls ms r3 r4 false).pv (.inr "rooms")=some ((fN B (tld B ls ms r3 r4) false 5).map fun r=>.inr r.1,(fN B (tld B ls ms r3 r4) false 5).map fun r=>r.2.pv)/\
  uz (hou B ls ms r3 r4 false).pv (gD ((fN B (tld B ls ms r3 r4) false 5).map fun r=>.inr r.1) ((fN B (tld B ls ms r3 r4) false 5).map fun r=>r.2.pv) (.inr (nm B 3)) r3'.pv)=(hou B ls ms r3' r4 false).pv:=by
 constructor
 ·have hc:((some (.inr (JK "rooms"):Key)).any fun j=>decide (j=.inr (JK "rooms")))=true/\(([.inr (JK "first"),.inr (JK "letters")]:List Key).any fun j=>decide (j=.inr (JK "rooms")))=false/\((fN B (tld B ls ms r3 r4) false 5).map fun r=>(.inr r.1:Key)).length<16777216:=by
   refine⟨by decide +kernel,by decide +kernel,?_⟩;rw[JT];show (5:Nat)<16777216;omega
  exact if_pos (e:=none) hc
 ·rw[u7,Gj hB nB]
  rfl
theorem xO(ns:List Int):vx [.lst (ns.map .int)]=some (.bl true):=by
 refine aF rfl ?_;have cc:∀k:Nat,aw [PV.lst (ns.map PV.int),PV.int k]=some (PV.int (ns.getD k 0)):=BO ns;have c0:aw [PV.lst (ns.map PV.int),PV.int 0]=_:=cc 0;have c1:aw [PV.lst (ns.map PV.int),PV.int 1]=_:=cc 1;have c2:aw [PV.lst (ns.map PV.int),PV.int 2]=_:=cc 2;have c3:aw [PV.lst (ns.map PV.int),PV.int 3]=_:=cc 3;have c4:aw [PV.lst (ns.map PV.int),PV.int 4]=_:=cc 4;generalize ns.getD 0 0=z0 at c0;generalize ns.getD 1 0=z1 at c1;generalize ns.getD 2 0=z2 at c2;generalize ns.getD 3 0=z3 at c3;generalize ns.getD 4 0=z4 at c4;clear cc;have m24:e9 (.int z4) (.int 24)=some (.int (z4 % 24)):=iH (by decide);generalize z4 % 24=hour at m24;obtain⟨A,a1,a2,a3,ea⟩:=names z0;obtain⟨B,b1,b2,b3,eb⟩:=names z3;obtain⟨ls,l1,_,el⟩:=pX z1 30 (by omega);obtain⟨ms,m1,_,em⟩:=pX z2 16 (by omega);have oH:∀t,Out (.hand t):=fun t=>⟨t,.inl rfl⟩;have oF:∀t,Out (.fin t):=fun t=>⟨t,.inr rfl⟩;have ehA:=ig a1 a2 _ z1 z2 c1 c2 ls ms l1 m1 el em "Ann" "Bye" false;have ehB:=ig b1 b2 _ z1 z2 c1 c2 ls ms l1 m1 el em "Ann" "Bye" true;have ehC:=ig b1 b2 _ z1 z2 c1 c2 ls ms l1 m1 el em "Ann" "Bye" false;have ehD:=ig b1 b2 _ z1 z2 c1 c2 ls ms l1 m1 el em "Anna" "Bye" false;have ehE:=ig b1 b2 _ z1 z2 c1 c2 ls ms l1 m1 el em "Ann" "Bye." false;obtain⟨L1,k1⟩:=(⟨⟨a1,b1,a2,b2,a3,b3⟩,oH _,oF _,oH _,oF _⟩:Two A B ls ms (.hand "Ann") (.fin "Bye") (.hand "Ann") (.fin "Bye") false true hour).alike rfl rfl;obtain⟨L2,k2⟩:=(⟨⟨b1,a1,b2,a2,b3,a3⟩,oH _,oF _,oH _,oF _⟩:Two B A ls ms (.hand "Ann") (.fin "Bye") (.hand "Ann") (.fin "Bye") true false hour).alike rfl rfl;obtain⟨L3,k3⟩:=(⟨⟨a1,a1,a2,a2,a3,a3⟩,oH _,oF _,oH _,oF _⟩:Two A A ls ms (.hand "Ann") (.fin "Bye") (.hand "Ann") (.fin "Bye") false false hour).alike rfl rfl;obtain⟨L4,k4⟩:=(⟨⟨b1,b1,b2,b2,b3,b3⟩,oH _,oF _,oH _,oF _⟩:Two B B ls ms (.hand "Ann") (.fin "Bye") (.hand "Ann") (.fin "Bye") true true hour).alike rfl rfl;obtain⟨E,D,mt⟩:=DG a1 a2 a3 ls ms (oH "Ann") (oF "Bye") false hour;have tw:∀r3' r4',Out r3'->Out r4'->Two A B ls ms (.hand "Ann") (.fin "Bye") r3' r4' false false hour:=fun r3' r4' o o'=>⟨⟨a1,b1,a2,b2,a3,b3⟩,oH _,oF _,o,o'⟩
 have d3:∀r3',hr (.hand "Ann")≠hr r3'->∀i,i<5->(hr (tld A ls ms (.hand "Ann") (.fin "Bye") i)=hr (tld B ls ms r3' (.fin "Bye") i) ↔ i≠3):=fun r3' h i hi=>by
  match i,hi with
  | 0,_=>exact⟨fun _=>by omega,fun _=>rfl⟩
  | 1,_=>exact⟨fun _=>by omega,fun _=>rfl⟩
  | 2,_=>exact⟨fun _=>by omega,fun _=>rfl⟩
  | 3,_=>exact⟨fun z=>absurd z h,fun z=>absurd rfl z⟩
  | 4,_=>exact⟨fun _=>by omega,fun _=>rfl⟩
 have d4:∀r4',hr (.fin "Bye")≠hr r4'->∀i,i<5->(hr (tld A ls ms (.hand "Ann") (.fin "Bye") i)=hr (tld B ls ms (.hand "Ann") r4' i) ↔ i≠4):=fun r4' h i hi=>by
  match i,hi with
  | 0,_=>exact⟨fun _=>by omega,fun _=>rfl⟩
  | 1,_=>exact⟨fun _=>by omega,fun _=>rfl⟩
  | 2,_=>exact⟨fun _=>by omega,fun _=>rfl⟩
  | 3,_=>exact⟨fun _=>by omega,fun _=>rfl⟩
  | 4,_=>exact⟨fun z=>absurd z h,fun z=>absurd rfl z⟩
 have h1:hr (.hand "Ann")≠hr (.hand "Anna"):=fun e=>by
  have:(JK "Ann")=JK "Anna":=congrArg Prod.snd e;exact absurd this (by decide +kernel)
 have h2:hr (.hand "Ann")≠hr (.fin "Ann"):=fun e=>by
  have:(JK "hand")=JK "end":=congrArg Prod.fst e;exact absurd this (by decide +kernel)
 have h3:hr (.fin "Bye")≠hr (.fin "Bye."):=fun e=>by
  have:(JK "Bye")=JK "Bye.":=congrArg Prod.snd e;exact absurd this (by decide +kernel)
 have m3:=mt.al 3 (.inl rfl);have m4:=mt.al 4 (.inr rfl);have nA3:atI (A.map PV.str) 3=_:=(gR a1 3 (by omega)).2;have nA4:atI (A.map PV.str) 4=_:=(gR a1 4 (by omega)).2;have nB3:atI (B.map PV.str) 3=_:=(gR b1 3 (by omega)).2;obtain⟨n1,n2⟩:=B4 b1 b2 ls ms (.hand "Ann") (.fin "Ann") (.fin "Bye")
 have mD:(gIn (.str (nm A 3)) D=some (.bl false)/\c5 (.str (nm A 3)) D=some (.bl true)/\∃L,ax [(hou A ls ms (.hand "Ann") (.fin "Bye") false).pv,(hou B ls ms (.hand "Anna") (.fin "Bye") false).pv,.int hour]=some (.tup [.str "alike",L]))\/∃t:Str,gIn (.str (nm A 3)) D=some (.bl true)/\c5 (.str (nm A 3)) D=some (.bl false)/\gIx D (.str (nm A 3))=some (.str t)/\∃L,ax [(hou A ls ms (.hand "Ann") (.fin "Bye") false).pv,(hou B ls ms (.hand "Anna") (.fin "Bye") false).pv,.int hour]=some (.tup [.str "apart",.str t,L]):=by
  rcases m3 with⟨g1,g2,g3⟩|⟨t,g1,g2,g3,g4⟩
  ·exact .inl ⟨g1,g2,g3 B _ _ false (tw _ _ (oH _) (oF _)) (d3 _ h1)⟩
  ·exact .inr ⟨t,g1,g2,g3,g4 B _ _ false (tw _ _ (oH _) (oF _)) (d3 _ h1)⟩
 have mE:(gIn (.str (nm A 4)) D=some (.bl false)/\c5 (.str (nm A 4)) D=some (.bl true)/\∃L,ax [(hou A ls ms (.hand "Ann") (.fin "Bye") false).pv,(hou B ls ms (.hand "Ann") (.fin "Bye.") false).pv,.int hour]=some (.tup [.str "alike",L]))\/∃t:Str,gIn (.str (nm A 4)) D=some (.bl true)/\c5 (.str (nm A 4)) D=some (.bl false)/\gIx D (.str (nm A 4))=some (.str t)/\∃L,ax [(hou A ls ms (.hand "Ann") (.fin "Bye") false).pv,(hou B ls ms (.hand "Ann") (.fin "Bye.") false).pv,.int hour]=some (.tup [.str "apart",.str t,L]):=by
  rcases m4 with⟨g1,g2,g3⟩|⟨t,g1,g2,g3,g4⟩
  ·exact .inl ⟨g1,g2,g3 B _ _ false (tw _ _ (oH _) (oF _)) (d4 _ h3)⟩
  ·exact .inr ⟨t,g1,g2,g3,g4 B _ _ false (tw _ _ (oH _) (oF _)) (d4 _ h3)⟩
 have mF:(gIn (.str (nm A 3)) D=some (.bl false)/\∃L,ax [(hou A ls ms (.hand "Ann") (.fin "Bye") false).pv,(hou B ls ms (.fin "Ann") (.fin "Bye") false).pv,.int hour]=some (.tup [.str "alike",L]))\/∃t:Str,gIn (.str (nm A 3)) D=some (.bl true)/\gIx D (.str (nm A 3))=some (.str t)/\∃L,ax [(hou A ls ms (.hand "Ann") (.fin "Bye") false).pv,(hou B ls ms (.fin "Ann") (.fin "Bye") false).pv,.int hour]=some (.tup [.str "apart",.str t,L]):=by
  rcases m3 with⟨g1,g2,g3⟩|⟨t,g1,g2,g3,g4⟩
  ·exact .inl ⟨g1,g3 B _ _ false (tw _ _ (oF _) (oF _)) (d3 _ h2)⟩
  ·exact .inr ⟨t,g1,g3,g4 B _ _ false (tw _ _ (oF _) (oF _)) (d3 _ h2)⟩
 have pe:(Room.fin "Ann").pv=.tup [.str "end",.str "Ann"]:=rfl;rw[pe] at n2;have en:=mt.en;have dk:=mt.dk;clear m3 m4 mt d3 d4 tw h1 h2 h3 el em c1 c2 pe;generalize (hou A ls ms (.hand "Ann") (.fin "Bye") false).pv=HA at *;generalize (hou B ls ms (.hand "Ann") (.fin "Bye") true).pv=HB at *;generalize (hou B ls ms (.hand "Ann") (.fin "Bye") false).pv=HC at *;generalize (hou B ls ms (.hand "Anna") (.fin "Bye") false).pv=HD at *;generalize (hou B ls ms (.hand "Ann") (.fin "Bye.") false).pv=HE at *;generalize (hou B ls ms (.fin "Ann") (.fin "Bye") false).pv=HF at *;generalize (fN B (tld B ls ms (.hand "Ann") (.fin "Bye")) false 5).map (fun r=>(.inr r.1:Key))=KS at *;generalize (fN B (tld B ls ms (.hand "Ann") (.fin "Bye")) false 5).map (fun r=>r.2.pv)=PS at *;generalize nm A 3=x3 at *;generalize nm A 4=x4 at *;generalize nm B 3=y3 at *;have f1:=Jk (.val (.lst (ns.map .int))) (.val (.lst (A.map .str))) (.val (.lst (B.map .str))) (.int hour) HA HB L1 L2 L3 L4 k1 k2 k3 k4;obtain⟨v1,g1⟩:=F3 (.val (.lst (A.map .str))) (.int hour) HA HB (.lst (ns.map .int)) (.lst (B.map .str)) D (.lst [.str "Anna",.str "Bye"]) HD x3 (.val HB) (.val HB) .no ehD mD;obtain⟨v2,g2⟩:=F3 (.val (.lst (A.map .str))) (.int hour) HA HB (.lst (ns.map .int)) (.lst (B.map .str)) D (.lst [.str "Ann",.str "Bye."]) HE x4 (.val HB) (.val HB) v1 ehE mE
 have f2:fO (jq 2 (bt (aC 9) (bt (aC 10) jv))) kZ [.tup [.str x3,.lst [.str "Anna",.str "Bye"]],.tup [.str x4,.lst [.str "Ann",.str "Bye."]]] [.val (.lst (ns.map .int)),.val (.lst (A.map .str)),.val (.lst (B.map .str)),.val (.int hour),.val HA,.val HB,.val HB,.val HB,.val D,.no,.no,.no,.no]=.ok (.next [.val (.lst (ns.map .int)),.val (.lst (A.map .str)),.val (.lst (B.map .str)),.val (.int hour),.val HA,.val HB,.val HB,.val HB,.val D,.val (.str x4),.val (.lst [.str "Ann",.str "Bye."]),v2,.no]):=by
  rw[gv rfl g1,gv rfl g2];rfl
 generalize ns.map PV.int=NS at *;generalize A.map PV.str=NA at *;generalize B.map PV.str=NB at *
 have np:∀(a9 a10 a11:Sl),uA 12 (aO (ab (getV 0) (ab (getV 2) (ab (l7 (ab (kS "Ann") (ab (kS "Bye") aI))) (ab (kB false) aI)))) bI) (.inr "rooms") (aq (getV 2) (kI 3) gIx) (dB (ab (kS "end") (ab (kS "Ann") aI))) [.val (.lst NS),.val (.lst NA),.val (.lst NB),.val (.int hour),.val HA,.val HB,.val HB,.val HB,.val D,a9,a10,a11,.no]=.ok (.next [.val (.lst NS),.val (.lst NA),.val (.lst NB),.val (.int hour),.val HA,.val HB,.val HB,.val HB,.val D,a9,a10,a11,.val HF]):=fun a9 a10 a11=>by
  unfold uA;rw[show aO (ab (getV 0) (ab (getV 2) (ab (l7 (ab (kS "Ann") (ab (kS "Bye") aI))) (ab (kB false) aI)))) bI [.val (.lst NS),.val (.lst NA),.val (.lst NB),.val (.int hour),.val HA,.val HB,.val HB,.val HB,.val D,a9,a10,a11,.no]=.ok HC by simp[ehC]];rw[R.ok_bind,n1,R.ofO_some,R.ok_bind];simp only[Qv,Qu];rw[show dB (ab (kS "end") (ab (kS "Ann") aI)) [.val (.lst NS),.val (.lst NA),.val (.lst NB),.val (.int hour),.val HA,.val HB,.val HB,.val HB,.val D,a9,a10,a11,.no]=.ok (.tup [.str "end",.str "Ann"]) by simp];rw[R.ok_bind];rw[show aq (getV 2) (kI 3) gIx [.val (.lst NS),.val (.lst NA),.val (.lst NB),.val (.int hour),.val HA,.val HB,.val HB,.val HB,.val D,a9,a10,a11,.no]=.ok (.str y3) by simp[nB3]];rw[R.ok_bind];show R.ok (Fl.next (_:PSt))=_;rw[← n2]
 simp[ya,PU.start,c0,c3,c4,m24,ea,eb,ehA,ehB];rw[f1];simp[en,dk,nA3,nA4];rw[f2];simp[np];rcases mF with⟨q1,L,q2⟩|⟨t,q1,q2,L,q3⟩
 ·have n:=neA.2
  simp[q2,nA3,q1,n]
 ·have s:=sl2 (.str "apart") (.str t) L
  have n:=(ne2 t).2;simp[q3,nA3,q1,q2,oC,slQ,s,n]
end K39
namespace K39
open PySem PySem.Spec PyProof.Rows L2 PU
seal EV EO EN EA ET EW SV SVs TGt C0 TCt C1 EI ETs ED EOI ELF EVF ENF ETF SVF EM SVM EDN
def top(i:Nat):Stmt:=KC.main.body.getD i (.Pass ⟨0,0,0,0⟩)
structure Txt(w:KH)(K:JH)(mg:Str->Option JJ):Prop where
 n_dict:mg "dict"=none
 n_enumerate:mg "enumerate"=none
 n_int:mg "int"=none
 n_len:mg "len"=none
 n_list:mg "list"=none
 n_range:mg "range"=none
 n_tuple:mg "tuple"=none
 n_zip:mg "zip"=none
 c_CODE_END:@Con (tw w) K mg "CODE_END" c_CODE_END
 c_HEARD:@Con (tw w) K mg "HEARD" c_HEARD
 c_SIGNS:@Con (tw w) K mg "SIGNS" c_SIGNS
 c_WAIT:@Con (tw w) K mg "WAIT" c_WAIT
end K39
namespace K39
open PySem PySem.Spec PyProof.Rows L2 PU
seal EV EO EN EA ET EW SV SVs TGt C0 TCt C1 EI ETs ED EOI ELF EVF ENF ETF SVF EM SVM EDN
variable{P : K5}{w : KH}{K : JH}{mg : Str → Option JJ}{base : Heap}
abbrev fq:Stmt:=top 33
theorem bh:FnScope ["_law_cell","_law_many","_law_found","_law_number","_law_k"] ["_law_cell","_law_many"] (ae fq):=fsc
theorem bV (T:Txt w K mg) (hs:Hs K mg "_law_numbers" fq):@PF (tw w) P w K mg base 1 "_law_numbers" aY:=
 letI:TW:=tw w
 l6 (g:=dE) hs bh fun _ _ _ _ _ _ _ hr=>have hu:=hr.units;(ah (gC 2 bh.nd (du ai)) (ah (aJ 3 bh.nd (aD Ds (az 0) af)) (ah (dM (bN (pJ hu) cZ (EV.o (aD dD (az 0) af)) af) (ah (cW (gd rfl T.n_range (aH 1)) (aZ 4 bh.nd) (ah (fP 2 (aD dD (az 3) af)) (aj (aJ 3 bh.nd (aD Ds (az 3) af))))) (aj (SV.frz 2 (aN (aH 2))))) br) (ah (aJ 3 bh.nd (aD dD (az 3) af)) (ah (cW (gd rfl T.n_range (aD fA (az 1) af)) (aZ 4 bh.nd) (ah (aJ 3 bh.nd (aD dD (EV.o (aD xD (EV.o (aD fA (EV.o (aD fA (az 3) (az 4))) af)) af)) af)) (aj (fP 2 (aD dD (EV.o (aD xD (az 3) af)) af))))) (aj (aN (jD (zM 2) (eL b0) eM))))))))
abbrev gL:Stmt:=top 34
theorem bj:FnScope ["_law_cell","_law_letters","_law_some","_law_size","_law_at","_law_names_here","_law_turn","_law_name","_law_k"] ["_law_cell"] (ae gL):=fsc
theorem eE (T:Txt w K mg) (hs:Hs K mg "_law_names" gL) (bV:@PF (tw w) P w K mg base 1 "_law_numbers" aY):@PF (tw w) P w K mg base 2 "_law_names" dU:=
 letI:TW:=tw w
 l6 (g:=gT) hs bj fun _ _ _ _ _ _ _ hr=>have hu:=hr.units;(ah (aJ 1 bj.nd aK) (ah (aJ 2 bj.nd (ay bV hr (aa (aH 0) (aa b0 ai)))) (ah (aJ 3 bj.nd (aD fA af (EV.o (aD dD (EV.o (ao (ixP hu) (az 2) af)) af)))) (ah (aJ 4 bj.nd (aD dD (EV.o (ao (ixP hu) (az 2) af)) (az 3))) (ah (gC 5 bj.nd (du ai)) (ah (cW (gd rfl T.n_range b0) (aZ 6 bj.nd) (ah (aJ 7 bj.nd aK) (ah (cW (gd rfl T.n_range (aH 3)) (aZ 8 bj.nd) (aj (aJ 7 bj.nd (aD fA (az 7) (EV.o (ao (ixP hu) (az 1) (EV.o (aD dD (EV.o (aD fA (EV.o (ao (ixP hu) (az 2) (az 8))) (EV.o (aD xD (EV.o (aD xD af (az 6))) (EV.o (En cInt rfl T.n_int rfl (EV.o (pj (pJ hu) (az 8) (az 4))))))))) af)))))))) (aj (fP 5 (aH 7)))))) (aj (SV.frz 5 (aN (aH 5))))))))))
abbrev fu:Stmt:=top 32
theorem l9:FnScope ["_law_script","_law_k"] ["_law_script","_law_k"] (ae fu):=fsc
theorem bp (T:Txt w K mg) (hs:Hs K mg "_law_cell_at" fu):@PF (tw w) P w K mg base 1 "_law_cell_at" aw:=
 letI:TW:=tw w
 l6 (g:=dF) hs l9 fun _ _ _ _ _ _ _ hr=>have hu:=hr.units;(ah (dM (bN GA qm (az 1) (EV.o (vB ES rfl T.n_len rfl (az 0)))) (aj (aN (ao (ixP hu) (az 0) (az 1)))) br) (aj (aN b0)))
abbrev gM:Stmt:=top 35
theorem aA:FnScope ["_law_script","_law_names_here","_law_texts","_law_turned","_law_some","_law_more","_law_keys","_law_k","_law_key","_law_wrong","_law_menu","_law_words","_law_span","_law_told","_law_rooms","_law_at","_law_letters"] ["_law_script","_law_names_here","_law_texts","_law_turned"] (ae gM):=fsc
theorem cD (T:Txt w K mg) (hs:Hs K mg "_law_house" gM) (bV:@PF (tw w) P w K mg base 1 "_law_numbers" aY) (bp:@PF (tw w) P w K mg base 1 "_law_cell_at" aw):@PFM (tw w) P w K mg base 2 "_law_house" bI:=
 letI:TW:=tw w
 Gn (g:=gU) hs aA fun _ _ _ _ _ _ _ hr=>have hu:=hr.units;(bW (bc _ _) (aJ 4 aA.nd (ay bV hr (aa (ay bp hr (aa (aH 0) (aa b0 ai))) (aa b0 ai)))) (bW (bc _ _) (aJ 5 aA.nd (ay bV hr (aa (ay bp hr (aa (aH 0) (aa b0 ai))) (aa b0 ai)))) (bW (i6 _ _) (gC 6 aA.nd (du ai)) (bW (kH (jx (pG _ _) gp)) (cW (BB rfl T.n_enumerate aK) (jL rfl (bO (aZ 7 aA.nd) (bO (aZ 8 aA.nd) gJ))) (aj (dM (bN (pJ hu) cZ (EV.o (aD dD (EV.o (ao (ixP hu) (az 4) (az 7))) af)) af) (aj (fP 6 (aS (aa (aH 8) (aa (ao (ixP hu) (EV.o (aD fA (az 1) (EN.o (du (aa aK ai))))) (EV.o (aD dD (EV.o (ao (ixP hu) (az 4) (EV.o (aD fA (az 7) af)))) af))) ai))))) br))) (bW (bc _ _) (aJ 9 aA.nd (aS (aa (aD fA af (EV.o (aD dD (EV.o (ao (ixP hu) (az 4) af)) af))) (aa (ao (ixP hu) (az 1) (EV.o (aD dD (EV.o (ao (ixP hu) (az 4) af)) af))) ai)))) (bW (bc _ _) (aJ 10 aA.nd (aS (aa aK (aa aK (aa (En EK rfl T.n_tuple rfl (zM 6)) (aa (aH 9) (aa (aS (aa (aD fA af (EV.o (aD dD (EV.o (ao (ixP hu) (az 4) af)) af))) (aa (ao (ixP hu) (az 1) (EV.o (aD dD (EV.o (ao (ixP hu) (az 4) af)) af))) ai))) ai))))))) (bW (bc _ _) (aJ 11 aA.nd (vz (EV.o (aS (aa (aS (aa aK (aa (ao (ixP hu) (az 1) (EV.o (aD dD (EV.o (ao (ixP hu) (az 5) af)) af))) ai))) (aa (aS (aa aK (aa (ao (ixP hu) (az 1) (EV.o (aD dD (EV.o (ao (ixP hu) (az 5) af)) af))) ai))) ai)))) eM (eL (aD fA af (EV.o (aD dD (EV.o (ao (ixP hu) (az 5) af)) af)))))) (bW (bc _ _) (aJ 9 aA.nd (aS (aa b0 (aa (ao (ixP hu) (az 1) (EV.o (aD dD (EV.o (ao (ixP hu) (az 5) af)) af))) ai)))) (bW (bc _ _) (aJ 12 aA.nd (aS (aa (aD dD (EV.o (ao (ixP hu) (az 5) af)) af) (aa b0 (aa (ao (ixP hu) (az 1) (EV.o (ao (ixP hu) (EN.o (du (aa b0 (aa b0 (aa b0 ai))))) (EV.o (aD dD (EV.o (ao (ixP hu) (az 5) af)) af))))) ai))))) (bW (bc _ _) (aJ 13 aA.nd (EN.v (du (aa (aH 10) (aa (aS (aa aK (aa aK (aa (aH 11) (aa (aH 9) (aa (aS (aa b0 (aa (ao (ixP hu) (az 1) (EV.o (aD dD (EV.o (ao (ixP hu) (az 5) af)) af))) ai))) ai)))))) ai))))) (bW (bc _ _) (aJ 13 aA.nd (aD fA (az 13) (EN.o (du (aa (aS (aa aK (aa (aS (aa (aH 12) ai)) (aa (ao (ixP hu) (az 1) (EV.o (ao (ixP hu) (EN.o (du (aa b0 (aa b0 (aa b0 ai))))) (EV.o (aD dD (EV.o (ao (ixP hu) (az 5) af)) af))))) ai)))) (aa (aS (aa aK (aa (ao (ixP hu) (az 2) af) ai))) (aa (aS (aa aK (aa (ao (ixP hu) (az 2) af) ai))) ai))))))) (bW (i6 _ _) (gC 14 aA.nd iW) (bW (kH (dN (bc _ _) (dN (jx (bc _ _) gp) (u3 _ _ _)))) (cW (gd rfl T.n_range b0) (aZ 7 aA.nd) (ah (aJ 15 aA.nd (aH 7)) (ah (dM (jE (az 3)) (aj (aJ 15 aA.nd (aD Gz af (az 7)))) br) (aj (og 14 hu (ao (ixP hu) (az 1) (az 15)) (ao (ixP hu) (az 13) (az 15))))))) (bW (bc _ _) (aJ 16 aA.nd (EN.v (du (aa (aS (aa aK (aa aK ai))) (aa (aS (aa aK (aa aK ai))) (aa (aS (aa aK (aa aK ai))) (aa (aS (aa aK (aa aK ai))) ai))))))) (An (rF aK (ao (ixP hu) (az 1) (EV.o (aD dD (EV.o (ao (ixP hu) (az 5) af)) af))) (rF aK (aH 16) (yp 14))))))))))))))))))
abbrev mz:Stmt:=top 1
theorem hV:FnScope ["room","hour","since","till","name"] ["room","hour"] (ae mz):=fsc
theorem jX (T:Txt w K mg) (hs:Hs K mg "handed" mz):@PF (tw w) P w K mg base 1 "handed" jC:=
 letI:TW:=tw w
 l6 (g:=jz) hs hV fun _ _ _ _ _ _ _ hr=>have hu:=hr.units;(ah (cW (fL (ao (ixP hu) (az 0) af)) (jL rfl (bO (aZ 2 hV.nd) (bO (aZ 3 hV.nd) (bO (aZ 4 hV.nd) gJ)))) (aj (dM (yh IZ GA Bm qm (az 2) (az 1) (az 3)) (aj (aN (aH 4))) br))) (aj (aN (ao (ixP hu) (az 0) af))))
abbrev jQ:Stmt:=top 2
theorem iK:FnScope ["H","hour","name","come"] ["H","hour","name"] (ae jQ):=fsc
theorem iP (T:Txt w K mg) (hs:Hs K mg "come_to" jQ) (jX:@PF (tw w) P w K mg base 1 "handed" jC):@PF (tw w) P w K mg base 2 "come_to" iz:=
 letI:TW:=tw w
 l6 (g:=kA) hs iK fun _ _ _ _ _ _ _ hr=>have hu:=hr.units;(ah (aJ 3 iK.nd (aH 2)) (ah (qG 300 (bN (pJ hu) cZ (EV.o (ao (ixP hu) (EV.o (ao (ixP hu) (EV.o (ao (ixP hu) (az 0) cz)) (az 3))) af)) cz) (aj (aJ 3 iK.nd (ay jX hr (aa (ao (ixP hu) (EV.o (ao (ixP hu) (az 0) cz)) (az 3)) (aa (aH 1) ai)))))) (aj (aN (aH 3)))))
abbrev jT:Stmt:=top 14
theorem se:FnScope ["H","hour","name","back"] ["H","hour","name","back"] (ae jT):=fsc
theorem c9 (T:Txt w K mg) (hs:Hs K mg "arrival" jT) (iP:@PF (tw w) P w K mg base 2 "come_to" iz):@PF (tw w) P w K mg base 3 "arrival" bU:=
 letI:TW:=tw w
 l6 (g:=kD) hs se fun _ _ _ _ _ _ _ hr=>have hu:=hr.units;(aj (aN (aS (aa (ay iP hr (aa (aH 0) (aa (aH 1) (aa (aH 2) ai)))) (aa (aH 3) (aa b0 (aa b0 (aa aK ai))))))))
abbrev pR:Stmt:=top 13
theorem xb:FnScope ["H","hour"] ["H","hour"] (ae pR):=fsc
theorem gm (T:Txt w K mg) (hs:Hs K mg "begin" pR) (c9:@PF (tw w) P w K mg base 3 "arrival" bU):@PF (tw w) P w K mg base 4 "begin" c6:=
 letI:TW:=tw w
 l6 (g:=qo) hs xb fun _ _ _ _ _ _ _ hr=>have hu:=hr.units;(aj (aN (ay c9 hr (aa (aH 0) (aa (aH 1) (aa (ao (ixP hu) (az 0) cz) (aa aK ai)))))))
abbrev eN:Stmt:=top 20
theorem dO:FnScope ["H","hour","state","bound","wrong"] ["H","hour","state"] (ae eN):=fsc
theorem cN (T:Txt w K mg) (hs:Hs K mg "by_wrong_key" eN) (c9:@PF (tw w) P w K mg base 3 "arrival" bU):@PF (tw w) P w K mg base 4 "by_wrong_key" bJ:=
 letI:TW:=tw w
 l6 (g:=dj) hs dO fun _ _ _ _ _ _ _ hr=>have hu:=hr.units;(ah (aJ 3 dO.nd (ao (ixP hu) (EV.o (ao (ixP hu) (EV.o (ao (ixP hu) (az 0) cz)) (EV.o (ao (ixP hu) (az 2) af)))) af)) (ah (aJ 4 dO.nd (aD fA (EV.o (ao (ixP hu) (az 2) af)) af)) (ah (dM (bN (pJ hu) cZ (az 4) (EV.o (ao (ixP hu) (az 3) af))) (aj (aN (ay c9 hr (aa (aH 0) (aa (aH 1) (aa (ao (ixP hu) (az 3) af) (aa (ao (ixP hu) (az 2) af) ai))))))) br) (aj (aN (aS (aa (ao (ixP hu) (az 2) af) (aa (ao (ixP hu) (az 2) af) (aa (aH 4) (aa (ao (ixP hu) (az 2) af) (aa aK ai)))))))))))
abbrev mC:Stmt:=top 19
theorem jP:FnScope ["H","hour","ways","state","key","typed","target"] ["H","hour","ways","state","key"] (ae mC):=fsc
theorem jY (T:Txt w K mg) (hs:Hs K mg "by_key" mC) (cN:@PF (tw w) P w K mg base 4 "by_wrong_key" bJ) (c9:@PF (tw w) P w K mg base 3 "arrival" bU):@PF (tw w) P w K mg base 5 "by_key" dG:=
 letI:TW:=tw w
 l6 (g:=fD) hs jP fun _ _ _ _ _ _ _ hr=>have hu:=hr.units;(ah (aJ 5 jP.nd (aD fA (EV.o (ao (ixP hu) (az 3) af)) (az 4))) (ah (dM (bN (uv hu) lV (az 5) (az 2)) (aj (aN (ay cN hr (aa (aH 0) (aa (aH 1) (aa (aH 3) ai)))))) br) (ah (aJ 6 jP.nd (Eo (bN (pJ hu) cZ (EV.o (ao (ixP hu) (az 2) (az 5))) cz) (ao (ixP hu) (az 3) af) (ao (ixP hu) (az 2) (az 5)))) (ah (dM (bN GB xX (az 6) (EV.o pd)) (aj (aN (aS (aa (ao (ixP hu) (az 3) af) (aa (ao (ixP hu) (az 3) af) (aa (ao (ixP hu) (az 3) af) (aa (ao (ixP hu) (az 3) af) (aa (aH 5) ai)))))))) br) (ah (dM (bN (pJ hu) cZ (az 6) cz) (aj (aN (ay cN hr (aa (aH 0) (aa (aH 1) (aa (aH 3) ai)))))) br) (aj (aN (ay c9 hr (aa (aH 0) (aa (aH 1) (aa (aH 6) (aa (ao (ixP hu) (az 3) af) ai))))))))))))
abbrev jS:Stmt:=top 21
theorem iM:FnScope ["H","hour","state","bound","waits"] ["H","hour","state"] (ae jS):=fsc
theorem iR (T:Txt w K mg) (hs:Hs K mg "by_wait" jS) (c9:@PF (tw w) P w K mg base 3 "arrival" bU):@PF (tw w) P w K mg base 4 "by_wait" iA:=
 letI:TW:=tw w
 l6 (g:=ik) hs iM fun _ _ _ _ _ _ _ hr=>have hu:=hr.units;(ah (aJ 3 iM.nd (ao (ixP hu) (EV.o (ao (ixP hu) (EV.o (ao (ixP hu) (az 0) cz)) (EV.o (ao (ixP hu) (az 2) af)))) af)) (ah (aJ 4 iM.nd (aD fA (EV.o (ao (ixP hu) (az 2) af)) af)) (ah (dM (bN (pJ hu) cZ (az 4) (EV.o (ao (ixP hu) (az 3) af))) (aj (aN (ay c9 hr (aa (aH 0) (aa (aH 1) (aa (ao (ixP hu) (az 3) af) (aa (ao (ixP hu) (az 2) af) ai))))))) br) (aj (aN (aS (aa (ao (ixP hu) (az 2) af) (aa (ao (ixP hu) (az 2) af) (aa (ao (ixP hu) (az 2) af) (aa (aH 4) (aa aK ai)))))))))))
abbrev mB:Stmt:=top 18
theorem oq:FnScope ["H","hour","ways","state","sign","kind"] ["H","hour","ways","state","sign"] (ae mB):=fsc
theorem cL (T:Txt w K mg) (hs:Hs K mg "follow" mB) (iR:@PF (tw w) P w K mg base 4 "by_wait" iA) (jY:@PF (tw w) P w K mg base 5 "by_key" dG):@PF (tw w) P w K mg base 6 "follow" bR:=
 letI:TW:=tw w
 l6 (g:=eI) hs oq fun _ _ _ _ _ _ _ hr=>have hu:=hr.units;(ah (aJ 5 oq.nd (ao (ixP hu) (EV.o (ao (ixP hu) (EV.o (ao (ixP hu) (az 0) cz)) (EV.o (ao (ixP hu) (az 3) af)))) af)) (ah (dM (EW.et (GZ (bN (pJ hu) cZ (az 5) cz) (El (bN (pJ hu) cZ (az 5) cz)))) (aj (aN (aH 3))) br) (ah (dM (bN (pJ hu) cZ (az 4) (EV.o (rE rfl T.c_WAIT))) (aj (aN (ay iR hr (aa (aH 0) (aa (aH 1) (aa (aH 3) ai)))))) br) (aj (aN (ay jY hr (aa (aH 0) (aa (aH 1) (aa (aH 2) (aa (aH 3) (aa (aH 4) ai)))))))))))
abbrev pQ:Stmt:=top 22
theorem qK:FnScope ["H","state","room"] ["H","state"] (ae pQ):=fsc
theorem eF (T:Txt w K mg) (hs:Hs K mg "heard" pQ):@PF (tw w) P w K mg base 1 "heard" dz:=
 letI:TW:=tw w
 l6 (g:=iU) hs qK fun _ _ _ _ _ _ _ hr=>have hu:=hr.units;(ah (aJ 2 qK.nd (ao (ixP hu) (EV.o (ao (ixP hu) (az 0) cz)) (EV.o (ao (ixP hu) (az 1) af)))) (aj (aN (aS (aa (ao (ixP hu) (EV.o (rE rfl T.c_HEARD)) (EV.o (ao (ixP hu) (az 2) af))) (aa (ao (ixP hu) (az 2) af) ai))))))
theorem mX (T:Txt w K mg) (cL:@PF (tw w) P w K mg base 6 "follow" bR):@LamB (tw w) P w K mg base 6 bM ["state","sign"] [] gw:=
 letI:TW:=tw w
 ⟨.of rfl rfl rfl (by decide +kernel) (by decide +kernel) (by decide +kernel) (by decide +kernel) (by decide +kernel),fun _ _ _ _ us h=>match us,h with | [_,_],_=>rfl,fun f c cl A outer s H hr=>gI.ex rfl (by
  have hu:=hr.units;exact(ay cL hr (aa (aH 4) (aa (aH 3) (aa (ao (ixP hu) (az 2) (EV.o (ao (ixP hu) (az 0) af))) (aa (aH 0) (aa (aH 1) ai)))))))⟩
theorem mW (T:Txt w K mg):@LamB (tw w) P w K mg base 6 bz ["state"] [] m5:=
 letI:TW:=tw w
 ⟨.of rfl rfl rfl (by decide +kernel) (by decide +kernel) (by decide +kernel) (by decide +kernel) (by decide +kernel),fun _ _ _ _ us h=>match us,h with | [_],_=>rfl,fun f c cl A outer s H hr=>gI.ex rfl (by
  have hu:=hr.units;exact lu)⟩
theorem mr:NdL ["pair","sign","ways","others","hour","H","G","state"]:=⟨by decide +kernel⟩
theorem kn (T:Txt w K mg) (cL:@PF (tw w) P w K mg base 6 "follow" bR):@LamB (tw w) P w K mg base 6 aT ["pair","sign"] ["state"] jf:=
 letI:TW:=tw w
 ⟨.of rfl rfl rfl (by decide +kernel) (by decide +kernel) (by decide +kernel) (by decide +kernel) (by decide +kernel),fun _ _ _ _ us h=>match us,h with | [_,_],_=>rfl,fun f c cl A outer s H hr=>gI.st rfl (by
  have hu:=hr.units;exact(ah (aJ 7 mr.nd (ay cL hr (aa (aH 5) (aa (aH 4) (aa (ao (ixP hu) (az 2) (EV.o (ao (ixP hu) (EV.o (ao (ixP hu) (az 0) af)) af))) (aa (ao (ixP hu) (az 0) af) (aa (aH 1) ai))))))) (aj (aN (aS (aa (aH 7) (aa (ay cL hr (aa (aH 6) (aa (aH 4) (aa (ao (ixP hu) (az 3) (EV.o (ao (ixP hu) (EV.o (ao (ixP hu) (az 0) af)) af))) (aa (ao (ixP hu) (az 0) af) (aa (aH 1) ai)))))) ai)))))))⟩
theorem km (T:Txt w K mg) (eF:@PF (tw w) P w K mg base 1 "heard" dz):@LamB (tw w) P w K mg base 6 aE ["pair"] [] je:=
 letI:TW:=tw w
 ⟨.of rfl rfl rfl (by decide +kernel) (by decide +kernel) (by decide +kernel) (by decide +kernel) (by decide +kernel),fun _ _ _ _ us h=>match us,h with | [_],_=>rfl,fun f c cl A outer s H hr=>gI.st rfl (by
  have hu:=hr.units;exact(aj (aN (pj (Dr hu) (EV.o (ay eF hr (aa (aH 1) (aa (ao (ixP hu) (az 0) af) ai)))) (EV.o (ay eF hr (aa (aH 2) (aa (ao (ixP hu) (az 0) af) ai))))))))⟩
theorem J5 (T:Txt w K mg) (cL:@PF (tw w) P w K mg base 6 "follow" bR) (eF:@PF (tw w) P w K mg base 1 "heard" dz):@F6 (tw w) P w K mg base 6 appL:=by
 letI:TW:=tw w
 intro L qs cs p e;unfold appL at e;split at e
 ·rename_i hL;subst hL;obtain⟨h1,h2⟩:=mU e;exact⟨_,_,_,mX T cL,h1,h2⟩
 split at e
 ·rename_i hL;subst hL;obtain⟨h1,h2⟩:=mU e;exact⟨_,_,_,mW T,h1,h2⟩
 split at e
 ·rename_i hL;subst hL;obtain⟨h1,h2⟩:=mU e;exact⟨_,_,_,kn T cL,h1,h2⟩
 split at e
 ·rename_i hL;subst hL;obtain⟨h1,h2⟩:=mU e;exact⟨_,_,_,km T eF,h1,h2⟩
 cases e
abbrev cK:Stmt:=top 8
theorem bP:FnScope ["codes","counts","code","size"] ["codes"] (ae cK):=fsc
theorem cC (T:Txt w K mg) (hs:Hs K mg "beginning_counts" cK):@PF (tw w) P w K mg base 1 "beginning_counts" bG:=
 letI:TW:=tw w
 l6 (g:=cR) hs bP fun _ _ _ _ _ _ _ hr=>have hu:=hr.units;(ah (gC 1 bP.nd iW) (ah (cW (fL (aH 0)) (aZ 2 bP.nd) (aj (cW (kO rfl T.n_range b0 (aD fA (EV.o (vB ES rfl T.n_len rfl (az 2))) af)) (aZ 3 bP.nd) (aj (og 1 hu (gc (az 2) eM (eL (aH 3))) (aD fA (EV.o (Bw (zM 1) (gc (az 2) eM (eL (aH 3))) b0)) af)))))) (aj (SV.frz 1 (aN (aH 1))))))
abbrev mw:Stmt:=top 6
theorem jO:FnScope ["letters","letter","key","held"] ["letters","letter"] (ae mw):=fsc
theorem jV (T:Txt w K mg) (hs:Hs K mg "key_of" mw):@PF (tw w) P w K mg base 1 "key_of" jA:=
 letI:TW:=tw w
 l6 (g:=jy) hs jO fun _ _ _ _ _ _ _ hr=>have hu:=hr.units;(ah (cW (fL (aH 0)) (jL rfl (bO (aZ 2 jO.nd) (bO (aZ 3 jO.nd) gJ))) (aj (dM (bN (FB hu) mZ (az 1) (az 3)) (aj (aN (aH 2))) br))) (aj (aN pd)))
abbrev jR:Stmt:=top 5
theorem iL:FnScope ["letters","word","keys"] ["letters","word"] (ae jR):=fsc
theorem iQ (T:Txt w K mg) (hs:Hs K mg "code_of" jR) (jV:@PF (tw w) P w K mg base 1 "key_of" jA):@PF (tw w) P w K mg base 2 "code_of" gb:=
 letI:TW:=tw w
 l6 (g:=kC) hs iL fun _ _ _ _ _ _ _ hr=>have hu:=hr.units;(ah (tK false 2 iL.nd (N':=["letter","letters"]) (cok iL) (fL (aH 1)) (fun _ _ _ _ _=>(C5 0)) (fun _ _ _ _ _=>(ay jV hr (aa (aH 1) (aa (aH 0) ai))))) (aj (aN (Eo (bN (FB hu) mZ (EV.o pd) (az 2)) pd (H0 Gb GH aK (az 2))))))
abbrev dQ:Stmt:=top 9
theorem fI:FnScope ["code","counts","size"] ["code","counts"] (ae dQ):=fsc
theorem dy (T:Txt w K mg) (hs:Hs K mg "own_beginning" dQ):@PF (tw w) P w K mg base 1 "own_beginning" cS:=
 letI:TW:=tw w
 l6 (g:=cQ) hs fI fun _ _ _ _ _ _ _ hr=>have hu:=hr.units;(ah (cW (kO rfl T.n_range b0 (vB ES rfl T.n_len rfl (az 0))) (aZ 2 fI.nd) (aj (dM (bN (pJ hu) cZ (EV.o (ao (ixP hu) (az 1) (EV.o (gc (az 0) eM (eL (aH 2)))))) af) (aj (aN (gc (az 0) eM (eL (aH 2))))) br))) (aj (aN (aH 0))))
abbrev fU:Stmt:=top 7
theorem cJ:FnScope ["letters","words","codes","counts"] ["letters","words"] (ae fU):=fsc
theorem fz (T:Txt w K mg) (hs:Hs K mg "beginnings" fU) (iQ:@PF (tw w) P w K mg base 2 "code_of" gb) (cC:@PF (tw w) P w K mg base 1 "beginning_counts" bG) (dy:@PF (tw w) P w K mg base 1 "own_beginning" cS):@PF (tw w) P w K mg base 3 "beginnings" dq:=
 letI:TW:=tw w
 l6 (g:=g9) hs cJ fun _ _ _ _ _ _ _ hr=>have hu:=hr.units;(ah (tK false 2 cJ.nd (N':=["word","letters"]) (cok cJ) (fL (aH 1)) (fun _ _ _ _ _=>(C5 0)) (fun _ _ _ _ _=>(aD fA (EV.o (ay iQ hr (aa (aH 1) (aa (aH 0) ai)))) (EV.o (rE rfl T.c_CODE_END))))) (ah (aJ 3 cJ.nd (ay cC hr (aa (aH 2) ai))) (aj (aN (EN.v (Bz (N':=["word","code","counts"]) (cok cJ) (Ex rfl T.n_zip (aH 1) (aH 2)) (fun _ _ _ _ _=>(yS rfl (jr (C5 0) (jr (C5 1) tG)))) (fun _ _ _ _ _=>(aS (aa (aH 0) (aa (ay dy hr (aa (aH 1) (aa (aH 2) ai))) ai))))))))))
abbrev fR:Stmt:=top 17
theorem cI:FnScope ["letters","names","ways","word","beginning","size"] ["letters","names"] (ae fR):=fsc
theorem fw (T:Txt w K mg) (hs:Hs K mg "names_ways" fR) (fz:@PF (tw w) P w K mg base 3 "beginnings" dq):@PF (tw w) P w K mg base 4 "names_ways" eK:=
 letI:TW:=tw w
 l6 (g:=fY) hs cI fun _ _ _ _ _ _ _ hr=>have hu:=hr.units;(ah (gC 2 cI.nd iW) (ah (cW (fL (ay fz hr (aa (aH 0) (aa (EN.v (ym ER rfl T.n_list rfl (az 1))) ai)))) (jL rfl (bO (aZ 3 cI.nd) (bO (aZ 4 cI.nd) gJ))) (ah (cW (kO rfl T.n_range b0 (vB ES rfl T.n_len rfl (az 4))) (aZ 5 cI.nd) (aj (og 2 hu (gc (az 4) eM (eL (aH 5))) pd))) (aj (og 2 hu (aH 4) (ao (ixP hu) (az 1) (az 3)))))) (aj (SV.frz 2 (aN (aH 2))))))
abbrev gK:Stmt:=top 16
theorem ja:FnScope ["H","name","room"] ["H","name"] (ae gK):=fsc
theorem fV (T:Txt w K mg) (hs:Hs K mg "room_ways" gK) (fw:@PF (tw w) P w K mg base 4 "names_ways" eK):@PF (tw w) P w K mg base 5 "room_ways" aG:=
 letI:TW:=tw w
 l6 (g:=d7) hs ja fun _ _ _ _ _ _ _ hr=>have hu:=hr.units;(ah (aJ 2 ja.nd (ao (ixP hu) (EV.o (ao (ixP hu) (az 0) cz)) (az 1))) (ah (dM (bN (pJ hu) cZ (EV.o (ao (ixP hu) (az 2) af)) cz) (aj (aN (EN.v (ym zU rfl T.n_dict rfl (EV.o (ao (ixP hu) (az 2) af)))))) br) (ah (dM (bN (pJ hu) cZ (EV.o (ao (ixP hu) (az 2) af)) cz) (aj (aN (ay fw hr (aa (ao (ixP hu) (az 0) cz) (aa (EN.v (ym zU rfl T.n_dict rfl (EV.o (ao (ixP hu) (az 2) af)))) ai))))) br) (aj (aN (EN.v iW))))))
abbrev fS:Stmt:=top 15
theorem fh:FnScope ["H","ways","name"] ["H"] (ae fS):=fsc
theorem c8 (T:Txt w K mg) (hs:Hs K mg "house_ways" fS) (fV:@PF (tw w) P w K mg base 5 "room_ways" aG):@PF (tw w) P w K mg base 6 "house_ways" bq:=
 letI:TW:=tw w
 l6 (g:=fZ) hs fh fun _ _ _ _ _ _ _ hr=>have hu:=hr.units;(ah (gC 1 fh.nd iW) (ah (cW (fL (ao (ixP hu) (az 0) cz)) (aZ 2 fh.nd) (aj (og 1 hu (aH 2) (ay fV hr (aa (aH 0) (aa (aH 2) ai)))))) (aj (SV.frz 1 (aN (aH 1))))))
abbrev fT:Stmt:=top 25
theorem bD:FnScope ["start","lead","is_last","known","found","done","near","sign","thing"] ["start","lead","is_last"] (ae fT):=fsc
theorem cM (T:Txt w K mg) (hs:Hs K mg "first_rows" fT) (LT:@F6 (tw w) P w K mg base 6 appL):@PFN (tw w) P w K mg base 8 "first_rows" bF:=
 letI:TW:=tw w
 De (g:=eJ) hs bD fun _ _ _ _ _ _ _ hr=>have hu:=hr.units;(hJ (i6 _ _) (gC 3 bD.nd (yn hu (aH 0) lu)) (hJ (i6 _ _) (gC 4 bD.nd (du (aa (aS (aa (aH 0) (aa aK ai))) ai))) (hJ (bc _ _) (aJ 5 bD.nd b0) (hJ (wH (dN (bc _ _) (dN (vY _ _) (kH (dN (bc _ _) (jx (dN (sk _ _ _) (dN (pG _ _) (jx vV gp))) gp)))))) (qG 10500000 (EW.et (vy (bN GA qm (az 5) (EV.o (vB ES rfl T.n_len rfl (zM 4)))) (qt (Ep (jE (EV.o (nG 2 LT hr (aa (ao (ixP hu) (EV.o (ao (ixP hu) (zM 4) (EV.o (vA b0)))) af) ai)))))))) (ah (aJ 6 bD.nd (ao (ixP hu) (zM 4) (az 5))) (ah (CN 5 bD.nd b0) (aj (cW (fL (rE rfl T.c_SIGNS)) (aZ 7 bD.nd) (ah (aJ 8 bD.nd (nG 1 LT hr (aa (ao (ixP hu) (az 6) af) (aa (aH 7) ai)))) (aj (dM (bN (xC hu) qj (az 8) (zM 3)) (ah (Aq 3 hu (aH 8) lu) (ah (fP 4 (aS (aa (aH 8) (aa (aD fA (EV.o (ao (ixP hu) (az 6) af)) (az 7)) ai)))) (aj (dM (jE (EV.o (nG 2 LT hr (aa (aH 8) ai)))) (aj x5) br)))) br)))))))) (wZ 4)))))
abbrev cx:Stmt:=top 30
theorem c7:FnScope ["H","G","hour","ways","others","lead","is_apart","found","pairs","last"] ["H","G","hour"] (ae cx):=fsc
theorem ir:∀y∈aT.scope.names,y.2=.free->(ae cx).names.lookup y.1=some .cell:=by decide +kernel
theorem nE {C:Cn} (h:C.X.env.scope=ae cx:=by rfl) (hN:C.X.N=(["H","G","hour","ways","others","lead","is_apart","found","pairs","last"]:List Str):=by rfl):FnC C aT [3,4,2,0,1]:=⟨by rw[h];exact ir,rfl,by decide +kernel,by rw[hN];rfl⟩
theorem iq:∀y∈aE.scope.names,y.2=.free->(ae cx).names.lookup y.1=some .cell:=by decide +kernel
theorem iw {C:Cn} (h:C.X.env.scope=ae cx:=by rfl) (hN:C.X.N=(["H","G","hour","ways","others","lead","is_apart","found","pairs","last"]:List Str):=by rfl):FnC C aE [0,1]:=⟨by rw[h];exact iq,rfl,by decide +kernel,by rw[hN];rfl⟩
theorem eV {f:Addr} {fd:FuncData} (T:Txt w K mg) (F:Fun K "compare" "compare" cx f fd) (hm:mg "compare"=some (.ref f)) (hb:Binds K fd ["H","G","hour"] []) {cP:Addr} (hcode:fd.code=.ref cP) (hhd:MJ K cP dJ=true) (hKb:K.In base) (hbn:∃bm o,mg "__builtins__"=some (.ref bm)/\bm≠L0/\bm≠mainGlobals/\base.get? bm=some o/\o.cls=.type "module"/\o.dict=some L0/\o.data=.plain) (c8:@PF (tw w) P w K mg base 6 "house_ways" bq) (cM:@PFN (tw w) P w K mg base 8 "first_rows" bF) (gm:@PF (tw w) P w K mg base 4 "begin" c6) (LT:@F6 (tw w) P w K mg base 6 appL):@PF (tw w) P w K mg base 9 "compare" ax:=
 letI:TW:=tw w
 AO F c7 hm hb (g:=ij) fun cdv hcdv A outer s H E hr=>by
  have hu:=hr.units;exact(SVF.tru (me 3 c7.nd cu (fun _ _ _ h=>trivial) (EVF.of (ay c8 hr (aa (aH 0) ai))) (me 4 c7.nd cu (fun _ _ _ h=>trivial) (EVF.of (ay c8 hr (aa (aH 1) ai))) (tJ (L:=aT) (pos:=rL ⟨0,0,0,0⟩ gg) (c:=cP) (P:=dJ) 5 c7.nd cu (fun _ _ _ h=>trivial) ⟨rfl,rfl,rfl,hcdv.trans hcode,MO hKb hhd,lF,hbn,rfl,rfl,rfl,ir⟩ (tJ (L:=aE) (pos:=rL ⟨0,0,0,0⟩ gf) (c:=cP) (P:=dJ) 6 c7.nd (Ph.and_ok cu FnS.ok) (fun _ _ _ h=>⟨trivial,FnS.set (by decide) _ _ _ h.2⟩) ⟨rfl,rfl,rfl,hcdv.trans hcode,MO hKb hhd,lF,hbn,rfl,rfl,rfl,iq⟩ (me 7 c7.nd (Ph.and_ok (Ph.and_ok cu FnS.ok) FnS.ok) (fun _ _ _ h=>⟨⟨trivial,FnS.set (by decide) _ _ _ h.1.2⟩,FnS.set (by decide) _ _ _ h.2⟩) (ENF.v (pk cM hr (zN (aS (aa (ay gm hr (aa (aH 0) (aa (aH 2) ai))) (aa (ay gm hr (aa (aH 1) (aa (aH 2) ai))) ai))) (Ew 5 (fun _ _ h=>h.1.2) nE (Ew 6 (fun _ _ h=>h.2) iw zO (Ph.and_ok (Ph.and_ok cu FnS.ok) FnS.ok)) (Ph.and_ok (Ph.and_ok cu FnS.ok) FnS.ok)) (Ph.and_ok (Ph.and_ok cu FnS.ok) FnS.ok)))) (CM 8 (Ph.and_ok (Ph.and_ok cu FnS.ok) FnS.ok) (fun _ _ _ h=>⟨⟨trivial,FnS.set (by decide) _ _ _ h.1.2⟩,FnS.set (by decide) _ _ _ h.2⟩) (AJ 8 c7.nd (N':=["pair","row"]) (cok c7) (fL (aH 7)) (fun _ _ _ _ _=>(yS rfl (jr (C5 0) (jr (C5 1) tG)))) (fun _ _ _ _ _=>(aS (aa (ao (ixP hu) (az 0) af) (aa (ao (ixP hu) (az 0) af) (aa (aH 1) ai)))))) (me 9 c7.nd (Ph.and_ok (Ph.and_ok cu FnS.ok) FnS.ok) (fun _ _ _ h=>⟨⟨trivial,FnS.set (by decide) _ _ _ h.1.2⟩,FnS.set (by decide) _ _ _ h.2⟩) (EVF.of (ao (ixP hu) (az 7) (EV.o (vA b0)))) (tH (Ph.and_ok (Ph.and_ok cu FnS.ok) FnS.ok) (vC (sJ 6 LT hr (fun _ _ h=>h.2) iw (aa (ao (ixP hu) (az 9) af) ai))) (EVF.of (aS (aa aK (aa (ao (ixP hu) (az 9) af) (aa (jD (az 8) eM (eL (vA b0))) ai))))) (Ao (EVF.of (aS (aa aK (aa (aH 8) ai))))))))))))))
abbrev eD:Stmt:=top 26
theorem oo:FnScope ["H","hour","ways"] ["H","hour"] (ae eD):=fsc
theorem qr:∀y∈bM.scope.names,y.2=.free->(ae eD).names.lookup y.1=some .cell:=by decide +kernel
theorem qp:∀y∈bz.scope.names,y.2=.free->(ae eD).names.lookup y.1=some .cell:=by decide +kernel
theorem jU {f:Addr} {fd:FuncData} (T:Txt w K mg) (F:Fun K "places" "places" eD f fd) (hm:mg "places"=some (.ref f)) (hb:Binds K fd ["H","hour"] []) {cP:Addr} (hcode:fd.code=.ref cP) (hhd:MJ K cP f7=true) (hKb:K.In base) (hbn:∃bm o,mg "__builtins__"=some (.ref bm)/\bm≠L0/\bm≠mainGlobals/\base.get? bm=some o/\o.cls=.type "module"/\o.dict=some L0/\o.data=.plain) (c8:@PF (tw w) P w K mg base 6 "house_ways" bq) (cM:@PFN (tw w) P w K mg base 8 "first_rows" bF) (gm:@PF (tw w) P w K mg base 4 "begin" c6):@PFN (tw w) P w K mg base 9 "places" iy:=
 letI:TW:=tw w
 xu F oo hm hb (g:=nr) (hr:=(yj _ _ _ (yk _))) fun cdv hcdv A outer s H E hr=>by
  have hu:=hr.units;exact(hJ (bc _ _) (aJ 2 oo.nd (ay c8 hr (aa (aH 0) ai))) (Am (yo cM hr (zN (ay gm hr (aa (aH 0) (aa (aH 1) ai))) (zP (L:=bM) (idx:=[2,1,0]) (lp:=zA ⟨0,0,0,0⟩ lC) (c:=cP) (P:=f7) ⟨rfl,rfl,rfl,rfl,hcdv.trans hcode,MO hKb hhd,o9,hbn,rfl,qr,rfl,by decide +kernel,rfl⟩ (zP (L:=bz) (idx:=[]) (lp:=zA ⟨0,0,0,0⟩ lB) (c:=cP) (P:=f7) ⟨rfl,rfl,rfl,rfl,hcdv.trans hcode,MO hKb hhd,o9,hbn,rfl,qp,rfl,by decide +kernel,rfl⟩ zO))))))
abbrev mx:Stmt:=top 27
theorem tT:FnScope ["H","state"] ["H","state"] (ae mx):=fsc
theorem jW (T:Txt w K mg) (hs:Hs K mg "is_out" mx) (eF:@PF (tw w) P w K mg base 1 "heard" dz):@PF (tw w) P w K mg base 2 "is_out" jB:=
 letI:TW:=tw w
 l6 (g:=nu) hs tT fun _ _ _ _ _ _ _ hr=>have hu:=hr.units;(aj (aN (pj (Dr hu) (EV.o (ao (ixP hu) (EV.o (ay eF hr (aa (aH 0) (aa (aH 1) ai)))) af)) cz)))
abbrev tW:Stmt:=top 28
theorem mq:FnScope ["H","hour","rows","state","row"] ["H","hour"] (ae tW):=fsc
theorem pV (T:Txt w K mg) (hs:Hs K mg "ends" tW) (jU:@PFN (tw w) P w K mg base 9 "places" iy) (jW:@PF (tw w) P w K mg base 2 "is_out" jB):@PF (tw w) P w K mg base 10 "ends" pb:=
 letI:TW:=tw w
 l6 (g:=vd) hs mq fun _ _ _ _ _ _ _ hr=>have hu:=hr.units;(ah (gC 2 mq.nd iW) (ah (cW (fL (EN.v (BA jU hr (aa (aH 0) (aa (aH 1) ai))))) (jL rfl (bO (aZ 3 mq.nd) (bO (aZ 4 mq.nd) gJ))) (aj (dM (jE (EV.o (ay jW hr (aa (aH 0) (aa (aH 3) ai))))) (aj (Ap 2 (ao (ixP hu) (az 3) af) (aH 4))) br))) (aj (aN (EN.v (vE rfl T.n_list (zM 2)))))))
abbrev mv:Stmt:=top 36
theorem eC:FnScope ["_law_script","_law_names_here","_law_more","_law_hour","_law_house_here","_law_other","_law_one","_law_two","_law_met","_law_name","_law_texts","_law_found","_law_turned"] ["_law_script"] (ae mv):=fsc
theorem Dt {f:Addr} {fd:FuncData} (T:Txt w K mg) (F:Fun K "law" "law" mv f fd) (eE:@PF (tw w) P w K mg base 2 "_law_names" dU) (bp:@PF (tw w) P w K mg base 1 "_law_cell_at" aw) (cD:@PFM (tw w) P w K mg base 2 "_law_house" bI) (eV:@PF (tw w) P w K mg base 9 "compare" ax) (pV:@PF (tw w) P w K mg base 10 "ends" pb):FnOk P w K mg base CX0 11 f fd ["_law_script"] (@spP (tw w) K 1 vx):=
 letI:TW:=(tw w)
 have main:FnOk P w K mg base CX0 (10+1) f fd ["_law_script"] (spP K 1 (ff 1 13 ya)):=by
  refine GC (N:=["_law_script","_law_names_here","_law_more","_law_hour","_law_house_here","_law_other","_law_one","_law_two","_law_met","_law_name","_law_texts","_law_found","_law_turned"]) (ps:=["_law_script"]) (k:=10) (g:=ya) F eC ?_;intro cdv A outer s H E hr;have hu:=hr.units;exact(ah (aJ 1 eC.nd (ay eE hr (aa (ay bp hr (aa (aH 0) (aa b0 ai))) ai))) (ah (aJ 2 eC.nd (ay eE hr (aa (ay bp hr (aa (aH 0) (aa b0 ai))) ai))) (ah (aJ 3 eC.nd (aD dD (EV.o (ay bp hr (aa (aH 0) (aa b0 ai)))) af)) (ah (aJ 4 eC.nd (EM.v (nH cD hr (aa (aH 0) (aa (aH 1) (aa (EN.v (du (aa aK (aa aK ai)))) (aa lu ai))))))) (ah (aJ 5 eC.nd (EM.v (nH cD hr (aa (aH 0) (aa (aH 2) (aa (EN.v (du (aa aK (aa aK ai)))) (aa lu ai))))))) (ah (cW (fL (EN.v (du (aa (aS (aa (aH 4) (aa (aH 5) ai))) (aa (aS (aa (aH 5) (aa (aH 4) ai))) (aa (aS (aa (aH 4) (aa (aH 4) ai))) (aa (aS (aa (aH 5) (aa (aH 5) ai))) ai))))))) (jL rfl (bO (aZ 6 eC.nd) (bO (aZ 7 eC.nd) gJ))) (aj (dM (bN (Dr hu) qk (EV.o (ao (ixP hu) (EV.o (ay eV hr (aa (aH 6) (aa (aH 7) (aa (aH 3) ai))))) af)) cz) (aj (aN lu)) br))) (ah (aJ 8 eC.nd (EN.v (ym (EU hu) rfl T.n_dict rfl (EV.o (ay pV hr (aa (aH 4) (aa (aH 3) ai))))))) (ah (cW (fL (EN.v (du (aa (aS (aa (ao (ixP hu) (az 1) af) (aa (EN.v (du (aa aK (aa aK ai)))) ai))) (aa (aS (aa (ao (ixP hu) (az 1) af) (aa (EN.v (du (aa aK (aa aK ai)))) ai))) ai))))) (jL rfl (bO (aZ 9 eC.nd) (bO (aZ 10 eC.nd) gJ))) (ah (aJ 11 eC.nd (ay eV hr (aa (aH 4) (aa (EM.v (nH cD hr (aa (aH 0) (aa (aH 2) (aa (aH 10) (aa lu ai)))))) (aa (aH 3) ai))))) (ah (dM (EW.et (vy (bN (FB hu) mZ (az 9) (az 8)) (qt (bN (Dr hu) qk (EV.o (jD (az 11) eM (eL b0))) (EV.o (aS (aa aK (aa (ao (ixP hu) (az 8) (az 9)) ai)))))))) (aj (aN lu)) br) (aj (dM (EW.et (vy (bN (uv hu) lV (az 9) (az 8)) (qt (bN (Dr hu) qk (EV.o (ao (ixP hu) (az 11) af)) cz)))) (aj (aN lu)) br))))) (wY 12 eC.nd hu (nH cD hr (aa (aH 0) (aa (aH 2) (aa (EN.v (du (aa aK (aa aK ai)))) (aa lu ai))))) (ao (ixP hu) (az 2) af) (aS (aa aK (aa aK ai))) (ah (aJ 11 eC.nd (ay eV hr (aa (aH 4) (aa (aH 12) (aa (aH 3) ai))))) (ah (dM (bN (FB hu) mZ (EV.o (ao (ixP hu) (az 1) af)) (az 8)) (aj (aN (pj (pJ hu) (EV.o (jD (az 11) eM (eL b0))) (EV.o (aS (aa aK (aa (ao (ixP hu) (az 8) (EV.o (ao (ixP hu) (az 1) af))) ai))))))) br) (aj (aN (pj (pJ hu) (EV.o (ao (ixP hu) (az 11) af)) cz))))))))))))))
 main
end K39
namespace K39
open PySem PySem.Spec PyProof.Rows L2 PU
seal EV EO EN EA ET EW SV SVs TGt C0 TCt C1 EI ETs ED EOI ELF EVF ENF ETF SVF EM SVM EDN
theorem all_mk {l:P5} {w:KH} {K:JH} {h:Heap} {mg:Str->Option JJ} {fa:Addr} (X:K.In h) (G:h.Ns mainGlobals mg) (hfa:mg "law"=some (.ref fa))
  {f22 f23 f26:Addr} {od22 an22 od23 an23 od26 an26:Option Addr} {sl22 sl23 sl26:Array (Option JJ)} {oc22 kV22 dc22 pm22 cd22 ct22 oc23 kV23 dc23 pm23 cd23 ct23 oc26 kV26 dc26 pm26 cd26 ct26:JJ}
  (h0:Has K "_law_numbers" fq)
  (h1:Has K "_law_names" gL)
  (h2:Has K "_law_cell_at" fu)
  (h3:Has K "_law_house" gM)
  (h4:Has K "handed" mz)
  (h5:Has K "come_to" jQ)
  (h6:Has K "arrival" jT)
  (h7:Has K "begin" pR)
  (h8:Has K "by_wrong_key" eN)
  (h9:Has K "by_key" mC)
  (h10:Has K "by_wait" jS)
  (h11:Has K "follow" mB)
  (h12:Has K "heard" pQ)
  (h13:Has K "beginning_counts" cK)
  (h14:Has K "key_of" mw)
  (h15:Has K "code_of" jR)
  (h16:Has K "own_beginning" dQ)
  (h17:Has K "beginnings" fU)
  (h18:Has K "names_ways" fR)
  (h19:Has K "room_ways" gK)
  (h20:Has K "house_ways" fS)
  (h21:Has K "first_rows" fT)
  (a22:L5 K mainGlobals "compare"=some (some (.ref f22))) (l22:K.lookup f22=some ⟨oc22,od22,.func (L6 "compare" "compare" (da cx) (aW cx) (ae cx) .none kV22 dc22 pm22 an22 cd22 ct22),sl22⟩) (c22:Lr K cd22 "compare"=true) (k22:LI K (.ref f22)=true)
  (a23:L5 K mainGlobals "places"=some (some (.ref f23))) (l23:K.lookup f23=some ⟨oc23,od23,.func (L6 "places" "places" (da eD) (aW eD) (ae eD) .none kV23 dc23 pm23 an23 cd23 ct23),sl23⟩) (c23:Lr K cd23 "places"=true) (k23:LI K (.ref f23)=true)
  (h24:Has K "is_out" mx)
  (h25:Has K "ends" tW)
  (a26:L5 K mainGlobals "law"=some (some (.ref f26))) (l26:K.lookup f26=some ⟨oc26,od26,.func (L6 "law" "law" (da mv) (aW mv) (ae mv) .none kV26 dc26 pm26 an26 cd26 ct26),sl26⟩) (c26:Lr K cd26 "law"=true) (k26:LI K (.ref f26)=true)
  {cP22:Addr} (hcode22:cd22=.ref cP22) (hhd22:MJ K cP22 dJ=true)
  {cP23:Addr} (hcode23:cd23=.ref cP23) (hhd23:MJ K cP23 f7=true)
  (z_dict:L5 K mainGlobals "dict"=some none)
  (z_enumerate:L5 K mainGlobals "enumerate"=some none)
  (z_int:L5 K mainGlobals "int"=some none)
  (z_len:L5 K mainGlobals "len"=some none)
  (z_list:L5 K mainGlobals "list"=some none)
  (z_range:L5 K mainGlobals "range"=some none)
  (z_tuple:L5 K mainGlobals "tuple"=some none)
  (z_zip:L5 K mainGlobals "zip"=some none)
  (c_CODE_END:@Con (tw w) K mg "CODE_END" c_CODE_END)
  (c_HEARD:@Con (tw w) K mg "HEARD" c_HEARD)
  (c_SIGNS:@Con (tw w) K mg "SIGNS" c_SIGNS)
  (c_WAIT:@Con (tw w) K mg "WAIT" c_WAIT)
  : ∃fd:FuncData,(∀(s:JM) (v:JJ),QF s fd ⟨[v],[]⟩ [("_law_script",v)])/\∀base:Heap,K.In base->base.Ns mainGlobals mg->(∃bm o,mg "__builtins__"=some (.ref bm)/\bm≠L0/\bm≠mainGlobals/\base.get? bm=some o/\o.cls=.type "module"/\o.dict=some L0/\o.data=.plain)->FnOk l.prog w K mg base CX0 11 fa fd ["_law_script"] (@spP (tw w) K 1 vx):=by
 have e:=hfa.symm.trans (Mw X G a26);cases e;have T:Txt w K mg:=⟨LS X G z_dict,LS X G z_enumerate,LS X G z_int,LS X G z_len,LS X G z_list,LS X G z_range,LS X G z_tuple,LS X G z_zip,c_CODE_END,c_HEARD,c_SIGNS,c_WAIT⟩;have F22:=rA (st:=cx) l22 c22 k22;have b22:=F22.binds (ps:=["H","G","hour"]) fun _ _ _ _ _ _ us hl=>match us,hl with | [_,_,_],_=>rfl
 have F23:=rA (st:=eD) l23 c23 k23;have b23:=F23.binds (ps:=["H","hour"]) fun _ _ _ _ _ _ us hl=>match us,hl with | [_,_],_=>rfl
 have F26:=rA (st:=mv) l26 c26 k26;refine⟨L6 "law" "law" (da mv) (aW mv) (ae mv) .none kV26 dc26 pm26 an26 cd26 ct26,fun s v=>.of_eq rfl,fun base hKb _ hbn=>?_⟩;have p_law_numbers:=bV (P:=l.prog) (base:=base) T (h0.fn X G);have p_law_names:=eE (P:=l.prog) (base:=base) T (h1.fn X G) p_law_numbers;have p_law_cell_at:=bp (P:=l.prog) (base:=base) T (h2.fn X G);have p_law_house:=cD (P:=l.prog) (base:=base) T (h3.fn X G) p_law_numbers p_law_cell_at;have p_handed:=jX (P:=l.prog) (base:=base) T (h4.fn X G);have p_come_to:=iP (P:=l.prog) (base:=base) T (h5.fn X G) p_handed;have p_arrival:=c9 (P:=l.prog) (base:=base) T (h6.fn X G) p_come_to;have p_begin:=gm (P:=l.prog) (base:=base) T (h7.fn X G) p_arrival;have p_by_wrong_key:=cN (P:=l.prog) (base:=base) T (h8.fn X G) p_arrival;have p_by_key:=jY (P:=l.prog) (base:=base) T (h9.fn X G) p_by_wrong_key p_arrival;have p_by_wait:=iR (P:=l.prog) (base:=base) T (h10.fn X G) p_arrival;have p_follow:=cL (P:=l.prog) (base:=base) T (h11.fn X G) p_by_wait p_by_key;have p_heard:=eF (P:=l.prog) (base:=base) T (h12.fn X G);have LT:=J5 (P:=l.prog) (base:=base) T p_follow p_heard;have p_beginning_counts:=cC (P:=l.prog) (base:=base) T (h13.fn X G);have p_key_of:=jV (P:=l.prog) (base:=base) T (h14.fn X G);have p_code_of:=iQ (P:=l.prog) (base:=base) T (h15.fn X G) p_key_of;have p_own_beginning:=dy (P:=l.prog) (base:=base) T (h16.fn X G);have p_beginnings:=fz (P:=l.prog) (base:=base) T (h17.fn X G) p_code_of p_beginning_counts p_own_beginning;have p_names_ways:=fw (P:=l.prog) (base:=base) T (h18.fn X G) p_beginnings;have p_room_ways:=fV (P:=l.prog) (base:=base) T (h19.fn X G) p_names_ways;have p_house_ways:=c8 (P:=l.prog) (base:=base) T (h20.fn X G) p_room_ways;have p_first_rows:=cM (P:=l.prog) (base:=base) T (h21.fn X G) LT;have p_compare:=eV (P:=l.prog) (base:=base) T F22 (Mw X G a22) b22 hcode22 hhd22 hKb hbn p_house_ways p_first_rows p_begin LT;have p_places:=jU (P:=l.prog) (base:=base) T F23 (Mw X G a23) b23 hcode23 hhd23 hKb hbn p_house_ways p_first_rows p_begin;have p_is_out:=jW (P:=l.prog) (base:=base) T (h24.fn X G) p_heard;have p_ends:=pV (P:=l.prog) (base:=base) T (h25.fn X G) p_places p_is_out;exact Dt T F26 p_law_names p_law_cell_at p_law_house p_compare p_ends
theorem walk{l:P5}{q:K5}{loose:List Str}{XP:(Str->Option JJ)->Heap->Prop}{YP:KH->Heap->Prop}{d:DefRec}{K:Params->JH}(hn:l.most=some 63)(hdf:d.params.defaults=[])
  (hY:∀(w:KH)(h:Heap),YP w h->(K w.params).In h) (hT:∀(w:KH)(h:Heap),YP w h->∀P∈PTS,h.get? P=some (Lh #[])) (hC:∀(w:KH),∀P∈PTS,∃c,MJ (K w.params) c P=true) (hL:∀(w:KH),∀P∈PTS,(K w.params).lookup P=none)
  (F:∀(w:KH)(mg:Str->Option JJ)(fa:Addr)(h:Heap),(K w.params).In h->h.Ns mainGlobals mg->mg d.name=some (.ref fa)->
   ∃fd:FuncData,(∀(s:JM) (u:JJ),QF s fd ⟨[u],[]⟩ [("_law_script",u)])/\∀base:Heap,(K w.params).In base->base.Ns mainGlobals mg->(∃bm o,mg "__builtins__"=some (.ref bm)/\bm≠L0/\bm≠mainGlobals/\base.get? bm=some o/\o.cls=.type "module"/\o.dict=some L0/\o.data=.plain)->FnOk l.prog w (K w.params) mg base CX0 11 fa fd ["_law_script"] (@spP (tw w) (K w.params) 1 vx)) :
  PySem.W.WalkO q loose XP YP l.row.toRowW d [] (fun f vs=>Qg f vs):=
 L2.walk_ofT (n:=63) (k:=11) (x:="_law_script") (CX:=fun _=>CX0) (sp:=fun w=>@spP (tw w) (K w.params) 1 vx) hn (by decide) hdf ⟨rfl,by decide,by decide⟩ PTS hY hT hC hL F
  (fun w _ a ns hl hT hS=>letI:TW:=tw w;⟨rfl,FY (ts:=PTS) rfl hT,_,_,sd hS,xO ns,fun v _ _ r=>r⟩) fun _ _ _ _ _ z=>z
end K39
end
namespace PySem.W.Fast
def tw10628270309724806102:=0
def tw3607613507434509850:=0
def tw10697342404844460155:=0
def tw966763059690768869:=0
def tw11538379628924212203:=0
def tw9325541747151093027:=0
def tw14124454521728598971:=0
def tw12906483637789195775:=0
def tw4506531128996032535:=0
def tw16898055459338496561:=0
def tw4487103583090524024:=0
def tw6602638552641734379:=0
def tw2140813686302241944:=0
def tw15588962415346867476:=0
def tw9446312161094965680:=0
def tw11182077165310744952:=0
def tw10394422054194240353:=0
def tw8133535181040486274:=0
def tw12299723091815631709:=0
def tw17422516541086411442:=0
def tw1342405669219598551:=0
def tw5454595198657282918:=0
def tw9574813554858099517:=0
def tw1888672895027691810:=0
def tw4257655891242142494:=0
def tw8837485148058123999:=0
def tw17740631828324805146:=0
def tw5459619879660658366:=0
def tw15161552685092665902:=0
def tw14146257250680247395:=0
def tw15854895794953962135:=0
def tw14240648972682168759:=0
def tw14151737343182583014:=0
def tw3074778497047325872:=0
def tw6469017924523487733:=0
def tw13177764233989793652:=0
def tw10130492837289964653:=0
def tw1946550159132298565:=0
def tw14494412262424671443:=0
def tw15832263473336724772:=0
def tw11110471150753435462:=0
def tw8756845635562941512:=0
def tw2120998783614750752:=0
def tw13885885187913955677:=0
def tw11349195611699231531:=0
def tw13239400938850772420:=0
def tw4709240217127303202:=0
def tw13589004628024235970:=0
def tw13879236438689001437:=0
def tw5390250768305906724:=0
def tw337820407800166730:=0
def tw13309701029577850968:=0
def tw5670531248980763293:=0
end PySem.W.Fast
open PySem PySem.W PyProof.Rows
set_option maxRecDepth 100000 in
set_option maxHeartbeats 0 in
theorem PySem.Challenge.cw_menutree_k39_renamed_houses_holds : PySem.Challenge.rw_menutree_k39_renamed_houses.Holds := by
 w_on;o_law;km_head;(case hw=>w_witness2)
 k_fill
 refine K39.walk (l:=PySem.Challenge.rw_menutree_k39_renamed_houses) rfl rfl (fun w h Y=>PySem.W.km_in_of Y) (fun w h Y=>PySem.W.km_tabs_of Y) ?C ?L ?F
 case F=>
  intro w mg fa h KX G hmg;refine' K39.all_mk KX G hmg ?h0 ?h1 ?h2 ?h3 ?h4 ?h5 ?h6 ?h7 ?h8 ?h9 ?h10 ?h11 ?h12 ?h13 ?h14 ?h15 ?h16 ?h17 ?h18 ?h19 ?h20 ?h21 ?a22 ?l22 ?c22 ?k22 ?a23 ?l23 ?c23 ?k23 ?h24 ?h25 ?a26 ?l26 ?c26 ?k26 ?hcode22 ?hhd22 ?hcode23 ?hhd23 ?z_dict ?z_enumerate ?z_int ?z_len ?z_list ?z_range ?z_tuple ?z_zip ?q_CODE_END ?q_HEARD ?q_SIGNS ?q_WAIT
  (case h0 | h1 | h2 | h3 | h4 | h5 | h6 | h7 | h8 | h9 | h10 | h11 | h12 | h13 | h14 | h15 | h16 | h17 | h18 | h19 | h20 | h21 | h24 | h25=>(refine' PU.Has.of ?n1 ?n2 ?n3 ?n4;(case n1=>k_is);(case n2=>k_is);(case n3=>k_is);(case n4=>k_is)))
  (case a22=>k_is)
  (case l22=>k_is)
  (case c22=>k_is)
  (case k22=>k_is)
  (case a23=>k_is)
  (case l23=>k_is)
  (case c23=>k_is)
  (case k23=>k_is)
  (case a26=>k_is)
  (case l26=>k_is)
  (case c26=>k_is)
  (case k26=>k_is)
  (case hcode22=>exact rfl)
  (case hhd22=>exact rfl)
  (case hcode23=>exact rfl)
  (case hhd23=>exact rfl)
  (case z_dict=>k_is)
  (case z_enumerate=>k_is)
  (case z_int=>k_is)
  (case z_len=>k_is)
  (case z_list=>k_is)
  (case z_range=>k_is)
  (case z_tuple=>k_is)
  (case z_zip=>k_is)
  (case q_CODE_END=>(refine' PU.con_str KX G ?n1;(case n1=>k_is)))
  (case q_HEARD=>(refine' PU.con_dct [(JK "menu",_,_),(JK "names",_,_),(JK "hand",_,_),(JK "end",_,_)] (xs:=[.str (JK "asked"),.str (JK "asked"),.str (JK "hand"),.str (JK "end")]) KX G ?n1 ?n2 ?n3 ?n4 ?n5 ?n6 ?n7 ?n8;(case n1=>k_is);(case n2=>k_is);(case n3=>exact rfl);(case n4=>decide);(case n5=>decide +kernel);(case n6=>show 4<=sizeLine;decide);(case n7=>exact .cons ⟨_,rfl⟩ (.cons ⟨_,rfl⟩ (.cons ⟨_,rfl⟩ (.cons ⟨_,rfl⟩ (.nil)))));(case n8=>intro H;exact⟨_,_,rfl,rfl,_,_,rfl,rfl,_,_,rfl,rfl,_,_,rfl,rfl,rfl⟩)))
  (case q_SIGNS=>(refine' PU.con_str KX G ?n1;(case n1=>k_is)))
  (case q_WAIT=>(refine' PU.con_str KX G ?n1;(case n1=>k_is)))
 case C=>
  intro w P hP;(rcases K9.mp hP with hP | hP);(subst hP;exact⟨162,rfl⟩);cases JX.mp hP;exact⟨143,rfl⟩
 case L=>
  intro w P hP;(rcases K9.mp hP with hP | hP);(subst hP;exact rfl);cases JX.mp hP;exact rfl
