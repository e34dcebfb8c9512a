import PyProof.Rows.All
import Wide.All
import OpenK.AllK
import Wide.FinOn
import Lean
import PyProof.EqAt
import PyProof.EqKinds
import PyProof.TupleCall
import PyProof.StrLawsIdx
import PyProof.StrBlockH
import PyProof.EnumStmt
import PyProof.ListNew
import PyProof.AutoListH
import PyProof.TupleIter
import PyProof.ZipIter
import PyProof.Rows.ZipGen
import KE.KDictOf
import PyProof.ListIndex
import PyProof.AttrMissHeap
import PyProof.NeKinds
import KE.KLam
import KE.KNestM
import KE.KDictLaws
import PyProof.SeqI3
import PyProof.DictWalks
import PyProof.StrLawsIn
import PySem.Challenge.RW_menutree_k43_whole_as_many_classes
set_option Elab.async false
set_option linter.all false
set_option maxRecDepth 100000
set_option maxHeartbeats 16000000
open Array renaming forIn_toList->TF,getElem?_eq_getElem->Oo,getElem?_toList->SX,length_toList->NI,toList_append->Sx
open Bool renaming and_eq_true->ND,and_false->QV,and_true->Qi,eq_iff_iff->Nk,false_and->Rn,false_eq_true->NG,false_ne_true->MO,not_eq_true->On,not_true->SB,or_eq_true->QN,true_and->SA
open Eq renaming refl->Mn
open False renaming elim->MI
open ForInStep renaming yield->O3
open Function renaming comp->PC
open Int renaming emod_lt_of_pos->Tn,emod_nonneg->Rj,zero_add->So
open LawfulBEq renaming eq_of_beq->Oz
open List renaming Perm->SH,Sublist->P9,all_cons->OB,all_eq_true->Om,any_cons->Ng,any_eq_true->Ol,any_map->ON,append_assoc->NQ,append_nil->NH,cons_append->OI,countP_mono_left->Sn,count_append->Tj,count_eq_zero->Qq,dropLast_concat_getLast->Ny,drop_eq_getElem_cons->Pv,drop_length->QD,eq_nil_of_length_eq_zero->N5,ext_getElem?->Ti,filterMap_cons->OF,filter_cons_of_neg->QC,filter_cons_of_pos->QB,find?_cons->Nw,find?_cons_of_neg->P8,find?_cons_of_pos->SW,find?_eq_none->TV,find?_map->OH,find?_some->Rb,flatMap_cons->Pz,foldl_append->OZ,foldl_cons->OU,getD_eq_getElem?_getD->MS,getElem?_append_left->ML,getElem?_append_right->Mm,getElem?_cons_succ->Mg,getElem?_cons_zero->N4,getElem?_eq_getElem->ME,getElem?_eq_none->Nm,getElem?_eq_none_iff->Pu,getElem?_eq_some_iff->MB,getElem?_map->MM,getElem?_of_mem->O9,getElem?_range->Ot,getElem?_replicate->NC,getElem?_set->R0,getElem?_set_ne->Pf,getElem?_set_self->QK,getElem?_zipWith->QO,getElem?_zip_eq_some->Rx,getElem_inj->RT,getElem_mem->N0,getElem_of_mem->OE,getLast?_eq_none_iff->Rw,head?->Qp,length->O8,length_append->Mi,length_cons->Mr,length_drop->RO,length_eq_zero_iff->P5,length_erase_of_mem->S9,length_filterMap_le->S8,length_map->MG,length_nil->OT,length_pos_of_mem->SU,length_replicate->OV,length_singleton->O4,length_take->Oj,length_zip->Pj,lookup->Sw,lookup_cons->Mx,map_append->Mc,map_congr_left->Os,map_cons->MC,map_eq_nil_iff->TC,map_fst_zip->PY,map_map->MV,map_nil->O7,map_singleton->Qo,map_snd_zip->QA,mem_append->Mz,mem_append_left->Oe,mem_append_right->My,mem_cons->MP,mem_cons_of_mem->Me,mem_cons_self->Mh,mem_filter->Nj,mem_filterMap->Qn,mem_flatMap->Oi,mem_iff_getElem?->PR,mem_map->MF,mem_of_find?_eq_some->NF,mem_of_getElem?->Mk,mem_of_getLast?->Sv,mem_range->NT,mem_replicate->Qm,mem_singleton->MQ,mem_take_iff_getElem->Nl,nil_append->Pi,nodup_append->NY,nodup_cons->Mu,nodup_nil->Rm,not_mem_nil->OG,of_mem_zip->Oy,pairwise_iff_getElem->Oq,pairwise_lt_range->SQ,pairwise_map->Th,perm_append_comm->Sm,prefix_iff_eq_take->P4,prefix_of_prefix_length_le->RH,prefix_refl->Q9,range->MX,range'->QU,range'_succ->RL,range_succ->OS,range_succ_eq_map->SO,replicate->Mv,size_toArray->Mj,tail->RK,take_length->Q8,take_of_length_le->SN,take_prefix->Oh,take_sublist->Tf,take_succ_eq_append_getElem->Qz,zipWith_cons_cons->NU,zip_cons_cons->Ql
open List.IsPrefix renaming length_le->Nn,trans->Q5
open List.Pairwise renaming imp_of_mem->Qv
open List.Perm renaming append_right->Ri
open List.cons renaming injEq->Nq
open Nat renaming add_assoc->Pe,add_sub_cancel_left->SM,le_add_right->QG,le_of_eq->Sk,le_of_lt->RG,le_refl->Ma,le_succ->TB,le_trans->NB,lt_irrefl->Nb,lt_of_le_of_lt->P3,lt_of_lt_of_le->MW,lt_of_succ_lt_succ->Sj,lt_or_ge->OA,lt_succ_of_lt->RF,min_self->RE,mul_le_mul->Rv,ne_of_gt->OP,ne_of_lt->Mp,not_lt->Ru,not_lt_zero->O0,zero_add->RD,zero_le->Nu
open Ne renaming symm->Oc
open Option renaming bind_eq_some_iff->MU,bind_some->Q0,getD_none->TU,isSome_iff_exists->Rl,isSome_map->Qk,map_eq_some_iff->MR,map_some->QF
open Option.some renaming inj->Mq,injEq->Nc
open Or renaming inl->Ra,inr->Qe
open Prod renaming ext->Pd
open Prod.mk renaming injEq->QT
open PyProof.Rows renaming AllBare->QZ,IntsAre->Te,callWith_type1->Nr,envOfC->PB,slot_tuple_getitem->NO,subscriptTail_builtinR->Td
open PySem renaming Around->Mt,BindsTo->SK,Builtin->Qy,Env->RB,HeapKind->Sg,IsPart->Qs,IsTupleKey->RV,Keyword->SI,NameKind->OO,Paired->Sf,PassesOwn->TR,Pos->Nt,Program->Md,Shared->MD,Value->M9,World->Ml,assign->Qr,assignEach->O6,atKey->QJ,attributeBase->Od,backTo->OJ,behindInMarks->Pl,binaryOp->P6,bindArgs->Rg,bindC->TN,bindL->TM,bootBuiltins->OX,builtinsNs->NR,call->T3,call_meetsIn->Rf,callerA->Re,cellOf->Sb,codeAmong->Ow,codeAny->QI,codeAny_mono->Pw,compareOp->N8,concat_meets->Ta,dictSetDefault->Sa,eqIsQuiet->Rr,eval->NJ,foldedSetIterable->Pb,getItem->Qw,letOwnedTupleGo->Qd,mem_of_lookup->Mw,model->Ms,noFill_tuple_add->Rq,post_val_or_str->Qc,qualnameIn->QW,rawInt->QM,seq_tuple_add->Sz,sizeLine_eq->N7,sliceBounds->Pm,starEach->MZ,storeName->TJ,stored->SZ,strIterType->Ou,swapsWith->PH,sysModules->N6,valueAt->Nh,wpAny->Mf,wpAny_Call_Name_kw->OW,wpAny_Call_method_late->TZ,wpAny_bind->MA,wpAny_call->SY,wpAny_callSpecial?_slot->QR,wpAny_call_entry->QP,wpAny_comprehension_free->QL,wpAny_dictEntries->Og,wpAny_execs_nil->Qb,wpAny_forIn_list->Rp,wpAny_getItem_str_slice->PD,wpAny_holding->O5,wpAny_isInstance->Ro,wpAny_mono->O1,wpAny_newObj_type->Pa,wpAny_notOrdered_dict->Qf,wpAny_passesOwn->Oa,wpAny_pure->MK,wpAny_pyIter_enum->QH,wpAny_pyNext_tuple_end->TX,wpAny_pyNext_tuple_item->TH,wpAny_rule->Q1,wpAny_specialOf->Qa,wpAny_standAt->Sy,wpAny_truthy_bool->OD,wpAny_typeOf->PZ,wpAny_updateSeq->SC
open PySem.Around renaming frames_deeper->SL
open PySem.Builtin.Dict renaming dictSlotArgs->Qu,samePairs->RJ,updateFrom->RC
open PySem.Builtin.List renaming listExtendWith->PK,listItems->RI
open PySem.Builtin.Slice renaming sliceAdjust->Pc,sliceApplied->Qh,slicePlaces->OQ
open PySem.Builtin.Str renaming occurrences->Pp,strSliceIndices->PQ
open PySem.Builtin.Tuple renaming tupleExact->OY,tupleHashOf->Nd,tupleItemsOf->PP
open PySem.Calls renaming Name_function_global->Rh,callWith_builtin->SF,evalArgs_plain->Si
open PySem.Challenge renaming pw_menutree_k43_whole_as_many_classes->Mb
open PySem.Data renaming cell->QY,fields->RY
open PySem.F renaming args_dict_setdefault_3->Qt,args_tuple_add_2->Pr,entry_dict_setdefault->Qx,entry_tuple_add->Py,plainAttrs_dict->Px,slot_dict_eq->SE,slot_dict_get->S7,slot_dict_getitem->RZ,slot_dict_len->QE,slot_dict_setdefault->OL,slot_list_append->Sh,slot_tuple_add->Q4,slot_tuple_getattribute->Q3,slot_tuple_hash->Q7,type_dict_setdefault->RA
open PySem.Heap renaming ExtBut->Su,SameBut->OM,get?_none_of_le->Ss,get?_push_of_some->MJ,get?_push_size->Mo,get?_update_other->P7,get?_update_self->PL,lt_size->MY
open PySem.Heap.DictOf renaming new->SJ
open PySem.Heap.SameBut renaming update->Q6
open PySem.IsTupleKey renaming inj->Sr
open PySem.NameKind renaming cell->QS,free->NA
open PySem.Obj renaming data_mapDictKeys->T7,mapSeq->Nz
open PySem.Paired renaming length->N3
open PySem.PassesOwn renaming never->Sq
open PySem.SeqAt renaming EqAt->Ox
open PySem.SeqAt.EqAt renaming int_str->S6,of_refs->S5,same->Qj,str_int->Rz
open PySem.SeqAt.RcAt renaming tuples->SD
open PySem.Str renaming join->QX,ofString->MH
open PySem.Txt renaming slice->Nf,slice_le->Pg
open PySem.Value renaming int->Ry,none->Po,ref->Ni,str->Tc,type->Pn
open PySem.W renaming CodeHd->Pk,Frag->M8,OpenLaw->R9,callWith_F->Se,callWith_K->Sd,cellsFrom_some->Rt,codeHdIn->Ob,codeHd_of_K->Of,codeIn->OC,envX->P1,findIn->Tb,fnMade->RU,fnOf->NZ,keepIn->Np,kla_obj->R8,methodObj->Qg,mg_none_of->Na,mg_of->PJ,nsIn->NK,tabObj->O2
open PySem.WalksT renaming enumerateD->T5
open Sum renaming inl->N9,inr->Nv
open Sum.inl renaming injEq->Rc
open Sum.inr renaming inj->Ov,injEq->Pq
open True renaming intro->P0
section
namespace L2
open PySem PySem.Spec PyProof.Rows
abbrev Key:=Sum Int Str
def rE:Key->M9->Bool
 | .inl k,v=>Value.isInt k v
 | .inr x,v=>Value.isStrOf x v
def Lq(w:Ml):Key->Int
 | .inl k=>hashInt k
 | .inr x=>hashStr w x
theorem bg:∀{k:Key}{v:M9},rE k v=true->(∃i t,k=N9 i/\v=Ry i t)\/(∃x t,k=Nv x/\v=Tc x t)
 | .inl i,v,h=>by
  obtain⟨t,e⟩:=Value.isInt_shape (k:=i) (v:=v) h;exact .inl ⟨i,t,rfl,e⟩
 | .inr x,v,h=>by
  obtain⟨t,e⟩:=Value.isStrOf_shape (x:=x) (v:=v) h;exact .inr ⟨x,t,rfl,e⟩
theorem wM(i:Int)(t:Tok):rE (.inl i) (.int i t)=true:=by simp[rE,Value.isInt]
theorem wK(x:Str)(t:Tok):rE (.inr x) (.str x t)=true:=by simp[rE,Value.isStrOf]
theorem Gp(a b:Int):decide ((N9 a:Key)=N9 b)=(a == b):=by
 by_cases e:a=b
 ·subst e;simp
 ·have h:¬ (N9 a:Key)=N9 b:=fun q=>e (Sum.inl.inj q)
  rw[decide_eq_false h];exact(beq_eq_false_iff_ne.mpr e).symm
theorem Gk(a b:Str):decide ((Nv a:Key)=Nv b)=decide (a=b):=by
 by_cases e:a=b
 ·subst e;simp
 ·have h:¬ (Nv a:Key)=Nv b:=fun q=>e (Ov q)
  rw[decide_eq_false h,decide_eq_false e]
theorem Gn(a:Int)(b:Str):decide ((N9 a:Key)=Nv b)=false:=decide_eq_false (fun q=>nomatch q)
theorem Gm(a:Str)(b:Int):decide ((Nv a:Key)=N9 b)=false:=decide_eq_false (fun q=>nomatch q)
def aw(prog:Md)(w:Ml):PySem.KeyKind prog w Key where
 is:=rE
 hash:=Lq w
 inj:=fun v a b ha hb=>by
  rcases bg ha with⟨i,t,rfl,rfl⟩|⟨x,t,rfl,rfl⟩
  ·rcases bg hb with⟨j,u,rfl,e⟩|⟨y,u,rfl,e⟩
   ·injection e with e1 _;rw[e1]
   ·exact nomatch e
  ·rcases bg hb with⟨j,u,rfl,e⟩|⟨y,u,rfl,e⟩
   ·exact nomatch e
   ·injection e with e1 _;rw[e1]
 byValue:=fun k v h=>by
  rcases bg h with⟨i,t,rfl,rfl⟩|⟨x,t,rfl,rfl⟩ <;> rfl
 pyHash:=fun hv h=>by
  rcases bg hv with⟨i,t,rfl,rfl⟩|⟨x,t,rfl,rfl⟩
  ·exact wpAny_pyHash_int h
  ·exact wpAny_pyHash_str h
 eqBool:=fun hu hv h=>by
  rcases bg hu with⟨i,t,rfl,rfl⟩|⟨x,t,rfl,rfl⟩
  ·rcases bg hv with⟨j,u,rfl,rfl⟩|⟨y,u,rfl,rfl⟩
   ·rw[Gp] at h;exact wpAny_eqBool_int h
   ·rw[Gn] at h;exact S6 i t y u _ _ _ _ h
  ·rcases bg hv with⟨j,u,rfl,rfl⟩|⟨y,u,rfl,rfl⟩
   ·rw[Gm] at h;exact Rz x t j u _ _ _ _ h
   ·rw[Gk] at h;exact wpAny_eqBool_str h
 «strs»:=fun k x t v h=>by
  rcases bg h with⟨i,u,rfl,e⟩|⟨y,u,rfl,e⟩
  ·exact nomatch e
  ·injection e with e1 _
   subst e1;cases v <;> rfl
theorem rd(prog:Md)(w:Ml)(i:Int)(t:Tok):(aw prog w).is (.inl i) (.int i t)=true:=wM i t
theorem gg(prog:Md)(w:Ml)(x:Str)(t:Tok):(aw prog w).is (.inr x) (.str x t)=true:=wK x t
abbrev bZ:=List (Key ⊕ List Key)
section
variable{prog : Md}{w : Ml}{K : Type}[DecidableEq K](knd : KeyKind prog w K)
inductive NItems (h:Heap):List (K ⊕ List K)->List M9->Prop
 | nil:NItems h [] []
 | sc {k:K} {v:M9} {ks:List (K ⊕ List K)} {vs:List M9}:knd.is k v=true->NItems h ks vs->NItems h (.inl k::ks) (v::vs)
 | tp {k:List K} {b:Addr} {ks:List (K ⊕ List K)} {vs:List M9}:RV knd h k b->NItems h ks vs->NItems h (.inr k::ks) (.ref b::vs)
def bJ (h:Heap) (ks:List (K ⊕ List K)) (a:Addr):Prop:=∃o items n,h.get? a=some o/\o.cls=.type "tuple"/\o.data=.seq items n/\NItems knd h ks items.toList
variable{knd}
theorem sQ{h:Heap}{k:K}{b:Addr}(h1:knd.is k (.ref b)=true):False:=by
 have:=knd.byValue _ _ h1;simp[carriedByValue] at this
theorem NItems.inj{h:Heap}{x y:List (K ⊕ List K)}{vs:List M9}(hx:NItems knd h x vs)(hy:NItems knd h y vs):x=y:=by
 induction hx generalizing y with
 | nil=>cases hy;rfl
 | sc h1 _ ih=>
  cases hy with
  | sc h2 t2=>rw[knd.inj _ _ _ h1 h2,ih t2]
  | tp h2 t2=>exact(sQ (h:=h) h1).elim
 | tp h1 _ ih=>
  cases hy with
  | sc h2 t2=>exact(sQ (h:=h) h2).elim
  | tp h2 t2=>rw[Sr h1 h2,ih t2]
theorem bJ.typeIs {s:MD} {ks:List (K ⊕ List K)} {a:Addr} (x:bJ knd s.heap ks a):s.TypeIs (.ref a) "tuple":=let ⟨o,_,_,ho,hc,_⟩:=x;⟨o,ho,hc⟩
theorem bJ.inj{h:Heap}{a:Addr}{x y:List (K ⊕ List K)}(hx:bJ knd h x a)(hy:bJ knd h y a):x=y:=by
 obtain⟨o,items,n,ho,_,hd,hi⟩:=hx;obtain⟨o',items',n',ho',_,hd',hi'⟩:=hy;obtain rfl:o=o':=Mq (ho.symm.trans ho');rw[hd] at hd';injection hd' with h1 _;subst h1;exact hi.inj hi'
theorem NItems.keeps{h h':Heap}{ks:List (K ⊕ List K)}{vs:List M9}{d:Addr}{o:Obj}{es ep}(x:NItems knd h ks vs)(ho:h.get? d=some o)(hd:o.data=.dict es ep)(hs:OM d h h'):NItems knd h' ks vs:=by
 induction x with
 | nil=>exact .nil
 | sc h1 _ ih=>exact .sc h1 ih
 | tp h1 _ ih=>exact .tp (h1.keeps ho hd hs) ih
theorem bJ.keeps{h h':Heap}{ks:List (K ⊕ List K)}{a d:Addr}{o:Obj}{es ep}(x:bJ knd h ks a)(ho:h.get? d=some o)(hd:o.data=.dict es ep)(hs:OM d h h'):bJ knd h' ks a:=by
 obtain⟨o',items,n,ho',hc,hd',hi⟩:=x
 have hne:a≠d:=by
  rintro rfl;obtain rfl:o'=o:=Mq (ho'.symm.trans ho);rw[hd] at hd';exact nomatch hd'
 exact⟨o',items,n,(hs.2 a hne).trans ho',hc,hd',hi.keeps ho hd hs⟩
def mL(knd:KeyKind prog w K):K ⊕ List K->Int
 | .inl k=>knd.hash k
 | .inr ks=>tupleKeyHash knd ks
def r8:K ⊕ List K->Nat
 | .inl _=>1
 | .inr ks=>ks.length+1
def oC(knd:KeyKind prog w K)(ks:List (K ⊕ List K)):Int:=reduceHash (Nd (ks.map (mL knd)))
variable{A : Mt}{E : M9 → MD → Prop}{s : MD}
theorem qS{ks:List (K ⊕ List K)}{a:Addr}{Q:Int->MD->Prop}(hu:A.units+8<cLine)(hk:bJ knd s.heap ks a)(h:Q (oC knd ks) { s with toks:=s.toks+((ks.map r8).sum+1) }) :
  Mf (Ms prog w) A (pyHash (.ref a)) Q E s:=by
 have hT:=hk.typeIs;obtain⟨o,items,n,ho,_,hd,hi⟩:=hk;unfold pyHash
 first | unfold pyHashByItsType | skip
 first | refine MA (wpAny_cRoomFor_or (.inr (show A.units<cLine by omega)) ?_) | skip
 refine MA (Qa hT Q7.lookup ?_);show Mf _ _ (if (some (Value.builtin "tuple.__hash__") == some Po)=true then _ else _) Q E s;rw[if_neg (by rw[beq_builtin_none];exact MO)];refine MA (Qa hT Q7.lookup ?_);show Mf _ _ (callSpecialIfBoundUnlessNone? (.ref a) "__hash__" _ >>= _) Q E s;refine MA (wpAny_callSpecialIfBoundUnlessNone?_slot hT Q7 (QP Q7 hT F.entry_tuple_hash ?_ (F.args_tuple_hash_1 _)));show Mf _ _ (PP (.ref a) >>= _) _ _ s;refine MA (wpAny_tupleItemsOf ho hd ?_);refine MA ?_;rw[← TF]
 refine Rp _
  (fun rest (b:Array Int) s'=>∃done left,ks=done++left/\NItems knd s.heap left rest/\b.toList=done.map (mL knd)/\s'={ s with toks:=s.toks+(done.map r8).sum })
  _ ?_ ?_ _ _ ⟨[],ks,rfl,hi,rfl,rfl⟩
 ·rintro x rest b s' ⟨done,left,rfl,hl,hb,rfl⟩
  cases hl with
  | @sc k _ ks' _ h1 hl'=>
   refine MA (knd.pyHash h1 ?_)
   first
    | exact MK ⟨done++[.inl k],ks',by simp,hl',by simp[hb,mL],by simp[Pe,r8]⟩
    | exact MA (MK (MK ⟨done++[.inl k],ks',by simp,hl',by simp[hb,mL],by simp[Pe,r8]⟩))
  | @tp k b' ks' _ h1 hl'=>
   refine MA (wpAny_pyHash_tuple (knd:=knd) (ks:=k) (show A.units+1<cLine by omega) h1 ?_)
   first
    | exact MK ⟨done++[.inr k],ks',by simp,hl',by simp[hb,mL],by simp[Pe,r8]⟩
    | exact MA (MK (MK ⟨done++[.inr k],ks',by simp,hl',by simp[hb,mL],by simp[Pe,r8]⟩))
 ·rintro b s' ⟨done,left,rfl,hl,hb,rfl⟩
  cases hl;rw[NH] at h;show Mf _ _ (retInt (Nd b.toList)) _ _ _;rw[hb];refine wpAny_ret_mkInt ?_;show Mf _ _ (if (decide (-(2:Int) ^ 63<=Nd (done.map (mL knd))) && decide (Nd (done.map (mL knd))<2 ^ 63))=true then _ else _) Q E _;unfold oC reduceHash at h
  by_cases hr:(decide (-(2:Int) ^ 63<=Nd (done.map (mL knd))) && decide (Nd (done.map (mL knd))<2 ^ 63))=true
  ·rw[if_pos hr]
   rw[if_pos hr] at h;exact MK (by simpa [Pe] using h)
  ·rw[if_neg hr]
   rw[if_neg hr] at h;exact MA (Q1 (MK (by simpa [Pe] using h)))
end
theorem rR{α:Type}[DecidableEq α]:∀k j:List α,((MX (min k.length j.length)).all (fun i=>decide (k[i]?=j[i]?)) && k.length == j.length)=decide (k=j)
 | [],[]=>by simp
 | [],_::_=>by simp
 | _::_,[]=>by simp
 | x::k,y::j=>by
  have ih:=rR k j;have hm:min (x::k).length (y::j).length=min k.length j.length+1:=by simp only[Mr];omega
  rw[hm,SO,OB,List.all_map];have hs:((fun i=>decide ((x::k)[i]?=(y::j)[i]?)) ∘ Nat.succ)=fun i=>decide (k[i]?=j[i]?):=by funext i;simp
  rw[hs,Mr,Mr];have h0:decide ((x::k)[0]?=(y::j)[0]?)=decide (x=y):=by simp
  rw[h0];have e2:(k.length+1 == j.length+1)=(k.length == j.length):=by simp
  rw[e2,Bool.and_assoc,ih,Nk];simp
theorem Bi{P P':Md}{w w':Ml}{A:Mt}{s:MD}{k j:Key}{v u:M9}(h1:(aw P w).is k v=true)(h2:(aw P' w').is j u=true):Ox A s v u (decide (k=j)):=fun prog ww E Q q=>(aw prog ww).eqBool (a:=k) (b:=j) h1 h2 q
theorem nS{P:Md}{w:Ml}{A:Mt}{s:MD}:∀{k j:List Key}{vs us:List M9},ItemsAre (aw P w) k vs->ItemsAre (aw P w) j us->∀(i:Nat)(h1:i<vs.length)(h2:i<us.length),Ox A s vs[i] us[i] (decide (k[i]?=j[i]?))
 | _,_,_,_,.nil,_,i,h1,_=>absurd h1 (O0 _)
 | _,_,_,_,.cons _ _,.nil,i,_,h2=>absurd h2 (O0 _)
 | _,_,_,_,.cons (k:=k) a1 t1,.cons (k:=j) a2 t2,0,_,_=>by
  rw[N4,N4,show decide (some k=some j)=decide (k=j) by simp];exact Bi a1 a2
 | _,_,_,_,.cons a1 t1,.cons a2 t2,i+1,h1,h2=>by
  rw[Mg,Mg];exact nS t1 t2 i (by simpa using h1) (by simpa using h2)
theorem Dv{P:Md}{w:Ml}{A:Mt}{s:MD}{k j:List Key}{a b:Addr}(hu:A.units+1<cLine)(h1:RV (aw P w) s.heap k a)(h2:RV (aw P w) s.heap j b):Ox A s (.ref a) (.ref b) (decide (k=j)):=by
 by_cases e:a=b
 ·subst e
  rw[Sr h1 h2,decide_eq_true rfl];exact Qj _
 ·obtain⟨o1,i1,n1,g1,c1,d1,m1⟩:=h1
  obtain⟨o2,i2,n2,g2,c2,d2,m2⟩:=h2;have l1:=m1.length;have l2:=m2.length;have z:=rR k j;rw[l1,l2,NI,NI] at z;rw[← z];refine S5 (fun q=>e q) (SD ⟨o1,g1,c1,n1,d1⟩ ⟨o2,g2,c2,n2,d2⟩ (by omega) fun i h1 h2=>?_);have:=nS (A:=A.in1) (s:=s) m1 m2 i (by simpa using h1) (by simpa using h2);simpa using this
theorem B4{P:Md}{w:Ml}{A:Mt}{s:MD}{k:Key}{j:List Key}{v:M9}{b:Addr}(hu:A.units<cLine)(h1:(aw P w).is k v=true)(h2:RV (aw P w) s.heap j b):Ox A s v (.ref b) false/\Ox A s (.ref b) v false:=by
 obtain⟨o2,i2,n2,g2,c2,d2,m2⟩:=h2;have pl:s.heap.IsTuple b i2:=⟨o2,g2,c2,n2,d2⟩;rcases bg h1 with⟨i,t,rfl,rfl⟩|⟨x,t,rfl,rfl⟩
 ·exact⟨SeqAt.EqAt.int_tuple i t pl hu,SeqAt.EqAt.tuple_int i t pl hu⟩
 ·exact⟨SeqAt.EqAt.str_tuple x t pl hu,SeqAt.EqAt.tuple_str x t pl hu⟩
theorem uw{P:Md}{w:Ml}{A:Mt}{s:MD}(hu:A.units+1<cLine):∀{k j:List (Key ⊕ List Key)}{vs us:List M9},NItems (aw P w) s.heap k vs->NItems (aw P w) s.heap j us->∀(i:Nat)(h1:i<vs.length)(h2:i<us.length),Ox A s vs[i] us[i] (decide (k[i]?=j[i]?)):=by
 intro k j vs us h1
 induction h1 generalizing j us with
 | nil=>intro _ i h;exact absurd h (O0 _)
 | @sc k v ks vs a1 t1 ih=>
  intro h2 i l1 l2;cases h2 with
  | nil=>exact absurd l2 (O0 _)
  | @sc j u js us a2 t2=>
   cases i with
   | zero=>
    rw[N4,N4,show decide (some (N9 k:Key ⊕ List Key)=some (.inl j))=decide (k=j) by simp];exact Bi a1 a2
   | succ i=>rw[Mg,Mg];exact ih t2 i (by simpa using l1) (by simpa using l2)
  | @tp j b js us a2 t2=>
   cases i with
   | zero=>
    rw[N4,N4,show decide (some (N9 k:Key ⊕ List Key)=some (.inr j))=false by simp];exact(B4 (by omega) a1 a2).1
   | succ i=>rw[Mg,Mg];exact ih t2 i (by simpa using l1) (by simpa using l2)
 | @tp k b ks vs a1 t1 ih=>
  intro h2 i l1 l2;cases h2 with
  | nil=>exact absurd l2 (O0 _)
  | @sc j u js us a2 t2=>
   cases i with
   | zero=>
    rw[N4,N4,show decide (some (Nv k:Key ⊕ List Key)=some (.inl j))=false by simp];exact(B4 (by omega) a2 a1).2
   | succ i=>rw[Mg,Mg];exact ih t2 i (by simpa using l1) (by simpa using l2)
  | @tp j c js us a2 t2=>
   cases i with
   | zero=>
    rw[N4,N4,show decide (some (Nv k:Key ⊕ List Key)=some (.inr j))=decide (k=j) by simp];exact Dv hu a1 a2
   | succ i=>rw[Mg,Mg];exact ih t2 i (by simpa using l1) (by simpa using l2)
theorem NItems.length{P:Md}{w:Ml}{h:Heap}{k:List (Key ⊕ List Key)}{vs:List M9}(x:NItems (aw P w) h k vs):k.length=vs.length:=by
 induction x with
 | nil=>rfl
 | sc _ _ ih=>simp[ih]
 | tp _ _ ih=>simp[ih]
theorem CY{P:Md}{w:Ml}{A:Mt}{s:MD}{k j:List (Key ⊕ List Key)}{a b:Addr}(hu:A.units+8<cLine)(h1:bJ (aw P w) s.heap k a)(h2:bJ (aw P w) s.heap j b):Ox A s (.ref a) (.ref b) (decide (k=j)):=by
 by_cases e:a=b
 ·subst e
  rw[bJ.inj h1 h2,decide_eq_true rfl];exact Qj _
 ·obtain⟨o1,i1,n1,g1,c1,d1,m1⟩:=h1
  obtain⟨o2,i2,n2,g2,c2,d2,m2⟩:=h2;have l1:=m1.length;have l2:=m2.length;have z:=rR k j;rw[l1,l2,NI,NI] at z;rw[← z];refine S5 (fun q=>e q) (SD ⟨o1,g1,c1,n1,d1⟩ ⟨o2,g2,c2,n2,d2⟩ (by omega) fun i h1 h2=>?_);have:=uw (A:=A.in1) (s:=s) (show A.units+1+1<cLine by omega) m1 m2 i (by simpa using h1) (by simpa using h2);simpa using this
section
variable{prog : Md}{w : Ml}{A : Mt}{E : M9 → MD → Prop}{s : MD}
theorem pG{n:Nat}{a:Addr}{items:Array M9}{Q:Bool->MD->Prop}(ht:s.heap.IsTuple a items)(hq:∀v∈items.toList,∀(Q':Bool->MD->Prop),Q' true s->Mf (Ms prog w) A (Rr n v) Q' E s)(h:Q true s):Mf (Ms prog w) A (Rr (n+1) (.ref a)) Q E s:=by
 have hT:=ht.typeIs;obtain⟨o,ho,hc,m,hd⟩:=ht;unfold Rr;refine MA (Qa hT F.slot_tuple_eq.lookup ?_);show Mf _ _ (isInstance (.ref a) (.type "tuple") >>= _) _ _ s;refine MA (Ro hT isSubtype_tuple_tuple ?_);simp only[SB,NG,if_false];refine MA (wpAny_seqItems ho hd ?_);refine MA ?_;show Mf _ _ (forIn items _ _) _ _ s;rw[← TF];refine Rp _ (fun rest r s'=>r.1=none/\s'=s/\∀v∈rest,v∈items.toList) _ ?_ ?_ _ _ ⟨rfl,rfl,fun v h=>h⟩
 ·rintro v rest r s' ⟨hr,rfl,hall⟩
  refine MA (hq v (hall v Mh) _ ?_);simp only[SB,NG,if_false];exact MK ⟨rfl,rfl,fun u hu'=>hall u (Me _ hu')⟩
 ·rintro⟨r1,r2⟩ s' ⟨hr,rfl,_⟩
  simp only at hr;subst hr;exact MK h
theorem NItems.quiet{n:Nat}{k:List (Key ⊕ List Key)}{vs:List M9}(x:NItems (aw prog w) s.heap k vs):∀v∈vs,∀(Q':Bool->MD->Prop),Q' true s->Mf (Ms prog w) A (Rr (n+1) v) Q' E s:=by
 induction x with
 | nil=>intro v h;cases h
 | sc h1 _ ih=>
  intro v hv Q' hQ;rcases MP.mp hv with rfl | hv
  ·rw[eqIsQuiet_byValue _ ((aw prog w).byValue _ _ h1)]
   exact MK hQ
  ·exact ih v hv Q' hQ
 | tp h1 _ ih=>
  intro v hv Q' hQ;rcases MP.mp hv with rfl | hv
  ·obtain⟨o,items,m,ho,hc,hd,hi⟩:=h1
   refine pG ⟨o,ho,hc,m,hd⟩ (fun u hu Q2 h2=>?_) hQ;rw[eqIsQuiet_byValue _ (hi.byValue u hu)];exact MK h2
  ·exact ih v hv Q' hQ
theorem uh{k:List (Key ⊕ List Key)}{a:Addr}{Q:Bool->MD->Prop}(hk:bJ (aw prog w) s.heap k a)(h:Q true s):Mf (Ms prog w) A (Rr 8 (.ref a)) Q E s:=by
 obtain⟨o,items,m,ho,hc,hd,hi⟩:=hk;exact pG ⟨o,ho,hc,m,hd⟩ hi.quiet h
end
def gc(prog:Md)(w:Ml):Sg prog w (List (Key ⊕ List Key)) where
 is:=bJ (aw prog w)
 hash:=oC (aw prog w)
 draws:=fun ks=>(ks.map r8).sum+1
 room:=fun A=>A.units+8<cLine
 inj:=fun hx hy=>hx.inj hy
 keeps:=fun x ho hd hs=>x.keeps ho hd hs
 pyHash:=fun hu hk h=>qS hu hk h
 eqBool:=fun hu hx hy h=>CY hu hx hy _ _ _ _ h
 quiet:=fun hk h=>uh hk h
end L2
namespace L2
open PySem PySem.Spec PyProof.Rows
inductive V where
 | non | bl (b:Bool) | int (i:Int) | str (x:Str) | byt (b:Array UInt8) | flt (b:UInt64) | ref (a:Addr) | ty (n:String)
 deriving DecidableEq
def RelV:V->M9->Prop
 | .non,u=>u=Po
 | .bl b,u=>u=Value.bool b
 | .int i,u=>∃t,u=Ry i t
 | .str x,u=>∃t,u=Tc x t
 | .byt b,u=>∃t,u=Value.bytes b t
 | .flt b,u=>∃t,u=Value.float b t
 | .ref a,u=>u=Ni a
 | .ty n,u=>u=Pn n
abbrev Vals:List V->List M9->Prop:=Sf RelV
theorem Vals.length{xs:List V}{us:List M9}(r:Vals xs us):xs.length=us.length:=N3 r
theorem Vals.get:∀{xs:List V}{us:List M9}{i:Nat}{x:V},Vals xs us->xs[i]?=some x->∃u,us[i]?=some u/\RelV x u
 | _,_,_,_,.nil,e=>by simp at e
 | _,_,0,_,.cons r _,e=>by simp at e;subst e;exact⟨_,rfl,r⟩
 | _,_,i+1,x,.cons _ t,e=>by
  obtain⟨u,h1,h2⟩:=Vals.get (i:=i) (x:=x) t (by simpa using e);exact⟨u,by simpa using h1,h2⟩
theorem Vals.append:∀{xs ys:List V}{us ws:List M9},Vals xs us->Vals ys ws->Vals (xs++ys) (us++ws)
 | _,_,_,_,.nil,s=>s
 | _,_,_,_,.cons r t,s=>.cons r (Vals.append t s)
theorem Vals.take:∀{xs:List V}{us:List M9}(n:Nat),Vals xs us->Vals (xs.take n) (us.take n)
 | _,_,0,_=>.nil
 | _,_,_+1,.nil=>.nil
 | _,_,n+1,.cons r t=>.cons r (Vals.take n t)
theorem Vals.drop:∀{xs:List V}{us:List M9}(n:Nat),Vals xs us->Vals (xs.drop n) (us.drop n)
 | _,_,0,r=>r
 | _,_,_+1,.nil=>.nil
 | _,_,n+1,.cons _ t=>Vals.drop n t
def mQ:Option V->Option M9->Prop
 | some v,some u=>RelV v u
 | none,none=>True
 | _,_=>False
def KV{κ:Type}:List (κ×V)->List (κ×M9)->Prop:=Sf fun (p:κ×V) (q:κ×M9)=>p.1=q.1/\RelV p.2 q.2
def kV:Key->V
 | .inl i=>.int i
 | .inr x=>.str x
inductive HO where
  | lst (xs:List V)
  | tup (xs:List V)
  | dK (kvs:List (Key×V)) | dT (kvs:List (bZ×V))
  | set (S:Int->Bool) (n:Nat)
  | ins (C dx:Addr) (fs:List (Str×V))
  | own (x:Addr)
  | xd (fs:List (Str×V))
  | met (f x:Addr)
  | rng (lo hi:Int)
  | frz (o:Obj) (u:HO)
  | tbl (ps:Array M9)
  | ext (φ:Heap->Prop)
abbrev Hp:=Addr->Option HO
def upd(H:Hp)(a:Addr)(o:HO):Hp:=fun b=>if b=a then some o else H b
theorem ay{H:Hp}{a:Addr}{o:HO}:upd H a o a=some o:=by unfold upd;rw[if_pos rfl]
theorem aB{H:Hp}{a b:Addr}{o:HO}(h:b≠a):upd H a o b=H b:=by unfold upd;rw[if_neg h]
theorem CZ{H:Hp}{a b:Addr}{o u:HO}(h:H a=some o)(h':H b=some u)(d:o≠u):a≠b:=by
 intro e;subst e;rw[h] at h';exact d (Mq h')
theorem bB{H:Hp}{a b:Addr}{o:HO}(h:H a=some o)(h':H b=none):a≠b:=by
 intro e;subst e;rw[h] at h';cases h'
def Av (h:Heap) (a:Addr) (items:Array M9):Prop:=∃o,h.get? a=some o/\o.cls=.type "tuple"/\(∃n,o.data=.seq items n)/\((∀v∈items.toList,∃b,v=Ni b)->o.dict=none)
theorem Av.up{h:Heap}{a:Addr}{items:Array M9}(x:Av h a items):IsTup h a items:=by
 obtain⟨o,e,c,d,_⟩:=x;exact⟨o,e,c,d⟩
theorem Av.new (h:Heap) (items:Array M9):Av (h.push { cls:=.type "tuple",data:=.seq items }) h.objs.size items:=⟨_,Mo _ rfl,rfl,⟨_,rfl⟩,fun _=>rfl⟩
def NV(H:Hp):bZ->List V->Prop
 | [],vs=>vs=[]
 | .inl k::ks,vs=>∃r,vs=kV k::r/\NV H ks r
 | .inr l::ks,vs=>∃c r,vs=.ref c::r/\H c=some (.tup (l.map kV))/\NV H ks r
def fg(H:Hp)(b:Addr)(k:bZ):Prop:=∃vs,H b=some (.tup vs)/\NV H k vs
theorem NV.keeps{H H':Hp}(ht:∀b ys,H b=some (.tup ys)->H' b=some (.tup ys)):∀{k:bZ}{vs:List V},NV H k vs->NV H' k vs
 | [],_,h=>h
 | .inl _::_,_,⟨r,e,t⟩=>⟨r,e,NV.keeps ht t⟩
 | .inr _::_,_,⟨c,r,e,hc,t⟩=>⟨c,r,e,ht _ _ hc,NV.keeps ht t⟩
theorem fg.keeps{H H':Hp}{b:Addr}{k:bZ}(x:fg H b k)(ht:∀b ys,H b=some (.tup ys)->H' b=some (.tup ys)):fg H' b k:=let ⟨vs,e,t⟩:=x;⟨vs,ht _ _ e,t.keeps ht⟩
section
variable(P : Md)(w : Ml)
def dR(H:Hp)(h:Heap)(a:Addr):HO->Prop
 | .lst xs=>xs.length<=sizeLine/\∃(its:List M9) (n:Nat),Vals xs its/\h.get? a=some { cls:=.type "list",data:=.seq its.toArray n }
 | .tup xs=>xs.length<=sizeLine/\∃its:List M9,Vals xs its/\Av h a its.toArray
 | .dK kvs=>kvs.length<=sizeLine/\(a == N6)=false/\∃vs,KV kvs vs/\h.DictOf (aw P w) a vs
 | .dT kvs=>kvs.length<=sizeLine/\(a == N6)=false/\∃xs:List (bZ×Addr×M9),
   Sf (fun (p:bZ×V) (q:bZ×Addr×M9)=>p.1=q.1/\fg H q.2.1 p.1/\RelV p.2 q.2.2) kvs xs/\
   ∃o es ep,h.get? a=some o/\o.ExactDict/\o.data=.dict es ep/\es.toList=xs.map (entryOfKey (gc P w))/\(xs.map (·.1)).Nodup
 | .set S n=>h.SetOf (intKind P w) a S n
 | .ins C dx fs=>H dx=some (.own a)/\fs.length<=1000/\dx≠a/\h.get? a=some (PySem.W.instObj C dx)/\
   ∃mA,h.Ns1 dx mA/\(∀f,mQ (fs.lookup f) (mA f))/\PySem.Within mA (fs.map (·.1))
 | .own _=>∃o,h.get? a=some o
 | .xd fs=>∃mA,h.Ns1 a mA/\∀f,mQ (fs.lookup f) (mA f)
 | .rng lo hi=>∃t u v,h.get? a=some { cls:=.type "range",data:=.fields #[.int lo t,.int hi u,.int 1 v] }
 | .frz o u=>h.get? a=some o/\dR H h a u
 | .tbl ps=>h.get? a=some { cls:=.none,data:=.fields ps }
 | .met f x=>h.get? a=some (Qg (.ref f) (.ref x))
 | .ext φ=>φ h/\(∃o,h.get? a=some o)/\∀h1 h2:Heap,φ h1->(∀o,h1.get? a=some o->h2.get? a=some o)->φ h2
def HOk(H:Hp)(h:Heap):Prop:=∀a o,H a=some o->dR P w H h a o
end
section
variable{P : Md}{w : Ml}{H H' : Hp}{h h' : Heap}{a : Addr}{o : HO}
theorem dR.lt(x:dR P w H h a o):a<h.objs.size:=by
 cases o with
 | lst xs=>obtain⟨_,_,_,_,e⟩:=x;exact MY e
 | tup xs=>obtain⟨_,_,_,p⟩:=x;exact p.up.lt
 | dK kvs=>obtain⟨_,_,_,_,o,_,_,e,_⟩:=x;exact MY e
 | dT kvs=>obtain⟨_,_,_,_,o,_,_,e,_⟩:=x;exact MY e
 | set S n=>obtain⟨o,_,_,_,e,_⟩:=x;exact MY e
 | ins C dx fs=>obtain⟨_,_,_,e,_⟩:=x;exact MY e
 | own y=>obtain⟨_,e⟩:=x;exact MY e
 | xd fs=>obtain⟨_,⟨_,_,_,e,_⟩,_⟩:=x;exact MY e
 | rng lo hi=>obtain⟨_,_,_,e⟩:=x;exact MY e
 | frz ob u=>obtain⟨e,_⟩:=x;exact MY e
 | tbl ps=>exact MY (show h.get? a=some _ from x)
 | met f y=>exact MY (show h.get? a=some _ from x)
 | ext φ=>obtain⟨_,⟨_,e⟩,_⟩:=x;exact MY e
theorem Paired.mapP{α β:Type}{F G:α->β->Prop}:∀{l₁:List α}{l₂:List β},Sf F l₁ l₂->(∀a b,F a b->G a b)->Sf G l₁ l₂
 | _,_,.nil,_=>.nil
 | _,_,.cons r t,f=>.cons (f _ _ r) (Paired.mapP t f)
theorem dR.stay(x:dR P w H h a o)(k:∀b u,(b=a\/H b=some (.own a))->h.get? b=some u->h'.get? b=some u)
  (ho:∀b,H b=some (.own a)->H' b=some (.own a)) (ht:∀b xs,H b=some (.tup xs)->H' b=some (.tup xs)):dR P w H' h' a o:=by
 induction o with
 | lst xs=>obtain⟨z,its,n,r,e⟩:=x;exact⟨z,its,n,r,k _ _ (.inl rfl) e⟩
 | tup xs=>obtain⟨z,its,r,ob,e,c⟩:=x;exact⟨z,its,r,ob,k _ _ (.inl rfl) e,c⟩
 | dK kvs=>obtain⟨z,y,vs,r,ob,es,ep,e,c⟩:=x;exact⟨z,y,vs,r,ob,es,ep,k _ _ (.inl rfl) e,c⟩
 | dT kvs=>
  obtain⟨z,y,xs,r,ob,es,ep,e,c⟩:=x;exact⟨z,y,xs,Paired.mapP r fun p q z=>⟨z.1,z.2.1.keeps ht,z.2.2⟩,ob,es,ep,k _ _ (.inl rfl) e,c⟩
 | set S n=>obtain⟨ob,es,ep,t,e,c⟩:=x;exact⟨ob,es,ep,t,k _ _ (.inl rfl) e,c⟩
 | ins C dx fs=>
  obtain⟨d,z,ne,e,mA,⟨od,es,ep,e2,c⟩,r⟩:=x;exact⟨ho _ d,z,ne,k _ _ (.inl rfl) e,mA,⟨od,es,ep,k _ _ (.inr d) e2,c⟩,r⟩
 | own y=>obtain⟨ob,e⟩:=x;exact⟨ob,k _ _ (.inl rfl) e⟩
 | xd fs=>obtain⟨mA,⟨od,es,ep,e,c⟩,r⟩:=x;exact⟨mA,⟨od,es,ep,k _ _ (.inl rfl) e,c⟩,r⟩
 | rng lo hi=>obtain⟨t,u,v,e⟩:=x;exact⟨t,u,v,k _ _ (.inl rfl) e⟩
 | frz ob u ih=>obtain⟨e,q⟩:=x;exact⟨k _ _ (.inl rfl) e,ih q⟩
 | tbl ps=>
  have e:h.get? a=some { cls:=.none,data:=.fields ps }:=x;show h'.get? a=some { cls:=.none,data:=.fields ps };exact k a _ (.inl rfl) e
 | met f y=>
  have e:h.get? a=some (Qg (.ref f) (.ref y)):=x;show h'.get? a=some (Qg (.ref f) (.ref y));exact k a _ (.inl rfl) e
 | ext φ=>obtain⟨p,⟨o,e⟩,st⟩:=x;exact⟨st _ _ p fun o q=>k _ _ (.inl rfl) q,⟨o,k _ _ (.inl rfl) e⟩,st⟩
theorem HOk.lt(x:HOk P w H h)(e:H a=some o):a<h.objs.size:=(x a o e).lt
theorem HOk.fresh(x:HOk P w H h)(e:h.objs.size<=a):H a=none:=by
 cases q:H a with
 | none=>rfl
 | some u=>exact absurd (MW (x.lt q) e) (Nb _)
theorem HOk.kept(x:HOk P w H h)(k:∀b u,h.get? b=some u->h'.get? b=some u):HOk P w H h':=fun a o e=>
 (x a o e).stay (fun b u _ q=>k b u q) (fun _ q=>q) fun _ _ q=>q
theorem HOk.laid(x:HOk P w H h)(k:∀b u,h.get? b=some u->h'.get? b=some u)(hp:h.objs.size<=a)(new:dR P w (upd H a o) h' a o):HOk P w (upd H a o) h':=fun b u e=>by
 have hn:=x.fresh hp
 by_cases hb:b=a
 ·subst hb;rw[ay] at e;cases e;exact new
 ·rw[aB hb] at e
  exact(x b u e).stay (fun c v _ q=>k c v q) (fun c q=>by rw[aB (bB q hn)];exact q) fun c xs q=>by rw[aB (bB q hn)];exact q
end
def Rd(H:Hp)(a:Addr)(u:HO):Prop:=H a=some u\/∃o,H a=some (.frz o u)
theorem Rd.ok{P:Md}{w:Ml}{H:Hp}{h:Heap}{a:Addr}{u:HO}(r:Rd H a u)(x:HOk P w H h):dR P w H h a u:=by
 rcases r with r | ⟨o,r⟩
 ·exact x a u r
 ·obtain⟨_,q⟩:=x a _ r
  exact q
def Mut:Option HO->Prop
 | some (.lst _)=>True
 | some (.dK _)=>True
 | some (.dT _)=>True
 | some (.set _ _)=>True
 | some (.ins _ _ _)=>True
 | some (.ext _)=>True
 | _=>False
section
variable{P : Md}{w : Ml}{H : Hp}{h h' : Heap}{x e : Addr}{o' : HO}
theorem HOk.write(ok:HOk P w H h)(mu:Mut (H x))(he:e=x\/H e=some (.own x))(k:∀b u,b≠e->h.get? b=some u->h'.get? b=some u)(heo:∃u,h'.get? e=some u)
  (new:dR P w (upd H x o') h' x o'):HOk P w (upd H x o') h':=fun b u q=>by
 have nown:∀c y,H c=some (.own y)->c≠x:=fun c y r z=>by subst z;rw[r] at mu;exact mu
 have ntup:∀c xs,H c=some (.tup xs)->c≠x:=fun c xs r z=>by subst z;rw[r] at mu;exact mu
 by_cases hb:b=x
 ·subst hb;rw[ay] at q;cases q;exact new
 ·rw[aB hb] at q
  by_cases hbe:b=e
  ·have q':H b=some (.own x):=by
    rcases he with z | z
    ·exact absurd (hbe.trans z) hb
    ·rw[hbe];exact z
   rw[q] at q';cases q';obtain⟨v,hv⟩:=heo;exact⟨v,by rw[hbe];exact hv⟩
  ·refine(ok b u q).stay (fun c v hc r=>k c v ?_ r) (fun c r=>by rw[aB (nown c b r)];exact r) fun c xs r=>by rw[aB (ntup c xs r)];exact r
   rcases hc with rfl | hc
   ·exact hbe
   ·rintro rfl
    rcases he with z | z
    ·exact nown c b hc z
    ·rw[hc] at z;cases z;exact hb rfl
end
structure Un(fs ex:List Addr)(H H':Hp)(h h':Heap):Prop where
 keep:∀b o,h.get? b=some o->H b=none->b ∉ fs->b ∉ ex->h'.get? b=some o
 slot:∀b o,h.get? b=some o->H b=none->b∈fs->b ∉ ex->∃sl,h'.get? b=some { o with slots:=sl }
 free:∀b o,h.get? b=some o->H b=none->b ∉ ex->H' b=none
 there:∀b o,h.get? b=some o->b ∉ ex->∃o',h'.get? b=some o'
 tups:∀b xs,H b=some (.tup xs)->H' b=some (.tup xs)
 frzs:∀b o u,H b=some (.frz o u)->H' b=some (.frz o u)
 tbls:∀b ps,H b=some (.tbl ps)->∃more,H' b=some (.tbl (ps++more))
section
variable{fs fs' ex ex' : List Addr}{H H1 H2 : Hp}{h h1 h2 h' : Heap}{a x e : Addr}{o : HO}
theorem Un.any(u:Un fs ex H H1 h h1){b:Addr}{ob:Obj}(q:h.get? b=some ob)(n:H b=none)(hx:b ∉ ex):∃sl,h1.get? b=some { ob with slots:=sl }:=by
 by_cases hb:b∈fs
 ·exact u.slot b ob q n hb hx
 ·exact⟨ob.slots,u.keep b ob q n hb hx⟩
theorem Un.kept(k:∀b u,h.get? b=some u->h'.get? b=some u):Un fs ex H H h h':=
 ⟨fun b ob q _ _ _=>k b ob q,fun b ob q _ _ _=>⟨ob.slots,k b ob q⟩,fun _ _ _ n _=>n,fun b ob q _=>⟨ob,k b ob q⟩,fun _ _ q=>q,fun _ _ _ q=>q,fun _ ps q=>⟨#[],by rw[q];simp⟩⟩
theorem Un.refl:Un fs ex H H h h:=Un.kept fun _ _ q=>q
theorem Un.laid(k:∀b u,h.get? b=some u->h'.get? b=some u)(hp:h.objs.size<=a)(hn:H a=none):Un fs ex H (upd H a o) h h' where
 keep:=fun b u q _ _ _=>k b u q
 slot:=fun b u q _ _ _=>⟨u.slots,k b u q⟩
 free:=fun b u q n _=>by rw[aB (Mp (MW (MY q) hp))];exact n
 there:=fun b u q _=>⟨u,k b u q⟩
 tups:=fun b xs q=>by rw[aB (bB q hn)];exact q
 frzs:=fun b u xs q=>by rw[aB (bB q hn)];exact q
 tbls:=fun b ps q=>⟨#[],by rw[aB (bB q hn),q];simp⟩
theorem Un.write(mu:Mut (H x))(he:e=x\/H e=some (.own x))(k:∀b u,b≠e->h.get? b=some u->h'.get? b=some u)(heo:∃u,h'.get? e=some u):Un fs ex H (upd H x o) h h':=by
 have hx:∀b,H b=none->b≠x:=fun b n z=>by subst z;rw[n] at mu;exact mu
 have hb:∀b,H b=none->b≠e:=fun b n z=>by
  subst z;rcases he with r | r
  ·exact hx b n r
  ·rw[n] at r;cases r
 have hm:∀b u,H b=some u->¬ Mut (some u)->b≠x:=fun b u q nm z=>by subst z;rw[q] at mu;exact nm mu
 refine⟨fun b u q n _ _=>k b u (hb b n) q,fun b u q n _ _=>⟨u.slots,k b u (hb b n) q⟩,fun b u q n _=>by rw[aB (hx b n)];exact n,fun b u q _=>?_,
  fun b xs q=>by rw[aB (hm b _ q fun z=>z)];exact q,fun b u xs q=>by rw[aB (hm b _ q fun z=>z)];exact q,fun b ps q=>⟨#[],by rw[aB (hm b _ q fun z=>z),q];simp⟩⟩
 by_cases hbe:b=e
 ·subst hbe;exact heo
 ·exact⟨u,k b u hbe q⟩
end
def trk(h:Heap)(H:Hp):List Addr:=(MX h.objs.size).filter fun a=>(H a).isSome
def zR(h:Heap)(H:Hp):Heap:=PySem.W.hideAll h (trk h H)
theorem x4(h:Heap)(H:Hp):(zR h H).objs.size=h.objs.size:=PySem.W.hideAll_size _ _
theorem zQ{h:Heap}{H:Hp}{b:Addr}{o:Obj}(e:h.get? b=some o)(n:H b=none):(zR h H).get? b=some o:=
 PySem.W.hideAll_get _ e fun hm=>by
  have q:(H b).isSome=true:=(Nj.mp hm).2;rw[n] at q;simp at q
theorem CF{h:Heap}{H:Hp}{b:Addr}{o:Obj}(e:(zR h H).get? b=some o):h.get? b=some o/\H b=none:=by
 have e':h.get? b=some o:=PySem.W.of_hideAll (trk h H) e;refine⟨e',?_⟩;cases q:H b with
 | none=>rfl
 | some x=>
  have hm:b∈trk h H:=Nj.mpr ⟨NT.mpr (MY e'),by simp[q]⟩;have z:(zR h H).get? b=none:=PySem.W.hideAll_none (trk h H) hm;rw[z] at e;cases e
def E5(g h:Heap)(L:Addr):List (Addr×Obj):=(MX h.objs.size).filterMap fun a=>if a=L\/(g.get? a).isSome=true then none else (h.get? a).map fun o=>(a,o)
def rest(g h:Heap)(L d:Addr):List (Addr×Obj):=(E5 g h L).filter fun p=>decide (p.1≠d)
end L2
namespace L2
open PySem PySem.Spec PyProof.Rows
structure Mod(K:M8)(mg:Str->Option M9)(base:Heap):Prop where
 kin:K.In base
 glob:base.Ns mainGlobals mg
 blt:∃mb,base.Ns NR mb/\∀x:Str,x≠"__name__"->mb x=OX x
 nolimit:base.NoLimit
structure Cx where
 prog:Md
 w:Ml
 K:M8
 mg:Str->Option M9
 base:Heap
 A:Mt
 N:List Str
 s₀:MD
 H₀:Hp
 env:RB
 outer:List RB
 stack:List RB
 ex:List Addr
 fn:Str->Bool
 calm:Bool
 pn:List (Addr×Obj)
 xe:M9->MD->Prop
def frs(l:List RB):List Addr:=l.filterMap (·.frame)
abbrev Cx.fs(X:Cx):List Addr:=frs X.outer
def Vis(sc:Scope)(x:Str):Prop:=sc.names.lookup x=some .local\/sc.names.lookup x=some .cell\/sc.names.lookup x=some .free
def Loc(sc:Scope)(x:Str):Prop:=sc.names.lookup x=some .local\/sc.names.lookup x=some .cell
def Look(env:RB)(h:Heap)(m:Str->Option M9)(x:Str)(u:M9):Prop:=
 (env.kindOf x=some .local/\m x=some u)\/((env.kindOf x=some .cell\/env.kindOf x=some .free)/\∃c,env.cells.lookup x=some c/\h.IsCell c (some u))
structure Cx.Ok(X:Cx):Prop where
 mod:Mod X.K X.mg X.base
 kind:X.env.scope.kind=.function
 glob:X.env.globals=mainGlobals
 blt:X.env.builtins=NR
 above:X.s₀.heap.objs.size<=X.env.locals
 inj:∀x y c,X.env.cells.lookup x=some c->X.env.cells.lookup y=some c->x=y
 has:∀x,(X.env.kindOf x=some .cell\/X.env.kindOf x=some .free)->∃c,X.env.cells.lookup x=some c
 cab:∀x c,X.fn x=true->X.env.cells.lookup x=some c->X.s₀.heap.objs.size<=c
 hd:X.calm=true->X.A.handled=none
 frames:X.A.frames=some X.stack
 stk:X.stack=X.outer\/(X.stack=X.env::X.outer/\X.env.frame=some X.env.locals)
 exf:∀b∈X.ex,b≠X.env.locals/\∀x c,X.env.cells.lookup x=some c->c≠b
 bs:∀b o,X.base.get? b=some o->X.s₀.heap.get? b=some o/\X.H₀ b=none
 bsz:X.base.objs.size<=X.s₀.heap.objs.size
 noex:∀b o,X.base.get? b=some o->b ∉ X.ex
 exfs:∀b∈X.ex,b ∉ X.fs
 funs:X.s₀.heap.FunFrames X.base X.outer
 frf:∀b∈X.fs,X.H₀ b=none
structure Inv(X:Cx)(pins:List (Addr×Obj))(σ:List (Option V))(H:Hp)(s:MD):Prop where
 ok:X.Ok
 os:s.os=X.s₀.os
 bare:QZ s.gens
 base:Un X.fs X.ex X.H₀ H X.s₀.heap s.heap
 loc:∃m,s.heap.Ns X.env.locals m/\∀(i:Nat)(x:Str)(v:V),X.N[i]?=some x->σ[i]?=some (some v)->Vis X.env.scope x->∃u,RelV v u/\Look X.env s.heap m x u
 cell:∀x c,X.env.cells.lookup x=some c->∃v,s.heap.IsCell c v
 free:H X.env.locals=none
 freeC:∀x c,X.env.cells.lookup x=some c->H c=none
 pin:∀p∈X.pn++pins,s.heap.get? p.1=some p.2/\H p.1=none/\p.1≠X.env.locals/\p.1 ∉ X.fs/\∀v,p.2.data≠.cell v
 hok:HOk X.prog X.w H s.heap
 len:σ.length=X.N.length
section
variable{X : Cx}{pins : List (Addr×Obj)}{σ : List (Option V)}{H H' : Hp}{s : MD}{h' : Heap}
theorem Cx.Ok.nofr(ok:X.Ok){b:Addr}{o:Obj}(e:X.base.get? b=some o):b ∉ X.fs:=fun hb=>by
 have:=(ok.funs.mem hb).1;rw[e] at this;cases this
theorem Inv.bs(I:Inv X pins σ H s):∀b o,X.base.get? b=some o->s.heap.get? b=some o/\H b=none:=fun b o e=>
 ⟨I.base.keep b o (I.ok.bs b o e).1 (I.ok.bs b o e).2 (I.ok.nofr e) (I.ok.noex b o e),I.base.free b o (I.ok.bs b o e).1 (I.ok.bs b o e).2 (I.ok.noex b o e)⟩
theorem Inv.bk(I:Inv X pins σ H s):∀b o,X.base.get? b=some o->s.heap.get? b=some o:=fun b o e=>(I.bs b o e).1
theorem Inv.mod(I:Inv X pins σ H s):Mod X.K X.mg X.base:=I.ok.mod
theorem Inv.kIn(I:Inv X pins σ H s):X.K.In s.heap:=I.ok.mod.kin.keeps I.bk
theorem Inv.lt(I:Inv X pins σ H s):X.env.locals<s.heap.objs.size:=let ⟨_,hn,_⟩:=I.loc;hn.lt
theorem Inv.sz(I:Inv X pins σ H s):X.s₀.heap.objs.size<=s.heap.objs.size:=NB I.ok.above (RG I.lt)
theorem Inv.nofs(I:Inv X pins σ H s){a:Addr}(h:s.heap.objs.size<=a):a ∉ X.fs:=fun hb=>by
 obtain⟨_,o,ho,_⟩:=I.ok.funs.mem hb;exact absurd (MW (MY ho) (NB I.sz h)) (Nb _)
theorem Inv.cne(I:Inv X pins σ H s):∀x c,X.env.cells.lookup x=some c->c≠X.env.locals:=fun x c e z=>by
 obtain⟨v,o,ho,hd⟩:=I.cell x c e;obtain⟨m,⟨o',es,ep,ho',hd',_⟩,_⟩:=I.loc;rw[z,ho'] at ho;cases ho;rw[hd'] at hd;cases hd
theorem Inv.funs(I:Inv X pins σ H s):s.heap.FunFrames X.base X.outer:=by
 have all:∀(l:List RB),(∀b∈frs l,b∈X.fs)->X.s₀.heap.FunFrames X.base l->s.heap.FunFrames X.base l:=by
  intro l
  induction l with
  | nil=>intro _ _;trivial
  | cons env r ih=>
   intro hs hl;obtain⟨hk,⟨L,o,hf,hn,ho,hd⟩,hr⟩:=hl;have hL:L∈X.fs:=hs L (by unfold frs;rw[OF,hf];exact Mh);obtain⟨sl,e⟩:=I.base.slot L o ho (I.ok.frf L hL) hL fun z=>I.ok.exfs L z hL;exact⟨hk,⟨L,_,hf,hn,e,hd⟩,ih (fun b hb=>hs b (by unfold frs;rw[OF,hf];exact Me _ hb)) hr⟩
 exact all X.outer (fun _ hb=>hb) I.ok.funs
theorem Inv.stack(I:Inv X pins σ H s):s.heap.FunFrames X.base X.stack:=by
 rcases I.ok.stk with e | ⟨e,hf⟩
 ·rw[e];exact I.funs
 ·rw[e]
  obtain⟨m,hn,_⟩:=I.loc;refine .cons (by rw[I.ok.kind];decide) hf hn ?_ I.funs;exact Ss (NB I.ok.bsz I.ok.above)
theorem Inv.stkSub(I:Inv X pins σ H s):∀b∈frs X.stack,b∈X.env.locals::X.fs:=fun b hb=>by
 rcases I.ok.stk with e | ⟨e,hf⟩
 ·rw[e] at hb;exact Me _ hb
 ·rw[e] at hb
  unfold frs at hb;rw[OF,hf] at hb;exact hb
theorem Inv.stkFree(I:Inv X pins σ H s):∀b∈frs X.stack,H b=none:=fun b hb=>by
 rcases MP.mp (I.stkSub b hb) with e | hb
 ·rw[e];exact I.free
 ·obtain⟨_,o,ho,_⟩:=I.ok.funs.mem hb
  exact I.base.free b o ho (I.ok.frf b hb) fun z=>I.ok.exfs b z hb
theorem Inv.step{g':Array GenState}{t':Nat}{d':Drawn}{ch:List Addr}(I:Inv X pins σ H s)
  (hch:∀b∈ch,(b∈X.ex\/X.s₀.heap.objs.size<=b)/\b≠X.env.locals/\(∀x c,X.env.cells.lookup x=some c->c≠b)/\∀p∈X.pn++pins,p.1≠b)
  (keep:∀b o,b≠X.env.locals->b ∉ X.fs->b ∉ ch->s.heap.get? b=some o->H b=none->h'.get? b=some o)
  (slot:∀b o,b≠X.env.locals->b∈X.fs->b ∉ ch->s.heap.get? b=some o->H b=none->∃sl,h'.get? b=some { o with slots:=sl }) (free:∀b o,b ∉ ch->s.heap.get? b=some o->H b=none->H' b=none)
  (there:∀b o,b ∉ ch->s.heap.get? b=some o->∃o',h'.get? b=some o')
  (tups:∀b xs,H b=some (.tup xs)->H' b=some (.tup xs)) (frzs:∀b o u,H b=some (.frz o u)->H' b=some (.frz o u)) (tbls:∀b ps,H b=some (.tbl ps)->∃more,H' b=some (.tbl (ps++more)))
  (ns:∀m,s.heap.Ns X.env.locals m->h'.Ns X.env.locals m) (hok:HOk X.prog X.w H' h') (hg:QZ g') :
  Inv X pins σ H' { s with heap:=h',gens:=g',drawn:=d',toks:=t' }:=by
 have neL:∀b o,X.s₀.heap.get? b=some o->b≠X.env.locals:=fun b o e=>Mp (MW (MY e) I.ok.above)
 have neC:∀b o,X.s₀.heap.get? b=some o->b ∉ X.ex->b ∉ ch:=fun b o e hx hb=>by
  rcases (hch b hb).1 with z | z
  ·exact hx z
  ·exact absurd (MW (MY e) z) (Nb _)
 have cellK:∀x c,X.env.cells.lookup x=some c->∀v,s.heap.IsCell c v->h'.IsCell c v:=fun x c e v ⟨o,ho,hd⟩=>by
  have nch:c ∉ ch:=fun z=>(hch c z).2.2.1 x c e rfl
  by_cases hc:c∈X.fs
  ·obtain⟨sl,q⟩:=slot c o (I.cne x c e) hc nch ho (I.freeC x c e)
   exact⟨_,q,hd⟩
  ·exact⟨o,keep c o (I.cne x c e) hc nch ho (I.freeC x c e),hd⟩
 refine⟨I.ok,I.os,hg,⟨fun b o e n hb hx=>?_,fun b o e n hb hx=>?_,fun b o e n hx=>?_,fun b o e hx=>?_,fun b xs e=>tups b xs (I.base.tups b xs e),fun b o xs e=>frzs b o xs (I.base.frzs b o xs e),fun b ps e=>?_⟩,?_,fun x c e=>?_,?_,fun x c e=>?_,fun p hp=>?_,hok,I.len⟩
 ·exact keep b o (neL b o e) hb (neC b o e hx) (I.base.keep b o e n hb hx) (I.base.free b o e n hx)
 ·obtain⟨sl,e1⟩:=I.base.slot b o e n hb hx
  obtain⟨sl',e2⟩:=slot b _ (neL b o e) hb (neC b o e hx) e1 (I.base.free b o e n hx);exact⟨sl',e2⟩
 ·obtain⟨o',e1⟩:=I.base.there b o e hx
  exact free b o' (neC b o e hx) e1 (I.base.free b o e n hx)
 ·obtain⟨o',e1⟩:=I.base.there b o e hx
  exact there b o' (neC b o e hx) e1
 ·obtain⟨m1,e1⟩:=I.base.tbls b ps e
  obtain⟨m2,e2⟩:=tbls b _ e1;exact⟨m1++m2,by rw[e2,Array.append_assoc]⟩
 ·obtain⟨m,hn,hl⟩:=I.loc
  refine⟨m,ns m hn,fun i x v e1 e2 e3=>?_⟩;obtain⟨u,r,l⟩:=hl i x v e1 e2 e3;refine⟨u,r,?_⟩;rcases l with l | ⟨k,c,e,z⟩
  ·exact .inl l
  ·exact .inr ⟨k,c,e,cellK x c e _ z⟩
 ·obtain⟨v,z⟩:=I.cell x c e
  exact⟨v,cellK x c e v z⟩
 ·obtain⟨m,⟨o,_,_,ho,_⟩,_⟩:=I.loc
  exact free _ o (fun z=>(hch _ z).2.1 rfl) ho I.free
 ·obtain⟨v,o,ho,hd⟩:=I.cell x c e
  exact free c o (fun z=>(hch c z).2.2.1 x c e rfl) ho (I.freeC x c e)
 ·obtain⟨e,n,ne,nf,d⟩:=I.pin p hp
  have nch:p.1 ∉ ch:=fun z=>(hch p.1 z).2.2.2 p hp rfl;exact⟨keep p.1 p.2 ne nf nch e n,free p.1 p.2 nch e n,ne,nf,d⟩
theorem Inv.un{t':Nat}(I:Inv X pins σ H s)(u:Un X.fs [] H H' s.heap h')(hok:HOk X.prog X.w H' h'):Inv X pins σ H' { s with heap:=h',toks:=t' }:=by
 obtain⟨m,⟨o,es,ep,ho,r⟩,_⟩:=id I.loc;obtain⟨sl,hL⟩:=u.any ho I.free (by simp)
 exact I.step (g':=s.gens) (d':=s.drawn) (ch:=[]) (fun _ z=>nomatch z) (fun b o _ hb _ e n=>u.keep b o e n hb (by simp)) (fun b o _ hb _ e n=>u.slot b o e n hb (by simp)) (fun b o _ e n=>u.free b o e n (by simp)) (fun b o _ e=>u.there b o e (by simp)) u.tups u.frzs u.tbls (fun m' hm=>by
  obtain⟨o',es',ep',ho',r'⟩:=hm;rw[ho] at ho';cases ho';exact⟨_,es',ep',hL,r'⟩) hok I.bare
theorem Inv.call{g':Array GenState}{t':Nat}{d':Drawn}{ch:List Addr}(I:Inv X pins σ H s)(u:Un (frs X.stack) ch H H' s.heap h')(hok:HOk X.prog X.w H' h')(hg:QZ g')
  (hch:∀b∈ch,(b∈X.ex\/X.s₀.heap.objs.size<=b)/\b≠X.env.locals/\(∀x c,X.env.cells.lookup x=some c->c≠b)/\∀p∈X.pn++pins,p.1≠b) :
  Inv X pins σ H' { s with heap:=h',gens:=g',drawn:=d',toks:=t' }:=by
 obtain⟨m,⟨o,es,ep,ho,r⟩,_⟩:=id I.loc;obtain⟨sl,hL⟩:=u.any ho I.free fun z=>(hch _ z).2.1 rfl
 exact I.step (ch:=ch) hch (fun b o hL hb hc e n=>u.keep b o e n (fun z=>(MP.mp (I.stkSub b z)).elim hL hb) hc) (fun b o _ _ hc e n=>u.any e n hc) (fun b o hc e n=>u.free b o e n hc) (fun b o hc e=>u.there b o e hc) u.tups u.frzs u.tbls (fun m' hm=>by
  obtain⟨o',es',ep',ho',r'⟩:=hm;rw[ho] at ho';cases ho';exact⟨_,es',ep',hL,r'⟩) hok hg
theorem Inv.turned{t':Nat}{it:Addr}(I:Inv X pins σ H s)(k:∀b o,b≠it->s.heap.get? b=some o->h'.get? b=some o)(hn:H it=none)(hL:it≠X.env.locals)
  (h1:it∈X.ex\/X.s₀.heap.objs.size<=it) (h2:∀x c,X.env.cells.lookup x=some c->c≠it) (h3:∀p∈X.pn++pins,p.1≠it):Inv X pins σ H { s with heap:=h',toks:=t' }:=by
 have nit:∀b u,H b=some u->b≠it:=fun b u e z=>by rw[z,hn] at e;cases e
 refine I.step (g':=s.gens) (d':=s.drawn) (ch:=[it]) (fun b hb=>?_) (fun b o _ _ hc e _=>k b o (fun z=>hc (by simp[z])) e) (fun b o _ _ hc e _=>⟨o.slots,k b o (fun z=>hc (by simp[z])) e⟩) (fun _ _ _ _ n=>n)
  (fun b o hc e=>⟨o,k b o (fun z=>hc (by simp[z])) e⟩) (fun _ _ e=>e) (fun _ _ _ e=>e) (fun b ps e=>⟨#[],by rw[e];simp⟩) (fun m hm=>?_) (fun b u e=>?_) I.bare
 ·have e:b=it:=by simpa using hb
  subst e;exact⟨h1,hL,h2,h3⟩
 ·obtain⟨o,es,ep,ho,r⟩:=hm
  exact⟨o,es,ep,k _ o (Oc hL) ho,r⟩
 ·refine(I.hok b u e).stay (fun c v hc q=>k c v ?_ q) (fun _ q=>q) fun _ _ q=>q
  rcases hc with z | z
  ·rw[z];exact nit b u e
  ·exact nit c _ z
theorem Inv.tok(I:Inv X pins σ H s)(t:Nat):Inv X pins σ H { s with toks:=t }:=I.un (h':=s.heap) (t':=t) Un.refl I.hok
theorem Inv.kept{t':Nat}(I:Inv X pins σ H s)(k:∀b u,s.heap.get? b=some u->h'.get? b=some u):Inv X pins σ H { s with heap:=h',toks:=t' }:=I.un (Un.kept k) (I.hok.kept k)
theorem Inv.laid{a:Addr}{o:HO}{t':Nat}(I:Inv X pins σ H s)(k:∀b u,s.heap.get? b=some u->h'.get? b=some u)(hp:s.heap.objs.size<=a)(new:dR X.prog X.w (upd H a o) h' a o) :
  Inv X pins σ (upd H a o) { s with heap:=h',toks:=t' }:=I.un (Un.laid k hp (I.hok.fresh hp)) (I.hok.laid k hp new)
theorem Inv.write{x e:Addr}{o:HO}{t':Nat}(I:Inv X pins σ H s)(mu:Mut (H x))(he:e=x\/H e=some (.own x))(k:∀b u,b≠e->s.heap.get? b=some u->h'.get? b=some u)(heo:∃u,h'.get? e=some u)
  (new:dR X.prog X.w (upd H x o) h' x o):Inv X pins σ (upd H x o) { s with heap:=h',toks:=t' }:=I.un (Un.write mu he k heo) (I.hok.write mu he k heo new)
theorem Inv.pins_of{pins':List (Addr×Obj)}(I:Inv X pins σ H s)(h:∀p∈pins',s.heap.get? p.1=some p.2/\H p.1=none/\p.1≠X.env.locals/\p.1 ∉ X.fs/\∀v,p.2.data≠.cell v):Inv X pins' σ H s:=
 ⟨I.ok,I.os,I.bare,I.base,I.loc,I.cell,I.free,I.freeC,fun p hp=>(Mz.mp hp).elim (fun z=>I.pin p (Oe _ z)) (h p),I.hok,I.len⟩
theorem sR{N:List Str}(hN:N.Nodup){i j:Nat}{x:Str}(a:N[i]?=some x)(b:N[j]?=some x):i=j:=by
 obtain⟨h1,e1⟩:=MB.mp a;obtain⟨h2,e2⟩:=MB.mp b;exact(RT hN).mp (e1.trans e2.symm)
theorem vx{M:Model}{A:Mt}{E:M9->MD->Prop}{i:Nat}{x:Str}{v:V}{u:M9}{Q:Unit->MD->Prop}(I:Inv X pins σ H s)(hN:X.N.Nodup)(hi:X.N[i]?=some x)(hx:Loc X.env.scope x)(r:RelV v u)
  (h:∀s',Inv X pins (σ.set i (some v)) H s'->(∃a,OM a s.heap s'.heap/\(a=X.env.locals\/X.env.cells.lookup x=some a))->Q () s') (hf:X.fn x=true\/X.env.scope.names.lookup x=some .local:=by first | exact .inl rfl | exact .inr rfl | assumption):Mf M A (TJ X.env x u) Q E s:=by
 obtain⟨m,hn,hl⟩:=id I.loc;have hcls:(X.env.scope.kind == .class || (X.env.scope.kind == .module && X.env.locals != X.env.globals))=false:=by rw[I.ok.kind];rfl
 have hiσ:i<σ.length:=by rw[I.len];exact(MB.mp hi).1
 have cne:=I.cne
 have tracked:∀{a:Addr}{h':Heap},(∃o,s.heap.get? a=some o/\H a=none)->OM a s.heap h'->HOk X.prog X.w H h':=fun {a h'} ha hs b ob e=>by
  obtain⟨_,_,hfree⟩:=ha;refine(I.hok b ob e).stay (fun c w' hc q=>(hs.2 c ?_).trans q) (fun _ q=>q) fun _ _ q=>q;rintro rfl;rcases hc with rfl | hc
  ·rw[hfree] at e;cases e
  ·rw[hfree] at hc;cases hc
 rcases hx with hk | hk
 ·refine wpAny_storeName_local hk hn (fun h' hn' hs=>?_) hcls
  obtain⟨oL,_,_,hoL,_⟩:=id hn;refine h _ ⟨I.ok,I.os,I.bare,⟨fun b o e n hb hx=>?_,fun b o e n hb hx=>?_,I.base.free,fun b o e hx=>?_,I.base.tups,I.base.frzs,I.base.tbls⟩,⟨_,hn',fun j y v' e1 e2 e3=>?_⟩,fun y c e=>?_,I.free,I.freeC,fun p hp=>?_,tracked ⟨oL,hoL,I.free⟩ hs,by simpa using I.len⟩ ⟨_,hs,.inl rfl⟩
  ·exact(hs.2 b (Mp (MW (MY e) I.ok.above))).trans (I.base.keep b o e n hb hx)
  ·obtain⟨sl,e1⟩:=I.base.slot b o e n hb hx
   exact⟨sl,(hs.2 b (Mp (MW (MY e) I.ok.above))).trans e1⟩
  ·obtain⟨o',e1⟩:=I.base.there b o e hx
   exact⟨o',(hs.2 b (Mp (MW (MY e) I.ok.above))).trans e1⟩
  ·by_cases hj:j=i
   ·subst hj
    rw[hi] at e1;cases e1;rw[QK hiσ] at e2;cases e2;exact⟨u,r,.inl ⟨hk,by simp⟩⟩
   ·rw[Pf (Oc hj)] at e2
    obtain⟨u',r',q⟩:=hl j y v' e1 e2 e3;refine⟨u',r',?_⟩;rcases q with⟨k,e⟩|⟨k,c,e,z⟩
    ·refine .inl ⟨k,?_⟩
     have:y≠x:=fun e=>hj (sR hN e1 (e▸hi));simp[this,e]
    ·exact .inr ⟨k,c,e,z.sameBut hs (cne y c e)⟩
  ·obtain⟨w',z⟩:=I.cell y c e
   exact⟨w',z.sameBut hs (cne y c e)⟩
  ·obtain⟨e,n,ne,nf,d⟩:=I.pin p hp
   exact⟨(hs.2 p.1 ne).trans e,n,ne,nf,d⟩
 ·have hfn:X.fn x=true:=by
   rcases hf with z | z
   ·exact z
   ·rw[z] at hk;cases hk
  obtain⟨c,hc⟩:=I.ok.has x (.inl hk);obtain⟨w',z⟩:=I.cell x c hc;refine wpAny_storeName_cell I.ok.kind hk hc z (fun h' hc' hs=>?_);obtain⟨oc,hoc,hocd⟩:=id z;refine h { s with heap:=h' } ⟨I.ok,I.os,I.bare,⟨fun b o e n hb hx=>?_,fun b o e n hb hx=>?_,I.base.free,fun b o e hx=>?_,I.base.tups,I.base.frzs,I.base.tbls⟩,⟨m,hn.sameBut hs (Oc (cne x c hc)),fun j y v' e1 e2 e3=>?_⟩,fun y c' e=>?_,I.free,I.freeC,fun p hp=>?_,tracked ⟨oc,hoc,I.freeC x c hc⟩ hs,by simpa using I.len⟩ ⟨c,hs,.inr hc⟩
  ·exact(hs.2 b (Mp (MW (MY e) (I.ok.cab x c hfn hc)))).trans (I.base.keep b o e n hb hx)
  ·obtain⟨sl,e1⟩:=I.base.slot b o e n hb hx
   exact⟨sl,(hs.2 b (Mp (MW (MY e) (I.ok.cab x c hfn hc)))).trans e1⟩
  ·obtain⟨o',e1⟩:=I.base.there b o e hx
   exact⟨o',(hs.2 b (Mp (MW (MY e) (I.ok.cab x c hfn hc)))).trans e1⟩
  ·by_cases hj:j=i
   ·subst hj
    rw[hi] at e1;cases e1;rw[QK hiσ] at e2;cases e2;exact⟨u,r,.inr ⟨.inl hk,c,hc,hc'⟩⟩
   ·rw[Pf (Oc hj)] at e2
    obtain⟨u',r',q⟩:=hl j y v' e1 e2 e3;refine⟨u',r',?_⟩;rcases q with q | ⟨k,c',e,z'⟩
    ·exact .inl q
    ·refine .inr ⟨k,c',e,z'.sameBut hs ?_⟩
     rintro rfl;exact hj (sR hN e1 (I.ok.inj _ _ _ e hc▸hi))
  ·by_cases hcc:c'=c
   ·subst hcc;exact⟨_,hc'⟩
   ·obtain⟨w2,z2⟩:=I.cell y c' e
    exact⟨w2,z2.sameBut hs hcc⟩
  ·obtain⟨e,n,ne,nf,d⟩:=I.pin p hp
   refine⟨(hs.2 p.1 ?_).trans e,n,ne,nf,d⟩;intro q;rw[q,hoc] at e;have q':oc=p.2:=Mq e;exact d w' (by rw[← q'];exact hocd)
theorem kM{M:Model}{A:Mt}{E:M9->MD->Prop}{i:Nat}{x:Str}{v:V}{u:M9}{Q:Unit->MD->Prop}(I:Inv X pins σ H s)(hN:X.N.Nodup)(hi:X.N[i]?=some x)(hx:Loc X.env.scope x)(r:RelV v u)
  (h:∀s',Inv X pins (σ.set i (some v)) H s'->Q () s') (hf:X.fn x=true\/X.env.scope.names.lookup x=some .local:=by first | exact .inl rfl | exact .inr rfl | assumption):Mf M A (TJ X.env x u) Q E s:=
 vx I hN hi hx r (fun s' I' _=>h s' I') hf
theorem Inv.call'{s':MD}{ch:List Addr}(I:Inv X pins σ H s)(ho:s'.os=s.os)(u:Un (frs X.stack) ch H H' s.heap s'.heap)(hok:HOk X.prog X.w H' s'.heap)(hg:QZ s'.gens)
  (hch:∀b∈ch,(b∈X.ex\/X.s₀.heap.objs.size<=b)/\b≠X.env.locals/\(∀x c,X.env.cells.lookup x=some c->c≠b)/\∀p∈X.pn++pins,p.1≠b):Inv X pins σ H' s':=by
 obtain⟨h',g',d',t',o'⟩:=s';have e:o'=s.os:=ho;subst e;exact I.call (g':=g') (t':=t') (d':=d') u hok hg hch
end
abbrev XK:=M9->Option Addr->Hp->Prop
abbrev St:=List (Option V)
abbrev VK:=V->Hp->Prop
abbrev TE:=St->Hp->VK->Prop
abbrev TT:=St->Hp->(Bool->Hp->Prop)->Prop
abbrev TA:=St->Hp->(List V->Hp->Prop)->Prop
structure Ends where
 nx:St->Hp->Prop
 rt:VK
 bk:St->Hp->Prop:=fun _ _=>False
 ct:St->Hp->Prop:=fun _ _=>False
abbrev TS:=Ends->St->Hp->Prop
def EP(X:Cx)(pins:List (Addr×Obj))(σ:St)(Q:VK)(u:M9)(s':MD):Prop:=∃v H',Inv X pins σ H' s'/\RelV v u/\Q v H'
def TP(X:Cx)(pins:List (Addr×Obj))(σ:St)(Q:Bool->Hp->Prop)(b:Bool)(s':MD):Prop:=∃H',Inv X pins σ H' s'/\Q b H'
def AP(X:Cx)(pins:List (Addr×Obj))(σ:St)(Q:List V->Hp->Prop)(us:List M9)(s':MD):Prop:=∃vs H',Inv X pins σ H' s'/\Vals vs us/\Q vs H'
def SP(X:Cx)(pins:List (Addr×Obj))(D:Ends)(f:Flow)(s':MD):Prop:=
 match f with
 | .next=>∃σ' H',Inv X pins σ' H' s'/\D.nx σ' H'
 | .brk=>∃σ' H',Inv X pins σ' H' s'/\D.bk σ' H'
 | .cont=>∃σ' H',Inv X pins σ' H' s'/\D.ct σ' H'
 | .ret u=>∃v σ' H',Inv X pins σ' H' s'/\RelV v u/\D.rt v H'
def PE(X:Cx)(e:Expr)(t:TE):Prop:=
 ∀(pins:List (Addr×Obj))(s:MD)(σ:St)(H:Hp)(Q:VK),Inv X pins σ H s->t σ H Q->Mf (Ms X.prog X.w) X.A (NJ e X.env) (EP X pins σ Q) X.xe s
def PT(X:Cx)(e:Expr)(t:TT):Prop:=
 ∀(pins:List (Addr×Obj))(s:MD)(σ:St)(H:Hp)(Q:Bool->Hp->Prop),Inv X pins σ H s->t σ H Q->Mf (Ms X.prog X.w) X.A (isTrue e X.env (NJ e X.env)) (TP X pins σ Q) X.xe s
def PW(X:Cx)(e:Expr)(t:TT):Prop:=
 ∀(whole:Sem M9)(pins:List (Addr×Obj))(s:MD)(σ:St)(H:Hp)(Q:Bool->Hp->Prop),Inv X pins σ H s->t σ H Q->Mf (Ms X.prog X.w) X.A (isTrue e X.env whole) (TP X pins σ Q) X.xe s
theorem PW.pt{X:Cx}{e:Expr}{t:TT}(h:PW X e t):PT X e t:=h _
def PA(X:Cx)(es:List Expr)(t:TA):Prop:=
 ∀(pos:Nt)(pins:List (Addr×Obj))(s:MD)(σ:St)(H:Hp)(Q:List V->Hp->Prop),Inv X pins σ H s->t σ H Q->Mf (Ms X.prog X.w) X.A (spliced (OJ pos (MZ es X.env))) (AP X pins σ Q) X.xe s
def PS(X:Cx)(st:Stmt)(t:TS):Prop:=
 ∀(pins:List (Addr×Obj))(s:MD)(σ:St)(H:Hp)(D:Ends),Inv X pins σ H s->t D σ H->Mf (Ms X.prog X.w) X.A (exec st X.env) (SP X pins D) X.xe s
def PSs(X:Cx)(st:List Stmt)(t:TS):Prop:=
 ∀(pins:List (Addr×Obj))(s:MD)(σ:St)(H:Hp)(D:Ends),Inv X pins σ H s->t D σ H->Mf (Ms X.prog X.w) X.A (execs st X.env) (SP X pins D) X.xe s
theorem thn{α:Type}{t:Sem α}{Q Q':α->MD->Prop}{M:Model}{A:Mt}{E:M9->MD->Prop}{s:MD}(h:Mf M A t Q E s)(hQ:∀a s,Q a s->Q' a s):Mf M A t Q' E s:=O1 h hQ fun _ _ x=>x
end L2
namespace L2
open PySem PySem.Spec PyProof.Rows
section
variable{X : Cx}
def KR(i:Nat):TE:=fun σ H Q=>∃v,σ[i]?=some (some v)/\Q v H
def tC(v:V):TE:=fun _ H Q=>Q v H
theorem fG {i:Nat} {x:Str} {pos:Nt} (hN:X.N[i]?=some x) (hv:Vis X.env.scope x) (hd:(x == ("__debug__":Str))=false:=by decide) (hcd:(x == ("__classdict__":Str))=false:=by decide):PE X (.Name x pos) (KR i):=by
 intro pins s σ H Q I h;obtain⟨v,e,h⟩:=h;obtain⟨m,hn,hl⟩:=I.loc;obtain⟨u,r,l⟩:=hl i x v hN e hv;have fin:EP X pins σ Q u s:=⟨v,H,I,r,h⟩;rcases l with⟨hk,hm⟩|⟨hk,c,hc,hcell⟩
 ·exact wpAny_Name (wpAny_loadName_local I.ok.kind hk hn hm fin) hd
 ·rcases hk with hk | hk
  ·exact wpAny_Name (wpAny_loadName_cell I.ok.kind hk hc hcell fin) hd
  ·exact wpAny_Name (wpAny_loadName_free I.ok.kind hk hc hcell fin hcd) hd
theorem FI{i j pos}:PE X (.Constant (.int i) j pos) (tC (.int i)):=fun _ _ _ H _ I h=>wpAny_Constant_int ⟨.int i,H,I.tok _,⟨_,rfl⟩,h⟩
theorem Jc{b j pos}:PE X (.Constant (.bool b) j pos) (tC (.bl b)):=fun _ _ _ H _ I h=>Constant_bool ⟨.bl b,H,I,rfl,h⟩
theorem FF{j pos}:PE X (.Constant .none j pos) (tC .non):=fun _ _ _ H _ I h=>Constant_none ⟨.non,H,I,rfl,h⟩
theorem FD{x j pos}:PE X (.Constant (.str x) j pos) (tC (.str x)):=fun _ _ _ H _ I h=>Calls.Constant_str ⟨.str x,H,I.tok _,⟨_,rfl⟩,h⟩
def Gl(X:Cx)(x:Str):Prop:=X.env.kindOf x=some .globalImplicit
theorem rj{E:M9->MD->Prop}{pins:List (Addr×Obj)}{s:MD}{σ:St}{H:Hp}{x:Str}{u:M9}{pos:Nt}{Q:M9->MD->Prop}(I:Inv X pins σ H s)(hg:Gl X x)(hm:X.mg x=some u)(h:Q u s)
  (hd:(x == ("__debug__":Str))=false:=by decide):Mf (Ms X.prog X.w) X.A (NJ (.Name x pos) X.env) Q E s:=
 Rh I.ok.kind hg (Calls.loadGlobal_global (by rw[I.ok.glob];exact I.mod.glob.keeps I.bk) hm h) hd
theorem nK{E:M9->MD->Prop}{pins:List (Addr×Obj)}{s:MD}{σ:St}{H:Hp}{x:Str}{u:M9}{pos:Nt}{Q:M9->MD->Prop}(I:Inv X pins σ H s)(hg:Gl X x)(hm:X.mg x=none)(hv:OX x=some u)(h:Q u s)
  (hn:x≠"__name__":=by decide) (hd:(x == ("__debug__":Str))=false:=by decide):Mf (Ms X.prog X.w) X.A (NJ (.Name x pos) X.env) Q E s:=by
 obtain⟨mb,h1,h2⟩:=I.mod.blt;exact Rh I.ok.kind hg (Calls.loadGlobal_builtin (by rw[I.ok.glob];exact I.mod.glob.keeps I.bk) hm (by rw[I.ok.blt];exact h1.keeps I.bk) ((h2 x hn).trans hv) h) hd
theorem Cy {x:Str} {v:V} {u:M9} {pos:Nt} (hg:Gl X x) (hm:X.mg x=some u) (r:RelV v u) (hd:(x == ("__debug__":Str))=false:=by decide):PE X (.Name x pos) (tC v):=
 fun _ _ _ H _ I h=>rj I hg hm ⟨v,H,I,r,h⟩ hd
variable{a b : Expr}{ta tb : TE}{pos : Nt}
variable{tA tB' : TT}{rest : List Expr}
def Lb(t u:TT):TT:=fun σ H Q=>t σ H fun c H1=>if c=true then u σ H1 Q else Q false H1
def tOr(t u:TT):TT:=fun σ H Q=>t σ H fun c H1=>if c=true then Q true H1 else u σ H1 Q
def L3(t:TT):TT:=fun σ H Q=>t σ H fun c H1=>Q (!c) H1
theorem Cm(ha:PT X a tA):PW X (.BoolOp .And [a] pos) tA:=by
 intro wh pins s σ H Q I h;refine isTrue_and (thn (ha pins s σ H Q I h) fun c s1 e=>?_);cases c with
 | true=>exact isTrue_and_nil e
 | false=>exact e
theorem Ft(ha:PT X a tA):PW X (.BoolOp .Or [a] pos) tA:=by
 intro wh pins s σ H Q I h;refine isTrue_or (thn (ha pins s σ H Q I h) fun c s1 e=>?_);cases c with
 | false=>exact isTrue_or_nil e
 | true=>exact e
theorem Fu(ha:PT X a tA)(hb:PW X (.BoolOp .And (b::rest) pos) tB'):PW X (.BoolOp .And (a::b::rest) pos) (Lb tA tB'):=by
 intro wh pins s σ H Q I h;refine isTrue_and (thn (ha pins s σ H _ I h) fun c s1 ⟨H1,I1,q1⟩=>?_);cases c with
 | true=>exact hb wh pins s1 σ H1 Q I1 q1
 | false=>exact⟨H1,I1,q1⟩
theorem J0(ha:PT X a tA)(hb:PW X (.BoolOp .Or (b::rest) pos) tB'):PW X (.BoolOp .Or (a::b::rest) pos) (tOr tA tB'):=by
 intro wh pins s σ H Q I h;refine isTrue_or (thn (ha pins s σ H _ I h) fun c s1 ⟨H1,I1,q1⟩=>?_);cases c with
 | true=>exact⟨H1,I1,q1⟩
 | false=>exact hb wh pins s1 σ H1 Q I1 q1
theorem Fw(ha:PT X a tA):PT X (.UnaryOp .Not a pos) (L3 tA):=by
 intro pins s σ H Q I h;exact isTrue_not (ha pins s σ H (fun c H1=>Q (!c) H1) I h)
def IJ(ta tb:TE):TE:=fun σ H Q=>ta σ H fun x H1=>∃c,x=.bl c/\if c=true then tb σ H1 Q else Q (.bl false) H1
theorem FE{op}{t:TE}(h:PE X a t):PE X (.BoolOp op [a] pos) t:=fun pins s σ H Q I hw=>BoolOp_one (h pins s σ H Q I hw)
theorem FJ(ha:PE X a ta)(hb:PE X (.BoolOp .And (b::rest) pos) tb):PE X (.BoolOp .And (a::b::rest) pos) (IJ ta tb):=by
 intro pins s σ H Q I h;refine BoolOp_and (thn (ha pins s σ H _ I h) fun v s1 ⟨x,H1,I1,r1,q1⟩=>?_);obtain⟨c,rfl,q1⟩:=q1;cases r1;refine OD ?_;cases c with
 | true=>exact hb pins s1 σ H1 Q I1 q1
 | false=>exact⟨.bl false,H1,I1,rfl,q1⟩
def tIf(t:TT)(ta tb:TE):TE:=fun σ H Q=>t σ H fun c H1=>if c=true then ta σ H1 Q else tb σ H1 Q
theorem zp{c:Expr}(hc:PT X c tA)(ha:PE X a ta)(hb:PE X b tb):PE X (.IfExp c a b pos) (tIf tA ta tb):=by
 intro pins s σ H Q I h;refine wpAny_IfExp (thn (hc pins s σ H _ I h) fun d s1 ⟨H1,I1,q1⟩=>?_);cases d with
 | true=>exact ha pins s1 σ H1 Q I1 q1
 | false=>exact hb pins s1 σ H1 Q I1 q1
end
end L2
namespace L2
open PySem PySem.Spec PyProof.Rows
def SqL(K:M8)(H:Hp)(a:Addr)(xs:List V):Prop:=
 Rd H a (.lst xs) ∨
  ∃(o:Obj) (its:Array M9) (n:Nat),K.lookup a=some o/\o.cls=.type "list"/\o.dict=none/\o.data=.seq its n/\its.size<=sizeLine/\Vals xs its.toList
def SqT(K:M8)(H:Hp)(a:Addr)(xs:List V):Prop:=
 Rd H a (.tup xs) ∨
  ∃(o:Obj) (its:Array M9) (n:Nat),K.lookup a=some o/\o.cls=.type "tuple"/\o.data=.seq its n/\its.size<=sizeLine/\Vals xs its.toList/\o.dict=none
def LP:M9->Option V
 | .none=>some .non
 | .bool b=>some (.bl b)
 | .int i _=>some (.int i)
 | .str x _=>some (.str x)
 | .bytes b _=>some (.byt b)
 | .float b _=>some (.flt b)
 | .ref a=>some (.ref a)
 | .type n=>some (.ty n)
 | _=>none
theorem RelV.abs{x:V}{u:M9}(r:RelV x u):LP u=some x:=by
 cases x with
 | non=>cases r;rfl
 | bl _=>cases r;rfl
 | int _=>obtain⟨t,rfl⟩:=r;rfl
 | str _=>obtain⟨t,rfl⟩:=r;rfl
 | byt _=>obtain⟨t,rfl⟩:=r;rfl
 | flt _=>obtain⟨t,rfl⟩:=r;rfl
 | ref _=>cases r;rfl
 | ty _=>cases r;rfl
theorem RelV.inj{x y:V}{u:M9}(r:RelV x u)(q:RelV y u):x=y:=Mq (r.abs.symm.trans q.abs)
theorem Vals.inj:∀{xs ys:List V}{us:List M9},Vals xs us->Vals ys us->xs=ys
 | _,_,_,.nil,.nil=>rfl
 | _,_,_,.cons r t,.cons r' t'=>by rw[r.inj r',Vals.inj t t']
section
variable{X : Cx}{pins : List (Addr×Obj)}{σ : St}{H : Hp}{s : MD}{a : Addr}{xs ys : List V}
theorem SqL.of{K:M8}(h:H a=some (.lst xs)):SqL K H a xs:=.inl (.inl h)
theorem Inv.list(I:Inv X pins σ H s)(h:SqL X.K H a xs):∃its:List M9,Vals xs its/\PlainL s.heap a its.toArray/\xs.length<=sizeLine:=by
 rcases h with h | ⟨o,its,n,hk,hc,hd,hs,hz,r⟩
 ·obtain⟨z,its,n,r,e⟩:=h.ok I.hok
  exact⟨its,r,⟨_,n,e,rfl,rfl,rfl⟩,z⟩
 ·refine⟨its.toList,r,⟨o,n,I.kIn a o hk,hc,hd,by simpa using hs⟩,?_⟩
  have e:=r.length;simp only[NI] at e;omega
theorem Inv.tuple(I:Inv X pins σ H s)(h:SqT X.K H a xs):∃its:List M9,Vals xs its/\IsTup s.heap a its.toArray/\xs.length<=sizeLine:=by
 rcases h with h | ⟨o,its,n,hk,hc,hs,hz,r,hdn⟩
 ·obtain⟨z,its,r,p⟩:=h.ok I.hok
  exact⟨its,r,p.up,z⟩
 ·refine⟨its.toList,r,⟨o,I.kIn a o hk,hc,n,by simpa using hs⟩,?_⟩
  have e:=r.length;simp only[NI] at e;omega
theorem Inv.tupleX(I:Inv X pins σ H s)(h:SqT X.K H a xs):∃its:List M9,Vals xs its/\Av s.heap a its.toArray/\xs.length<=sizeLine:=by
 rcases h with h | ⟨o,its,n,hk,hc,hs,hz,r,hdn⟩
 ·obtain⟨z,its,r,p⟩:=h.ok I.hok
  exact⟨its,r,p,z⟩
 ·refine⟨its.toList,r,⟨o,I.kIn a o hk,hc,⟨n,by simpa using hs⟩,fun _=>hdn⟩,?_⟩
  have e:=r.length;simp only[NI] at e;omega
theorem Inv.list_inj(I:Inv X pins σ H s)(h:SqL X.K H a xs)(h':SqL X.K H a ys):xs=ys:=by
 obtain⟨its,r,⟨o,n,e,_,_,d⟩,_⟩:=I.list h;obtain⟨its',r',⟨o',n',e',_,_,d'⟩,_⟩:=I.list h';rw[e] at e';cases e';rw[d] at d';injection d' with d1 _;have:its=its':=by simpa using congrArg Array.toList d1
 subst this;exact r.inj r'
theorem Inv.tuple_inj(I:Inv X pins σ H s)(h:SqT X.K H a xs)(h':SqT X.K H a ys):xs=ys:=by
 obtain⟨its,r,⟨o,e,_,n,d⟩,_⟩:=I.tuple h;obtain⟨its',r',⟨o',e',_,n',d'⟩,_⟩:=I.tuple h';rw[e] at e';cases e';rw[d] at d';injection d' with d1 _;have:its=its':=by simpa using congrArg Array.toList d1
 subst this;exact r.inj r'
end
abbrev Cx.wish(X:Cx)(E:M9->MD->Prop):Cx:={ X with xe:=E }
abbrev Cx.nox(X:Cx):Cx:=X.wish fun _ _=>False
theorem Cx.Ok.wish{X:Cx}(ok:X.Ok)(E:M9->MD->Prop):(X.wish E).Ok:=
 ⟨ok.mod,ok.kind,ok.glob,ok.blt,ok.above,ok.inj,ok.has,ok.cab,ok.hd,ok.frames,ok.stk,ok.exf,ok.bs,ok.bsz,ok.noex,ok.exfs,ok.funs,ok.frf⟩
theorem Cx.Ok.unwish{X:Cx}{E:M9->MD->Prop}(ok:(X.wish E).Ok):X.Ok:=
 ⟨ok.mod,ok.kind,ok.glob,ok.blt,ok.above,ok.inj,ok.has,ok.cab,ok.hd,ok.frames,ok.stk,ok.exf,ok.bs,ok.bsz,ok.noex,ok.exfs,ok.funs,ok.frf⟩
section
variable{X : Cx}{pins : List (Addr×Obj)}{σ : St}{H : Hp}{s : MD}{E : M9 → MD → Prop}
theorem Inv.wish(I:Inv X pins σ H s)(E:M9->MD->Prop):Inv (X.wish E) pins σ H s:=⟨I.ok.wish E,I.os,I.bare,I.base,I.loc,I.cell,I.free,I.freeC,I.pin,I.hok,I.len⟩
theorem Inv.unwish(I:Inv (X.wish E) pins σ H s):Inv X pins σ H s:=⟨I.ok.unwish,I.os,I.bare,I.base,I.loc,I.cell,I.free,I.freeC,I.pin,I.hok,I.len⟩
theorem SP.unwish{D:Ends}{f:Flow}{s':MD}(h:SP (X.wish E) pins D f s'):SP X pins D f s':=by
 cases f with
 | next=>obtain⟨σ',H',I,q⟩:=h;exact⟨σ',H',I.unwish,q⟩
 | brk=>obtain⟨σ',H',I,q⟩:=h;exact⟨σ',H',I.unwish,q⟩
 | cont=>obtain⟨σ',H',I,q⟩:=h;exact⟨σ',H',I.unwish,q⟩
 | ret u=>obtain⟨v,σ',H',I,r,q⟩:=h;exact⟨v,σ',H',I.unwish,r,q⟩
theorem PSs.nox{st:List Stmt}{t:TS}(h:PSs X.nox st t):PSs X st t:=fun pins s σ H D I hw=>
 O1 (h pins s σ H D (I.wish _) hw) (fun _ _ q=>q.unwish) fun _ _ z=>MI z
end
section
variable{X : Cx}{st : Stmt}{rest : List Stmt}{t u : TS}{e : Expr}{te : TE}{pos : Nt}
def ID:TS:=fun D σ H=>D.nx σ H
def KZ(t u:TS):TS:=fun D σ H=>t { D with nx:=u D } σ H
theorem qU:PSs X [] ID:=fun _ _ σ H _ I h=>Qb ⟨σ,H,I,h⟩
theorem i7(h1:PS X st t)(h2:PSs X rest u):PSs X (st::rest) (KZ t u):=by
 intro pins s σ H D I h;refine wpAny_execs_cons (thn (h1 pins s σ H { D with nx:=u D } I h) fun f s1 q=>?_);cases f with
 | next=>
  obtain⟨σ',H',I',q⟩:=q;exact h2 pins s1 σ' H' D I' q
 | ret v=>exact q
 | brk=>exact q
 | cont=>exact q
theorem lD(h1:PS X st t):PSs X [st] t:=by
 intro pins s σ H D I h;refine wpAny_execs_cons (thn (h1 pins s σ H D I h) fun f s1 q=>?_);cases f with
 | next=>exact Qb q
 | ret v=>exact q
 | brk=>exact q
 | cont=>exact q
def F8:TS:=fun D σ H=>D.bk σ H
theorem zj:PS X (.Break pos) F8:=fun _ _ σ H _ I h=>wpAny_Break ⟨σ,H,I,h⟩
theorem Inv.quiet{pins:List (Addr×Obj)}{σ:St}{H:Hp}{s:MD}(I:Inv X pins σ H s):interactive X.env=false:=by simp[interactive,I.ok.kind]
def IE(te:TE):TS:=fun D σ H=>te σ H fun _ H1=>D.nx σ H1
theorem vK(he:PE X e te)(hs:PH e none pos.line X.env=pure false:=by rfl):PS X (.Expr e pos) (IE te):=by
 intro pins s σ H D I h;exact wpAny_Expr_any (thn (he pins s σ H _ I h) fun v s1 ⟨x,H1,I1,r1,q1⟩=>⟨σ,H1,I1,q1⟩) I.quiet hs
def L0(te:TE):TS:=fun D σ H=>te σ H D.rt
theorem pH(he:PE X e te):PS X (.Return (some e) pos) (L0 te):=by
 intro pins s σ H D I h;exact wpAny_Return_some (thn (he pins s σ H _ I h) fun v s1 ⟨x,H1,I1,r1,q1⟩=>⟨x,σ,H1,I1,r1,q1⟩)
def L7(c:TT)(t u:TS):TS:=fun D σ H=>c σ H fun b H1=>if b=true then t D σ H1 else u D σ H1
theorem Cp{c:Expr}{a b:List Stmt}{tc:TT}(hc:PT X c tc)(ha:PSs X a t)(hb:PSs X b u):PS X (.If c a b pos) (L7 tc t u):=by
 intro pins s σ H D I h;refine wpAny_If (thn (hc pins s σ H _ I h) fun d s1 ⟨H1,I1,q1⟩=>?_);cases d with
 | true=>exact ha pins s1 σ H1 D I1 q1
 | false=>exact hb pins s1 σ H1 D I1 q1
end
abbrev TG:=V->St->Hp->(St->Hp->Prop)->Prop
abbrev TGs:=List V->St->Hp->(St->Hp->Prop)->Prop
def PG(X:Cx)(target:Expr)(t:TG):Prop:=
 ∀(pins:List (Addr×Obj))(s:MD)(σ:St)(H:Hp)(v:V)(u:M9)(Q:St->Hp->Prop),Inv X pins σ H s->RelV v u->t v σ H Q->
  Mf (Ms X.prog X.w) X.A (Qr target X.env u) (fun _ s'=>∃σ' H',Inv X pins σ' H' s'/\Q σ' H') X.xe s
def PGs(X:Cx)(ts:List Expr)(t:TGs):Prop:=
 ∀(pins:List (Addr×Obj))(s:MD)(σ:St)(H:Hp)(vs:List V)(us:List M9)(Q:St->Hp->Prop),Inv X pins σ H s->Vals vs us->t vs σ H Q->
  Mf (Ms X.prog X.w) X.A (assignInOrder ((O6 ts X.env).map (·.2)) us) (fun _ s'=>∃σ' H',Inv X pins σ' H' s'/\Q σ' H') X.xe s
abbrev LR:=V->V->V->Hp->(Hp->Prop)->Prop
abbrev TIp:=V->V->Hp->VK->Prop
def PIp(X:Cx)(op:Operator)(t:TIp):Prop:=
 ∀(pins:List (Addr×Obj))(s:MD)(σ:St)(H:Hp)(x y:V)(v u:M9)(Q:VK),Inv X pins σ H s->RelV x v->RelV y u->t x y H Q->
  Mf (Ms X.prog X.w) X.A (inplaceOp op v u) (EP X pins σ Q) X.xe s
section
variable{X : Cx}{pos : Nt}
def zV(i:Nat):TG:=fun v σ H Q=>Q (σ.set i (some v)) H
theorem ov{i:Nat}{x:Str}(hN:X.N.Nodup)(hi:X.N[i]?=some x)(hx:Loc X.env.scope x)(hf:X.fn x=true\/X.env.scope.names.lookup x=some .local:=by first | exact .inl rfl | exact .inr rfl | assumption):PG X (.Name x pos) (zV i):=by
 intro pins s σ H v u Q I r h;exact wpAny_assign_Name (kM I hN hi hx r (fun s' I'=>⟨_,H,I',h⟩) hf)
def LD:TGs:=fun vs σ H Q=>vs=[]/\Q σ H
def JI(t:TG)(u:TGs):TGs:=fun vs σ H Q=>∃v r,vs=v::r/\t v σ H fun σ' H'=>u r σ' H' Q
theorem vR:PGs X [] LD:=by
 intro pins s σ H vs us Q I r h;obtain⟨e,h⟩:=h;subst e;cases r;exact assignInOrder_nil ⟨σ,H,I,h⟩
theorem sJ{e:Expr}{es:List Expr}{t:TG}{u:TGs}(h1:PG X e t)(h2:PGs X es u)
  (hs:(O6 (e::es) X.env).map (·.2)=Qr e X.env::(O6 es X.env).map (·.2):=by rfl):PGs X (e::es) (JI t u):=by
 intro pins s σ H vs us Q I r h;obtain⟨v,vr,e1,h⟩:=h;subst e1;cases r with
 | cons r rr=>
  rw[hs];refine assignInOrder_cons (thn (h1 pins s σ H _ _ _ I r h) fun _ s1 ⟨σ1,H1,I1,q1⟩=>?_);exact h2 pins s1 σ1 H1 _ _ Q I1 rr q1
def LB(K:M8)(n:Nat)(t:TGs):TG:=fun v σ H Q=>∃a xs,v=.ref a/\SqT K H a xs/\xs.length=n/\t xs σ H Q
theorem AV{es:List Expr}{k:Nat}{t:TGs}{n:Nat}(hc:X.calm=true)(h:PGs X es t)
  (hn:(O6 es X.env).length=n:=by rfl) (hst:(O6 es X.env).findIdx? (·.1)=none:=by rfl):PG X (.Tuple es k pos) (LB X.K n t):=by
 intro pins s σ H v u Q I r hw;obtain⟨a,xs,e1,hq,hl,hw⟩:=hw;subst e1;cases r;obtain⟨its,rv,ht,hz⟩:=I.tuple hq;refine assign_Tuple_tuple (I.ok.hd hc) ht (by simp[hn,← hl,rv.length]) hst fun h' hx=>?_;have I1:Inv X pins σ H { s with heap:=h' }:=I.kept (t':=s.toks) fun b o e=>hx b o (Mp (MY e)) e;exact h pins _ σ H xs _ Q I1 (by simpa using rv) hw
def KG(to ti:TE)(t:LR):TG:=fun v σ H Q=>to σ H fun o H1=>ti σ H1 fun i H2=>t o i v H2 fun H3=>Q σ H3
def II(te:TE)(g:TG):TS:=fun D σ H=>te σ H fun x H1=>g x σ H1 D.nx
theorem vJ{i:Nat}{x:Str}{e:Expr}{te:TE}{pos':Nt}(hN:X.N.Nodup)(hi:X.N[i]?=some x)(hx:Loc X.env.scope x)(he:PE X e te)(hs:PH e (some (.Name x pos')) pos.line X.env=pure false:=by rfl)(hf:X.fn x=true\/X.env.scope.names.lookup x=some .local:=by first | exact .inl rfl | exact .inr rfl | assumption) :
  PS X (.Assign [.Name x pos'] e pos) (II te (zV i)):=by
 intro pins s σ H D I h;refine wpAny_Assign_Name (thn (he pins s σ H _ I h) fun v s1 ⟨y,H1,I1,r1,q1⟩=>?_) hs;exact kM I1 hN hi hx r1 (fun s2 I2=>⟨_,H1,I2,q1⟩) hf
def La(i:Nat)(te:TE)(ti:TIp):TS:=fun D σ H=>∃x,σ[i]?=some (some x)/\te σ H fun y H1=>ti x y H1 fun z H2=>D.nx (σ.set i (some z)) H2
theorem Fy{i:Nat}{x:Str}{e:Expr}{te:TE}{op:Operator}{ti:TIp}{pos':Nt}(hN:X.N.Nodup)(hi:X.N[i]?=some x)(hx:Loc X.env.scope x)(he:PE X e te)(ho:PIp X op ti)(hf:X.fn x=true\/X.env.scope.names.lookup x=some .local:=by first | exact .inl rfl | exact .inr rfl | assumption) :
  PS X (.AugAssign (.Name x pos') op e pos) (La i te ti):=by
 intro pins s σ H D I h;obtain⟨v,e1,h⟩:=h;obtain⟨m,hn,hl⟩:=I.loc;have vis:Vis X.env.scope x:=by rcases hx with k | k;exact .inl k;exact .inr (.inl k)
 obtain⟨u,r,l⟩:=hl i x v hi e1 vis;refine wpAny_AugAssign_Name ?_
 have go:Mf (Ms X.prog X.w) X.A (NJ e X.env) (fun w s₂=>Mf (Ms X.prog X.w) X.A (inplaceOp op u w) (fun r s₃=>Mf (Ms X.prog X.w) X.A (TJ X.env x r) (fun _=>SP X pins D .next) X.xe s₃) X.xe s₂) X.xe s:=by
  refine thn (he pins s σ H _ I h) fun w s1 ⟨y,H1,I1,r1,q1⟩=>?_;refine thn (ho pins s1 σ H1 v y u w _ I1 r r1 q1) fun z s2 ⟨zv,H2,I2,r2,q2⟩=>?_;exact kM I2 hN hi hx r2 (fun s3 I3=>⟨_,H2,I3,q2⟩) hf
 rcases l with⟨hk,hm⟩|⟨hk,c,hc,hcell⟩
 ·exact wpAny_loadName_local I.ok.kind hk hn hm go
 ·rcases hk with hk | hk
  ·exact wpAny_loadName_cell I.ok.kind hk hc hcell go
  ·rcases hx with k | k
   ·have:X.env.scope.names.lookup x=some .free:=hk
    rw[k] at this;cases this
   ·have:X.env.scope.names.lookup x=some .free:=hk
    rw[k] at this;cases this
def ipI(f:Int->Int->Int):TIp:=fun x y H Q=>∃i j,x=.int i/\y=.int j/\Q (.int (f i j)) H
theorem GJ:PIp X .Add (ipI fun i j=>i+j):=by
 intro pins s σ H x y v u Q I r1 r2 h;obtain⟨i,j,e1,e2,q⟩:=h;subst e1;subst e2;obtain⟨t,rfl⟩:=r1;obtain⟨t',rfl⟩:=r2;exact iadd_int ⟨.int _,H,I.tok _,⟨_,rfl⟩,q⟩
end
section
variable{X : Cx}{pos : Nt}
def F3(c:TT)(tb:TS):TS:=fun D σ H=>∃W:Nat->St->Hp->Prop,(∃m,W m σ H)/\∀m σ H,W m σ H->
 c σ H fun b H1=>if b=true then ∃N:St->Hp->Prop,(∀σ' H',N σ' H'->∃m',m'<m/\W m' σ' H')/\tb { D with nx:=N,ct:=N,bk:=D.nx } σ H1 else D.nx σ H1
theorem zi{c:Expr}{body:List Stmt}{tc:TT}{tb:TS}(hp:TR (Ms X.prog X.w) X.A X.env X.xe)(hc:PT X c tc)(hb:PSs X body tb):PS X (.While c body [] pos) (F3 tc tb):=by
 intro pins s σ H D I h;obtain⟨W,⟨m0,w0⟩,turn⟩:=h;refine wpAny_While (codeAny_whileLoop (fun n s'=>∃σ' H',Inv X pins σ' H' s'/\W n σ' H') ?_ m0 ⟨σ,H,I,w0⟩);rintro n s1 ⟨σ1,H1,I1,w1⟩;refine Oa hp (thn (hc pins s1 σ1 H1 _ I1 (turn n σ1 H1 w1)) fun b s2 ⟨H2,I2,q2⟩=>?_);cases b with
 | true=>
  obtain⟨N,hN,q2⟩:=q2;rw[if_pos rfl];refine Oa hp (thn (hb pins s2 σ1 H2 _ I2 q2) fun f s3 q3=>?_);cases f with
  | next=>
   obtain⟨σ3,H3,I3,n3⟩:=q3;obtain⟨m',hm,w3⟩:=hN σ3 H3 n3;exact⟨m',hm,σ3,H3,I3,w3⟩
  | cont=>
   obtain⟨σ3,H3,I3,n3⟩:=q3;obtain⟨m',hm,w3⟩:=hN σ3 H3 n3;exact⟨m',hm,σ3,H3,I3,w3⟩
  | brk=>exact q3
  | ret v=>exact q3
 | false=>
  rw[if_neg MO];exact Qb ⟨σ1,H2,I2,q2⟩
end
structure It where
 go:Nat->Hp->Prop
 yld:Nat->Hp->V->Hp->Prop
 stop:Nat->Hp->Prop
def tX(X:Cx)(pins:List (Addr×Obj))(H:Hp)(b:Addr):Prop:=
 H b=none/\b≠X.env.locals/\b ∉ X.fs/\(b∈X.ex\/X.s₀.heap.objs.size<=b)/\(∀x c,X.env.cells.lookup x=some c->c≠b)/\∀p∈X.pn++pins,p.1≠b
theorem Inv.fpOk{X:Cx}{pins:List (Addr×Obj)}{σ:St}{H H':Hp}{s:MD}{b:Addr}(I:Inv X pins σ H s)(hb:s.heap.objs.size<=b)(hn:H' b=none):tX X pins H' b:=by
 refine⟨hn,OP (MW I.lt hb),I.nofs hb,.inr (NB I.sz hb),fun x c e z=>?_,fun p hp z=>?_⟩
 ·obtain⟨v,q⟩:=I.cell x c e
  exact absurd (MW q.lt (by rw[z];exact hb)) (Nb _)
 ·exact absurd (MW (MY (I.pin p hp).1) (by rw[z];exact hb)) (Nb _)
structure Turn(P:Md)(w:Ml)(K:M8)(tg:Expr)(J:It)(fp:List Addr)(it:Addr)(tn:Nat->Heap->Prop):Prop where
 mem:it∈fp
 obj:∀i h,tn i h->∀b∈fp,∃o,h.get? b=some o/\∀v,o.data≠.cell v
 keep:∀i h h',tn i h->(∀b∈fp,∀o,h.get? b=some o->h'.get? b=some o)->tn i h'
 item:∀(X:Cx),X.prog=P->X.w=w->X.K=K->X.calm=true->∀(i:Nat)(pins:List (Addr×Obj))(s:MD)(σ:St)(H:Hp)(E:M9->MD->Prop),Inv X pins σ H s->(∀b∈fp,tX X pins H b)->tn i s.heap->J.go i H->
  Mf (Ms P w) X.A (pyNext (.ref it)) (fun r s1=>∃u,r=some u/\
   Mf (Ms P w) X.A (Qd tg (.ref it) u) (fun _ s2=>∃x H',Inv X pins σ H' s2/\RelV x u/\J.yld i H x H'/\tn (i+1) s2.heap/\∀b∈fp,H' b=none) E s1) E s
 done:∀(X:Cx),X.prog=P->X.w=w->X.K=K->X.calm=true->∀(i:Nat)(pins:List (Addr×Obj))(s:MD)(σ:St)(H:Hp)(E:M9->MD->Prop),Inv X pins σ H s->(∀b∈fp,tX X pins H b)->tn i s.heap->J.stop i H->
  Mf (Ms P w) X.A (pyNext (.ref it)) (fun r s1=>r=none/\Inv X pins σ H s1) E s
 self:∀(A:Mt)(i:Nat)(s:MD)(Q:M9->MD->Prop)(E:M9->MD->Prop),tn i s.heap->Q (.ref it) s->Mf (Ms P w) A (pyIter (.ref it)) Q E s
abbrev TI:=St->Hp->(It->Hp->Prop)->Prop
def PIE(X:Cx)(pins:List (Addr×Obj))(σ:St)(tg:Expr)(R:It->Hp->Prop)(itv:M9)(s2:MD):Prop:=
 ∃(it:Addr)(fp:List Addr)(tn:Nat->Heap->Prop)(J:It)(H':Hp),itv=.ref it/\Inv X pins σ H' s2/\Turn X.prog X.w X.K tg J fp it tn/\tn 0 s2.heap/\(∀b∈fp,tX X pins H' b)/\R J H'
def PI(X:Cx)(tg iter:Expr)(wi:TI):Prop:=
 ∀(pins:List (Addr×Obj))(s:MD)(σ:St)(H:Hp)(R:It->Hp->Prop),Inv X pins σ H s->wi σ H R->
  Mf (Ms X.prog X.w) X.A (NJ iter X.env) (fun v s1=>Mf (Ms X.prog X.w) X.A (pyIter v) (PIE X pins σ tg R) X.xe s1) X.xe s
theorem x8{M:Model}{A:Mt}{E:M9->MD->Prop}{s:MD}{tg:Expr}{it:Addr}{u:M9}{o:Obj}{n:String}{vs:Array M9}{Q:Unit->MD->Prop}(ho:s.heap.get? it=some o)(hc:o.cls=.type n)(hd:o.data=.fields vs)
    (hn:["enumerate","zip","dict_itemiterator","dict_reverseitemiterator","odict_iterator","itertools.zip_longest","itertools.pairwise"].contains n=false) (hQ:Q () s):Mf M A (Qd tg (.ref it) u) Q E s:=by
  unfold Qd
  cases tg <;> first
    | exact MK hQ
    | (cases u <;> first
        | exact MK hQ
        | (refine MA (wpAny_load ho ?_)
           rw[hc,hd];show Mf M A (if (["enumerate","zip","dict_itemiterator","dict_reverseitemiterator","odict_iterator","itertools.zip_longest","itertools.pairwise"].contains n && vs[0]? == some (QM _))=true then _ else _) Q E s;rw[if_neg (by intro h;rw[hn,Rn] at h;cases h)];exact MK hQ))
def Itl(K:M8)(a:Addr):It:=
 ⟨fun i H=>∃xs x,SqL K H a xs/\xs[i]?=some x,fun i H x H'=>H'=H/\∀xs,SqL K H a xs->xs[i]?=some x,fun i H=>∃xs,SqL K H a xs/\xs.length<=i⟩
def Itt(K:M8)(a:Addr):It:=
 ⟨fun i H=>∃xs x,SqT K H a xs/\xs[i]?=some x,fun i H x H'=>H'=H/\∀xs,SqT K H a xs->xs[i]?=some x,fun i H=>∃xs,SqT K H a xs/\xs.length<=i⟩
def Itr(lo:Int)(n:Nat):It:=⟨fun i _=>i<n,fun i H x H'=>H'=H/\x=.int (lo+i),fun i _=>n<=i⟩
theorem vh{P:Md}{w:Ml}{K:M8}{tg:Expr}(a it:Addr):Turn P w K tg (Itl K a) [it] it (fun i h=>h.IsListIter it a i) where
 mem:=by simp
 obj:=fun i h st b hb=>by
  have e:b=it:=by simpa using hb
  subst e;obtain⟨o,e,c,d⟩:=st;exact⟨o,e,fun v z=>by rw[d] at z;cases z⟩
 keep:=fun i h h' st k=>st.at fun o e=>k it (by simp) o e
 item:=by
  intro X hP hw hK hc i pins s σ H E I hf st hg;subst hP hw hK;obtain⟨xs,x,hq,hx⟩:=hg;obtain⟨its,rv,p,hz⟩:=I.list hq;obtain⟨u,hu,ru⟩:=rv.get hx;obtain⟨f0,f1,f2,f3,f4,f5⟩:=hf it (by simp);refine wpAny_pyNext_list_item st p.isList (x:=u) (by simpa using hu) fun h' st' sb=>?_;have I1:Inv X pins σ H { s with heap:=h' }:=I.turned (t':=s.toks) (fun b o hb e=>(sb.2 b hb).trans e) f0 f1 f3 f4 f5;obtain⟨o,e,c,d⟩:=id st';exact⟨u,rfl,x8 (s:={ s with heap:=h' }) e c d (by decide) ⟨x,H,I1,ru,⟨rfl,fun ys hy=>by rw[I.list_inj hy hq];exact hx⟩,st',fun b hb=>(hf b hb).1⟩⟩
 done:=by
  intro X hP hw hK hc i pins s σ H E I hf st hg;subst hP hw hK;obtain⟨xs,hq,hx⟩:=hg;obtain⟨its,rv,p,hz⟩:=I.list hq;obtain⟨f0,f1,f2,f3,f4,f5⟩:=hf it (by simp);have hl:=rv.length;exact wpAny_pyNext_list_end (I.ok.hd hc) st p.isList (by simp;omega) fun h' eb=>⟨rfl,I.turned (t':=s.toks) (fun b o hb e=>eb b o hb e) f0 f1 f3 f4 f5⟩
 self:=fun _ _ _ _ _ st h=>wpAny_pyIter_listiter st h
theorem tZ{P:Md}{w:Ml}{K:M8}{tg:Expr}(a it:Addr):Turn P w K tg (Itt K a) [it] it (fun i h=>h.IsTupleIter it a i) where
 mem:=by simp
 obj:=fun i h st b hb=>by
  have e:b=it:=by simpa using hb
  subst e;obtain⟨o,e,c,d⟩:=st;exact⟨o,e,fun v z=>by rw[d] at z;cases z⟩
 keep:=fun i h h' st k=>st.at fun o e=>k it (by simp) o e
 item:=by
  intro X hP hw hK hc i pins s σ H E I hf st hg;subst hP hw hK;obtain⟨xs,x,hq,hx⟩:=hg;obtain⟨its,rv,p,hz⟩:=I.tuple hq;obtain⟨u,hu,ru⟩:=rv.get hx;obtain⟨f0,f1,f2,f3,f4,f5⟩:=hf it (by simp);refine TH st (show s.heap.IsTuple a its.toArray from p) (x:=u) (by simpa using hu) fun h' st' sb=>?_;have I1:Inv X pins σ H { s with heap:=h' }:=I.turned (t':=s.toks) (fun b o hb e=>(sb.2 b hb).trans e) f0 f1 f3 f4 f5;obtain⟨o,e,c,d⟩:=id st';exact⟨u,rfl,x8 (s:={ s with heap:=h' }) e c d (by decide) ⟨x,H,I1,ru,⟨rfl,fun ys hy=>by rw[I.tuple_inj hy hq];exact hx⟩,st',fun b hb=>(hf b hb).1⟩⟩
 done:=by
  intro X hP hw hK hc i pins s σ H E I hf st hg;subst hP hw hK;obtain⟨xs,hq,hx⟩:=hg;obtain⟨its,rv,p,hz⟩:=I.tuple hq;obtain⟨f0,f1,f2,f3,f4,f5⟩:=hf it (by simp);have hl:=rv.length;exact TX (I.ok.hd hc) st (show s.heap.IsTuple a its.toArray from p) (by simp;omega) fun h' eb=>⟨rfl,I.turned (t':=s.toks) (fun b o hb e=>eb b o hb e) f0 f1 f3 f4 f5⟩
 self:=fun _ _ _ _ _ st h=>wpAny_pyIter_tupleiter st h
theorem u7{P:Md}{w:Ml}{K:M8}{tg:Expr}(it:Addr)(lo:Int)(n:Nat):Turn P w K tg (Itr lo n) [it] it (fun i h=>IsRangeIter h it (lo+(i:Nat) * 1) ((n:Int)-(i:Nat)) 1) where
 mem:=by simp
 obj:=fun i h st b hb=>by
  have e:b=it:=by simpa using hb
  subst e
  exact⟨_,st,fun v z=>by
   have z':RY _=QY v:=z;cases z'⟩
 keep:=fun i h h' st k=>k it (by simp) _ st
 item:=by
  intro X hP hw hK hc i pins s σ H E I hf st hg;subst hP hw hK;obtain⟨f0,f1,f2,f3,f4,f5⟩:=hf it (by simp);have W:=Walks.range (prog:=X.prog) (w:=X.w) (I.ok.hd hc) it lo 1 n;refine W.item i s _ _ hg st fun v h' tk hv st' kk=>?_;obtain⟨t,rfl⟩:=hv;have I1:Inv X pins σ H { s with heap:=h',toks:=tk }:=I.turned (fun b o hb e=>kk b o (by simpa using hb) e) f0 f1 f3 f4 f5;refine⟨_,rfl,x8 (s:={ s with heap:=h',toks:=tk }) (n:="range_iterator") st' rfl rfl (by decide) ⟨.int (lo+i),H,I1,⟨t,?_⟩,⟨rfl,rfl⟩,st',fun b hb=>(hf b hb).1⟩⟩;rw[Int.mul_one]
 done:=by
  intro X hP hw hK hc i pins s σ H E I hf st hg;subst hP hw hK;obtain⟨f0,f1,f2,f3,f4,f5⟩:=hf it (by simp);exact wpAny_pyNext_range_end (I.ok.hd hc) st (by have:n<=i:=hg;omega) fun h' eb=>⟨rfl,I.turned (t':=s.toks) (fun b o hb e=>eb b o hb e) f0 f1 f3 f4 f5⟩
 self:=fun _ _ _ _ _ st h=>wpAny_pyIter_rangeiter st h
end L2
namespace L2
open PySem PySem.Spec PyProof.Rows
section
variable{X : Cx}{tg : Expr}
theorem sC{pins:List (Addr×Obj)}{σ:St}{H:Hp}{s:MD}{R:It->Hp->Prop}{E:M9->MD->Prop}{lo hi:Int}{t u v:Tok}{tk:Nat}(I:Inv X pins σ H s)(h1:-(2 ^ 62)<=lo)(h2:lo<2 ^ 62)(h3:-(2 ^ 62)<=hi)(h4:hi<2 ^ 62)
  (q:R (Itr lo (hi-lo).toNat) H):Mf (Ms X.prog X.w) X.A (pyIter (.ref s.heap.objs.size)) (PIE X pins σ tg R) E { s with heap:=s.heap.push { cls:=.type "range",data:=.fields #[.int lo t,.int hi u,.int 1 v] },toks:=tk }:=by
 refine wpAny_pyIter_range (IsRange.new ..) (small_one h1 h2 h3 h4) ?_;have I1:Inv X pins σ H { s with heap:=s.heap.push { cls:=.type "range",data:=.fields #[.int lo t,.int hi u,.int 1 v] },toks:=tk }:=I.kept fun b o e=>MJ _ e
 refine⟨(s.heap.push { cls:=.type "range",data:=.fields #[.int lo t,.int hi u,.int 1 v] }).objs.size,[(s.heap.push { cls:=.type "range",data:=.fields #[.int lo t,.int hi u,.int 1 v] }).objs.size],_,_,H,rfl,
  I1.kept (t':=tk) fun b o e=>MJ _ e,u7 _ lo (hi-lo).toNat,?_,fun b hb=>?_,q⟩
 ·have e1:lo+((0:Nat):Int) * 1=lo:=by simp
  have e2:(((hi-lo).toNat:Nat):Int)-((0:Nat):Int)=Builtin.Range.rangeSize lo hi 1:=by rw[rangeSize_one];split <;> omega
  show IsRangeIter _ _ (lo+((0:Nat):Int) * 1) ((((hi-lo).toNat:Nat):Int)-((0:Nat):Int)) 1;rw[e1,e2];exact Mo _ rfl
 ·have e:b=(s.heap.push { cls:=.type "range",data:=.fields #[.int lo t,.int hi u,.int 1 v] }).objs.size:=by simpa using hb
  subst e;exact I1.fpOk (Ma _) (I1.hok.fresh (Ma _))
def JH(ta:TA):TI:=fun σ H R=>ta σ H fun vs H1=>∃j:Int,vs=[.int j]/\-(2 ^ 62)<=j/\j<2 ^ 62/\R (Itr 0 j.toNat) H1
def JG(ta:TA):TI:=fun σ H R=>ta σ H fun vs H1=>∃i j:Int,vs=[.int i,.int j]/\(-(2 ^ 62)<=i/\i<2 ^ 62/\-(2 ^ 62)<=j/\j<2 ^ 62)/\R (Itr i (j-i).toNat) H1
theorem vQ {a:Expr} {ta:TA} {p pos:Nt} (hg:Gl X "range") (hm:X.mg "range"=none) (ha:PA X [a] ta) (hs:MZ [a] X.env=[(false,NJ a X.env)]:=by rfl):PI X tg (.Call (.Name "range" p) [a] [] pos) (JH ta):=by
 intro pins s σ H R I h;refine Call_ (nK I hg hm boot_range (Nr (thn (ha pos pins s σ H _ I h) fun us s1 ⟨vs,H1,I1,r1,q1⟩=>?_) hs rfl));obtain⟨j,e,q1,q2,q⟩:=q1;subst e;cases r1 with
 | cons r rr=>
  cases rr;obtain⟨t,rfl⟩:=r;exact call_range_1 (sC I1 (by omega) (by omega) q1 q2 (by simpa using q))
theorem vP {a b:Expr} {ta:TA} {p pos:Nt} (hg:Gl X "range") (hm:X.mg "range"=none) (ha:PA X [a,b] ta) (hs:MZ [a,b] X.env=[(false,NJ a X.env),(false,NJ b X.env)]:=by rfl) (hs2:MZ [b] X.env=[(false,NJ b X.env)]:=by rfl) :
  PI X tg (.Call (.Name "range" p) [a,b] [] pos) (JG ta):=by
 intro pins s σ H R I h;refine Call_ (nK I hg hm boot_range (Nr (thn (ha pos pins s σ H _ I h) fun us s1 ⟨vs,H1,I1,r1,q1⟩=>?_) (by rw[hs,hs2]) (by rw[hs2];rfl)));obtain⟨i,j,e,⟨q1,q2,q3,q4⟩,q⟩:=q1;subst e;cases r1 with
 | cons r rr=>
  cases rr with
  | cons r' rr=>
   cases rr;obtain⟨t,rfl⟩:=r;obtain⟨t',rfl⟩:=r';exact call_range_2 (sC I1 q1 q2 q3 q4 q)
def L9(wi:TI)(g:TG)(tb:TS):TS:=fun D σ H=>wi σ H fun J H1=>∃W:Nat->Nat->St->Hp->Prop,(∃m,W 0 m σ H1)/\∀i m σ H,W i m σ H->
 (J.stop i H/\D.nx σ H)\/(J.go i H/\∃N:St->Hp->Prop,(∀σ' H',N σ' H'->∃m',m'<m/\W (i+1) m' σ' H')/\∀x H',J.yld i H x H'->g x σ H' fun σ2 H2=>tb { D with nx:=N,ct:=N,bk:=D.nx } σ2 H2)
def nv(fp:List Addr)(h:Heap):List (Addr×Obj):=fp.filterMap fun b=>(h.get? b).map fun o=>(b,o)
theorem ie{fp:List Addr}{h:Heap}{b:Addr}{o:Obj}(hb:b∈fp)(e:h.get? b=some o):(b,o)∈nv fp h:=Qn.mpr ⟨b,hb,by rw[e];rfl⟩
theorem vZ{fp:List Addr}{h:Heap}{p:Addr×Obj}(hp:p∈nv fp h):p.1∈fp/\h.get? p.1=some p.2:=by
 obtain⟨b,hb,e⟩:=Qn.mp hp;cases q:h.get? b with
 | none=>rw[q] at e;cases e
 | some o=>
  rw[q] at e;have e':(b,o)=p:=Mq e;subst e';exact⟨hb,q⟩
theorem Inv.pinned{pins:List (Addr×Obj)}{σ:St}{H:Hp}{s:MD}{fp:List Addr}(I:Inv X pins σ H s)(hf:∀b∈fp,tX X pins H b)(ho:∀b∈fp,∃o,s.heap.get? b=some o/\∀v,o.data≠.cell v):Inv X (pins++nv fp s.heap) σ H s:=
 I.pins_of fun p hp=>(Mz.mp hp).elim (fun z=>I.pin p (My _ z)) fun z=>by
  obtain⟨hb,e⟩:=vZ z;obtain⟨f0,f1,f2,_⟩:=hf p.1 hb;obtain⟨o,e',d⟩:=ho p.1 hb;rw[e] at e';cases e';exact⟨e,f0,f1,f2,d⟩
theorem Inv.unpinned{pins pl:List (Addr×Obj)}{σ:St}{H:Hp}{s:MD}(I:Inv X (pins++pl) σ H s):Inv X pins σ H s:=I.pins_of fun p hp=>I.pin p (My _ (Oe _ hp))
theorem Fx{iter:Expr}{body:List Stmt}{wi:TI}{g:TG}{tb:TS}{pos:Nt}(hp:TR (Ms X.prog X.w) X.A X.env X.xe)(hc:X.calm=true)(hi:PI X tg iter wi)(hg:PG X tg g)(hb:PSs X body tb)
  (hs:∀x,Pb iter X.env x=pure x:=by intro _;rfl):PS X (.For tg iter body [] pos) (L9 wi g tb):=by
 intro pins s σ H D I h;refine wpAny_For (thn (hi pins s σ H _ I h) fun v s1 h1=>thn h1 fun itv s2 h2=>?_) hs;obtain⟨it,fp,tn,J,H2,e,I2,T,st2,f2,W,⟨m0,w0⟩,turn⟩:=h2;subst e;have stat:∀{H':Hp},(∀b∈fp,H' b=none)->∀b∈fp,tX X pins H' b:=fun hn b hb=>⟨hn b hb,(f2 b hb).2⟩;refine codeAny_forLoop_any (fun n s'=>∃i σ' H',Inv X pins σ' H' s'/\tn i s'.heap/\(∀b∈fp,H' b=none)/\W i n σ' H') ?_ m0 ⟨0,σ,H2,I2,st2,fun b hb=>(f2 b hb).1,w0⟩;rintro n s3 ⟨i,σ3,H3,I3,st3,fr3,w3⟩;rcases turn i n σ3 H3 w3 with⟨stop,qn⟩|⟨go,N,hN,step⟩
 ·refine Oa hp (thn (T.done X rfl rfl rfl hc i pins s3 σ3 H3 X.xe I3 (stat fr3) st3 stop) fun r s4 ⟨hr,I4⟩=>?_)
  subst hr;exact Qb ⟨σ3,H3,I4,qn⟩
 ·refine Oa hp (thn (T.item X rfl rfl rfl hc i pins s3 σ3 H3 X.xe I3 (stat fr3) st3 go) fun r s4 ⟨u,hr,h4⟩=>?_)
  subst hr;refine Oa hp (thn h4 fun _ s5 ⟨x,H5,I5,r5,y5,st5,fr5⟩=>?_);have I5':=I5.pinned (stat fr5) (T.obj _ _ st5);refine Oa hp (thn (hg _ s5 σ3 H5 x u _ I5' r5 (step x H5 y5)) fun _ s6 ⟨σ6,H6,I6,q6⟩=>?_);refine Oa hp (thn (hb _ s6 σ6 H6 _ I6 q6) fun f s7 q7=>?_)
  have again:∀{σ7:St}{H7:Hp},Inv X (pins++nv fp s5.heap) σ7 H7 s7->N σ7 H7->∃m,m<n/\∃i σ' H',Inv X pins σ' H' s7/\tn i s7.heap/\(∀b∈fp,H' b=none)/\W i m σ' H':=fun {σ7 H7} I7 n7=>by
   obtain⟨m',hm,w7⟩:=hN σ7 H7 n7;refine⟨m',hm,i+1,σ7,H7,I7.unpinned,T.keep _ _ _ st5 fun b hb o e=>(I7.pin (b,o) (My _ (My _ (ie hb e)))).1,fun b hb=>?_,w7⟩;obtain⟨o,e,d⟩:=T.obj _ _ st5 b hb;exact(I7.pin (b,o) (My _ (My _ (ie hb e)))).2.1
  cases f with
  | next=>obtain⟨σ7,H7,I7,n7⟩:=q7;exact again I7 n7
  | cont=>obtain⟨σ7,H7,I7,n7⟩:=q7;exact again I7 n7
  | brk=>obtain⟨σ7,H7,I7,q7⟩:=q7;exact⟨σ7,H7,I7.unpinned,q7⟩
  | ret v=>obtain⟨x7,σ7,H7,I7,r7,q7⟩:=q7;exact⟨x7,σ7,H7,I7.unpinned,r7,q7⟩
end
end L2
namespace L2
open PySem PySem.Spec PyProof.Rows
abbrev R2:=V->V->Hp->VK->Prop
def OpR(X:Cx)(f:M9->M9->Sem M9)(r:R2):Prop:=
 ∀(pins:List (Addr×Obj))(s:MD)(σ:St)(H:Hp)(x y:V)(v u:M9)(Q:VK),Inv X pins σ H s->RelV x v->RelV y u->r x y H Q->
  Mf (Ms X.prog X.w) X.A (f v u) (EP X pins σ Q) X.xe s
def UnR(X:Cx)(f:M9->Sem M9)(r:V->Hp->VK->Prop):Prop:=
 ∀(pins:List (Addr×Obj))(s:MD)(σ:St)(H:Hp)(x:V)(v:M9)(Q:VK),Inv X pins σ H s->RelV x v->r x H Q->
  Mf (Ms X.prog X.w) X.A (f v) (EP X pins σ Q) X.xe s
def iy(X:Cx)(f:M9)(r:List V->Hp->VK->Prop):Prop:=
 ∀(pins:List (Addr×Obj))(s:MD)(σ:St)(H:Hp)(xs:List V)(us:List M9)(Q:VK),Inv X pins σ H s->Vals xs us->r xs H Q->
  Mf (Ms X.prog X.w) X.A (call f us) (EP X pins σ Q) X.xe s
def KI(X:Cx)(r:V->Hp->(Bool->Hp->Prop)->Prop):Prop:=
 ∀(pins:List (Addr×Obj))(s:MD)(σ:St)(H:Hp)(x:V)(v:M9)(Q:Bool->Hp->Prop),Inv X pins σ H s->RelV x v->r x H Q->
  Mf (Ms X.prog X.w) X.A (truthy v) (TP X pins σ Q) X.xe s
def tOp(r:R2)(ta tb:TE):TE:=fun σ H Q=>ta σ H fun x H1=>tb σ H1 fun y H2=>r x y H2 Q
def tUn(r:V->Hp->VK->Prop)(ta:TE):TE:=fun σ H Q=>ta σ H fun x H1=>r x H1 Q
def rI(C:Int->Int->Prop)(g:Int->Int->V):R2:=fun x y H Q=>∃i j,x=.int i/\y=.int j/\C i j/\Q (g i j) H
def rI0(g:Int->Int->V):R2:=fun x y H Q=>∃i j,x=.int i/\y=.int j/\Q (g i j) H
def rU(g:Int->V):V->Hp->VK->Prop:=fun x H Q=>∃i,x=.int i/\Q (g i) H
section
variable{X : Cx}{a b c : Expr}{ta tb tc : TE}{pos : Nt}
theorem JU(ha:PE X a ta)(hb:PE X b tb){pins:List (Addr×Obj)}{s:MD}{σ:St}{H:Hp}{R:V->V->Hp->Prop}(I:Inv X pins σ H s)
  (h:ta σ H fun x H1=>tb σ H1 fun y H2=>R x y H2) {Q:M9->MD->Prop} {f:M9->M9->Sem M9}
  (hf:∀v u s2 x y H2,Inv X pins σ H2 s2->RelV x v->RelV y u->R x y H2->Mf (Ms X.prog X.w) X.A (f v u) Q X.xe s2) :
  Mf (Ms X.prog X.w) X.A (NJ a X.env) (fun v s₁=>Mf (Ms X.prog X.w) X.A (NJ b X.env) (fun u s₂=>Mf (Ms X.prog X.w) X.A (f v u) Q X.xe s₂) X.xe s₁) X.xe s:=by
 refine thn (ha pins s σ H _ I h) fun v s1 ⟨x,H1,I1,r1,q1⟩=>?_;refine thn (hb pins s1 σ H1 _ I1 q1) fun u s2 ⟨y,H2,I2,r2,q2⟩=>?_;exact hf v u s2 x y H2 I2 r1 r2 q2
theorem Ja{op:Operator}{r:R2}(ho:OpR X (P6 op) r)(ha:PE X a ta)(hb:PE X b tb):PE X (.BinOp a op b pos) (tOp r ta tb):=by
 intro pins s σ H Q I h;exact wpAny_BinOp (JU ha hb I h fun v u s2 x y H2 I2 rx ry q=>ho pins s2 σ H2 x y v u Q I2 rx ry q)
theorem J9{op:UnaryOp}{r:V->Hp->VK->Prop}(ho:UnR X (unaryOp op) r)(ha:PE X a ta):PE X (.UnaryOp op a pos) (tUn r ta):=by
 intro pins s σ H Q I h;exact UnaryOp_ (thn (ha pins s σ H _ I h) fun v s1 ⟨x,H1,I1,r1,q1⟩=>ho pins s1 σ H1 x v Q I1 r1 q1)
theorem opI{f:M9->M9->Sem M9}{C:Int->Int->Prop}{g:Int->Int->Int}
  (rule:∀(i j:Int)(t u:Tok)(s:MD)(Q:M9->MD->Prop)(E:M9->MD->Prop),C i j->Q (.int (g i j) s.toks) { s with toks:=s.toks+1 }->Mf (Ms X.prog X.w) X.A (f (.int i t) (.int j u)) Q E s) :
  OpR X f (rI C fun i j=>.int (g i j)):=by
 intro pins s σ H x y v u Q I rx ry h;obtain⟨i,j,rfl,rfl,hc,q⟩:=h;obtain⟨t,rfl⟩:=rx;obtain⟨t',rfl⟩:=ry;exact rule i j t t' s _ _ hc ⟨.int (g i j),H,I.tok _,⟨_,rfl⟩,q⟩
theorem Lm{f:M9->M9->Sem M9}{g:Int->Int->Int}
  (rule:∀(i j:Int)(t u:Tok)(s:MD)(Q:M9->MD->Prop)(E:M9->MD->Prop),Q (.int (g i j) s.toks) { s with toks:=s.toks+1 }->Mf (Ms X.prog X.w) X.A (f (.int i t) (.int j u)) Q E s) :
  OpR X f (rI0 fun i j=>.int (g i j)):=by
 intro pins s σ H x y v u Q I rx ry h;obtain⟨i,j,rfl,rfl,q⟩:=h;obtain⟨t,rfl⟩:=rx;obtain⟨t',rfl⟩:=ry;exact rule i j t t' s _ _ ⟨.int (g i j),H,I.tok _,⟨_,rfl⟩,q⟩
theorem Kq{f:M9->M9->Sem M9}{g:Int->Int->Bool}
  (rule:∀(i j:Int)(t u:Tok)(s:MD)(Q:M9->MD->Prop)(E:M9->MD->Prop),Q (.bool (g i j)) s->Mf (Ms X.prog X.w) X.A (f (.int i t) (.int j u)) Q E s) :
  OpR X f (rI0 fun i j=>.bl (g i j)):=by
 intro pins s σ H x y v u Q I rx ry h;obtain⟨i,j,rfl,rfl,q⟩:=h;obtain⟨t,rfl⟩:=rx;obtain⟨t',rfl⟩:=ry;exact rule i j t t' s _ _ ⟨.bl (g i j),H,I,rfl,q⟩
def LU(i j:Int):Prop:=0<j/\j<1073741824
def JX(i j:Int):Prop:=(-(2 ^ 64)<i/\i<2 ^ 64)\/(-(2 ^ 64)<j/\j<2 ^ 64)
theorem JX.ok{i j:Int}(h:JX i j):IntMulOk i j:=by
 rcases h with⟨h1,h2⟩|⟨h1,h2⟩
 ·exact .of_left (intBits_le_64 h1 h2)
 ·exact .of_right (intBits_le_64 h1 h2)
theorem FP:OpR X (P6 .Add) (rI0 fun i j=>.int (i+j)):=Lm fun _ _ _ _ _ _ _ q=>add_int q
theorem FL:OpR X (P6 .Mult) (rI JX fun i j=>.int (i * j)):=opI fun _ _ _ _ _ _ _ hc q=>mul_int q hc.ok
theorem CB:OpR X (P6 .FloorDiv) (rI LU fun i j=>.int (i / j)):=opI fun i j _ _ _ _ _ hc q=>by
 have h1:(0:Int)<j:=hc.1;have h2:j<1073741824:=hc.2;exact floordiv_int (by omega) (by rw[Int.fdiv_eq_ediv_of_nonneg i (by omega)];exact q) (.inl (PyProof.noPylong_small (by omega)))
theorem FN:OpR X (P6 .Mod) (rI (fun _ j=>0<j) fun i j=>.int (i % j)):=opI fun i j _ _ _ _ _ hc q=>by
 have h1:(0:Int)<j:=hc;exact mod_int' (by omega) (by rw[Int.fmod_eq_emod_of_nonneg i (by omega)];exact q)
theorem unI{f:M9->Sem M9}{g:Int->Int}
  (rule:∀(i:Int)(t:Tok)(s:MD)(Q:M9->MD->Prop)(E:M9->MD->Prop),Q (.int (g i) s.toks) { s with toks:=s.toks+1 }->Mf (Ms X.prog X.w) X.A (f (.int i t)) Q E s) :
  UnR X f (rU fun i=>.int (g i)):=by
 intro pins s σ H x v Q I rx h;obtain⟨i,rfl,q⟩:=h;obtain⟨t,rfl⟩:=rx;exact rule i t s _ _ ⟨.int (g i),H,I.tok _,⟨_,rfl⟩,q⟩
theorem EU:UnR X (unaryOp .USub) (rU fun i=>.int (-i)):=unI fun _ _ _ _ _ q=>neg_int q
end
def C7:V->V->Bool
 | .non,.non=>true | .non,.int _=>true | .int _,.non=>true | .non,.bl _=>true | .bl _,.non=>true | .non,.str _=>true | .str _,.non=>true
 | .int _,.int _=>true | .bl _,.bl _=>true | .str _,.str _=>true | .byt _,.byt _=>true
 | .int _,.str _=>true | .str _,.int _=>true | .bl _,.str _=>true | .str _,.bl _=>true
 | _,_=>false
def rEq:R2:=fun x y H Q=>C7 x y=true/\Q (.bl (decide (x=y))) H
def rNe:R2:=fun x y H Q=>C7 x y=true/\Q (.bl (!decide (x=y))) H
theorem xK{i j:Int}:decide (V.int i=V.int j)=(i == j):=by
 rw[Nk];simp
theorem BC{i j:Bool}:decide (V.bl i=V.bl j)=(i == j):=by
 rw[Nk];simp
theorem xJ{i j:Str}:decide (V.str i=V.str j)=(i == j):=by
 rw[Nk];simp
theorem xM{i j:Array UInt8}:decide (V.byt i=V.byt j)=(i.toList == j.toList):=by
 rw[Nk];cases i;cases j;simp
section
variable{X : Cx}{a b c : Expr}{ta tb tc : TE}{pos : Nt}
theorem bj{pins:List (Addr×Obj)}{σ:St}{H:Hp}{s:MD}{Q:VK}{k k':Bool}(I:Inv X pins σ H s)(q:Q (.bl k) H)(e:k=k'):EP X pins σ Q (.bool k') s:=by
 subst e;exact⟨.bl k,H,I,rfl,q⟩
theorem Jh:OpR X (N8 .Eq) rEq:=by
 intro pins s σ H x y v u Q I rx ry h;obtain⟨hs,q⟩:=h;cases x with
 | non=>
  cases rx;cases y with
  | non=>cases ry;exact PySem.EqNone.eq_none_none (bj I q (by simp))
  | bl j=>cases ry;exact PySem.EqNone.eq_none_bool (bj I q (by simp))
  | int j=>obtain⟨t',rfl⟩:=ry;exact PySem.EqNone.eq_none_int (bj I q (by simp))
  | str j=>obtain⟨t',rfl⟩:=ry;exact PySem.EqNone.eq_none_str (bj I q (by simp))
  | _=>exact absurd (show false=true from hs) MO
 | bl i=>
  cases rx;cases y with
  | non=>cases ry;exact PySem.EqNone.eq_bool_none (bj I q (by simp))
  | bl j=>cases ry;exact eq_bool (bj I q BC)
  | str j=>obtain⟨t',rfl⟩:=ry;exact PySem.EqMixed.eq_bool_str (bj I q (by simp))
  | _=>exact absurd (show false=true from hs) MO
 | int i=>
  obtain⟨t,rfl⟩:=rx;cases y with
  | non=>cases ry;exact PySem.EqNone.eq_int_none (bj I q (by simp))
  | int j=>obtain⟨t',rfl⟩:=ry;exact eq_int (bj I q xK)
  | str j=>obtain⟨t',rfl⟩:=ry;exact PySem.EqMixed.eq_int_str (bj I q (by simp))
  | _=>exact absurd (show false=true from hs) MO
 | str i=>
  obtain⟨t,rfl⟩:=rx;cases y with
  | non=>cases ry;exact PySem.EqNone.eq_str_none (bj I q (by simp))
  | bl j=>cases ry;exact PySem.EqMixed.eq_str_bool (bj I q (by simp))
  | int j=>obtain⟨t',rfl⟩:=ry;exact PySem.EqMixed.eq_str_int (bj I q (by simp))
  | str j=>obtain⟨t',rfl⟩:=ry;exact eq_str (bj I q xJ)
  | _=>exact absurd (show false=true from hs) MO
 | byt i=>
  obtain⟨t,rfl⟩:=rx;cases y with
  | byt j=>obtain⟨t',rfl⟩:=ry;exact PySem.W.eq_bytes (bj I q xM)
  | _=>exact absurd (show false=true from hs) MO
 | _=>cases y <;> exact absurd (show false=true from hs) MO
theorem Je:OpR X (N8 .NotEq) rNe:=by
 intro pins s σ H x y v u Q I rx ry h;obtain⟨hs,q⟩:=h;cases x with
 | non=>
  cases rx;cases y with
  | non=>cases ry;exact PySem.EqNone.ne_none_none (bj I q (by simp))
  | bl j=>cases ry;exact PySem.EqNone.ne_none_bool (bj I q (by simp))
  | int j=>obtain⟨t',rfl⟩:=ry;exact PySem.EqNone.ne_none_int (bj I q (by simp))
  | str j=>obtain⟨t',rfl⟩:=ry;exact PySem.EqNone.ne_none_str (bj I q (by simp))
  | _=>exact absurd (show false=true from hs) MO
 | bl i=>
  cases rx;cases y with
  | non=>cases ry;exact PySem.EqNone.ne_bool_none (bj I q (by simp))
  | bl j=>cases ry;exact ne_bool (bj I q (congrArg not BC))
  | str j=>obtain⟨t',rfl⟩:=ry;exact PySem.EqMixed.ne_bool_str (bj I q (by simp))
  | _=>exact absurd (show false=true from hs) MO
 | int i=>
  obtain⟨t,rfl⟩:=rx;cases y with
  | non=>cases ry;exact PySem.EqNone.ne_int_none (bj I q (by simp))
  | int j=>obtain⟨t',rfl⟩:=ry;exact ne_int (bj I q (congrArg not xK))
  | str j=>obtain⟨t',rfl⟩:=ry;exact PySem.EqMixed.ne_int_str (bj I q (by simp))
  | _=>exact absurd (show false=true from hs) MO
 | str i=>
  obtain⟨t,rfl⟩:=rx;cases y with
  | non=>cases ry;exact PySem.EqNone.ne_str_none (bj I q (by simp))
  | bl j=>cases ry;exact PySem.EqMixed.ne_str_bool (bj I q (by simp))
  | int j=>obtain⟨t',rfl⟩:=ry;exact PySem.EqMixed.ne_str_int (bj I q (by simp))
  | str j=>obtain⟨t',rfl⟩:=ry;exact ne_str (bj I q (congrArg not xJ))
  | _=>exact absurd (show false=true from hs) MO
 | byt i=>
  obtain⟨t,rfl⟩:=rx;cases y with
  | byt j=>obtain⟨t',rfl⟩:=ry;exact PySem.W.ne_bytes (bj I q (congrArg not xM))
  | _=>exact absurd (show false=true from hs) MO
 | _=>cases y <;> exact absurd (show false=true from hs) MO
theorem Jf:OpR X (N8 .Lt) (rI0 fun i j=>.bl (decide (i<j))):=Kq fun _ _ _ _ _ _ _ q=>lt_int q
theorem Jg:OpR X (N8 .LtE) (rI0 fun i j=>.bl (decide (i<=j))):=Kq fun _ _ _ _ _ _ _ q=>le_int q
theorem vX:OpR X (N8 .Lt) (fun x y H Q=>∃i j,x=.str i/\y=.str j/\Q (.bl (decide (i.cps.toList<j.cps.toList))) H):=by
 intro pins s σ H x y v u Q I rx ry h;obtain⟨i,j,rfl,rfl,q⟩:=h;obtain⟨t,rfl⟩:=rx;obtain⟨t',rfl⟩:=ry;exact lt_str (bj I q rfl)
theorem vY:OpR X (N8 .In) (fun x y H Q=>∃i j,x=.str i/\y=.str j/\Q (.bl (!(Pp j i 0 j.length 1).isEmpty)) H):=by
 intro pins s σ H x y v u Q I rx ry h;obtain⟨i,j,rfl,rfl,q⟩:=h;obtain⟨t,rfl⟩:=rx;obtain⟨t',rfl⟩:=ry;exact in_str (bj I q rfl)
theorem FO:OpR X (N8 .Is) (fun x y H Q=>y=.non/\Q (.bl (decide (x=.non))) H):=by
 intro pins s σ H x y v u Q I rx ry h;obtain⟨rfl,q⟩:=h;cases ry;refine is_none_gen (bj I q ?_)
 cases x <;> first
  | (cases rx;rfl)
  | (obtain⟨t,rfl⟩:=rx;rfl)
theorem wb(b:Expr){op:CmpOp}(h:op≠.In:=by decide)(h2:op≠.NotIn:=by decide):Pl op b=false:=by
 have e1:(op == CmpOp.In)=false:=by cases op <;> first | rfl | exact absurd rfl h
 have e2:(op == CmpOp.NotIn)=false:=by cases op <;> first | rfl | exact absurd rfl h2
 cases b <;> simp[Pl,e1,e2]
theorem CA{op:CmpOp}{r:R2}(ho:OpR X (N8 op) r)(ha:PE X a ta)(hb:PE X b tb)(hm:Pl op b=false):PE X (.Compare a [op] [b] pos) (tOp r ta tb):=by
 intro pins s σ H Q I h;exact wpAny_Compare1 (JU ha hb I h fun v u s2 x y H2 I2 rx ry q=>ho pins s2 σ H2 x y v u Q I2 rx ry q) hm
def F4(t:TE):TT:=fun σ H Q=>t σ H fun x H'=>∃k,x=.bl k/\Q k H'
theorem vI{op:CmpOp}{r:R2}(ho:OpR X (N8 op) r)(ha:PE X a ta)(hb:PE X b tb)(hm:Pl op b=false):PT X (.Compare a [op] [b] pos) (F4 (tOp r ta tb)):=by
 intro pins s σ H Q I h
 refine wpAny_isTrue_Compare1 (thn (ha pins s σ H _ I h) fun v s1 ⟨x,H1,I1,r1,q1⟩=>thn (hb pins s1 σ H1 _ I1 q1) fun u s2 ⟨y,H2,I2,r2,q2⟩=>
  thn (ho pins s2 σ H2 x y v u _ I2 r1 r2 q2) fun c s3 ⟨z,H3,I3,r3,k,e,q3⟩=>?_) hm
 subst e;cases r3;exact OD ⟨H3,I3,q3⟩
def F7(r r':R2)(ta tb tc:TE):TE:=fun σ H Q=>ta σ H fun x H1=>tb σ H1 fun y H2=>r x y H2 fun z H3=>∃k,z=.bl k/\
 (if k=true then tc σ H3 fun w' H4=>r' y w' H4 Q else Q (.bl false) H3)
theorem zh{op op':CmpOp}{r r':R2}(ho:OpR X (N8 op) r)(ho':OpR X (N8 op') r')(ha:PE X a ta)(hb:PE X b tb)(hc:PE X c tc)
  (hm:lastMarks [op,op'] [b,c]=false:=by with_unfolding_all rfl):PT X (.Compare a [op,op'] [b,c] pos) (F4 (F7 r r' ta tb tc)):=by
 intro pins s σ H Q I h
 refine isTrue_chain (thn (ha pins s σ H _ I h) fun v s1 ⟨x,H1,I1,r1,q1⟩=>test_link (thn (hb pins s1 σ H1 _ I1 q1) fun u s2 ⟨y,H2,I2,r2,q2⟩=>
  thn (ho pins s2 σ H2 x y v u _ I2 r1 r2 q2) fun d s3 ⟨z,H3,I3,r3,k,e,q3⟩=>?_)) hm
 subst e;cases r3;refine OD ?_;cases k with
 | false=>
  obtain⟨k',e',q'⟩:=q3;cases e';exact ite_ff ⟨H3,I3,q'⟩
 | true=>
  refine ite_tt (test_last (thn (hc pins s3 σ H3 _ I3 q3) fun w' s4 ⟨z',H4,I4,r4,q4⟩=>thn (ho' pins s4 σ H4 y z' u w' _ I4 r2 r4 q4) fun d' s5 ⟨z2,H5,I5,r5,k2,e2,q5⟩=>?_));subst e2;cases r5;exact OD ⟨H5,I5,q5⟩
def LQ(K:M8)(x:V)(H:Hp)(k:Bool):Prop:=
 match x with
 | .non=>k=false
 | .bl b=>k=b
 | .int i=>k=(i != 0)
 | .str y=>y.length<=sizeLine/\k=((y.length:Int) != 0)
 | .byt y=>y.size<=sizeLine/\k=((y.size:Int) != 0)
 | .ref p=>(∃xs,SqL K H p xs/\k=!xs.isEmpty)\/(∃xs,SqT K H p xs/\k=!xs.isEmpty)\/∃kvs,H p=some (.dK kvs)/\k=!kvs.isEmpty
 | _=>False
theorem nO{κ:Type}{kvs:List (κ×V)}{vs:List (κ×M9)}(r:KV kvs vs):(!vs.isEmpty)=!kvs.isEmpty:=by
 cases r <;> rfl
theorem nN{xs:List V}{its:List M9}(r:Vals xs its):(!its.toArray.isEmpty)=!xs.isEmpty:=by
 cases r <;> simp
theorem pY:(sizeLine:Nat)<2 ^ 63:=by rw[N7];decide
theorem cB:KI X (fun x H Q=>∃k,LQ X.K x H k/\Q k H):=by
 intro pins s σ H x v Q I rx h;obtain⟨k,e,q⟩:=h;have hl:=pY;have hs:sizeLine=16777216:=N7;cases x with
 | non=>
  cases rx;have e':k=false:=e;subst e';exact truthy_none ⟨H,I,q⟩
 | bl b=>
  cases rx;have e':k=b:=e;subst e';exact OD ⟨H,I,q⟩
 | int i=>
  obtain⟨t,rfl⟩:=rx;have e':k=(i != 0):=e;subst e';exact PySem.P.truthy_int ⟨H,I,q⟩
 | str y=>
  obtain⟨t,rfl⟩:=rx;obtain⟨hy,e'⟩:y.length<=sizeLine/\k=((y.length:Int) != 0):=e;subst e';exact PySem.P.truthy_str (by omega) ⟨H,I.tok _,q⟩
 | byt y=>
  obtain⟨t,rfl⟩:=rx;obtain⟨hy,e'⟩:y.size<=sizeLine/\k=((y.size:Int) != 0):=e;subst e';exact PySem.W.truthy_bytes (by omega) ⟨H,I.tok _,q⟩
 | ref p=>
  cases rx;have e':(∃xs,SqL X.K H p xs/\k=!xs.isEmpty)\/(∃xs,SqT X.K H p xs/\k=!xs.isEmpty)\/∃kvs,H p=some (.dK kvs)/\k=!kvs.isEmpty:=e;rcases e' with⟨xs,hx,e'⟩|⟨xs,hx,e'⟩|⟨kvs,hx,e'⟩
  ·subst e'
   obtain⟨its,r,pl,hz⟩:=I.list hx;have hlen:=r.length;exact wpAny_truthy_list pl.isList (by simp only[Mj];omega) ⟨H,I.tok _,by rw[nN r];exact q⟩
  ·subst e'
   obtain⟨its,r,pl,hz⟩:=I.tuple hx;have hlen:=r.length;exact truthy_tuple pl (by simp only[Mj];omega) ⟨H,I.tok _,by rw[nN r];exact q⟩
  ·subst e'
   obtain⟨hz,hS,vs,r,m⟩:kvs.length<=sizeLine/\(p == N6)=false/\∃vs,KV kvs vs/\s.heap.DictOf (aw X.prog X.w) p vs:=I.hok p _ hx;have hlen:kvs.length=vs.length:=N3 r;exact wpAny_truthy_dict hS m (by omega) ⟨H,I.tok _,by rw[nO r];exact q⟩
 | _=>exact(show False from e).elim
theorem uu:OpR X (P6 .Add) (fun x y H Q=>∃i j,x=.str i/\y=.str j/\i.length+j.length<=sizeLine/\Q (.str (i++j)) H):=by
 intro pins s σ H x y v u Q I rx ry h;obtain⟨i,j,rfl,rfl,hz,q⟩:=h;obtain⟨t,rfl⟩:=rx;obtain⟨t',rfl⟩:=ry;exact add_str (fun t' tk=>⟨.str (i++j),H,I.tok _,⟨_,rfl⟩,q⟩) hz
theorem vals1{x:V}{us:List M9}(r:Vals [x] us):∃u,us=[u]/\RelV x u:=by
 cases r with
 | cons r1 r2=>cases r2;exact⟨_,rfl,r1⟩
theorem vals2{x y:V}{us:List M9}(r:Vals [x,y] us):∃u w',us=[u,w']/\RelV x u/\RelV y w':=by
 cases r with
 | cons r1 r2=>
  cases r2 with
  | cons r3 r4=>cases r4;exact⟨_,_,rfl,r1,r3⟩
theorem qz:iy X (.type "int") (fun xs H Q=>(∃i,xs=[.int i]/\Q (.int i) H)\/∃k,xs=[.bl k]/\Q (.int (if k then 1 else 0)) H):=by
 intro pins s σ H xs us Q I r h;rcases h with⟨i,rfl,q⟩|⟨k,rfl,q⟩
 ·obtain⟨u,rfl,t,rfl⟩:=vals1 r
  exact call_int_int ⟨.int i,H,I,⟨_,rfl⟩,q⟩
 ·obtain⟨u,rfl,r1⟩:=vals1 r
  cases r1;exact call_int_bool ⟨.int (if k then 1 else 0),H,I.tok _,⟨_,rfl⟩,q⟩
def LS(K:M8)(x:V)(H:Hp)(n:Nat):Prop:=
 match x with
 | .str y=>y.length<=sizeLine/\n=y.length
 | .byt y=>y.size<=sizeLine/\n=y.size
 | .ref p=>(∃xs,SqL K H p xs/\n=xs.length)\/∃xs,SqT K H p xs/\n=xs.length
 | _=>False
theorem oY:iy X (.builtin "len") (fun xs H Q=>∃x n,xs=[x]/\LS X.K x H n/\Q (.int n) H):=by
 intro pins s σ H xs us Q I r h;obtain⟨x,n,rfl,e,q⟩:=h;obtain⟨u,rfl,rx⟩:=vals1 r;have hl:=pY;have hs:sizeLine=16777216:=N7;cases x with
 | str y=>
  obtain⟨t,rfl⟩:=rx;obtain⟨hy,e'⟩:y.length<=sizeLine/\n=y.length:=e;subst e';exact len_str (by omega) ⟨.int _,H,I.tok _,⟨_,rfl⟩,q⟩
 | byt y=>
  obtain⟨t,rfl⟩:=rx;obtain⟨hy,e'⟩:y.size<=sizeLine/\n=y.size:=e;subst e';exact PySem.W.len_bytes (by omega) ⟨.int _,H,I.tok _,⟨_,rfl⟩,q⟩
 | ref p=>
  cases rx;have e':(∃xs,SqL X.K H p xs/\n=xs.length)\/∃xs,SqT X.K H p xs/\n=xs.length:=e;rcases e' with⟨xs,hx,e'⟩|⟨xs,hx,e'⟩
  ·subst e'
   obtain⟨its,r',pl,hz⟩:=I.list hx;have hlen:=r'.length;exact Calls.call_len_list pl.isList (by simp only[Mj];omega) ⟨.int xs.length,H,I.tok _,⟨_,by simp only[Mj];rw[hlen]⟩,q⟩
  ·subst e'
   obtain⟨its,r',pl,hz⟩:=I.tuple hx;have hlen:=r'.length;exact len_tuple pl (by simp only[Mj];omega) ⟨.int xs.length,H,I.tok _,⟨_,by simp only[Mj];rw[hlen]⟩,q⟩
 | _=>exact(show False from e).elim
end
end L2
namespace L2
open PySem PySem.Spec PyProof.Rows
def qT(f:Str)(v:V):List (Str×V)->List (Str×V)
 | []=>[(f,v)]
 | (g,x)::r=>if g=f then (g,v)::r else (g,x)::qT f v r
theorem mQ.some_of{v:V}{o:Option M9}(r:mQ (some v) o):∃u,o=some u/\RelV v u:=by
 cases o with
 | none=>exact(show False from r).elim
 | some u=>exact⟨u,rfl,r⟩
theorem mQ.none_of{o:Option M9}(r:mQ none o):o=none:=by
 cases o with
 | none=>rfl
 | some u=>exact(show False from r).elim
structure Cls(K:M8)(C:Addr):Prop where
 pg:PySem.W.plainGet K C Str.empty=true
 hd:PySem.W.hasDictIn K C=true
 po:PySem.W.plainOver K C=true
 sa:Tb K (.ref C) "__setattr__"=some (some (.builtin "object.__setattr__"))
structure Con(K:M8)(C:Addr)(f:Str)(v:V)(u:M9):Prop where
 at_:Tb K (.ref C) f=some (some u)
 rel:RelV v u
 get:PySem.W.specialIn K u "__get__"=some none
 cp:PySem.W.copiedNames.contains f=false
end L2
namespace L2
open PySem PySem.Spec PyProof.Rows
structure Room(k:Nat)(A:Mt):Prop where
 hd:A.handled=none
 dp:A.depth+3 * k+5<recursionLimit
 un:A.units+16 * k+200<cLine
theorem Room.mono{j k:Nat}{A:Mt}(r:Room k A)(h:j<=k):Room j A:=⟨r.hd,by have:=r.dp;omega,by have:=r.un;omega⟩
theorem Room.deeper{k:Nat}{A:Mt}(r:Room (k+1) A)(env:RB):Room k (A.deeper env):=
 ⟨r.hd,by have:=r.dp;show A.depth+1+3 * k+5<_;omega,by have:=r.un;show A.units+3+16 * k+200<_;omega⟩
theorem Room.depth{k:Nat}{A:Mt}(r:Room k A):A.depth<recursionLimit:=by have:=r.dp;omega
theorem Room.units{k:Nat}{A:Mt}(r:Room k A):A.units+64<cLine:=by have:=r.un;omega
def L4:TA:=fun _ H Q=>Q [] H
def IG(ta:TE)(tr:TA):TA:=fun σ H Q=>ta σ H fun x H1=>tr σ H1 fun xs H2=>Q (x::xs) H2
section
variable{X : Cx}{e : Expr}{es : List Expr}{te : TE}{t : TA}{pos : Nt}
theorem gI:PA X [] L4:=fun _ _ _ _ H Q I h=>Calls.spliced_nil ⟨[],H,I,.nil,h⟩
theorem c5(ha:PE X e te)(hr:PA X es t)(hs:MZ (e::es) X.env=(false,NJ e X.env)::MZ es X.env:=by rfl):PA X (e::es) (IG te t):=by
 intro pos pins s σ H Q I h;rw[hs];show Mf _ _ (spliced ((false,NJ e X.env)::OJ pos (MZ es X.env))) _ _ s;refine Calls.spliced_cons (thn (ha pins s σ H _ I h) fun u s1 ⟨x,H1,I1,r1,q1⟩=>?_);exact thn (hr pos pins s1 σ H1 _ I1 q1) fun us s2 ⟨xs,H2,I2,r2,q2⟩=>⟨x::xs,H2,I2,.cons r1 r2,q2⟩
def KU(t:TA):TE:=fun σ H Q=>t σ H fun xs H1=>xs.length<=sizeLine/\∀p,H1 p=none->Q (.ref p) (upd H1 p (.tup xs))
def L5(t:TA):TE:=fun σ H Q=>t σ H fun xs H1=>xs.length<=sizeLine/\∀p,H1 p=none->Q (.ref p) (upd H1 p (.lst xs))
theorem FC{x1}(h:PA X es t):PE X (.Tuple es x1 pos) (KU t):=by
 intro pins s σ H Q I hq;refine wpAny_Tuple_spliced (thn (h pos pins s σ H _ I hq) fun us s1 ⟨xs,H1,I1,r,z,q⟩=>⟨by rw[← r.length];exact z,?_⟩);have hf:H1 s1.heap.objs.size=none:=I1.hok.fresh (Ma _);refine⟨.ref s1.heap.objs.size,upd H1 s1.heap.objs.size (.tup xs),I1.laid (t':=s1.toks) (fun b u e=>MJ _ e) (Ma _) ?_,rfl,q _ hf⟩;exact⟨z,us,r,⟨_,Mo _ rfl,rfl,⟨_,rfl⟩,fun _=>rfl⟩⟩
theorem FG(h:PA X es t):PE X (.List es pos) (L5 t):=by
 intro pins s σ H Q I hq;refine wpAny_List_spliced (thn (h pos pins s σ H _ I hq) fun us s1 ⟨xs,H1,I1,r,z,q⟩=>⟨by rw[← r.length];exact z,?_⟩);have hf:H1 s1.heap.objs.size=none:=I1.hok.fresh (Ma _);refine⟨.ref s1.heap.objs.size,upd H1 s1.heap.objs.size (.lst xs),I1.laid (t':=s1.toks) (fun b u e=>MJ _ e) (Ma _) ?_,rfl,q _ hf⟩;exact⟨z,us,0,r,Mo _ rfl⟩
end
abbrev Sp:=List V->Hp->VK->XK->Prop
abbrev CXT:=List RB->Hp->MD->XK->M9->MD->Prop
structure Env0(P:Md)(w:Ml)(K:M8)(mg:Str->Option M9)(base:Heap)(A:Mt)(outer:List RB)(s:MD)(H:Hp):Prop where
 frames:A.frames=some outer
 mod:Mod K mg base
 bs:∀b o,base.get? b=some o->s.heap.get? b=some o/\H b=none
 bsz:base.objs.size<=s.heap.objs.size
 funs:s.heap.FunFrames base outer
 frf:∀b∈frs outer,H b=none
 hok:HOk P w H s.heap
 bare:QZ s.gens
def CE(outer:List RB)(P:Md)(w:Ml)(H:Hp)(s:MD)(Q:VK)(u:M9)(s':MD):Prop:=
 ∃v H',s'.os=s.os/\QZ s'.gens/\Un (frs outer) [] H H' s.heap s'.heap/\HOk P w H' s'.heap/\RelV v u/\Q v H'
def CR(CX:CXT)(outer:List RB)(P:Md)(w:Ml)(H:Hp)(s:MD)(Q:VK)(E:XK)(r:Result)(s':MD):Prop:=
 match r with
 | .ok (.ret u)=>CE outer P w H s Q u s'
 | .ok _=>False
 | .error e=>CX outer H s E e s'
structure FnOk(P:Md)(w:Ml)(K:M8)(mg:Str->Option M9)(base:Heap)(CX:CXT)(k:Nat)(f:Addr)(fd:FuncData)(ps:List Str)(sp:Sp):Prop where
 len:∀vs H Q E,sp vs H Q E->vs.length=ps.length
 run:∀(A:Mt)(outer:List RB)(s:MD)(H:Hp)(args:Args)(us:List M9)(vs:List V)(Q:VK)(E:XK),Room k A->Env0 P w K mg base A outer s H->SK s fd args (ps.zip us)->Vals vs us->sp vs H Q E->
  QI (Ms P w) A (.call (.ref f) args) (CR CX outer P w H s Q E) s
section
variable{X : Cx}{pins : List (Addr×Obj)}{σ : St}{H : Hp}{s s' : MD}
theorem Inv.env0(I:Inv X pins σ H s):Env0 X.prog X.w X.K X.mg X.base X.A X.stack s H:=
 ⟨I.ok.frames,I.ok.mod,I.bs,NB I.ok.bsz I.sz,I.stack,I.stkFree,I.hok,I.bare⟩
theorem Inv.after{Q:VK}{u:M9}(I:Inv X pins σ H s)(h:CE X.stack X.prog X.w H s Q u s'):EP X pins σ Q u s':=by
 obtain⟨v,H',os,bare,un,hok,r,q⟩:=h;obtain⟨hh,g,d,t,os'⟩:=s';obtain rfl:os'=s.os:=os;exact⟨v,H',I.call (h':=hh) (g':=g) (d':=d) (t':=t) (ch:=[]) un hok bare (fun b z=>absurd z (by simp)),r,q⟩
end
def IH(sp:Sp)(dvs:List V)(E:XK)(t:TA):TE:=fun σ H Q=>t σ H fun vs H1=>sp (vs++dvs) H1 Q E
def Binds(K:M8)(fd:FuncData)(ps:List Str)(ds:List M9):Prop:=
 ∀(s:MD)(us:List M9),K.In s.heap->(us++ds).length=ps.length->SK s fd ⟨us,[]⟩ (ps.zip (us++ds))
theorem Binds.all{K:M8}{fd:FuncData}{ps:List Str}(h:∀us:List M9,us.length=ps.length->Rg fd ⟨us,[]⟩=pure (ps.zip us)):Binds K fd ps []:=fun s us _ hl=>by
 rw[NH] at hl ⊢;exact .of_eq (h us hl)
def Passes(CX:CXT)(X:Cx)(E:XK):Prop:=∀(pins:List (Addr×Obj))(σ:St)(H:Hp)(s:MD)(e:M9)(s':MD),Inv X pins σ H s->CX X.stack H s E e s'->X.xe e s'
section
variable{X : Cx}{CX : CXT}{k : Nat}{f C : Addr}{fd : FuncData}{ps : List Str}{sp : Sp}{dvs : List V}{ds : List M9}{E : XK}{x m : Str}{p pos apos : Nt}{e o : Expr}{es : List Expr}{ta : TE}{t : TA}
theorem Fk{pins:List (Addr×Obj)}{σ:St}{H:Hp}{s:MD}{Q:VK}{us:List M9}{vs:List V}(F:FnOk X.prog X.w X.K X.mg X.base CX k f fd ps sp)(hr:Room k X.A)(hb:Binds X.K fd ps ds)(hd:Vals dvs ds)(hx:Passes CX X E)
  (I:Inv X pins σ H s) (r:Vals vs us) (h:sp (vs++dvs) H Q E):Mf (Ms X.prog X.w) X.A (call (.ref f) us) (EP X pins σ Q) X.xe s:=by
 have r2:Vals (vs++dvs) (us++ds):=r.append hd;have hl:(us++ds).length=ps.length:=by rw[← r2.length];exact F.len _ _ _ _ h
 refine SY (Pw (F.run X.A X.stack s H ⟨us,[]⟩ (us++ds) (vs++dvs) Q E hr I.env0 (hb s us I.kIn hl) r2 h) fun r s' hq=>?_);cases r with
 | error e=>exact hx pins σ H s e s' I hq
 | ok fl=>
  cases fl with
  | ret u=>exact I.after hq
  | next=>exact MI hq
  | brk=>exact MI hq
  | cont=>exact MI hq
theorem vU(F:FnOk X.prog X.w X.K X.mg X.base CX k f fd ps sp)(hr:Room k X.A)(hg:Gl X x)(hm:X.mg x=some (.ref f))(hk:Np X.K (.ref f)=true)(hb:Binds X.K fd ps ds)(hd:Vals dvs ds)(hx:Passes CX X E)
  (ha:PA X (e::es) t) (hdb:(x == ("__debug__":Str))=false:=by decide) (he:MZ (e::es) X.env=(false,NJ e X.env)::MZ es X.env:=by rfl) (hpl:(OJ pos (MZ es X.env)).any (·.1)=false:=by rfl) :
  PE X (.Call (.Name x p) (e::es) [] pos) (IH sp dvs E t):=by
 intro pins s σ H Q I h;refine OW (rj I hg hm ?_ hdb);refine Sd (h₀:=X.base) I.ok.mod.kin hk (thn (ha pos pins s σ H _ I h) fun us s1 ⟨vs,H1,I1,r,q⟩=>⟨I1.kIn,?_⟩) he hpl;exact Fk F hr hb hd hx I1 r q
end
structure FnScope(N P:List Str)(sc:Scope):Prop where
 kind:sc.kind=.function
 co:sc.isCoroutine=false
 gen:sc.isGenerator=false
 nd:N.Nodup
 pre:N.take P.length=P
 par:∀x∈P,sc.names.lookup x=some .local\/sc.names.lookup x=some .cell
 nofree:∀y∈sc.names,y.2≠.free
theorem qA{kindOf:Str->Option OO}{x:Str}:∀{binds:List (Str×M9)}{m:Str->Option M9},(∀v,(x,v) ∉ binds)->TM kindOf binds m x=m x
 | [],_,_=>rfl
 | (n,v)::r,m,h=>by
  unfold TM;rw[qA fun w hw=>h w (Me _ hw)]
  split
  ·have:x≠n:=by rintro rfl;exact h v Mh
   simp[this]
  ·rfl
theorem qC{kindOf:Str->Option OO}{x:Str}:∀{binds:List (Str×M9)}{m:Str->Option M9},(∀v,(x,v) ∉ binds)->TN kindOf binds m x=m x
 | [],_,_=>rfl
 | (n,v)::r,m,h=>by
  unfold TN;rw[qC fun w hw=>h w (Me _ hw)]
  split
  ·rfl
  ·have:x≠n:=by rintro rfl;exact h v Mh
   simp[this]
theorem qB{kindOf:Str->Option OO}{x:Str}{v:M9}:∀{P:List Str}{vs:List M9}{i:Nat}{m:Str->Option M9},P.Nodup->P[i]?=some x->vs[i]?=some v->kindOf x=some .local->
  TM kindOf (P.zip vs) m x=some v
 | [],_,_,_,_,h,_,_=>by simp at h
 | _::_,[],_,_,_,_,h,_=>by simp at h
 | p::P,w::vs,0,m,nd,h1,h2,hk=>by
  simp at h1 h2;subst h1;subst h2;show TM kindOf ((p,w)::P.zip vs) m p=_;unfold TM;rw[qA fun v hv=>(Mu.mp nd).1 (Oy hv).1,if_pos hk];simp
 | p::P,w::vs,i+1,m,nd,h1,h2,hk=>by
  show TM kindOf ((p,w)::P.zip vs) m x=_;unfold TM;exact qB (i:=i) (Mu.mp nd).2 (by simpa using h1) (by simpa using h2) hk
theorem qD{kindOf:Str->Option OO}{x:Str}{v:M9}:∀{P:List Str}{vs:List M9}{i:Nat}{m:Str->Option M9},P.Nodup->P[i]?=some x->vs[i]?=some v->kindOf x≠some .local->
  TN kindOf (P.zip vs) m x=some v
 | [],_,_,_,_,h,_,_=>by simp at h
 | _::_,[],_,_,_,_,h,_=>by simp at h
 | p::P,w::vs,0,m,nd,h1,h2,hk=>by
  simp at h1 h2;subst h1;subst h2;show TN kindOf ((p,w)::P.zip vs) m p=_;unfold TN;rw[qC fun v hv=>(Mu.mp nd).1 (Oy hv).1,if_neg hk];simp
 | p::P,w::vs,i+1,m,nd,h1,h2,hk=>by
  show TN kindOf ((p,w)::P.zip vs) m x=_;unfold TN;exact qD (i:=i) (Mu.mp nd).2 (by simpa using h1) (by simpa using h2) hk
def start(N:List Str)(vs:List V):St:=vs.map some++Mv (N.length-vs.length) none
def BD(CX:CXT)(P:Md)(w:Ml)(K:M8)(mg:Str->Option M9)(base:Heap)(N:List Str)(qual:Str)(scope:Scope)(f:Addr)(cd:M9)(A:Mt)(outer:List RB)(s:MD)(H:Hp)(E:XK):Cx where
 prog:=P
 w:=w
 K:=K
 mg:=mg
 base:=base
 A:=A.deeper (PB qual scope s.heap.objs.size f cd)
 N:=N
 s₀:=s
 H₀:=H
 env:=PB qual scope s.heap.objs.size f cd
 outer:=outer
 stack:=PB qual scope s.heap.objs.size f cd::outer
 ex:=[]
 calm:=true
 fn:=fun _=>true
 pn:=[]
 xe:=fun e s'=>Mf (Ms P w) (A.deeper (PB qual scope s.heap.objs.size f cd)) (leaving (PB qual scope s.heap.objs.size f cd) e) (fun _ s''=>CX outer H s E e s'') (fun e' s''=>CX outer H s E e' s'') s'
theorem tU{sc:Scope}{n:Nat}{x:Str}(h:sc.names.lookup x=some .cell):∃c,(cellsFrom n sc.names []).lookup x=some c:=by
 have q:=Rt sc.names n [] (.inl h);exact Rl.mp q
theorem wV{CX:CXT}{P:Md}{w:Ml}{K:M8}{mg:Str->Option M9}{base:Heap}{N ps:List Str}{qual:Str}{scope:Scope}{f:Addr}{cd:M9}{A:Mt}{outer:List RB}{s s1:MD}{H:Hp}{E:XK}{us:List M9}{vs:List V}
  (S:FnScope N ps scope) (hd:A.handled=none) (e0:Env0 P w K mg base A outer s H) (hl:vs.length=ps.length) (r:Vals vs us)
  (x:InCallC s s.heap.objs.size (TM (PB qual scope s.heap.objs.size f cd).kindOf (ps.zip us) fun _=>none) (cellsFrom (s.heap.objs.size+1) scope.names []) (TN (PB qual scope s.heap.objs.size f cd).kindOf (ps.zip us) fun _=>none) s1) :
  Inv (BD CX P w K mg base N qual scope f cd A outer s H E) [] (start N vs) H s1:=by
 have hpl:ps.length<=N.length:=by have:=congrArg O8 S.pre;rw[Oj] at this;omega
 obtain⟨h1,tk,rfl,hk⟩:=x.done;have noA:∀b:Addr,b ∉ (BD CX P w K mg base N qual scope f cd A outer s H E).ex:=fun b z=>absurd (show b∈([]:List Addr) from z) (by simp)
 refine⟨⟨e0.mod,S.kind,rfl,rfl,Ma _,fun y z c h1 h2=>?_,fun y hy=>?_,fun y c _ h=>?_,fun _=>hd,SL e0.frames,.inr ⟨rfl,rfl⟩,fun b z=>absurd z (noA b),e0.bs,e0.bsz,fun b _ _=>noA b,fun b z=>absurd z (noA b),e0.funs,e0.frf⟩,
  rfl,e0.bare,Un.kept hk,⟨_,x.toInCall.ns,fun i y v h1 h2 h3=>?_⟩,fun y c h=>⟨_,x.cell y c h⟩,e0.hok.fresh (Ma _),fun y c h=>?_,fun p hp=>absurd (show p∈([]:List (Addr×Obj)) from hp) (by simp),e0.hok.kept hk,?_⟩
 ·exact name_of_addr x.apart (Mw h1) (Mw h2)
 ·have hy:scope.names.lookup y=some .cell\/scope.names.lookup y=some .free:=hy
  rcases hy with hy | hy
  ·exact tU hy
  ·exact absurd rfl (S.nofree _ (Mw hy))
 ·exact RG (x.above y c (Mw h))
 ·have hi:i<vs.length:=by
   unfold start at h2
   by_cases hi:i<vs.length
   ·exact hi
   ·rw[Mm (by simpa using hi)] at h2
    rw[NC] at h2;split at h2 <;> cases h2
  have ha:vs[i]?=some v:=by
   unfold start at h2;rw[ML (by simpa using hi),MM] at h2;cases e:vs[i]? with
   | none=>rw[e] at h2;cases h2
   | some a=>rw[e] at h2;cases h2;rfl
  obtain⟨u,hu,rv⟩:=r.get ha
  have hp:ps[i]?=some y:=by
   rw[← S.pre,List.getElem?_take_of_lt (by omega)];exact h1
  have ndP:ps.Nodup:=by rw[← S.pre];exact S.nd.sublist (Tf _ _)
  refine⟨u,rv,?_⟩;rcases S.par y (Mk hp) with k | k
  ·exact .inl ⟨k,qB ndP hp hu k⟩
  ·obtain⟨c,e⟩:=tU (n:=s.heap.objs.size+1) k
   refine .inr ⟨.inl k,c,e,?_⟩;have q:=x.cell y c e;rw[qD ndP hp hu (by show scope.names.lookup y≠_;rw[k];decide)] at q;exact q
 ·exact e0.hok.fresh (RG (x.above y c (Mw h)))
 ·unfold start
  show _=N.length;rw[Mi,MG,OV];omega
theorem GR{CX:CXT}{P:Md}{w:Ml}{K:M8}{mg:Str->Option M9}{base:Heap}{k:Nat}{f:Addr}{name qual:Str}{params:Arguments}{body:List Stmt}{scope:Scope}{dV kV doc pm cdv ct oc:M9}{an od:Option Addr}
  {osl:Array (Option M9)} {N ps:List Str} {sp:Sp} (lk:K.lookup f=some ⟨oc,od,.func (NZ name qual params body scope dV kV doc pm an cdv ct),osl⟩) (hcd:OC K cdv qual=true) (S:FnScope N ps scope)
  (len:∀vs H Q E,sp vs H Q E->vs.length=ps.length)
  (hbody:∀(A:Mt)(outer:List RB)(s:MD)(H:Hp)(vs:List V)(Q:VK)(E:XK),Room k (A.deeper (PB qual scope s.heap.objs.size f cdv))->sp vs H Q E->
   ∃t,PSs (BD CX P w K mg base N qual scope f cdv A outer s H E) body t/\t { nx:=fun _ H'=>Q .non H',rt:=Q } (start N vs) H) :
  FnOk P w K mg base CX (k+1) f (NZ name qual params body scope dV kV doc pm an cdv ct) ps sp:=by
 refine⟨len,fun A outer s H args us vs Q E hr e0 hb r hsp=>?_⟩;have hl:=len _ _ _ _ hsp;have KX:K.In s.heap:=e0.mod.kin.keeps fun b o e=>(e0.bs b o e).1;have lim:s.heap.NoLimit:=e0.mod.nolimit.keeps fun b o e=>(e0.bs b o e).1
 have hkind:∀y∈ps.zip us,scope.names.lookup y.1=some .local\/(scope.names.lookup y.1=some .cell/\((cellsFrom (s.heap.objs.size+1) scope.names []).lookup y.1).isSome=true):=fun ⟨n,v⟩ hy=>by
  rcases S.par n (Oy hy).1 with q | q
  ·exact .inl q
  ·exact .inr ⟨q,Rt _ _ _ (.inl q)⟩
 refine codeAny_call_function hr.depth (KX _ _ lk) rfl S.co S.gen rfl (PySem.W.codeRec_of KX hcd) (hb _ _ _ _ ?_);refine wpAny_newFunctionEnv_cells S.kind hkind fun env he s1 x=>?_;subst he;refine⟨lim.keeps x.toInCall.keep,codeAny_func ?_⟩;obtain⟨t,ht,hq⟩:=hbody A outer s H vs Q E (hr.deeper _) hsp;have I:Inv (BD CX P w K mg base N qual scope f cdv A outer s H E) [] (start N vs) H s1:=wV S hr.hd e0 hl r x;refine O1 (ht [] s1 (start N vs) H _ I hq) (fun fl s' hs=>?_) fun e s' hs=>hs
 have fin:∀{σ':St}{H':Hp}{v:V}{u:M9},Inv (BD CX P w K mg base N qual scope f cdv A outer s H E) [] σ' H' s'->RelV v u->Q v H'->CE outer P w H s Q u s':=
  fun {σ' H' v u} J rv q=>⟨v,H',J.os,J.bare,J.base,J.hok,rv,q⟩
 cases fl with
 | ret u=>
  obtain⟨v,σ',H',J,rv,q⟩:=hs;exact fin J rv q
 | next=>
  obtain⟨σ',H',J,q⟩:=hs;exact fin (v:=V.non) (u:=Po) J rfl q
 | brk=>
  obtain⟨_,_,_,q⟩:=hs;exact MI q
 | cont=>
  obtain⟨_,_,_,q⟩:=hs;exact MI q
end L2
namespace L2
open PySem PySem.Spec PyProof.Rows
section
variable{X : Cx}{x : Str}{p pos : Nt}{e : Expr}{es : List Expr}{t : TA}{id T : String}{r : List V → Hp → VK → Prop}
def tCB(r:List V->Hp->VK->Prop)(t:TA):TE:=fun σ H Q=>t σ H fun vs H1=>r vs H1 Q
theorem zu (hc:iy X (.builtin id) r) (hg:Gl X x) (hm:X.mg x=none) (hv:OX x=some (.builtin id)) (ha:PA X (e::es) t) (hn:x≠"__name__":=by decide) (hdb:(x == ("__debug__":Str))=false:=by decide)
  (he:MZ (e::es) X.env=(false,NJ e X.env)::MZ es X.env:=by rfl) (hpl:(OJ pos (MZ es X.env)).any (·.1)=false:=by rfl):PE X (.Call (.Name x p) (e::es) [] pos) (tCB r t):=by
 intro pins s σ H Q I h;refine OW (nK I hg hm hv ?_ hn hdb);exact PyProof.Rows.callWith_builtin1 (thn (ha pos pins s σ H _ I h) fun us s1 ⟨vs,H1,I1,r1,q1⟩=>hc pins s1 σ H1 vs us Q I1 r1 q1) he hpl
theorem pK (hc:iy X (.type T) r) (hg:Gl X x) (hm:X.mg x=none) (hv:OX x=some (.type T)) (ha:PA X (e::es) t) (hn:x≠"__name__":=by decide) (hdb:(x == ("__debug__":Str))=false:=by decide)
  (he:MZ (e::es) X.env=(false,NJ e X.env)::MZ es X.env:=by rfl) (hpl:(OJ pos (MZ es X.env)).any (·.1)=false:=by rfl):PE X (.Call (.Name x p) (e::es) [] pos) (tCB r t):=by
 intro pins s σ H Q I h;refine OW (nK I hg hm hv ?_ hn hdb);exact Nr (thn (ha pos pins s σ H _ I h) fun us s1 ⟨vs,H1,I1,r1,q1⟩=>hc pins s1 σ H1 vs us Q I1 r1 q1) he hpl
end
end L2
namespace HT
open PySem PyProof.Rows
def fJ:List Int->List Int->Bool
 | [],[]=>false
 | [],_::_=>true
 | _::_,[]=>false
 | x::xs,y::ys=>if x=y then fJ xs ys else decide (x<y)
section
variable{prog : Md}{w : Ml}{A : Mt}{E : M9 → MD → Prop}{s : MD}
def sIx(n d:Nat):Option Int->Nat
 | none=>d
 | some v=>if v<0 then (v+(n:Int)).toNat else min v.toNat n
theorem Fj(n d:Nat)(hd:d<=n)(o:Option Int):sIx n d o<=n:=by
 cases o with
 | none=>exact hd
 | some v=>
  show (if v<0 then (v+(n:Int)).toNat else min v.toNat n)<=n
  by_cases hv:v<0
  ·rw[if_pos hv];omega
  ·rw[if_neg hv];exact Nat.min_le_right _ _
theorem xY(v:Int)(n d:Nat):(if v<0 then max (v+(n:Int)) 0 else min v (n:Int))=((sIx n d (some v):Nat):Int):=by
 show (if v<0 then max (v+(n:Int)) 0 else min v (n:Int))=(((if v<0 then (v+(n:Int)).toNat else min v.toNat n):Nat):Int)
 by_cases hv:v<0
 ·simp only[if_pos hv];omega
 ·simp only[if_neg hv];omega
theorem uS(lo hi:Option Int)(n:Nat):Pc lo hi 1 (n:Int)=(((sIx n 0 lo:Nat):Int),((sIx n n hi:Nat):Int)):=by
 have h1:¬ ((1:Int)<0):=by omega
 unfold Pc;simp only[h1,if_false];refine Pd ?_ ?_
 ·cases lo with
  | none=>rfl
  | some v=>exact xY v n 0
 ·cases hi with
  | none=>rfl
  | some v=>exact xY v n n
theorem um(i j:Nat):OQ (i:Int) (j:Int) 1=j-i:=by
 unfold OQ;have h1:(1:Int) > 0:=by omega
 simp only[h1,if_true,Int.ediv_one]
 split <;> omega
theorem mY{v:M9}{o:Option Int}{Q:Option Int->MD->Prop}(p:Qs v o)(h:Q o s):Mf (Ms prog w) A (Builtin.Slice.slicePartIndex v) Q E s:=by
 cases p with
 | none=>exact slicePart_none h
 | int i t=>exact slicePart_int h
theorem gn{sl:Addr}{vl vu:M9}{lo hi:Option Int}{n:Nat}{Q:Int×Int×Nat->MD->Prop}(hs:s.heap.IsSliceOf sl vl vu .none)(pl:Qs vl lo)(pu:Qs vu hi)
  (h:Q (((sIx n 0 lo:Nat):Int),1,sIx n n hi-sIx n 0 lo) s):Mf (Ms prog w) A (Qh (.ref sl) (pure (n:Int))) Q E s:=by
 obtain⟨os,hos,hcs,hds⟩:=id hs;unfold Qh Builtin.Slice.sliceFields;refine MA (MA (wpAny_field hos hds (x:=vl) rfl (MA (wpAny_field hos hds (x:=vu) rfl (MA (wpAny_field hos hds (x:=.none) rfl (MK ?_)))))));refine MA (slicePart_none ?_);show Mf _ _ (if ((1:Int) == 0)=true then _ else _) _ _ s;rw[if_neg (by decide)];refine MA (mY pl (MA (mY pu (MA (MK ?_)))));show Mf _ _ (match Pc lo hi 1 (n:Int) with | (lo,hi)=>pure (lo,(1:Int),OQ lo hi 1)) _ _ s;rw[uS lo hi n];show Mf _ _ (pure (((sIx n 0 lo:Nat):Int),(1:Int),OQ ((sIx n 0 lo:Nat):Int) ((sIx n n hi:Nat):Int) 1)) _ _ s;rw[um];exact MK h
theorem zk(xs:Array M9)(i k:Nat):((MX k).filterMap fun (m:Nat)=>xs[((i:Int)+(m:Int) * 1).toNat]?).toArray=((xs.toList.drop i).take k).toArray:=by
 have e:(fun (m:Nat)=>xs[((i:Int)+(m:Int) * 1).toNat]?)=fun m=>xs[i+m]?:=by
  funext m
  have:((i:Int)+(m:Int) * 1).toNat=i+m:=by omega
  rw[this]
 rw[e];have:=pick_run xs i k;rw[List.filterMap_map] at this;have e2:((fun x=>xs[x]?) ∘ fun x=>i+x)=fun m=>xs[i+m]?:=rfl;rw[e2] at this;rw[this]
theorem getItem_tuple_cut{t sl:Addr}{items:Array M9}{vl vu:M9}{lo hi:Option Int}{Q:M9->MD->Prop}(ht:IsTup s.heap t items)(hs:s.heap.IsSliceOf sl vl vu .none)(pl:Qs vl lo)(pu:Qs vu hi)
  (hw:¬ (sIx items.size 0 lo=0/\sIx items.size items.size hi=items.size))
  (h:Q (.ref s.heap.objs.size) { s with heap:=s.heap.push { cls:=.type "tuple",data:=.seq ((items.toList.drop (sIx items.size 0 lo)).take (sIx items.size items.size hi-sIx items.size 0 lo)).toArray } })
  (hsz:items.size<=sizeLine):Mf (Ms prog w) A (Qw (.ref t) (.ref sl)) Q E s:=by
 have htake:sizeOk (.seq ((items.toList.drop (sIx items.size 0 lo)).take (sIx items.size items.size hi-sIx items.size 0 lo)).toArray):=by
  show ((items.toList.drop (sIx items.size 0 lo)).take (sIx items.size items.size hi-sIx items.size 0 lo)).toArray.size<=sizeLine;rw[Mj,Oj,RO,NI];omega
 have hj:sIx items.size items.size hi<=items.size:=Fj _ _ (Ma _) hi;obtain⟨os,hos,hcs,hds⟩:=id hs;have hTs:s.TypeIs (.ref sl) "slice":=⟨os,hos,hcs⟩;unfold Qw
 try with_reducible refine O5 ?_
 first | refine MA (MK ?_) | skip
 refine MA (wpAny_sequenceKey ht.typeIs (by decide) ?_)
 refine MA (QR (name:=MH "__getitem__") ht.typeIs NO
  (QP NO ht.typeIs entry_tuple_getitem ?_ (args_tuple_getitem _ _)))
 show Mf _ _ (PP (.ref t) >>= _) _ _ s;refine MA (tupleItemsOf_ ht ?_);refine MA (PZ hTs ?_);rw[if_pos (by decide)];refine MA (gn hs pl pu ?_)
 have hno:¬ ((((sIx items.size 0 lo:Nat):Int) == 0 && (1:Int) == 1 && (sIx items.size items.size hi-sIx items.size 0 lo) == items.size)=true):=by
  intro q;rw[ND,ND] at q;have q1:((sIx items.size 0 lo:Nat):Int)=0:=Oz q.1.1;have q2:sIx items.size items.size hi-sIx items.size 0 lo=items.size:=Oz q.2;exact hw ⟨by omega,by omega⟩
 show Mf _ _ (if (((sIx items.size 0 lo:Nat):Int) == 0 && (1:Int) == 1 && (sIx items.size items.size hi-sIx items.size 0 lo) == items.size)=true then _ else _) _ _ s;rw[if_neg hno,zk]
 first
  | exact MA (m:=OY _) (Pa (MK ⟨_,rfl,MK h⟩) htake)
  | exact MA (m:=OY _) (Pa (MA (MK (MK ⟨_,rfl,MK h⟩))) htake)
  | exact MA (MA (m:=OY _) (Pa (MK (MK ⟨_,rfl,MK h⟩)) htake))
  | exact MA (MA (m:=OY _) (Pa (MK ⟨_,rfl,MK h⟩) htake))
end
end HT
namespace L2
open PySem PySem.Spec PyProof.Rows
abbrev TO:=St->Hp->(Option Int->Hp->Prop)->Prop
def PO(X:Cx)(e:Option Expr)(t:TO):Prop:=
 ∀(pins:List (Addr×Obj))(s:MD)(σ:St)(H:Hp)(Q:Option Int->Hp->Prop),Inv X pins σ H s->t σ H Q->
  Mf (Ms X.prog X.w) X.A (evalPart e X.env) (fun u s'=>∃o H',Inv X pins σ H' s'/\Qs u o/\Q o H') X.xe s
def BW:TO:=fun _ H Q=>Q none H
def IC(t:TE):TO:=fun σ H Q=>t σ H fun x H1=>∃i,x=.int i/\Q (some i) H1
section
variable{X : Cx}{e : Expr}{te : TE}{lo hi : Option Expr}{tl th : TO}{pos p2 : Nt}
theorem Cu:PO X none BW:=by
 intro pins s σ H Q I h;rw[evalPart_none];exact MK ⟨none,H,I,.none,h⟩
theorem Ct(h:PE X e te):PO X (some e) (IC te):=by
 intro pins s σ H Q I hw;rw[evalPart_some];refine thn (h pins s σ H _ I hw) fun u s1 ⟨x,H1,I1,r1,q1⟩=>?_;obtain⟨i,rfl,q⟩:=q1;obtain⟨t,rfl⟩:=r1;exact⟨some i,H1,I1,.int i t,q⟩
def SlR(X:Cx)(r:V->Option Int->Option Int->Hp->VK->Prop):Prop:=
 ∀(pins:List (Addr×Obj))(s:MD)(σ:St)(H:Hp)(x:V)(v vl vu:M9)(lo hi:Option Int)(sl:Addr)(Q:VK),Inv X pins σ H s->RelV x v->s.heap.IsSliceOf sl vl vu .none->Qs vl lo->Qs vu hi->r x lo hi H Q->
  ∃T id,typeLookup (.type T) "__getitem__"=pure (some (.builtin id))/\s.TypeIs v T/\Mf (Ms X.prog X.w) X.A (Qw v (.ref sl)) (EP X pins σ Q) X.xe s
def tSl(r:V->Option Int->Option Int->Hp->VK->Prop)(te:TE)(tl th:TO):TE:=fun σ H Q=>te σ H fun x H1=>tl σ H1 fun l H2=>th σ H2 fun u H3=>r x l u H3 Q
theorem ow{r:V->Option Int->Option Int->Hp->VK->Prop}(hr:SlR X r)(he:PE X e te)(hl:PO X lo tl)(hu:PO X hi th):PE X (.Subscript e (.Slice lo hi none p2) pos) (tSl r te tl th):=by
 intro pins s σ H Q I h;refine Subscript_ (thn (he pins s σ H _ I h) fun v s1 ⟨x,H1,I1,r1,q1⟩=>?_);refine wpAny_Slice (thn (hl pins s1 σ H1 _ I1 q1) fun vl s2 ⟨l,H2,I2,pl,q2⟩=>thn (hu pins s2 σ H2 _ I2 q2) fun vu s3 ⟨u,H3,I3,pu,q3⟩=>?_);rw[evalPart_none];refine MK ?_;have I4:Inv X pins σ H3 { s3 with heap:=s3.heap.push { cls:=.type "slice",data:=.fields #[vl,vu,.none] } }:=I3.kept (t':=s3.toks) fun b ob q=>MJ _ q;obtain⟨T,id,hT,ht,hg⟩:=hr pins { s3 with heap:=s3.heap.push { cls:=.type "slice",data:=.fields #[vl,vu,.none] } } σ H3 x v vl vu l u s3.heap.objs.size Q I4 r1 (Heap.IsSliceOf.new ..) pl pu q3;show Mf (Ms X.prog X.w) X.A (subscriptTail e (.Slice lo hi none p2) v (.ref s3.heap.objs.size)) (EP X pins σ Q) X.xe { s3 with heap:=s3.heap.push { cls:=.type "slice",data:=.fields #[vl,vu,.none] } };exact tail_any (ops:=[.ref s3.heap.objs.size,v]) ht hT hg (by with_unfolding_all rfl)
def Ag(xs:List V)(lo hi:Option Int):List V:=(xs.drop (HT.sIx xs.length 0 lo)).take (HT.sIx xs.length xs.length hi-HT.sIx xs.length 0 lo)
theorem mz(xs:List V)(lo hi:Option Int):(Ag xs lo hi).length<=xs.length:=by
 unfold Ag;rw[Oj,RO];omega
def Le(K:M8):V->Option Int->Option Int->Hp->VK->Prop:=fun x lo hi H Q=>∃a xs,x=.ref a/\SqT K H a xs/\
 ¬ (HT.sIx xs.length 0 lo=0/\HT.sIx xs.length xs.length hi=xs.length)/\∀p,H p=none->Q (.ref p) (upd H p (.tup (Ag xs lo hi)))
theorem AH:SlR X (Le X.K):=by
 intro pins s σ H x v vl vu lo hi sl Q I rx hs pl pu h;obtain⟨a,xs,rfl,hx,hw,q⟩:=h;cases rx;obtain⟨its,r,ht,hz⟩:=I.tuple hx;have hlen:its.toArray.size=xs.length:=by rw[Mj];exact r.length.symm
 refine⟨"tuple",_,NO.lookup,ht.typeIs,?_⟩;refine HT.getItem_tuple_cut ht hs pl pu (by rw[hlen];exact hw) ?_ (by rw[hlen];exact hz);rw[hlen];refine⟨.ref s.heap.objs.size,_,I.laid (t':=s.toks) (o:=.tup (Ag xs lo hi)) (fun b ob q=>MJ _ q) (Ma _) ?_,rfl,q _ (I.hok.fresh (Ma _))⟩;exact⟨NB (mz xs lo hi) hz,_,(r.drop (HT.sIx xs.length 0 lo)).take (HT.sIx xs.length xs.length hi-HT.sIx xs.length 0 lo),Av.new _ _⟩
end
end L2
namespace L2
open PySem PySem.Spec PyProof.Rows
def ixN(n:Nat)(i:Int):Option Nat:=if 0<=i then (if i<n then some i.toNat else none) else if -(n:Int)<=i then some (i+n).toNat else none
def atI{α:Type}(xs:List α)(i:Int):Option α:=(ixN xs.length i).bind fun j=>xs[j]?
theorem Dg{n:Nat}{i:Int}{j:Nat}(h:ixN n i=some j):seqIndex? i n=some j/\j<n/\-(n:Int)<=i/\i<n:=by
 unfold ixN at h
 by_cases h0:0<=i
 ·rw[if_pos h0] at h
  by_cases h1:i<n
  ·rw[if_pos h1] at h
   have e:i.toNat=j:=Mq h;exact⟨by rw[seqIndex_of h0 h1,e],by omega,by omega,h1⟩
  ·rw[if_neg h1] at h;cases h
 ·rw[if_neg h0] at h
  by_cases h1:-(n:Int)<=i
  ·rw[if_pos h1] at h
   have e:(i+n).toNat=j:=Mq h;exact⟨by rw[seqIndex_neg (by omega) h1,e],by omega,h1,by omega⟩
  ·rw[if_neg h1] at h;cases h
theorem rY{α:Type}{xs:List α}{i:Int}{v:α}(h:atI xs i=some v):∃j,seqIndex? i xs.length=some j/\xs[j]?=some v/\j<xs.length/\-(xs.length:Int)<=i/\i<xs.length:=by
 unfold atI at h;cases e:ixN xs.length i with
 | none=>rw[e] at h;cases h
 | some j=>
  rw[e] at h;obtain⟨h1,h2,h3,h4⟩:=Dg e;exact⟨j,h1,h,h2,h3,h4⟩
def ym(b:Expr):Prop:=∀o i,subscripted b false o i=operate [o,i] (Qw o i)
def IxR(X:Cx)(r:R2):Prop:=
 ∀(value slice:Expr)(pins:List (Addr×Obj))(s:MD)(σ:St)(H:Hp)(x y:V)(v u:M9)(Q:VK),Inv X pins σ H s->RelV x v->RelV y u->r x y H Q->
  subscripted slice false v u=operate [v,u] (Qw v u)->Mf (Ms X.prog X.w) X.A (subscriptTail value slice v u) (EP X pins σ Q) X.xe s
def MtR(X:Cx)(id:String)(r:V->List V->Hp->VK->Prop):Prop:=
 ∀(pins:List (Addr×Obj))(s:MD)(σ:St)(H:Hp)(x:V)(xs:List V)(v:M9)(us:List M9)(Q:VK),Inv X pins σ H s->RelV x v->Vals xs us->r x xs H Q->
  Mf (Ms X.prog X.w) X.A (call (.builtin id) (v::us)) (EP X pins σ Q) X.xe s
section
variable{X : Cx}{a b : Expr}{ta tb : TE}{pos : Nt}
theorem Jb{r:R2}(hr:IxR X r)(ha:PE X a ta)(hb:PE X b tb)(hs:ym b):PE X (.Subscript a b pos) (tOp r ta tb):=by
 intro pins s σ H Q I h;exact Subscript_ (JU ha hb I h fun v u s2 x y H2 I2 rx ry q=>hr a b pins s2 σ H2 x y v u Q I2 rx ry q (hs _ _))
def Lk(K:M8):R2:=fun x y H Q=>∃p xs i v,x=.ref p/\y=.int i/\SqL K H p xs/\atI xs i=some v/\Q v H
def Li(K:M8):R2:=fun x y H Q=>∃p xs i v,x=.ref p/\y=.int i/\SqT K H p xs/\atI xs i=some v/\Q v H
def Lj:R2:=fun x y H Q=>∃z i c,x=.str z/\y=.int i/\z.length<=sizeLine/\atI z.cps.toList i=some c/\Q (.str ⟨#[c]⟩) H
theorem Df:IxR X (Lk X.K):=by
 intro value slice pins s σ H x y v u Q I rx ry h hs;obtain⟨p,xs,i,z,rfl,rfl,hq,he,q⟩:=h;cases rx;obtain⟨t,rfl⟩:=ry;obtain⟨its,r,pl,hz⟩:=I.list hq;obtain⟨j,h1,h2,h3,h4,h5⟩:=rY he;obtain⟨w,ew,rw'⟩:=r.get h2;have hl:=r.length;have hn:=pY;have fin:EP X pins σ Q w s:=⟨z,H,I,rw',q⟩
 by_cases h0:0<=i
 ·have hj:i.toNat=j:=by
   rw[seqIndex_of h0 h5] at h1;exact Mq h1
  exact item_listR pl.isList h0 (by omega) (by rw[hj];simpa using ew) fin hs
 ·have hj:(i+(its.toArray.size:Int)).toNat=j:=by
   rw[seqIndex_neg (by omega) h4] at h1;rw[Mj,← hl];exact Mq h1
  exact Td (x:=w) pl.isList.typeIs slot_list_getitem.lookup
   (wpAny_getItem_list_neg (Q:=fun r s'=>r=w/\EP X pins σ Q r s') pl.isList (by omega) (by rw[Mj] <;> omega) (by omega) (by rw[hj];simpa using ew) ⟨rfl,fin⟩) hs
theorem GD:IxR X (Li X.K):=by
 intro value slice pins s σ H x y v u Q I rx ry h hs;obtain⟨p,xs,i,z,rfl,rfl,hq,he,q⟩:=h;cases rx;obtain⟨t,rfl⟩:=ry;obtain⟨its,r,pl,hz⟩:=I.tuple hq;obtain⟨j,h1,h2,h3,h4,h5⟩:=rY he;obtain⟨w,ew,rw'⟩:=r.get h2;have hl:=r.length;have hn:=pY;have fin:EP X pins σ Q w s:=⟨z,H,I,rw',q⟩
 exact Td (x:=w) pl.typeIs slot_tuple_getitem.lookup
  (getItem_tuple (j:=j) (Q:=fun r s'=>r=w/\EP X pins σ Q r s') pl (by omega) (by omega) (by rw[Mj,← hl];exact h1) (by simpa using ew) ⟨rfl,fin⟩) hs
theorem GE:IxR X Lj:=by
 intro value slice pins s σ H x y v u Q I rx ry h hs;obtain⟨z,i,c,rfl,rfl,hz,he,q⟩:=h;obtain⟨t,rfl⟩:=rx;obtain⟨t',rfl⟩:=ry;obtain⟨j,h1,h2,h3,h4,h5⟩:=rY he;have hl:z.cps.toList.length=z.length:=by simp[Str.length]
 rw[hl] at h1 h4 h5;have hn:=pY
 exact tail_any (typeIs_str s z t) slot_str_getitem.lookup (getItem_str (c:=c) (by
  have e1:decide (i < -(2 ^ 63:Int))=false:=decide_eq_false (by omega);have e2:decide (i ≥ 2 ^ 63)=false:=decide_eq_false (by omega);rw[e1,e2,Bool.or_false]) (by rw[h1];simpa using h2) ⟨.str ⟨#[c]⟩,H,I.tok _,⟨_,rfl⟩,q⟩) hs
theorem pA(lo hi:Option Int)(n:Nat):(Pm lo hi none n).1=((HT.sIx n 0 lo:Nat):Int)/\(Pm lo hi none n).2.1=((HT.sIx n n hi:Nat):Int)/\(Pm lo hi none n).2.2=1:=by
 refine⟨?_,?_,rfl⟩
 ·cases lo with
  | none=>simp[Pm,HT.sIx]
  | some i=>
   simp only[Pm,HT.sIx,TU,show (1:Int) > 0 by decide,if_true]
   by_cases h:i<0
   ·simp only[h,if_true] <;> omega
   ·simp only[h,if_false] <;> omega
 ·cases hi with
  | none=>simp[Pm,HT.sIx]
  | some i=>
   simp only[Pm,HT.sIx,TU,show (1:Int) > 0 by decide,if_true]
   by_cases h:i<0
   ·simp only[h,if_true] <;> omega
   ·simp only[h,if_false] <;> omega
theorem o9(its:List M9)(lo hi:Option Int):slicePick its.toArray lo hi none=((its.drop (HT.sIx its.length 0 lo)).take (HT.sIx its.length its.length hi-HT.sIx its.length 0 lo)).toArray:=by
 obtain⟨h1,h2,h3⟩:=pA lo hi its.toArray.size;unfold slicePick;rw[h1,h2,h3];simp only[sliceRange_one,pick_run,Mj] <;> rfl
def Lg(K:M8):V->Option Int->Option Int->Hp->VK->Prop:=fun x lo hi H Q=>∃a xs,x=.ref a/\SqL K H a xs/\∀p,H p=none->Q (.ref p) (upd H p (.lst (Ag xs lo hi)))
theorem C4:SlR X (Lg X.K):=by
 intro pins s σ H x v vl vu lo hi sl Q I rx hs pl pu h;obtain⟨a,xs,rfl,hx,q⟩:=h;cases rx;obtain⟨its,r,ht,hz⟩:=I.list hx;have hlen:=r.length;refine⟨"list",_,slot_list_getitem.lookup,ht.isList.typeIs,?_⟩;refine wpAny_getItem_list_slice ht.isList hs pl pu .none (by simp) ?_ (by rw[Mj] <;> omega)
 rw[o9,← hlen];refine⟨.ref s.heap.objs.size,_,I.laid (t':=s.toks) (o:=.lst (Ag xs lo hi)) (fun b ob q=>MJ _ q) (Ma _) ?_,rfl,q _ (I.hok.fresh (Ma _))⟩;exact⟨NB (mz xs lo hi) hz,_,0,(r.drop (HT.sIx xs.length 0 lo)).take (HT.sIx xs.length xs.length hi-HT.sIx xs.length 0 lo),Mo _ rfl⟩
def mM:V->Bool
 | .non=>true
 | .bl _=>true
 | .int _=>true
 | .str _=>true
 | _=>false
def eqV:V->V->Bool
 | .non,.non=>true
 | .bl a,.bl b=>a == b
 | .bl a,.int b=>(if a then 1 else 0) == b
 | .int a,.bl b=>a == (if b then 1 else 0)
 | .int a,.int b=>a == b
 | .str a,.str b=>a == b
 | _,_=>false
theorem GW{A:Mt}{s:MD}{y x:V}{u v:M9}(ry:RelV y u)(rx:RelV x v)(fy:mM y=true)(fx:mM x=true):Ox A s u v (eqV y x):=by
 cases y with
 | non=>
  cases ry;cases x with
  | non=>cases rx;exact Qj _
  | bl b=>cases rx;exact SeqAt.EqAt.none_bool b
  | int b=>obtain⟨t,rfl⟩:=rx;exact SeqAt.EqAt.none_int b t
  | str b=>obtain⟨t,rfl⟩:=rx;exact SeqAt.EqAt.none_str b t
  | _=>exact absurd (show false=true from fx) MO
 | bl a=>
  cases ry;cases x with
  | non=>cases rx;exact SeqAt.EqAt.bool_none a
  | bl b=>cases rx;exact SeqAt.EqAt.bool_bool a b
  | int b=>obtain⟨t,rfl⟩:=rx;exact SeqAt.EqAt.bool_int a b t
  | str b=>obtain⟨t,rfl⟩:=rx;exact SeqAt.EqAt.bool_str a b t
  | _=>exact absurd (show false=true from fx) MO
 | int a=>
  obtain⟨t',rfl⟩:=ry;cases x with
  | non=>cases rx;exact SeqAt.EqAt.int_none a t'
  | bl b=>cases rx;exact SeqAt.EqAt.int_bool a t' b
  | int b=>obtain⟨t,rfl⟩:=rx;exact SeqAt.EqAt.int_int a t' b t
  | str b=>obtain⟨t,rfl⟩:=rx;exact S6 a t' b t
  | _=>exact absurd (show false=true from fx) MO
 | str a=>
  obtain⟨t',rfl⟩:=ry;cases x with
  | non=>cases rx;exact SeqAt.EqAt.str_none a t'
  | bl b=>cases rx;exact SeqAt.EqAt.str_bool a t' b
  | int b=>obtain⟨t,rfl⟩:=rx;exact Rz a t' b t
  | str b=>obtain⟨t,rfl⟩:=rx;exact SeqAt.EqAt.str_str a t' b t
  | _=>exact absurd (show false=true from fx) MO
 | _=>exact absurd (show false=true from fy) MO
def eqU(x:V)(u:M9):Bool:=match u with
 | .none=>eqV .non x
 | .bool b=>eqV (.bl b) x
 | .int i _=>eqV (.int i) x
 | .str z _=>eqV (.str z) x
 | _=>false
theorem Bv{x y:V}{u:M9}(r:RelV y u)(f:mM y=true):eqU x u=eqV y x:=by
 cases y with
 | non=>cases r;rfl
 | bl b=>cases r;rfl
 | int i=>obtain⟨t,rfl⟩:=r;rfl
 | str z=>obtain⟨t,rfl⟩:=r;rfl
 | _=>exact absurd (show false=true from f) MO
theorem mG{x:V}:∀{xs:List V}{us:List M9},Vals xs us->xs.all mM=true->us.any (eqU x)=xs.any fun y=>eqV y x
 | _,_,.nil,_=>rfl
 | y::xs,u::us,.cons r t,f=>by
  rw[OB,ND] at f;rw[Ng,Ng,Bv r f.1,mG t f.2]
theorem jd{A:Mt}{s:MD}{x:V}{v:M9}(rx:RelV x v)(fx:mM x=true):∀{xs:List V}{us:List M9},Vals xs us->xs.all mM=true->∀u∈us,Ox A s u v (eqU x u)
 | _,_,.nil,_=>fun u hu=>by cases hu
 | y::xs,u::us,.cons r t,f=>fun u' hu=>by
  rw[OB,ND] at f;rcases MP.mp hu with rfl | hu
  ·rw[Bv r f.1];exact GW r rx f.1 fx
  ·exact jd rx fx t f.2 u' hu
def inV(x:V)(xs:List V):Bool:=xs.any fun y=>eqV y x
def rIn(K:M8)(neg:Bool):R2:=fun x y H Q=>∃p xs,y=.ref p/\(SqL K H p xs\/SqT K H p xs)/\mM x=true/\xs.all mM=true/\Q (.bl (if neg then !inV x xs else inV x xs)) H
theorem pQ:OpR X (N8 .In) (rIn X.K false):=by
 intro pins s σ H x y v u Q I rx ry h;obtain⟨p,xs,rfl,hq,fx,fs,q⟩:=h;cases ry;rcases hq with hq | hq
 ·obtain⟨its,r,pl,hz⟩:=I.list hq
  refine SeqAt.in_listAt (eqU x) pl.isList (fun w hw=>jd rx fx r fs w (by simpa using hw)) ⟨.bl _,H,I,rfl,?_⟩;rw[show its.toArray.any (eqU x)=its.any (eqU x) by simp,mG r fs];exact q
 ·obtain⟨its,r,pl,hz⟩:=I.tuple hq
  refine SeqAt.in_tupleAt (eqU x) pl (fun w hw=>jd rx fx r fs w (by simpa using hw)) ⟨.bl _,H,I,rfl,?_⟩;rw[show its.toArray.any (eqU x)=its.any (eqU x) by simp,mG r fs];exact q
theorem kn:OpR X (N8 .NotIn) (rIn X.K true):=by
 intro pins s σ H x y v u Q I rx ry h;obtain⟨p,xs,rfl,hq,fx,fs,q⟩:=h;cases ry;rcases hq with hq | hq
 ·obtain⟨its,r,pl,hz⟩:=I.list hq
  refine SeqAt.notIn_listAt (eqU x) pl.isList (fun w hw=>jd rx fx r fs w (by simpa using hw)) ⟨.bl _,H,I,rfl,?_⟩;rw[show its.toArray.any (eqU x)=its.any (eqU x) by simp,mG r fs];exact q
 ·obtain⟨its,r,pl,hz⟩:=I.tuple hq
  refine SeqAt.notIn_tupleAt (eqU x) pl (fun w hw=>jd rx fx r fs w (by simpa using hw)) ⟨.bl _,H,I,rfl,?_⟩;rw[show its.toArray.any (eqU x)=its.any (eqU x) by simp,mG r fs];exact q
theorem pP:OpR X (N8 .NotIn) (fun x y H Q=>∃i j,x=.str i/\y=.str j/\Q (.bl (!(!(Pp j i 0 j.length 1).isEmpty))) H):=by
 intro pins s σ H x y v u Q I rx ry h;obtain⟨i,j,rfl,rfl,q⟩:=h;obtain⟨t,rfl⟩:=rx;obtain⟨t',rfl⟩:=ry;exact notIn_str ⟨.bl _,H,I,rfl,q⟩
theorem ky:iy X (.type "list") (fun xs H Q=>∃p ys,xs=[.ref p]/\(SqL X.K H p ys\/SqT X.K H p ys)/\∀l,H l=none->Q (.ref l) (upd H l (.lst ys))):=by
 intro pins s σ H xs us Q I r h;obtain⟨p,ys,rfl,hq,q⟩:=h;obtain⟨u,rfl,rx⟩:=vals1 r;cases rx
 have fin:∀(its:List M9),Vals ys its->ys.length<=sizeLine->∀(h':Heap)(c':Nat),(∀b o',s.heap.get? b=some o'->h'.get? b=some o')->
   h'.get? s.heap.objs.size=some { cls:=.type "list",dict:=none,data:=.seq its.toArray c',slots:=#[] }->EP X pins σ Q (.ref s.heap.objs.size) { s with heap:=h' }:=fun its r' hz h' c' kp e=>
  ⟨.ref s.heap.objs.size,_,I.laid (t':=s.toks) kp (Ma _) (show dR X.prog X.w _ h' _ (.lst ys) from ⟨hz,its,c',r',e⟩),rfl,q _ (I.hok.fresh (Ma _))⟩
 rcases hq with hq | hq
 ·obtain⟨its,r',pl,hz⟩:=I.list hq
  have hlen:=r'.length;obtain⟨o,ho,hc,n,hd⟩:=pl.isList;exact call_list_seq p (.inl rfl) ho hc hd (fun h' c' kp e=>fin its r' hz h' c' kp e) (by simp only[Mj] <;> omega)
 ·obtain⟨its,r',pl,hz⟩:=I.tuple hq
  have hlen:=r'.length;obtain⟨o,ho,hc,n,hd⟩:=pl;exact call_list_seq p (.inr rfl) ho hc hd (fun h' c' kp e=>fin its r' hz h' c' kp e) (by simp only[Mj] <;> omega)
theorem jw:iy X (.type "tuple") (fun xs H Q=>∃p ys,xs=[.ref p]/\((SqL X.K H p ys/\∀l,H l=none->Q (.ref l) (upd H l (.tup ys)))\/(SqT X.K H p ys/\Q (.ref p) H))):=by
 intro pins s σ H xs us Q I r h;obtain⟨p,ys,rfl,h⟩:=h;obtain⟨u,rfl,rx⟩:=vals1 r;cases rx;rcases h with⟨hq,q⟩|⟨hq,q⟩
 ·obtain⟨its,r',pl,hz⟩:=I.list hq
  have hlen:=r'.length;refine call_tuple_list pl.isList (fun h' kp=>?_) (by simp only[Mj] <;> omega)
  have I1:Inv X pins σ H { s with heap:=h' }:=I.kept (t':=s.toks) kp
  have I2:Inv X pins σ (upd H h'.objs.size (.tup ys)) { s with heap:=h'.push { cls:=.type "tuple",data:=.seq its.toArray } }:=
   I1.laid (t':=s.toks) (fun b o e=>MJ _ e) (Ma _) (show dR X.prog X.w _ _ _ (.tup ys) from ⟨hz,its,r',Av.new _ _⟩)
  exact⟨.ref h'.objs.size,_,I2,rfl,q _ (I1.hok.fresh (Ma _))⟩
 ·obtain⟨its,r',pl,hz⟩:=I.tuple hq
  exact call_tuple_same pl ⟨.ref p,H,I,rfl,q⟩
def tyV(K:M8)(T:String)(x:V)(H:Hp):Prop:=match x with
 | .str _=>T="str"
 | .int _=>T="int"
 | .ref p=>(T="list"/\∃xs,SqL K H p xs)\/(T="tuple"/\∃o,K.lookup p=some o/\o.cls=.type "tuple"/\o.dict=none) ∨
   (T="dict"/\((∃kvs,H p=some (.dK kvs))\/∃kvs,H p=some (.dT kvs)))\/(T="set"/\∃S n,H p=some (.set S n))
 | _=>False
theorem EZ{pins:List (Addr×Obj)}{σ:St}{H:Hp}{s:MD}{T:String}{x:V}{v:M9}(I:Inv X pins σ H s)(r:RelV x v)(ty:tyV X.K T x H) :
  s.TypeIs v T/\∀a,v=.ref a->∃ob,s.heap.get? a=some ob/\ob.dict=none:=by
 cases x with
 | str z=>
  obtain⟨t,rfl⟩:=r;cases (show T="str" from ty);exact⟨typeIs_str s z t,fun _ e=>nomatch e⟩
 | int i=>
  obtain⟨t,rfl⟩:=r;cases (show T="int" from ty);exact⟨typeIs_int s i t,fun _ e=>nomatch e⟩
 | ref p=>
  cases r;rcases ty with⟨rfl,xs,hq⟩|⟨rfl,o,hk,hc,hd⟩|⟨rfl,hk⟩|⟨rfl,S,n,hk⟩
  ·obtain⟨its,_,pl,_⟩:=I.list hq
   refine⟨pl.isList.typeIs,fun a e=>?_⟩;cases e;obtain⟨o,n,e,c,hd,_⟩:=pl;exact⟨o,e,hd⟩
  ·refine⟨⟨o,I.kIn p o hk,hc⟩,fun a e=>?_⟩
   cases e;exact⟨o,I.kIn _ o hk,hd⟩
  ·have z:∃o,s.heap.get? p=some o/\o.ExactDict:=by
    rcases hk with⟨kvs,hk⟩|⟨kvs,hk⟩
    ·obtain⟨_,_,_,_,o,_,_,e,ex,_⟩:=I.hok p _ hk
     exact⟨o,e,ex⟩
    ·obtain⟨_,_,_,_,o,_,_,e,ex,_⟩:=I.hok p _ hk
     exact⟨o,e,ex⟩
   obtain⟨o,e,ex⟩:=z;refine⟨⟨o,e,ex.1⟩,fun a e2=>?_⟩;cases e2;exact⟨o,e,ex.2.1⟩
  ·obtain⟨o,_,_,_,e,ex,_⟩:=I.hok p _ hk
   refine⟨⟨o,e,ex.1⟩,fun a e2=>?_⟩;cases e2;exact⟨o,e,ex.2.1⟩
 | _=>exact MI ty
def tBM(K:M8)(T:String)(r:V->List V->Hp->VK->Prop)(to:TE)(t:TA):TE:=fun σ H Q=>to σ H fun x H1=>tyV K T x H1/\t σ H1 fun xs H2=>r x xs H2 Q
variable{o e : Expr}{es : List Expr}{to : TE}{t : TA}{name : Str}{apos cpos : Nt}{T id : String}{r : V → List V → Hp → VK → Prop}
theorem zw (pa:PlainAttrs T) (slot:Slot T name id) (hty:typeOf (.builtin id)=pure (.type "method_descriptor")) (hm:MtR X id r) (ho:PE X o to) (ha:PA X (e::es) t)
  (hbase:Od o name X.env (NJ o X.env)=NJ o X.env:=by rfl)
  (hfew:((OJ cpos (MZ (e::es) X.env)).all (fun x=>!x.1) && (backToKw cpos (keywordEach [] X.env)).all (fun x=>x.1.isSome)
   && decide ((e::es).length+([]:List SI).length+(if ([]:List SI).isEmpty then 0 else 1)<30))=true:=by rfl)
  (hline:(apos.endLine == cpos.line)=true:=by rfl) (hs:MZ (e::es) X.env=(false,NJ e X.env)::MZ es X.env:=by rfl) (hplain:(OJ cpos (MZ es X.env)).any (·.1)=false:=by rfl) :
  PE X (.Call (.Attribute o name apos) (e::es) [] cpos) (tBM X.K T r to t):=by
 intro pins s σ H Q I h;refine TZ hbase hfew hline rfl (thn (ho pins s σ H _ I h) fun v s1 ⟨x,H1,I1,r1,ty,q1⟩=>?_);obtain⟨h1,h2⟩:=EZ I1 r1 ty;refine⟨T,id,pa,slot,hty,h1,h2,?_⟩;have hA:=ha cpos pins s1 σ H1 _ I1 q1;rw[hs] at hA ⊢;refine SF (by show (false || (OJ cpos (MZ es X.env)).any (·.1))=false;rw[hplain] <;> rfl) (Si ?_)
 exact thn hA fun us s2 ⟨vs,H2,I2,r2,q2⟩=>hm pins s2 σ H2 x vs v us Q I2 r1 r2 q2
end
end L2
namespace L2
open PySem PySem.Spec PyProof.Rows
def MtM(X:Cx)(id:String)(r:V->List V->Hp->VK->Prop):Prop:=
 ∀(pins:List (Addr×Obj))(s:MD)(σ:St)(H:Hp)(x:V)(xs:List V)(v:M9)(us:List M9)(Q:VK),Inv X pins σ H s->RelV x v->Vals xs us->r x xs H Q->
  Mf (Ms X.prog X.w) X.A (call (.builtin id) (v::us)) (EP X pins σ Q) X.xe s
theorem Vals.one:∀{x:V}{us:List M9},Vals [x] us->∃u,us=[u]/\RelV x u
 | _,_,.cons r .nil=>⟨_,rfl,r⟩
theorem Vals.two:∀{x y:V}{us:List M9},Vals [x,y] us->∃u v,us=[u,v]/\RelV x u/\RelV y v
 | _,_,_,.cons r (.cons q .nil)=>⟨_,_,rfl,r,q⟩
section
variable{X : Cx}{pins : List (Addr×Obj)}{σ : St}{H : Hp}{s : MD}{l b : Addr}{xs ys zs : List V}
theorem Inv.lset{its its':List M9}{n:Nat}{f:Array M9->Array M9}{t':Nat}(I:Inv X pins σ H s)(hH:H l=some (.lst xs))
  (e:s.heap.get? l=some { cls:=.type "list",data:=.seq its.toArray n }) (hf:f its.toArray=its'.toArray) (hv:Vals ys its') (hz:ys.length<=sizeLine) :
  Inv X pins σ (upd H l (.lst ys)) { s with heap:=s.heap.update l (Nz f),toks:=t' }:=by
 have q:=PySem.IsL.update e f;rw[hf] at q;refine I.write (x:=l) (e:=l) (by rw[hH];exact trivial) (.inl rfl) (fun b' u hb hu=>(P7 s.heap (Nz f) (Oc hb)).trans hu) ⟨_,q⟩ ?_;exact⟨hz,its',_,hv,q⟩
theorem Inv.lnew{its:List M9}{t':Nat}(I:Inv X pins σ H s)(hv:Vals ys its)(hz:ys.length<=sizeLine) :
  Inv X pins σ (upd H s.heap.objs.size (.lst ys)) { s with heap:=s.heap.push { cls:=.type "list",data:=.seq its.toArray },toks:=t' }:=
 I.laid (fun _ _ q=>MJ _ q) (Ma _) ⟨hz,its,0,hv,Mo _ rfl⟩
theorem Inv.fresh(I:Inv X pins σ H s):H s.heap.objs.size=none:=I.hok.fresh (Ma _)
theorem Inv.lstM (I:Inv X pins σ H s) (hH:H l=some (.lst xs)):xs.length<=sizeLine/\∃(its:List M9) (n:Nat),Vals xs its/\xs.length=its.length/\s.heap.get? l=some { cls:=.type "list",data:=.seq its.toArray n }:=by
 obtain⟨z,its,n,r,e⟩:=I.hok l _ hH;exact⟨z,its,n,r,r.length,e⟩
end
section
variable{X : Cx}
def Cf:V->List V->Hp->VK->Prop:=fun x vs H Q=>∃l xs y,x=.ref l/\vs=[y]/\H l=some (.lst xs)/\xs.length<sizeLine/\Q .non (upd H l (.lst (xs++[y])))
theorem pT:MtM X "list.append" Cf:=by
 intro pins s σ H x vs v us Q I rx rv h;obtain⟨l,xs,y,rfl,rfl,hH,hz,q⟩:=h;cases rx;obtain⟨u,rfl,ru⟩:=rv.one;obtain⟨z,its,n,r,hl,e⟩:=I.lstM hH;refine call_meets Sh ⟨_,e,rfl⟩ F.entry_list_append (F.args_list_append_2 _ _) (PySem.list_append l its.toArray n u (by rw[Mj];omega)) ⟨e,?_⟩;refine⟨.non,_,I.lset (its':=its++[u]) hH e (by simp) (r.append (.cons ru .nil)) ?_,rfl,q⟩;rw[Mi,O4];omega
end
end L2
namespace L2
open PySem PySem.Spec PyProof.Rows
section
variable{κ : Type}[DecidableEq κ]
def jB(kvs:List (κ×V))(k:κ):Option V:=(kvs.find? fun kv=>decide (kv.1=k)).map (·.2)
def putK(kvs:List (κ×V))(k:κ)(v:V):List (κ×V):=
 if (kvs.any fun kv=>decide (kv.1=k))=true then kvs.map (fun kv=>if kv.1=k then (kv.1,v) else kv) else kvs++[(k,v)]
theorem iR{p:κ×V}{r:List (κ×V)}{k:κ}(e:p.1=k):jB (p::r) k=some p.2:=by simp[jB,Nw,e]
theorem fQ{p:κ×V}{r:List (κ×V)}{k:κ}(e:¬ p.1=k):jB (p::r) k=jB r k:=by simp[jB,Nw,e]
theorem kK(k:κ):∀kvs:List (κ×V),(kvs.any fun kv=>decide (kv.1=k))=(jB kvs k).isSome
 | []=>rfl
 | p::r=>by
  rw[Ng]
  by_cases e:p.1=k
  ·simp only[iR e,decide_eq_true e,Bool.true_or,Option.isSome_some]
  ·rw[fQ e,decide_eq_false e,Bool.false_or];exact kK k r
theorem dv(kvs:List (κ×V))(k:κ)(v:V):(putK kvs k v).length<=kvs.length+1:=by
 unfold putK
 split
 ·rw[MG];omega
 ·rw[Mi,Mr,OT];omega
theorem mQ.isSome_eq{o:Option V}{u:Option M9}(r:mQ o u):o.isSome=u.isSome:=by
 cases o with
 | none=>cases u with
  | none=>rfl
  | some _=>exact(show False from r).elim
 | some _=>cases u with
  | none=>exact(show False from r).elim
  | some _=>rfl
theorem KV.val{kvs:List (κ×V)}{vs:List (κ×M9)}(r:KV kvs vs)(k:κ):mQ (jB kvs k) (Nh vs k):=by
 unfold KV at r
 induction r with
 | nil=>exact P0
 | @cons p q ps qs h t ih=>
  obtain⟨h1,h2⟩:=h
  by_cases e:p.1=k
  ·have e':q.1=k:=h1.symm.trans e
   have b:Nh (q::qs) k=some q.2:=by simp[Nh,Nw,e']
   rw[iR e,b];exact h2
  ·have e':¬ q.1=k:=fun z=>e (h1.trans z)
   have b:Nh (q::qs) k=Nh qs k:=by simp[Nh,Nw,e']
   rw[fQ e,b];exact ih
theorem KV.any{kvs:List (κ×V)}{vs:List (κ×M9)}(r:KV kvs vs)(k:κ):(kvs.any fun kv=>decide (kv.1=k))=vs.any fun kv=>decide (kv.1=k):=by
 unfold KV at r
 induction r with
 | nil=>rfl
 | cons h t ih=>rw[Ng,Ng,ih,h.1]
theorem KV.repl{kvs:List (κ×V)}{vs:List (κ×M9)}(r:KV kvs vs)(k:κ){y:V}{u:M9}(ry:RelV y u) :
  KV (kvs.map fun kv=>if kv.1=k then (kv.1,y) else kv) (vs.map fun kv=>if kv.1=k then (kv.1,u) else kv):=by
 unfold KV at r ⊢
 induction r with
 | nil=>exact .nil
 | @cons p q ps qs h t ih=>
  rw[MC,MC];refine .cons ?_ ih;obtain⟨h1,h2⟩:=h
  by_cases e:p.1=k
  ·rw[if_pos e,if_pos (h1.symm.trans e)];exact⟨h1,ry⟩
  ·rw[if_neg e,if_neg (fun z=>e (h1.trans z))];exact⟨h1,h2⟩
theorem KV.put{kvs:List (κ×V)}{vs:List (κ×M9)}(r:KV kvs vs)(k:κ){y:V}{u:M9}(ry:RelV y u):KV (putK kvs k y) (SZ vs k u):=by
 unfold putK SZ;rw[r.any k]
 by_cases e:(vs.any fun kv=>decide (kv.1=k))=true
 ·rw[if_pos e,if_pos e];exact r.repl k ry
 ·rw[if_neg e,if_neg e];exact Paired.snoc r ⟨rfl,ry⟩
theorem KV.length{kvs:List (κ×V)}{vs:List (κ×M9)}(r:KV kvs vs):kvs.length=vs.length:=N3 r
end
theorem lW{P:Md}{w:Ml}{k:Key}{u:M9}(r:RelV (kV k) u):(aw P w).is k u=true:=by
 cases k with
 | inl i=>obtain⟨t,e⟩:=(show ∃t,u=Ry i t from r);subst e;exact rd P w i t
 | inr x=>obtain⟨t,e⟩:=(show ∃t,u=Tc x t from r);subst e;exact gg P w x t
theorem qb{P:Md}{w:Ml}:∀{ks:List Key}{us:List M9},Vals (ks.map kV) us->ItemsAre (aw P w) ks us
 | [],_,r=>by rw[O7] at r;cases r;exact .nil
 | k::ks,_,r=>by
  rw[MC] at r;cases r with
  | cons h t=>exact .cons (lW h) (qb t)
abbrev KT(H:Hp):List (bZ×V)->List (bZ×Addr×M9)->Prop:=Sf fun p q=>p.1=q.1/\fg H q.2.1 p.1/\RelV p.2 q.2.2
theorem KT.val{H:Hp}{kvs:List (bZ×V)}{xs:List (bZ×Addr×M9)}(r:KT H kvs xs)(k:bZ):mQ (jB kvs k) ((QJ xs k).map (·.2)):=by
 induction r with
 | nil=>exact P0
 | @cons p q ps qs h t ih=>
  obtain⟨h1,_,h2⟩:=h
  by_cases e:p.1=k
  ·have e':q.1=k:=h1.symm.trans e
   have b:QJ (q::qs) k=some q.2:=by simp[QJ,Nw,e']
   rw[iR e,b];exact h2
  ·have e':¬ q.1=k:=fun z=>e (h1.trans z)
   have b:QJ (q::qs) k=QJ qs k:=by simp[QJ,Nw,e']
   rw[fQ e,b];exact ih
theorem KT.repl{H:Hp}{kvs:List (bZ×V)}{xs:List (bZ×Addr×M9)}(r:KT H kvs xs)(k:bZ){y:V}{u:M9}(ry:RelV y u) :
  KT H (kvs.map fun kv=>if kv.1=k then (kv.1,y) else kv) (xs.map (putAt k u)):=by
 induction r with
 | nil=>exact .nil
 | @cons p q ps qs h t ih=>
  rw[MC,MC];refine .cons ?_ ih;obtain⟨h1,h2,h3⟩:=h;unfold putAt
  by_cases e:p.1=k
  ·rw[if_pos e,if_pos (h1.symm.trans e)];exact⟨h1,h2,ry⟩
  ·rw[if_neg e,if_neg (fun z=>e (h1.trans z))];exact⟨h1,h2,h3⟩
theorem KT.put{H:Hp}{kvs:List (bZ×V)}{xs:List (bZ×Addr×M9)}(r:KT H kvs xs)(k:bZ){b:Addr}{y:V}{u:M9}(hb:fg H b k)(ry:RelV y u) :
  KT H (putK kvs k y) (storedH xs k b u):=by
 have e:(kvs.any fun kv=>decide (kv.1=k))=(QJ xs k).isSome:=by
  rw[kK,(r.val k).isSome_eq,Qk]
 unfold putK storedH;rw[e]
 by_cases q:(QJ xs k).isSome=true
 ·rw[if_pos q,if_pos q];exact r.repl k ry
 ·rw[if_neg q,if_neg q];exact Paired.snoc r ⟨rfl,hb,ry⟩
theorem KT.keeps{H H':Hp}{kvs:List (bZ×V)}{xs:List (bZ×Addr×M9)}(r:KT H kvs xs)(ht:∀b ys,H b=some (.tup ys)->H' b=some (.tup ys)):KT H' kvs xs:=
 Paired.mapP r fun _ _ z=>⟨z.1,z.2.1.keeps ht,z.2.2⟩
section
variable{P : Md}{w : Ml}{H : Hp}{h : Heap}{a : Addr}
theorem Fs{u:HO}(ok:HOk P w H h)(e:Rd H a u):dR P w H h a u:=e.ok ok
theorem xF{kvs:List (Key×V)}(ok:HOk P w H h)(e:Rd H a (.dK kvs)):kvs.length<=sizeLine/\(a == N6)=false/\∃vs,KV kvs vs/\h.DictOf (aw P w) a vs:=
 show dR P w H h a (.dK kvs) from Fs ok e
theorem DE{kvs:List (Key×V)}(ok:HOk P w H h)(e:H a=some (.dK kvs)):kvs.length<=sizeLine/\(a == N6)=false/\∃vs,KV kvs vs/\h.DictOf (aw P w) a vs:=xF ok (.inl e)
theorem Du{ks:List Key}(ok:HOk P w H h)(e:H a=some (.tup (ks.map kV))):RV (aw P w) h ks a:=by
 obtain⟨_,its,r,o,h1,h2,⟨n,h3⟩,_⟩:=(show dR P w H h a (.tup (ks.map kV)) from ok a _ e);exact⟨o,its.toArray,n,h1,h2,h3,by simpa using qb r⟩
theorem lN(ok:HOk P w H h):∀{ks:bZ}{vs:List V}{us:List M9},NV H ks vs->Vals vs us->NItems (aw P w) h ks us
 | [],_,_,e,r=>by cases e;cases r;exact .nil
 | .inl k::ks,_,_,⟨t,e,m⟩,r=>by
  subst e;cases r with
  | cons h1 h2=>exact .sc (lW h1) (lN ok m h2)
 | .inr l::ks,_,_,⟨c,t,e,hc,m⟩,r=>by
  subst e;cases r with
  | cons h1 h2=>cases h1;exact .tp (Du ok hc) (lN ok m h2)
theorem key_of{ks:bZ}(ok:HOk P w H h)(e:fg H a ks):(gc P w).is h ks a:=by
 obtain⟨vs,e,m⟩:=e;obtain⟨_,its,r,o,h1,h2,⟨n,h3⟩,_⟩:=(show dR P w H h a (.tup vs) from ok a _ e);exact⟨o,its.toArray,n,h1,h2,h3,by simpa using lN ok m r⟩
theorem jc{A:Mt}(hu:A.units+16<cLine):A.in1.units+8<cLine:=show A.units+1+8<cLine by omega
theorem uJ{kvs:List (bZ×V)}(ok:HOk P w H h)(e:Rd H a (.dT kvs)):kvs.length<=sizeLine/\(a == N6)=false/\
  ∃xs,KT H kvs xs/\h.DictOfH (gc P w) a xs:=by
 obtain⟨z,y,xs,r,o,es,ep,h1,h2,h3,h4,h5⟩:=(show dR P w H h a (.dT kvs) from Fs ok e);refine⟨z,y,xs,r,o,es,ep,h1,h2,h3,h4,fun x hx=>?_,h5⟩
 have all:∀{l:List (bZ×V)}{m:List (bZ×Addr×M9)},KT H l m->∀x∈m,(gc P w).is h x.1 x.2.1:=by
  intro l m q
  induction q with
  | nil=>intro x hx;exact nomatch hx
  | @cons p q ps qs hq t ih=>
   intro x hx;rcases MP.mp hx with e | hx
   ·subst e
    exact key_of ok (by rw[← hq.1];exact hq.2.1)
   ·exact ih x hx
 exact all r x hx
theorem DC{kvs:List (bZ×V)}(ok:HOk P w H h)(e:H a=some (.dT kvs)):kvs.length<=sizeLine/\(a == N6)=false/\
  ∃xs,KT H kvs xs/\h.DictOfH (gc P w) a xs:=uJ ok (.inl e)
end
def Hu(H:Hp)(a:Addr)(y:V)(r:Option V):Prop:=
 (∃kvs k,Rd H a (.dK kvs)/\y=kV k/\r=jB kvs k)\/∃kvs k b,Rd H a (.dT kvs)/\y=.ref b/\fg H b k/\r=jB kvs k
def BO(H:Hp)(a:Addr)(y v:V)(H':Hp):Prop:=
 (∃kvs k,H a=some (.dK kvs)/\y=kV k/\kvs.length<sizeLine/\H'=upd H a (.dK (putK kvs k v))) ∨
 ∃kvs k b,H a=some (.dT kvs)/\y=.ref b/\fg H b k/\kvs.length<sizeLine/\H'=upd H a (.dT (putK kvs k v))
theorem BO.k{H:Hp}{a:Addr}{kvs:List (Key×V)}{k:Key}{v:V}(e:H a=some (.dK kvs))(hl:kvs.length<sizeLine):BO H a (kV k) v (upd H a (.dK (putK kvs k v))):=.inl ⟨kvs,k,e,rfl,hl,rfl⟩
theorem BO.t{H:Hp}{a b:Addr}{kvs:List (bZ×V)}{k:bZ}{v:V}(e:H a=some (.dT kvs))(eb:fg H b k)(hl:kvs.length<sizeLine) :
  BO H a (.ref b) v (upd H a (.dT (putK kvs k v))):=.inr ⟨kvs,k,b,e,rfl,eb,hl,rfl⟩
section
variable{X : Cx}{pins : List (Addr×Obj)}{σ : St}{H : Hp}{s : MD}{a : Addr}{y v : V}{u r : M9}{o : Option V}{A : Mt}{E : M9 → MD → Prop}
theorem Inv.big(I:Inv X pins σ H s):N6<s.heap.objs.size:=by
 have h:mainGlobals<s.heap.objs.size:=(I.mod.glob.keeps I.bk).lt;exact Nat.lt_trans (by decide) h
theorem xO{Q:M9->MD->Prop}(hu:A.units+16<cLine)(I:Inv X pins σ H s)(g:Hu H a y (some v))(ry:RelV y u)(h:∀w' s',Inv X pins σ H s'->RelV v w'->Q w' s') :
  Mf (Ms X.prog X.w) A (Qw (.ref a) u) Q E s:=by
 rcases g with⟨kvs,k,e,ey,l⟩|⟨kvs,k,b,e,ey,eb,l⟩
 ·subst ey
  obtain⟨z,hd,vs,rel,dd⟩:=xF I.hok e;obtain⟨w',hw,rw'⟩:=mQ.some_of (v:=v) (o:=Nh vs k) (by rw[l];exact rel.val k);exact wpAny_getItem_of (lW ry) dd.mapOf hw (h w' _ (I.tok _) rw')
 ·subst ey
  cases (show u=Ni b from ry);obtain⟨z,hd,xs,rel,dd⟩:=uJ I.hok e;obtain⟨w',hw,rw'⟩:=mQ.some_of (v:=v) (o:=(QJ xs k).map (·.2)) (by rw[l];exact rel.val k);obtain⟨p,hp,hp2⟩:=MR.mp hw;refine wpAny_getItem_heap (jc hu) (key_of I.hok eb) dd hp ?_;rw[hp2];exact h w' _ (I.tok _) rw'
theorem DH{Q:M9->MD->Prop}(hu:A.units+16<cLine)(I:Inv X pins σ H s)(g:Hu H a y o)(ry:RelV y u)(h:∀s',Inv X pins σ H s'->Q (.bool (!o.isSome)) s') :
  Mf (Ms X.prog X.w) A (N8 .NotIn u (.ref a)) Q E s:=by
 rcases g with⟨kvs,k,e,ey,l⟩|⟨kvs,k,b,e,ey,eb,l⟩
 ·subst ey
  obtain⟨z,hd,vs,rel,dd⟩:=xF I.hok e;refine wpAny_notIn_of (lW ry) hd dd.mapOf ?_;rw[← (rel.val k).isSome_eq,← l];exact h _ (I.tok _)
 ·subst ey
  cases (show u=Ni b from ry);obtain⟨z,hd,xs,rel,dd⟩:=uJ I.hok e;refine wpAny_notIn_heap (jc hu) (key_of I.hok eb) hd dd ?_;have q:=(rel.val k).isSome_eq;rw[Qk] at q;rw[← q,← l];exact h _ (I.tok _)
theorem k7{h':Heap}{t':Nat}{ob:HO}(I:Inv X pins σ H s)(mu:Mut (H a))(hs:OM a s.heap h')(he:∃q,h'.get? a=some q)(new:dR X.prog X.w (upd H a ob) h' a ob) :
  Inv X pins σ (upd H a ob) { s with heap:=h',toks:=t' }:=
 I.write (x:=a) (e:=a) mu (.inl rfl) (fun b q hb z=>(hs.2 b hb).trans z) he new
theorem xG{P:Md}{w:Ml}{H':Hp}{h':Heap}{kvs:List (Key×V)}{vs:List (Key×M9)}(z:kvs.length<=sizeLine)(hd:(a == N6)=false)(rel:KV kvs vs)(dd:h'.DictOf (aw P w) a vs) :
  dR P w H' h' a (.dK kvs):=⟨z,hd,vs,rel,dd⟩
theorem xN{H':Hp}{Q:Unit->MD->Prop}(hu:A.units+16<cLine)(I:Inv X pins σ H s)(g:BO H a y v H')(ry:RelV y u)(rv:RelV v r)(h:∀s',Inv X pins σ H' s'->Q () s') :
  Mf (Ms X.prog X.w) A (setItem (.ref a) u r) Q E s:=by
 rcases g with⟨kvs,k,e,ey,l,eH⟩|⟨kvs,k,b,e,ey,eb,l,eH⟩
 ·subst ey eH
  obtain⟨z,hd,vs,rel,dd⟩:=DE I.hok e;have hz:vs.length<=sizeLine:=by rw[← rel.length];exact z
  have hl:(putK kvs k v).length<=sizeLine:=by have:=dv kvs k v;omega
  refine wpAny_setItem_pairs (hsz:=hz) (lW ry) dd fun h' dd' hs=>h _ ?_;have he:∃q,h'.get? a=some q:=let ⟨q,_,_,hq,_⟩:=dd';⟨q,hq⟩
  exact k7 I (by rw[e];exact P0) hs he (xG hl hd (rel.put k rv) dd')
 ·subst ey eH
  cases (show u=Ni b from ry);obtain⟨z,hd,xs,rel,dd⟩:=DC I.hok e;have hz:xs.length<=sizeLine:=by rw[← N3 rel];exact z
  have hl:(putK kvs k v).length<=sizeLine:=by have:=dv kvs k v;omega
  refine wpAny_setItem_heap (hsz:=hz) (jc hu) (key_of I.hok eb) dd fun h' dd' hs=>h _ ?_;obtain⟨q,es,ep,hq,h2,h3,h4,_,h5⟩:=dd';refine k7 I (by rw[e];exact P0) hs ⟨q,hq⟩ ⟨hl,hd,_,(rel.put k eb rv).keeps fun c ys ec=>?_,q,es,ep,hq,h2,h3,h4,h5⟩;rw[aB (CZ ec e (fun z=>nomatch z))];exact ec
end
theorem rV {X:Cx} {pins:List (Addr×Obj)} {σ:St} {H:Hp} {s:MD} {a:Addr} {y:V} {o:Option V} (I:Inv X pins σ H s) (g:Hu H a y o):s.TypeIs (.ref a) "dict":=by
 rcases g with⟨kvs,k,e,_,_⟩|⟨kvs,k,b,e,_,_,_⟩
 ·obtain⟨_,_,vs,_,dd⟩:=xF I.hok e
  exact dd.typeIs
 ·obtain⟨_,_,xs,_,dd⟩:=uJ I.hok e
  exact dd.typeIs
def IR(td ty tv:TE):TS:=fun D σ H=>tv σ H fun v H1=>td σ H1 fun x H2=>ty σ H2 fun y H3=>∃a H4,x=.ref a/\BO H3 a y v H4/\D.nx σ H4
section
variable{X : Cx}{o i e value : Expr}{pos pos' tpos : Nt}{td ty tv : TE}
theorem vL(hu:X.A.units+16<cLine)(ho:PE X o td)(hi:PE X i ty)(hv:PE X value tv)(hs:PH value (some (.Subscript o i pos')) pos.line X.env=pure false) :
  PS X (.Assign [.Subscript o i pos'] value pos) (IR td ty tv):=by
 intro pins s σ H D I h;refine wpAny_Assign_Subscript (thn (hv pins s σ H _ I h) fun r s1 ⟨v,H1,I1,rv,q1⟩=>thn (ho pins s1 σ H1 _ I1 q1) fun u s2 ⟨x,H2,I2,rx,q2⟩=>thn (hi pins s2 σ H2 _ I2 q2) fun iv s3 ⟨y,H3,I3,ry,a,H4,ex,g,q3⟩=>?_) hs;subst ex;obtain rfl:u=Ni a:=rx;exact xN hu I3 g ry rv fun s4 I4=>⟨σ,H4,I4,q3⟩
end
theorem tK {P:Md} {w:Ml} {H:Hp} (h:Heap) (hb:N6<h.objs.size):dR P w H (h.push { cls:=.type "dict",data:=.dict #[] }) h.objs.size (.dK []):=
 ⟨Nu _,beq_eq_false_iff_ne.mpr (Oc (Mp hb)),[],.nil,SJ h⟩
theorem tH {P:Md} {w:Ml} {H:Hp} (h:Heap) (hb:N6<h.objs.size):dR P w H (h.push { cls:=.type "dict",data:=.dict #[] }) h.objs.size (.dT []):=
 ⟨Nu _,beq_eq_false_iff_ne.mpr (Oc (Mp hb)),[],.nil,_,#[],0,Mo _ rfl,⟨rfl,rfl,rfl⟩,rfl,rfl,Rm⟩
def F6:TE:=fun _ H Q=>∀p,H p=none->Q (.ref p) (upd H p (.dK []))
def F5:TE:=fun _ H Q=>∀p,H p=none->Q (.ref p) (upd H p (.dT []))
section
variable{X : Cx}{pos : Nt}
theorem zt:PE X (.Dict [] [] pos) F6:=fun pins s σ H Q I h=>
 wpAny_Dict_empty ⟨.ref s.heap.objs.size,_,I.laid (a:=s.heap.objs.size) (o:=.dK []) (t':=s.toks) (fun _ _ q=>MJ _ q) (Ma _) (tK s.heap I.big),rfl,h _ (I.hok.fresh (Ma _))⟩
theorem zr:PE X (.Dict [] [] pos) F5:=fun pins s σ H Q I h=>
 wpAny_Dict_empty ⟨.ref s.heap.objs.size,_,I.laid (a:=s.heap.objs.size) (o:=.dT []) (t':=s.toks) (fun _ _ q=>MJ _ q) (Ma _) (tH s.heap I.big),rfl,h _ (I.hok.fresh (Ma _))⟩
end
def sj:List (TE×TE)->St->Hp->(List (V×V)->Hp->Prop)->Prop
 | [],_,H,Q=>Q [] H
 | (tk,tv)::r,σ,H,Q=>tk σ H fun x H1=>tv σ H1 fun y H2=>sj r σ H2 fun ps H3=>Q ((x,y)::ps) H3
abbrev VV:List (V×V)->List (M9×M9)->Prop:=Sf fun p q=>RelV p.1 q.1/\RelV p.2 q.2
def PPs(X:Cx)(pos:Nt)(keys:List (Option Expr))(values:List Expr)(trs:List (TE×TE)):Prop:=
 ∀(pins:List (Addr×Obj))(s:MD)(σ:St)(H:Hp)(Q:List (V×V)->Hp->Prop),Inv X pins σ H s->sj trs σ H Q->
  Mf (Ms X.prog X.w) X.A (evalPairs (pairTrees keys values X.env pos)) (fun vs s'=>∃ps H',Inv X pins σ H' s'/\VV ps vs/\Q ps H') X.xe s
theorem vM{X:Cx}{pos:Nt}:PPs X pos [] [] []:=fun pins s σ H Q I h=>pairTrees_nil_walk ⟨[],H,I,.nil,h⟩
theorem sH{X:Cx}{pos:Nt}{k v:Expr}{ks:List (Option Expr)}{vs:List Expr}{tk tv:TE}{trs:List (TE×TE)}(hk:PE X k tk)(hv:PE X v tv)(hr:PPs X pos ks vs trs) :
  PPs X pos (some k::ks) (v::vs) ((tk,tv)::trs):=fun pins s σ H Q I h=>
 pairTrees_cons_walk (thn (hk pins s σ H _ I h) fun u s1 ⟨x,H1,I1,rx,q1⟩=>thn (hv pins s1 σ H1 _ I1 q1) fun w2 s2 ⟨y,H2,I2,ry,q2⟩=>
  thn (hr pins s2 σ H2 _ I2 q2) fun ws s3 ⟨ps,H3,I3,rel,q3⟩=>⟨(x,y)::ps,H3,I3,.cons ⟨rx,ry⟩ rel,q3⟩)
def fI(kvs more:List (Key×V)):List (Key×V):=more.foldl (fun acc kv=>putK acc kv.1 kv.2) kvs
theorem KV.merge:∀{more:List (Key×V)}{rs:List (Key×M9)}{kvs:List (Key×V)}{vs:List (Key×M9)},KV more rs->KV kvs vs->KV (fI kvs more) (merged vs rs):=by
 intro more rs kvs vs r;unfold KV at r
 induction r generalizing kvs vs with
 | nil=>intro q;exact q
 | @cons p q ps qs h t ih=>
  intro r0
  have e:KV (putK kvs p.1 p.2) (SZ vs q.1 q.2):=by
   have:=r0.put p.1 h.2;rw[← h.1];exact this
  exact ih e
theorem jg:∀(more kvs:List (Key×V)),(fI kvs more).length<=kvs.length+more.length
 | [],kvs=>by show kvs.length<=kvs.length+0;omega
 | p::r,kvs=>by
  have h1:=jg r (putK kvs p.1 p.2);have h2:=dv kvs p.1 p.2;show (fI (putK kvs p.1 p.2) r).length<=_;rw[Mr];omega
theorem nW{P:Md}{w:Ml}:∀{kvs:List (Key×V)}{ws:List (M9×M9)},VV (kvs.map fun kv=>(kV kv.1,kv.2)) ws->∃rs,Carries (aw P w) ws rs/\KV kvs rs
 | [],_,r=>by rw[O7] at r;cases r;exact⟨[],P0,.nil⟩
 | p::kvs,_,r=>by
  rw[MC] at r;cases r with
  | @cons a b as bs h t=>
   obtain⟨rs,c,q⟩:=nW (P:=P) (w:=w) t;obtain⟨b1,b2⟩:=b;exact⟨(p.1,b2)::rs,⟨lW h.1,rfl,c⟩,.cons ⟨rfl,h.2⟩ q⟩
def IF(trs:List (TE×TE)):TE:=fun σ H Q=>∀p,H p=none->sj trs σ (upd H p (.dK [])) fun ps H2=>H2 p=some (.dK [])/\∃kvs:List (Key×V),ps=kvs.map (fun kv=>(kV kv.1,kv.2))/\kvs.length<=15/\Q (.ref p) (upd H2 p (.dK (fI [] kvs)))
theorem Cz{X:Cx}{pos:Nt}{keys:List (Option Expr)}{values:List Expr}{trs:List (TE×TE)}(h:PPs X pos keys values trs)(hall:keys.all (·.isSome)=true)(hl:keys.length=values.length)(h0:keys≠[])
  (h15:keys.length<=15):PE X (.Dict keys values pos) (IF trs):=by
 intro pins s σ H Q I q;have hn:=I.hok.fresh (Ma s.heap.objs.size);have I1:=I.laid (a:=s.heap.objs.size) (o:=.dK []) (h':=s.heap.push { cls:=.type "dict",data:=.dict #[] }) (t':=s.toks) (fun _ _ q=>MJ _ q) (Ma _) (tK s.heap I.big);refine wpAny_Dict_walk (knd:=aw X.prog X.w) hall hl h0 h15 (thn (h pins _ σ _ _ I1 (q _ hn)) fun ws s2 ⟨ps,H2,I2,rel,e,kvs,ep,lk,q2⟩=>?_);subst ep;obtain⟨rs,c,rk⟩:=nW (P:=X.prog) (w:=X.w) rel;obtain⟨z,hd,vs0,r0,dd⟩:=DE I2.hok e;cases r0;refine⟨rs,c,dd,fun h' dd' hs=>⟨.ref s.heap.objs.size,_,?_,rfl,q2⟩⟩
 have hz:(fI [] kvs).length<=sizeLine:=by
  have h1:=jg kvs [];rw[OT] at h1;rw[N7];omega
 have he:∃q,h'.get? s.heap.objs.size=some q:=let ⟨q,_,_,hq,_⟩:=dd';⟨q,hq⟩
 exact k7 I2 (by rw[e];exact P0) hs he (xG hz hd (rk.merge .nil) dd')
structure M1(X:Cx)(o:Expr)(m:Str)(apos:Nt)(e:Expr)(cpos:Nt):Prop where
 base:Od o m X.env (NJ o X.env)=NJ o X.env
 few:((OJ cpos (MZ [e] X.env)).all (fun x=>!x.1) && (backToKw cpos (keywordEach [] X.env)).all (fun x=>x.1.isSome)
  && decide (([e]:List Expr).length+([]:List SI).length+(if ([]:List SI).isEmpty then 0 else 1)<30))=true
 line:(apos.endLine == cpos.line)=true
 trees:OJ cpos (MZ [e] X.env)=[(false,NJ e X.env)]
structure M2(X:Cx)(o:Expr)(m:Str)(apos:Nt)(e f:Expr)(cpos:Nt):Prop where
 base:Od o m X.env (NJ o X.env)=NJ o X.env
 few:((OJ cpos (MZ [e,f] X.env)).all (fun x=>!x.1) && (backToKw cpos (keywordEach [] X.env)).all (fun x=>x.1.isSome)
  && decide (([e,f]:List Expr).length+([]:List SI).length+(if ([]:List SI).isEmpty then 0 else 1)<30))=true
 line:(apos.endLine == cpos.line)=true
 trees:OJ cpos (MZ [e,f] X.env)=[(false,NJ e X.env),(false,NJ f X.env)]
end L2
namespace Att
open PySem PySem.W PySem.Calls PyProof.Rows
theorem lZ{P:Params}{h:Heap}:∀(ns:List Int)(vs:List M9),WellAll P h vs (ns.map WData.int)->Te vs ns:=by
 intro ns
 induction ns with
 | nil=>
  intro vs w;rw[O7] at w;cases w;exact .nil
 | cons n ns ih=>
  intro vs w;rw[MC] at w;cases w with
  | cons a b=>
   cases a;exact .cons _ _ (ih _ b)
theorem vz{l:OpenLaw}{n:Nat}(hn:l.most=some n){P:Params}{h:Heap}{args:List WData}{vals:List M9}
  (hpre:l.row.toRowW.claim.pre args=true) (hwl:WellAll P h vals args) :
  ∃a vs ns,vals=[Ni a]/\args=[WData.list (ns.map WData.int)]/\h.get? a=some { cls:=.type "list",data:=.seq vs.toArray }/\Te vs ns/\ns.length<=n:=by
 have hsh:WShape.hasAll [] args [.list .int]=true:=(pre_splitW hpre).1;have hc:l.pre.holds [] { args:=args }=true:=(pre_splitW hpre).2;obtain⟨d,r,rfl,h1,h2⟩:=hasAllW_cons hsh;obtain rfl:=hasAllW_nil h2;obtain⟨xs,rfl,h3⟩:=hasW_list h1;obtain⟨ns,rfl⟩:=items_int h3
 have hlen:ns.length<=n:=by
  unfold OpenLaw.pre at hc
  have h4:(WTm.not (.lt (.lit (.int (n:Int))) (.len (.arg 0)))).holds [] { args:=[.list (ns.map .int)] }=true:=by
   have h4:=(holds_andW hc).1;rw[hn] at h4;exact h4
  have h5:=condW_of h4 (w_not (w_lt w_lit (w_len_list (w_arg rfl))));rw[MG] at h5;refine Nat.le_of_not_lt fun q=>?_;have q':(n:Int)<((ns.length:Nat):Int):=by omega
  first
   | (rw[decide_eq_true q'] at h5;exact absurd h5 (by decide))
   | (simp at h5;omega)
 cases hwl with
 | cons w1 w2=>
  cases w2;cases w1 with
  | list ho hall=>exact⟨_,_,ns,rfl,rfl,ho,lZ ns _ hall,hlen⟩
theorem vN(l:OpenLaw)(args:List WData):l.row.toRowW.claim.post args (.bool true) args=true:=
 postW_of (r:=l.row.toRowW) (X:=(true == true))
  (show WShape.has [] (.bool true) .bool=true by first | rfl | decide | simp[WShape.has,WShape.arms,WShape.armsAll])
  (show (WTm.eq .res (.lit (.bool true))).value [] { args:=args,res:=some (.bool true),after:=args }=some (.bool (true == true)) from w_eq_bool (w_res rfl) w_lit) rfl
theorem attach_call{l:OpenLaw}{n:Nat}{q:Md}{loose:List Str}{XP:(Str->Option M9)->Heap->Prop}{YP:Ml->Heap->Prop}{d:DefRec}
  (hn:l.most=some n) (hdf:d.params.defaults=[])
  (call:∀(w:Ml)(s₀ s₁:MD)(mg mb:Str->Option M9)(fa:Addr)(o:Obj)(pm cd doc:M9)(a:Addr)(vs:List M9)(ns:List Int),
   Ground q loose [] XP w s₀ mg mb s₁.heap->YP w s₁.heap->
   s₁.heap.get? fa=some o->o.data=.func (docDef d.name d.params d.body d.scope pm cd doc)->s₁.heap.CodeRec cd d.name->mg d.name=some (.ref fa)->
   s₁.heap.get? a=some { cls:=.type "list",data:=.seq vs.toArray }->Te vs ns->ns.length<=n->s₁.gens=#[]->
   QI (Ms l.prog w) Re (.call (.ref fa) ⟨[.ref a],[]⟩) (fun r s'=>r=.ok (.ret (.bool true))/\OldK s₁.heap s'.heap/\s'.os=s₁.os/\QZ s'.gens) s₁) :
  WalkO q loose XP YP l.row.toRowW d [] (fun f vs=>T3 f vs):=by
 intro w s₀ s₁ mg mb G Y fa o pm cd doc dV kV ho hd hcd hD hmg hg args vals as hpre hlay hrd hwl hlo;obtain rfl:dV=.none:=Dflts.none hD hdf;obtain rfl:kV=.none:=Dflts.noKw hD;obtain⟨a,vs,ns,rfl,rfl,hobj,hints,hlen⟩:=vz hn hpre hwl;refine enter_call (Pw (call w s₀ s₁ mg mb fa o pm cd doc a vs ns G Y ho (fd_plain hd) hcd hmg hobj hints hlen hg) fun r s' hq=>?_);obtain⟨rfl,h2,h3,h4⟩:=hq;exact⟨.inl ⟨.bool true,.bool true,[],rfl,fun _=>rfl,.bool true,vN l _,fun _=>⟨List.Pairwise.nil,fun _ hm=>(nomatch hm)⟩⟩,h2,h3,h4⟩
end Att
namespace L2
open PySem PySem.Spec PyProof.Rows
theorem pk:∀{vs:List M9}{ns:List Int},Te vs ns->Vals (ns.map V.int) vs
 | _,_,.nil=>.nil
 | _,_,.cons n t h=>.cons ⟨t,rfl⟩ (pk h)
end L2
namespace L2
open PySem PySem.Spec PyProof.Rows
def dP(s:Stmt):Arguments:=match s with
 | .FunctionDef _ a _ _ _ _ _ _ _ _=>a
 | _=>{ posonlyargs:=[],args:=[],vararg:=none,kwonlyargs:=[],kw_defaults:=[],kwarg:=none,defaults:=[] }
def bh(s:Stmt):List Stmt:=match s with
 | .FunctionDef _ _ b _ _ _ _ _ _ _=>b
 | _=>[]
def ai(s:Stmt):Scope:=match s with
 | .FunctionDef _ _ _ _ _ _ sc _ _ _=>sc
 | _=>{ kind:=.function,names:=[],isGenerator:=false,isCoroutine:=false }
abbrev CX0:CXT:=fun _ _ _ _ _ _=>False
abbrev E0:XK:=fun _ _ _=>False
theorem FK{X:Cx}:Passes CX0 X E0:=fun _ _ _ _ _ _ _ h=>h.elim
structure Fun(K:M8)(x qual:Str)(st:Stmt)(f:Addr)(fd:FuncData):Prop where
 ex:∃(oc:M9)(od:Option Addr)(kV doc pm:M9)(an:Option Addr)(cdv ct:M9)(osl:Array (Option M9)),
  fd=NZ x qual (dP st) (bh st) (ai st) .none kV doc pm an cdv ct/\K.lookup f=some ⟨oc,od,.func fd,osl⟩/\OC K cdv qual=true
 kp:Np K (.ref f)=true
section
variable{P : Md}{w : Ml}{K : M8}{mg : Str → Option M9}{base : Heap}
theorem Fun.ok{x qual:Str}{st:Stmt}{f:Addr}{fd:FuncData}{N ps:List Str}{k:Nat}{sp:Sp}(F:Fun K x qual st f fd)(S:FnScope N ps (ai st))(len:∀vs H Q E,sp vs H Q E->vs.length=ps.length)
  (hbody:∀(cdv:M9)(A:Mt)(outer:List RB)(s:MD)(H:Hp)(vs:List V)(Q:VK)(E:XK),Room k (A.deeper (PB qual (ai st) s.heap.objs.size f cdv))->sp vs H Q E->
   ∃t,PSs (BD CX0 P w K mg base N qual (ai st) f cdv A outer s H E).nox (bh st) t/\t { nx:=fun _ H'=>Q .non H',rt:=Q } (start N vs) H):FnOk P w K mg base CX0 (k+1) f fd ps sp:=by
 obtain⟨oc,od,kV,doc,pm,an,cdv,ct,osl,rfl,lk,hcd⟩:=F.ex;refine GR lk hcd S len fun A outer s H vs Q E hr hsp=>?_;obtain⟨t,h,q⟩:=hbody cdv A outer s H vs Q E hr hsp;exact⟨t,h.nox,q⟩
theorem Fun.binds{x qual:Str}{st:Stmt}{f:Addr}{fd:FuncData}{ps:List Str}(F:Fun K x qual st f fd)
  (h:∀(kV doc pm:M9)(an:Option Addr)(cdv ct:M9)(us:List M9),us.length=ps.length->Rg (NZ x qual (dP st) (bh st) (ai st) .none kV doc pm an cdv ct) ⟨us,[]⟩=pure (ps.zip us)):Binds K fd ps []:=by
 obtain⟨oc,od,kV,doc,pm,an,cdv,ct,osl,rfl,lk,hcd⟩:=F.ex;exact .all (h kV doc pm an cdv ct)
theorem tm{x qual:Str}{st:Stmt}{f:Addr}{oc:M9}{od an:Option Addr}{osl:Array (Option M9)}{kV doc pm cdv ct:M9}(l:K.lookup f=some ⟨oc,od,.func (NZ x qual (dP st) (bh st) (ai st) .none kV doc pm an cdv ct),osl⟩)
  (c:OC K cdv qual=true) (k:Np K (.ref f)=true):Fun K x qual st f (NZ x qual (dP st) (bh st) (ai st) .none kV doc pm an cdv ct):=⟨⟨oc,od,kV,doc,pm,an,cdv,ct,osl,rfl,l,c⟩,k⟩
end
theorem Di{A B:Prop}(h:B):if false=true then A else B:=by
 rw[if_neg MO];exact h
theorem Dh{A B:Prop}(h:A):if true=true then A else B:=by
 rw[if_pos rfl];exact h
end L2
end
namespace PU
theorem zM(s:PySem.Str)(l:List PySem.Str):PySem.Txt.join s l=QX s l:=PySem.StrLaws.glued_eq_join s l
end PU
section
namespace PU
open PySem L2
structure Lam where
 qual:Str
 args:Arguments
 body:FuncBody
 scope:Scope
 kept:List Str
 name:Str
inductive PV where
 | non | bl (b:Bool) | int (i:Int) | str (x:Str)
 | tup (ps:List PV) | lst (ps:List PV)
 | dct (ks:List Key) (ps:List PV) | dtt (ks:List bZ) (ps:List PV)
 | fn (L:Lam) (cs:List PV)
structure PX where
 cls:Str
 args:List PV
inductive R (α:Type) where
 | ok (a:α) | er (x:PX) | no
namespace R
protected def bind{α β:Type}:R α->(α->R β)->R β
 | ok a,f=>f a
 | er x,_=>er x
 | no,_=>no
instance:Monad R where
 pure:=R.ok
 bind:=R.bind
@[simp] theorem ok_bind{α β:Type}(a:α)(f:α->R β):(R.ok a >>= f)=f a:=rfl
@[simp] theorem JM{α β:Type}(x:PX)(f:α->R β):((R.er x:R α) >>= f)=R.er x:=rfl
@[simp] theorem Jm{α β:Type}(f:α->R β):((R.no:R α) >>= f)=R.no:=rfl
@[simp] theorem J6{α:Type}(a:α):(pure a:R α)=R.ok a:=rfl
def ofO{α:Type}:Option α->R α
 | some a=>ok a
 | none=>no
@[simp] theorem ofO_some{α:Type}(a:α):ofO (some a)=R.ok a:=rfl
@[simp] theorem ofO_none{α:Type}:ofO (none:Option α)=R.no:=rfl
theorem bind_assoc{α β γ:Type}(r:R α)(f:α->R β)(g:β->R γ):((r >>= f) >>= g)=(r >>= fun a=>f a >>= g):=by cases r <;> rfl
end R
inductive Sl where
 | no | val (p:PV) | own (p:PV) | pin (ps:List PV) (a:Nat)
abbrev PSt:=List Sl
def ah(i:Nat)(ρ:PSt):R PV:=match ρ[i]? with
 | some (.val p)=>.ok p
 | _=>.no
def kE(i:Nat)(ρ:PSt):R PV:=match ρ[i]? with
 | some (.val p)=>.ok p
 | some (.own p)=>.ok p
 | some (.pin ps _)=>.ok (.lst ps)
 | _=>.no
def kI(i:Int):PSt->R PV:=fun _=>.ok (.int i)
def kB(b:Bool):PSt->R PV:=fun _=>.ok (.bl b)
def kN:PSt->R PV:=fun _=>.ok .non
def kS(x:Str):PSt->R PV:=fun _=>.ok (.str x)
def kP(p:PV):PSt->R PV:=fun _=>.ok p
def aM:PSt->R (List PV):=fun _=>.ok []
def ae(f:PSt->R PV)(fs:PSt->R (List PV)):PSt->R (List PV):=fun ρ=>f ρ >>= fun p=>fs ρ >>= fun ps=>.ok (p::ps)
def gr(ps:List PV):R (List PV):=if ps.length<=16777216 then .ok ps else .no
def fP(fs:PSt->R (List PV)):PSt->R PV:=fun ρ=>fs ρ >>= fun ps=>gr ps >>= fun ps=>.ok (.tup ps)
def sW(fs:PSt->R (List PV)):PSt->R PV:=fun ρ=>fs ρ >>= fun ps=>gr ps >>= fun ps=>.ok (.lst ps)
def ar(fa fb:PSt->R PV)(g:PV->PV->Option PV):PSt->R PV:=fun ρ=>fa ρ >>= fun p=>fb ρ >>= fun q=>R.ofO (g p q)
def tT(fa fb fc:PSt->R PV)(g g':PV->PV->Option PV):PSt->R PV:=fun ρ=>fa ρ >>= fun p=>fb ρ >>= fun q=>R.ofO (g p q) >>= fun z=>match z with
 | .bl true=>fc ρ >>= fun r=>R.ofO (g' q r)
 | .bl false=>.ok (.bl false)
 | _=>.no
def vm:PV->Option Bool
 | .non=>some false
 | .bl b=>some b
 | .int i=>some (i != 0)
 | .str y=>if y.length<=16777216 then some ((y.length:Int) != 0) else none
 | .tup ps=>some (!ps.isEmpty)
 | .lst ps=>some (!ps.isEmpty)
 | .dct ks _=>some (!ks.isEmpty)
 | .dtt _ _=>none
 | .fn _ _=>none
def dS(f:PSt->R PV):PSt->R Bool:=fun ρ=>f ρ >>= fun p=>R.ofO (vm p)
def gx:PV->PV->Option PV
 | .int i,.int j=>some (.int (i+j))
 | .str x,.str y=>if x.length+y.length<=16777216 then some (.str (x++y)) else none
 | .lst ps,.lst qs=>if ps.length+qs.length<=16777216 then some (.lst (ps++qs)) else none
 | .tup ps,.tup qs=>if ps.length+qs.length<=16777216 then some (.tup (ps++qs)) else none
 | _,_=>none
def KG:PV->PV->Option PV
 | .int i,.int j=>some (.int (i-j))
 | _,_=>none
def xa:PV->PV->Option PV
 | .int i,.int j=>if i.natAbs<18446744073709551616\/j.natAbs<18446744073709551616 then some (.int (i * j)) else none
 | _,_=>none
def Ds:PV->PV->Option PV
 | .int i,.int j=>if 0<j/\j<1073741824 then some (.int (i / j)) else none
 | _,_=>none
def eU:PV->PV->Option PV
 | .int i,.int j=>if 0<j then some (.int (i % j)) else none
 | _,_=>none
inductive Fl where
 | next (ρ:PSt) | brk (ρ:PSt) | cont (ρ:PSt) | ret (p:PV)
def aQ(g g':PSt->R Fl):PSt->R Fl:=fun ρ=>g ρ >>= fun fl=>match fl with
 | .next ρ'=>g' ρ'
 | .brk ρ'=>.ok (.brk ρ')
 | .cont ρ'=>.ok (.cont ρ')
 | .ret p=>.ok (.ret p)
def dm:PSt->R Fl:=fun ρ=>.ok (.next ρ)
def cu(f:PSt->R PV):PSt->R Fl:=fun ρ=>f ρ >>= fun p=>.ok (.ret p)
def ifF(t:PSt->R Bool)(g g':PSt->R Fl):PSt->R Fl:=fun ρ=>t ρ >>= fun k=>if k=true then g ρ else g' ρ
def cy(i:Nat)(f:PSt->R PV):PSt->R Fl:=fun ρ=>f ρ >>= fun p=>.ok (.next (ρ.set i (.val p)))
def lJ(i:Nat)(f:PSt->R PV):PSt->R Fl:=fun ρ=>f ρ >>= fun p=>.ok (.next (ρ.set i (.own p)))
def Hk:PSt->R Fl:=fun ρ=>.ok (.brk ρ)
def uF(i:Nat)(ρ:PSt):PSt:=match ρ[i]? with
 | some (.own p)=>ρ.set i (.val p)
 | _=>ρ
def rK(i:Nat)(g:PSt->R Fl):PSt->R Fl:=fun ρ=>g (uF i ρ)
abbrev Tgt:=PV->PSt->Option PSt
abbrev yk:=List PV->PSt->Option PSt
def av(i:Nat):Tgt:=fun p ρ=>some (ρ.set i (.val p))
def iu:yk:=fun ps ρ=>match ps with
 | []=>some ρ
 | _::_=>none
def aO(h:Tgt)(h':yk):yk:=fun ps ρ=>match ps with
 | p::r=>(h p ρ).bind fun ρ1=>h' r ρ1
 | []=>none
def ir(n:Nat)(h:yk):Tgt:=fun p ρ=>match p with
 | .tup ps=>if ps.length=n then h ps ρ else none
 | _=>none
def gT(h:PV->PSt->Option PSt)(g:PSt->R Fl):List PV->PSt->R Fl
 | [],ρ=>.ok (.next ρ)
 | p::ps,ρ=>R.ofO (h p ρ) >>= fun ρ1=>g ρ1 >>= fun fl=>match fl with
  | .next ρ2=>gT h g ps ρ2
  | .cont ρ2=>gT h g ps ρ2
  | .brk ρ2=>.ok (.next ρ2)
  | .ret q=>.ok (.ret q)
def kG(fi:PSt->R (List PV))(h:Tgt)(g:PSt->R Fl):PSt->R Fl:=fun ρ=>fi ρ >>= fun ps=>gT h g ps ρ
def aE(fs:PSt->R (List PV))(F:List PV->Option PV):PSt->R PV:=fun ρ=>fs ρ >>= fun ps=>R.ofO (F ps)
def start(n:Nat)(ps:List PV):PSt:=ps.map Sl.val++Mv (n-ps.length) .no
def eI(m n:Nat)(g:PSt->R Fl)(ps:List PV):Option PV:=if ps.length=m then (match g (start n ps) with
 | .ok (.ret p)=>some p
 | .ok (.next _)=>some .non
 | _=>none) else none
def roS:Option Sl->Sl
 | some (.val p)=>.val p
 | _=>.no
def cb(nt:Nat)(idx:List Nat)(ρ:PSt):PSt:=Mv nt .no++idx.map fun i=>roS ρ[i]?
def cG(h:Tgt)(t:PSt->R Bool)(fe:PSt->R PV)(ρ:PSt):List PV->R (List PV)
 | []=>.ok []
 | p::ps=>R.ofO (h p ρ) >>= fun ρ1=>t ρ1 >>= fun b=>if b=true then fe ρ1 >>= fun q=>cG h t fe ρ ps >>= fun qs=>.ok (q::qs) else cG h t fe ρ ps
def CL{α:Type}:R α->R α
 | .ok a=>.ok a
 | _=>.no
def gw(fi:PSt->R (List PV))(h:Tgt)(t:PSt->R Bool)(fe:PSt->R PV)(nt:Nat)(idx:List Nat):PSt->R PV:=
 fun ρ=>fi ρ >>= fun ps=>CL (cG h t fe (cb nt idx ρ) ps) >>= fun qs=>gr qs >>= fun qs=>.ok (.lst qs)
def mI:PSt->R Bool:=fun _=>.ok true
mutual
def bU:PV->PV->Option Bool
 | .non,q=>match q with
  | .non=>some true | .bl _=>some false | .int _=>some false | .str _=>some false | .tup _=>some false | .lst _=>some false | _=>none
 | .bl a,q=>match q with
  | .bl b=>some (a == b) | .int b=>some ((if a then 1 else 0) == b) | .non=>some false | .str _=>some false | .tup _=>some false | .lst _=>some false | _=>none
 | .int a,q=>match q with
  | .int b=>some (a == b) | .bl b=>some (a == (if b then 1 else 0)) | .non=>some false | .str _=>some false | .tup _=>some false | .lst _=>some false | _=>none
 | .str a,q=>match q with
  | .str b=>some (a == b) | .non=>some false | .bl _=>some false | .int _=>some false | .tup _=>some false | .lst _=>some false | _=>none
 | .tup ps,q=>match q with
  | .tup qs=>cz ps qs | .non=>some false | .bl _=>some false | .int _=>some false | .str _=>some false | .lst _=>some false | _=>none
 | .lst ps,q=>match q with
  | .lst qs=>cz ps qs | .non=>some false | .bl _=>some false | .int _=>some false | .str _=>some false | .tup _=>some false | _=>none
 | _,_=>none
def cz:List PV->List PV->Option Bool
 | [],[]=>some true
 | [],_::_=>some false
 | _::_,[]=>some false
 | p::ps,q::qs=>(bU p q).bind fun a=>(cz ps qs).bind fun b=>some (a && b)
end
mutual
def yu:PV->Nat
 | .tup ps=>dM ps+1
 | .lst ps=>dM ps+1
 | .dct _ ps=>dM ps+1
 | .dtt _ ps=>dM ps+1
 | .fn _ ps=>dM ps+1
 | _=>0
def dM:List PV->Nat
 | []=>0
 | p::ps=>max (yu p) (dM ps)
end
def iK(ps qs:List PV)(j:Nat):Bool:=match ps[j]?,qs[j]? with
 | some p,some q=>(bU p q).getD false
 | _,_=>false
def pb:PV->Bool
 | .non=>true | .bl _=>true | .int _=>true | .str _=>true
 | _=>false
def scV:PV->V
 | .bl b=>.bl b | .int i=>.int i | .str x=>.str x
 | _=>.non
def bM:List Key->List PV->Key->Option PV
 | k::ks,p::ps,j=>if k=j then some p else bM ks ps j
 | _,_,_=>none
def m4(e:PV->PV->Option Bool):List Key->List PV->List Key->List PV->Option Bool
 | k::ks,p::ps,ls,qs=>match bM ls qs k with
  | none=>some false
  | some q=>(e p q).bind fun a=>(m4 e ks ps ls qs).bind fun b=>some (a && b)
 | [],[],_,_=>some true
 | _,_,_,_=>none
def yt:Nat->PV->PV->Option Bool
 | n+1,.dct ks ps,.dct ls qs=>if ks.length=ls.length then m4 (yt n) ks ps ls qs else some false
 | _,p,q=>bU p q
def gEq:PV->PV->Option PV
 | .dct ks ps,.dct ls qs=>if dM ps<=60 then (yt 3 (.dct ks ps) (.dct ls qs)).map .bl else none
 | .tup ps,.tup qs=>if dM ps<=60 then (cz ps qs).map .bl else none
 | .lst ps,.lst qs=>if dM ps<=60 then (cz ps qs).map .bl else none
 | p,q=>if pb p=true/\pb q=true/\C7 (scV p) (scV q)=true then some (.bl (decide (scV p=scV q))) else none
def gNe:PV->PV->Option PV
 | .tup ps,.tup qs=>if dM ps<=60 then (cz ps qs).map fun b=>.bl (!b) else none
 | .lst ps,.lst qs=>if dM ps<=60 then (cz ps qs).map fun b=>.bl (!b) else none
 | p,q=>if pb p=true/\pb q=true/\C7 (scV p) (scV q)=true then some (.bl (!decide (scV p=scV q))) else none
def gLt:PV->PV->Option PV
 | .int i,.int j=>some (.bl (decide (i<j)))
 | .str x,.str y=>some (.bl (decide (x.cps.toList<y.cps.toList)))
 | _,_=>none
def gLe:PV->PV->Option PV
 | .int i,.int j=>some (.bl (decide (i<=j)))
 | .str x,.str y=>some (.bl (!decide (y.cps.toList<x.cps.toList)))
 | _,_=>none
def gGt:PV->PV->Option PV
 | .int i,.int j=>some (.bl (decide (j<i)))
 | _,_=>none
def gGe:PV->PV->Option PV
 | .int i,.int j=>some (.bl (decide (j<=i)))
 | _,_=>none
def GI:PV->Bool
 | .non=>true
 | _=>false
def zW:PV->PV->Option PV
 | p,.non=>some (.bl (GI p))
 | _,_=>none
def eV:PV->Option Key
 | .int i=>some (.inl i)
 | .str x=>some (.inr x)
 | _=>none
def gIx:PV->PV->Option PV
 | .lst ps,.int i=>atI ps i
 | .tup ps,.int i=>atI ps i
 | .str z,.int i=>if z.length<=16777216 then (atI z.cps.toList i).map fun c=>.str ⟨#[c]⟩ else none
 | .dct ks ps,k=>(eV k).bind fun k=>bM ks ps k
 | _,_=>none
def inS(x y:Str):Bool:=!(Pp y x 0 y.length 1).isEmpty
def gIn:PV->PV->Option PV
 | .str x,.str y=>some (.bl (inS x y))
 | p,.lst qs=>if pb p=true/\qs.all pb=true then some (.bl (inV (scV p) (qs.map scV))) else none
 | p,.tup qs=>if pb p=true/\qs.all pb=true then some (.bl (inV (scV p) (qs.map scV))) else none
 | p,.dct ks _=>(eV p).map fun k=>.bl (ks.any fun j=>decide (j=k))
 | _,_=>none
def iA(p q:PV):Option PV:=(gIn p q).bind fun z=>match z with
 | .bl b=>some (.bl (!b))
 | _=>none
def E2(t u:PSt->R Bool):PSt->R Bool:=fun ρ=>t ρ >>= fun c=>if c=true then u ρ else .ok false
def orB(t u:PSt->R Bool):PSt->R Bool:=fun ρ=>t ρ >>= fun c=>if c=true then .ok true else u ρ
def FY(t:PSt->R Bool):PSt->R Bool:=fun ρ=>t ρ >>= fun c=>.ok (!c)
def Ho(fa fb:PSt->R PV):PSt->R PV:=fun ρ=>fa ρ >>= fun p=>match p with
 | .bl true=>fb ρ
 | .bl false=>.ok (.bl false)
 | _=>.no
def ifV(t:PSt->R Bool)(fa fb:PSt->R PV):PSt->R PV:=fun ρ=>t ρ >>= fun c=>if c=true then fa ρ else fb ρ
def un1(f:PSt->R PV)(g:PV->Option PV):PSt->R PV:=fun ρ=>f ρ >>= fun p=>R.ofO (g p)
def qF:PV->Option PV
 | .lst ps=>some (.int ps.length)
 | .tup ps=>some (.int ps.length)
 | .str x=>if x.length<=16777216 then some (.int x.length) else none
 | .dct ks _=>some (.int ks.length)
 | _=>none
def I9:PV->Option PV
 | .int i=>some (.int i)
 | .bl b=>some (.int (if b then 1 else 0))
 | _=>none
def nQ:PV->Option PV
 | .lst ps=>some (.tup ps)
 | .tup ps=>some (.tup ps)
 | _=>none
def zL:Key->PV
 | .inl i=>.int i
 | .inr x=>.str x
def gy(x:Str):List PV:=x.cps.toList.map fun c=>.str ⟨#[c]⟩
def fK:PV->Option (List PV)
 | .lst ps=>some ps
 | .tup ps=>some ps
 | .dct ks _=>some (ks.map zL)
 | .str x=>some (gy x)
 | _=>none
def itF(f:PSt->R PV):PSt->R (List PV):=fun ρ=>f ρ >>= fun p=>R.ofO (fK p)
def cD(lo:Int)(n:Nat):List PV:=(MX n).map fun i=>.int (lo+(i:Nat))
def Cb(f:PSt->R PV):PSt->R (List PV):=fun ρ=>f ρ >>= fun p=>match p with
 | .int j=>if j.natAbs<1000000000 then .ok (cD 0 j.toNat) else .no
 | _=>.no
def Ee(f f2:PSt->R PV):PSt->R (List PV):=fun ρ=>f ρ >>= fun p=>f2 ρ >>= fun q=>match p,q with
 | .int i,.int j=>if i.natAbs<1000000000/\j.natAbs<1000000000 then .ok (cD i (j-i).toNat) else .no
 | _,_=>.no
def qH(i:Nat)(f:PSt->R PV):PSt->R Fl:=fun ρ=>match ρ[i]? with
 | some (.own (.lst ps))=>f ρ >>= fun p=>if ps.length<16777216 then .ok (.next (ρ.set i (.own (.lst (ps++[p]))))) else .no
 | _=>.no
def yw(ps:List PV):List (List PV):=(MX ps.length).zipWith (fun (i:Nat) p=>[.int (i:Int),p]) ps
def rS:PV->Option (List PV)
 | .lst ps=>some ((yw ps).map .tup)
 | .str x=>some ((yw (gy x)).map .tup)
 | _=>none
def xy(f:PSt->R PV):PSt->R (List PV):=fun ρ=>f ρ >>= fun p=>R.ofO (rS p)
def KH:PV->Option PV
 | .int i=>if i.natAbs.log2<1920 then some (.str (toString i)) else none
 | .str x=>some (.str x)
 | _=>none
def pd:PV->Option PV
 | .int i=>some (.int (-i))
 | _=>none
def GG:PV->Bool
 | .str _=>true
 | _=>false
def zE(fo fe:PSt->R PV)(g:PV->PV->Option PV):PSt->R PV:=fun ρ=>fo ρ >>= fun p=>if GG p=true then fe ρ >>= fun q=>R.ofO (g p q) else .no
def kA:List PV->Option (List Str)
 | []=>some []
 | .str x::r=>(kA r).map (x::·)
 | _::_=>none
def xc:PV->PV->Option PV
 | .str x,.lst ps=>(kA ps).bind fun ys=>if (ys.map (·.length)).sum+ys.length * x.length<=16777216 then some (.str (Txt.join x ys)) else none
 | .str x,.tup ps=>(kA ps).bind fun ys=>if (ys.map (·.length)).sum+ys.length * x.length<=16777216 then some (.str (Txt.join x ys)) else none
 | _,_=>none
def qG{α:Type}(xs:List α)(lo hi:Option Int):List α:=(xs.drop (HT.sIx xs.length 0 lo)).take (HT.sIx xs.length xs.length hi-HT.sIx xs.length 0 lo)
def gSl:PV->Option Int->Option Int->Option PV
 | .lst ps,lo,hi=>some (.lst (qG ps lo hi))
 | .tup ps,lo,hi=>if HT.sIx ps.length 0 lo=0/\HT.sIx ps.length ps.length hi=ps.length then none else some (.tup (qG ps lo hi))
 | _,_,_=>none
def gq:PSt->R (Option Int):=fun _=>.ok none
def kJ(f:PSt->R PV):PSt->R (Option Int):=fun ρ=>f ρ >>= fun p=>match p with
 | .int i=>.ok (some i)
 | _=>.no
def mZ(f:PSt->R PV)(l h:PSt->R (Option Int)):PSt->R PV:=fun ρ=>f ρ >>= fun p=>l ρ >>= fun lo=>h ρ >>= fun hi=>R.ofO (gSl p lo hi)
def kD(ks:List Key)(ps:List PV)(k:Key)(p:PV):List PV:=ks.zipWith (fun j q=>if j=k then p else q) ps
def iJ(ks:List Key)(ps:List PV)(k:Key)(p:PV):PV:=if (ks.any fun j=>decide (j=k))=true then .dct ks (kD ks ps k p) else .dct (ks++[k]) (ps++[p])
def qT(i:Nat)(fk fv:PSt->R PV):PSt->R Fl:=fun ρ=>match ρ[i]? with
 | some (.own (.dct ks ps))=>fv ρ >>= fun p=>fk ρ >>= fun kp=>R.ofO (eV kp) >>= fun k=>if ks.length<16777216 then .ok (.next (ρ.set i (.own (iJ ks ps k p)))) else .no
 | _=>.no
def newD:PSt->R PV:=fun _=>.ok (.dct [] [])
def G6:PSt->R (List (Key×PV)):=fun _=>.ok []
def qv(fk fv:PSt->R PV)(f:PSt->R (List (Key×PV))):PSt->R (List (Key×PV)):=fun ρ=>fk ρ >>= fun kp=>R.ofO (eV kp) >>= fun k=>fv ρ >>= fun p=>f ρ >>= fun r=>.ok ((k,p)::r)
def gL(kps:List (Key×PV)):PV:=kps.foldl (fun d kp=>match d with
 | .dct ks ps=>iJ ks ps kp.1 kp.2
 | d=>d) (.dct [] [])
def xI(f:PSt->R (List (Key×PV))):PSt->R PV:=fun ρ=>f ρ >>= fun kps=>if kps.length<=15 then .ok (gL kps) else .no
end PU
end
namespace PU
open PySem PySem.Spec PyProof.Rows L2
def jR:Expr->Bool
 | .Starred ..=>false
 | _=>true
theorem bP{e:Expr}{es:List Expr}{env:RB}(h:jR e=true):MZ (e::es) env=(false,NJ e env)::MZ es env:=by
 cases e <;> first | rfl | cases h
theorem c6{e:Expr}{env:RB}(h:jR e=true):MZ [e] env=[(false,NJ e env)]:=bP h
theorem yT{e e2:Expr}{env:RB}(h:jR e=true)(h2:jR e2=true):MZ [e,e2] env=[(false,NJ e env),(false,NJ e2 env)]:=(bP h).trans (congrArg _ (c6 h2))
theorem i5{pos:Nt}{es:List Expr}{env:RB}(h:es.all jR=true):(OJ pos (MZ es env)).any (·.1)=false:=by
 have:∀es:List Expr,es.all jR=true->(MZ es env).any (·.1)=false:=by
  intro es
  induction es with
  | nil=>intro _;rfl
  | cons e es ih=>
   intro h;simp only[OB,ND] at h;rw[bP h.1,Ng,ih h.2];rfl
 have h2:=this es h
 have h3:(OJ pos (MZ es env)).map (·.1)=(MZ es env).map (·.1):=by
  unfold OJ;simp[MV,Function.comp_def]
 have:(OJ pos (MZ es env)).any (·.1)=((OJ pos (MZ es env)).map (·.1)).any id:=by rw[ON];rfl
 rw[this,h3,ON];exact h2
class TW where
 w:Ml
 tabs:List Addr:=[]
 qual:Nat->Nat->Str:=fun _ _=>⟨#[]⟩
variable[TW]
def eT(c:Addr)(q:Str):HO:=.ext fun h=>h.CodeRec (.ref c) q
def TOk(H:Hp)(ps:Array M9):Prop:=TriplesOk ps.toList/\∀pos v,Ow pos ps.toList=some v->∃c,v=.ref c/\H c=some (eT c (TW.qual pos.line pos.col))
def Eh:HO->Bool
 | .tbl _=>true
 | _=>false
structure Same(H H':Hp):Prop where
 at_:∀b o,H b=some o->∀(n:Eh o=false:=by rfl),H' b=some o
 tb:∀b ps,H b=some (.tbl ps)->∃ps',H' b=some (.tbl ps')/\(TOk H ps->TOk H' ps')
instance {H H':Hp}:CoeFun (Same H H') (fun _=>∀b o,H b=some o->∀(n:Eh o=false:=by rfl),H' b=some o):=⟨@Same.at_ _ H H'⟩
theorem TOk.same{H H':Hp}{ps:Array M9}(h:∀b o,H b=some o->Eh o=false->H' b=some o)(t:TOk H ps):TOk H' ps:=
 ⟨t.1,fun pos v e=>let ⟨c,e1,e2⟩:=t.2 pos v e;⟨c,e1,h _ _ e2 rfl⟩⟩
theorem Same.of{H H':Hp}(h:∀b o,H b=some o->H' b=some o):Same H H':=
 ⟨fun b o e _=>h b o e,fun b ps e=>⟨ps,h b _ e,TOk.same fun b o e _=>h b o e⟩⟩
theorem Same.refl(H:Hp):Same H H:=.of fun _ _ h=>h
theorem Same.trans{H H1 H2:Hp}(a:Same H H1)(b:Same H1 H2):Same H H2:=
 ⟨fun c o h n=>b.at_ c o (a.at_ c o h n) n,fun c ps e=>by
  obtain⟨p1,e1,k1⟩:=a.tb c ps e;obtain⟨p2,e2,k2⟩:=b.tb c p1 e1;exact⟨p2,e2,fun t=>k2 (k1 t)⟩⟩
theorem Same.free{H H':Hp}(e:Same H H'){l:Addr}(h:H' l=Option.none):H l=Option.none:=by
 cases q:H l with
 | none=>rfl
 | some o=>
  cases ho:Eh o with
  | false=>rw[e.at_ l o q ho] at h;cases h
  | true=>
   cases o <;> cases ho
   obtain⟨p1,e1,_⟩:=e.tb l _ q;rw[e1] at h;cases h
def uT(H:Hp):Prop:=∀P∈TW.tabs,∃ps,H P=some (.tbl ps)/\TOk H ps
theorem Same.tabs{H H':Hp}(s:Same H H')(t:uT H):uT H':=fun P hP=>by
 obtain⟨ps,e,k⟩:=t P hP;obtain⟨p1,e1,k1⟩:=s.tb P ps e;exact⟨p1,e1,k1 k⟩
def Ht(K:M8)(a:Addr)(xs:List V):Prop:=
 ∃(its:List M9) (n:Nat),K.lookup a=some { cls:=.type "list",data:=.seq its.toArray n }/\xs.length<=sizeLine/\Vals xs its
def yn(K:M8)(a:Addr)(kvs:List (Key×V)):Prop:=
 kvs.length<=sizeLine/\(a == N6)=false/\∃(o:Obj)(es:Array DictEntry)(ep:Nat),K.lookup a=some o/\o.ExactDict/\o.data=.dict es ep/\
  ∀P:Md,∃vs,KV kvs vs/\PySem.KeysOf (aw P TW.w) es/\Pairs (aw P TW.w) es.toList vs/\(vs.map (·.1)).Nodup
theorem yn.at{K:M8}{a:Addr}{kvs:List (Key×V)}(h:yn K a kvs)(P:Md)(w:Ml)(hw:w=TW.w)(hp:Heap)(hk:K.In hp):∃vs,KV kvs vs/\hp.DictOf (aw P w) a vs:=by
 subst hw;obtain⟨_,_,o,es,ep,e,x,d,r⟩:=h;obtain⟨vs,r1,r2⟩:=r P;exact⟨vs,r1,o,es,ep,hk _ _ e,x,d,r2⟩
def SqO(K:M8)(H:Hp)(a:Addr)(xs:List V):Prop:=Rd H a (.lst xs)\/Ht K a xs
theorem SqO.l{K:M8}{H:Hp}{a:Addr}{xs:List V}(h:SqO K H a xs):SqL K H a xs:=by
 rcases h with h | ⟨its,n,e,z,r⟩
 ·exact .inl h
 ·exact .inr ⟨_,its.toArray,n,e,rfl,rfl,rfl,by rw[Mj,← r.length];exact z,by simpa using r⟩
theorem SqO.is{X:Cx}{pins:List (Addr×Obj)}{σ:L2.St}{H:Hp}{s:MD}{a:Addr}{xs:List V}(I:Inv X pins σ H s)(h:SqO X.K H a xs) :
  xs.length<=sizeLine/\∃(its:List M9) (n:Nat),Vals xs its/\s.heap.get? a=some { cls:=.type "list",data:=.seq its.toArray n }:=by
 rcases h with h | ⟨its,n,e,z,r⟩
 ·obtain⟨z,its,n,r,e⟩:=h.ok I.hok
  exact⟨z,its,n,r,e⟩
 ·exact⟨z,its,n,r,I.kIn _ _ e⟩
def SqF(K:M8)(H:Hp)(a:Addr)(xs:List V):Prop:=(∃o,H a=some (.frz o (.lst xs)))\/Ht K a xs
def DkF(K:M8)(H:Hp)(a:Addr)(kvs:List (Key×V)):Prop:=(∃o,H a=some (.frz o (.dK kvs)))\/yn K a kvs
def DkR(K:M8)(H:Hp)(a:Addr)(kvs:List (Key×V)):Prop:=Rd H a (.dK kvs)\/yn K a kvs
theorem SqF.l{K:M8}{H:Hp}{a:Addr}{xs:List V}(h:SqF K H a xs):SqO K H a xs:=by
 rcases h with h | h
 ·exact .inl (.inr h)
 ·exact .inr h
theorem DkF.r{K:M8}{H:Hp}{a:Addr}{kvs:List (Key×V)}(h:DkF K H a kvs):DkR K H a kvs:=by
 rcases h with h | h
 ·exact .inl (.inr h)
 ·exact .inr h
def FnAt(f:Addr)(o:Obj):HO:=.ext fun h=>h.get? f=some o
abbrev rz(L:Lam)(cl:List (Str×Addr))(pm:M9×M9)(cdv ct:M9):FuncData:=
 { name:=L.name,qualname:=L.qual,params:=L.args,body:=L.body,scope:=L.scope,globals:=mainGlobals,closure:=cl,defaults:=.none,kwdefaults:=.none,doc:=pm.1,pyModule:=pm.2,annotations:=none,code:=cdv,closureTuple:=ct,builtins:=NR }
abbrev jh (L:Lam) (cl:List (Str×Addr)) (pm:M9×M9) (c:Addr) (ct:M9):Obj:={ cls:=.type "function",data:=.func (rz L cl pm (.ref c) ct) }
def fD(H:Hp):List (Str×Addr)->List V->Prop
 | [],xs=>xs=[]
 | p::cl,xs=>∃x r o u,xs=x::r/\H p.2=some (.frz o (.own 0))/\o.data=.cell (some u)/\RelV x u/\fD H cl r
mutual
def Rep(K:M8)(H:Hp):PV->V->Prop
 | .non,v=>v=.non
 | .bl b,v=>v=.bl b
 | .int i,v=>v=.int i
 | .str x,v=>v=.str x
 | .tup ps,v=>∃a xs,v=.ref a/\H a=some (.tup xs)/\aH K H ps xs
 | .lst ps,v=>∃a xs,v=.ref a/\SqF K H a xs/\aH K H ps xs
 | .dct ks ps,v=>∃a kvs,v=.ref a/\DkF K H a kvs/\kvs.map (·.1)=ks/\aH K H ps (kvs.map (·.2))
 | .dtt ks ps,v=>∃a o kvs,v=.ref a/\H a=some (.frz o (.dT kvs))/\kvs.map (·.1)=ks/\aH K H ps (kvs.map (·.2))
 | .fn L cs,v=>∃f c cl pm ct xs,v=.ref f/\H f=some (FnAt f (jh L cl pm c ct))/\H c=some (eT c L.qual)/\cl.map (·.1)=L.kept/\(cl.map (·.2)).Nodup/\fD H cl xs/\aH K H cs xs
def aH(K:M8)(H:Hp):List PV->List V->Prop
 | [],xs=>xs=[]
 | p::ps,xs=>∃x r,xs=x::r/\Rep K H p x/\aH K H ps r
end
def bp(K:M8)(H:Hp):PV->V->Prop
 | .lst ps,v=>∃a xs,v=.ref a/\SqO K H a xs/\aH K H ps xs
 | .dct ks ps,v=>∃a kvs,v=.ref a/\DkR K H a kvs/\kvs.map (·.1)=ks/\aH K H ps (kvs.map (·.2))
 | .dtt ks ps,v=>∃a kvs,v=.ref a/\Rd H a (.dT kvs)/\kvs.map (·.1)=ks/\aH K H ps (kvs.map (·.2))
 | p,v=>Rep K H p v
def cA(K:M8)(H:Hp)(a:Addr):PV->Prop
 | .lst ps=>∃xs,H a=some (.lst xs)/\aH K H ps xs
 | .dct ks ps=>∃kvs,H a=some (.dK kvs)/\kvs.map (·.1)=ks/\aH K H ps (kvs.map (·.2))
 | .dtt ks ps=>∃kvs,H a=some (.dT kvs)/\kvs.map (·.1)=ks/\aH K H ps (kvs.map (·.2))
 | _=>False
def Bm:HO->Bool
 | .frz _ _=>true
 | .tup _=>true
 | .ext _=>true
 | _=>false
def Kp(H H':Hp):Prop:=∀b u,H b=some u->Bm u=true->H' b=some u
theorem Same.kp{H H':Hp}(h:Same H H'):Kp H H':=fun b u e f=>h.at_ b u e (by cases u <;> first | rfl | cases f)
theorem Kp.refl(H:Hp):Kp H H:=fun _ _ e _=>e
theorem Kp.trans{H H1 H2:Hp}(h:Kp H H1)(k:Kp H1 H2):Kp H H2:=fun b u e f=>k b u (h b u e f) f
theorem Kp.upd{H:Hp}{a:Addr}{u o:HO}(h:H a=some u)(f:Bm u=false):Kp H (upd H a o):=fun b w e g=>by
 have:b≠a:=fun z=>by
  subst z;rw[h] at e;cases e;rw[f] at g;cases g
 rw[aB this];exact e
theorem Kp.sqT{K:M8}{H H':Hp}(k:Kp H H'){a:Addr}{xs:List V}(h:SqT K H a xs):SqT K H' a xs:=by
 rcases h with (h | ⟨o,h⟩) | h
 ·exact .inl (.inl (k _ _ h rfl))
 ·exact .inl (.inr ⟨o,k _ _ h rfl⟩)
 ·exact .inr h
theorem Kp.sqF{K:M8}{H H':Hp}(k:Kp H H'){a:Addr}{xs:List V}(h:SqF K H a xs):SqF K H' a xs:=by
 rcases h with⟨o,h⟩ | h
 ·exact .inl ⟨o,k _ _ h rfl⟩
 ·exact .inr h
theorem Kp.dkF{K:M8}{H H':Hp}(k:Kp H H'){a:Addr}{kvs:List (Key×V)}(h:DkF K H a kvs):DkF K H' a kvs:=by
 rcases h with⟨o,h⟩ | h
 ·exact .inl ⟨o,k _ _ h rfl⟩
 ·exact .inr h
theorem TOk.kp{H H':Hp}{ps:Array M9}(k:Kp H H')(t:TOk H ps):TOk H' ps:=
 ⟨t.1,fun pos v e=>let ⟨c,e1,e2⟩:=t.2 pos v e;⟨c,e1,k _ _ e2 rfl⟩⟩
theorem Kp.but{H H':Hp}{a:Addr}(na:∀u,H a=some u->Bm u=false)(oth:∀b,b≠a->H' b=H b):Kp H H':=fun b u e f=>by
 have:b≠a:=fun z=>by
  subst z;rw[na u e] at f;cases f
 rw[oth b this];exact e
theorem Same.but{B H H':Hp}{a:Addr}(s:Same B H)(fa:B a=none)(na:∀u,H a=some u->Bm u=false)(oth:∀b,b≠a->H' b=H b):Same B H':=
 ⟨fun b o e n=>by rw[oth b (bB e fa)];exact s.at_ b o e n,fun b ps e=>by
  obtain⟨p1,e1,k1⟩:=s.tb b ps e;exact⟨p1,by rw[oth b (bB e fa)];exact e1,fun t=>(k1 t).kp (Kp.but na oth)⟩⟩
theorem uT.but{H H':Hp}{a:Addr}(t:uT H)(na:∀u,H a=some u->Bm u=false/\Eh u=false)(oth:∀b,b≠a->H' b=H b):uT H':=fun P hP=>by
 obtain⟨ps,e,k⟩:=t P hP
 have:P≠a:=fun z=>by
  subst z;have:=(na _ e).2;cases this
 exact⟨ps,by rw[oth P this];exact e,k.kp (Kp.but (fun u h=>(na u h).1) oth)⟩
theorem tq{K:M8}{H:Hp}{a:Addr}{xs:List V}(h:H a=some (.tup xs)):SqT K H a xs:=.inl (.inl h)
theorem fD.kp{H H':Hp}(k:Kp H H'):∀{cl:List (Str×Addr)}{xs:List V},fD H cl xs->fD H' cl xs
 | [],_,h=>h
 | p::cl,_,⟨x,r,o,u,e,h,d,v,t⟩=>⟨x,r,o,u,e,k _ _ h rfl,d,v,fD.kp k t⟩
mutual
theorem Rep.kp{K:M8}{H H':Hp}(k:Kp H H'):∀(p:PV){v:V},Rep K H p v->Rep K H' p v
 | .non,_,h=>h
 | .bl _,_,h=>h
 | .int _,_,h=>h
 | .str _,_,h=>h
 | .tup ps,_,⟨a,xs,e,h,r⟩=>⟨a,xs,e,k _ _ h rfl,aH.kp k ps r⟩
 | .lst ps,_,⟨a,xs,e,h,r⟩=>⟨a,xs,e,k.sqF h,aH.kp k ps r⟩
 | .dct ks ps,_,⟨a,kvs,e,h,ek,r⟩=>⟨a,kvs,e,k.dkF h,ek,aH.kp k ps r⟩
 | .dtt ks ps,_,⟨a,o,kvs,e,h,ek,r⟩=>⟨a,o,kvs,e,k _ _ h rfl,ek,aH.kp k ps r⟩
 | .fn L cs,_,⟨f,c,cl,pm,ct,xs,e,h1,h2,h3,h5,h4,r⟩=>⟨f,c,cl,pm,ct,xs,e,k _ _ h1 rfl,k _ _ h2 rfl,h3,h5,fD.kp k h4,aH.kp k cs r⟩
theorem aH.kp{K:M8}{H H':Hp}(k:Kp H H'):∀(ps:List PV){xs:List V},aH K H ps xs->aH K H' ps xs
 | [],_,h=>h
 | p::ps,_,⟨x,r,e,h,t⟩=>⟨x,r,e,Rep.kp k p h,aH.kp k ps t⟩
end
section
variable{K : M8}{H H' : Hp}{p : PV}{ps qs : List PV}{v : V}{xs ys : List V}{a : Addr}
theorem Rep.same(h:Rep K H p v)(s:Same H H'):Rep K H' p v:=Rep.kp (Same.kp s) p h
theorem aH.same(h:aH K H ps xs)(s:Same H H'):aH K H' ps xs:=aH.kp (Same.kp s) ps h
theorem bp.same(h:bp K H p v)(s:Same H H'):bp K H' p v:=by
 cases p with
 | lst ps=>
  obtain⟨a,xs,e,q,r⟩:=h;refine⟨a,xs,e,?_,r.same s⟩;rcases q with (q | ⟨o,q⟩) | q
  ·exact .inl (.inl (s _ _ q))
  ·exact .inl (.inr ⟨o,s _ _ q⟩)
  ·exact .inr q
 | dct ks ps=>
  obtain⟨a,kvs,e,q,ek,r⟩:=h;refine⟨a,kvs,e,?_,ek,r.same s⟩;rcases q with (q | ⟨o,q⟩) | q
  ·exact .inl (.inl (s _ _ q))
  ·exact .inl (.inr ⟨o,s _ _ q⟩)
  ·exact .inr q
 | dtt ks ps=>
  obtain⟨a,kvs,e,q,ek,r⟩:=h;refine⟨a,kvs,e,?_,ek,r.same s⟩;rcases q with q | ⟨o,q⟩
  ·exact .inl (s _ _ q)
  ·exact .inr ⟨o,s _ _ q⟩
 | _=>exact Rep.same h s
theorem cA.same(h:cA K H a p)(s:Same H H'):cA K H' a p:=by
 cases p with
 | lst ps=>
  obtain⟨xs,q,r⟩:=h;exact⟨xs,s _ _ q,r.same s⟩
 | dct ks ps=>
  obtain⟨kvs,q,ek,r⟩:=h;exact⟨kvs,s _ _ q,ek,r.same s⟩
 | dtt ks ps=>
  obtain⟨kvs,q,ek,r⟩:=h;exact⟨kvs,s _ _ q,ek,r.same s⟩
 | _=>exact h
theorem Rep.o(h:Rep K H p v):bp K H p v:=by
 cases p with
 | lst ps=>
  obtain⟨a,xs,e,q,r⟩:=h;exact⟨a,xs,e,q.l,r⟩
 | dct ks ps=>
  obtain⟨a,kvs,e,q,ek,r⟩:=h;exact⟨a,kvs,e,q.r,ek,r⟩
 | dtt ks ps=>
  obtain⟨a,o,kvs,e,q,ek,r⟩:=h;exact⟨a,kvs,e,.inr ⟨o,q⟩,ek,r⟩
 | _=>exact h
theorem cA.o(h:cA K H a p):bp K H p (.ref a):=by
 cases p with
 | lst ps=>
  obtain⟨xs,q,r⟩:=h;exact⟨a,xs,rfl,.inl (.inl q),r⟩
 | dct ks ps=>
  obtain⟨kvs,q,ek,r⟩:=h;exact⟨a,kvs,rfl,.inl (.inl q),ek,r⟩
 | dtt ks ps=>
  obtain⟨kvs,q,ek,r⟩:=h;exact⟨a,kvs,rfl,.inl q,ek,r⟩
 | _=>exact MI h
theorem aH.length:∀{ps:List PV}{xs:List V},aH K H ps xs->ps.length=xs.length
 | [],_,h=>by cases h;rfl
 | p::ps,_,⟨x,r,e,_,t⟩=>by subst e;simp[aH.length t]
theorem aH.nil:aH K H [] []:=rfl
theorem aH.cons(h:Rep K H p v)(t:aH K H ps xs):aH K H (p::ps) (v::xs):=⟨v,xs,rfl,h,t⟩
theorem aH.append:∀{ps qs:List PV}{xs ys:List V},aH K H ps xs->aH K H qs ys->aH K H (ps++qs) (xs++ys)
 | [],_,_,_,h,k=>by cases h;exact k
 | p::ps,_,_,_,⟨x,r,e,h,t⟩,k=>by subst e;exact⟨x,_,rfl,h,aH.append t k⟩
theorem aH.get:∀{ps:List PV}{xs:List V}{i:Nat}{p:PV},aH K H ps xs->ps[i]?=some p->∃x,xs[i]?=some x/\Rep K H p x
 | [],_,_,_,_,e=>by simp at e
 | p::ps,_,0,_,⟨x,r,e,h,t⟩,q=>by
  subst e;simp at q;subst q;exact⟨x,rfl,h⟩
 | p::ps,_,i+1,q,⟨x,r,e,h,t⟩,z=>by
  subst e;obtain⟨y,h1,h2⟩:=aH.get (i:=i) (p:=q) t (by simpa using z);exact⟨y,by simpa using h1,h2⟩
theorem aH.take:∀{ps:List PV}{xs:List V}(n:Nat),aH K H ps xs->aH K H (ps.take n) (xs.take n)
 | _,_,0,_=>by simp;rfl
 | [],_,n+1,h=>by cases h;rfl
 | p::ps,_,n+1,⟨x,r,e,h,t⟩=>by subst e;exact⟨x,_,rfl,h,aH.take n t⟩
theorem aH.drop:∀{ps:List PV}{xs:List V}(n:Nat),aH K H ps xs->aH K H (ps.drop n) (xs.drop n)
 | _,_,0,h=>by simpa using h
 | [],_,n+1,h=>by cases h;rfl
 | p::ps,_,n+1,⟨x,r,e,h,t⟩=>by subst e;simpa using aH.drop n t
end
theorem _root_.L2.Inv.reH{X:Cx}{pins:List (Addr×Obj)}{σ:L2.St}{H H':Hp}{s:MD}(I:Inv X pins σ H s){a:Addr}{u u':HO}(hu:H a=some u)(h':H'=upd H a u')
  (nf:Bm u=false) (nt:∀ps,u≠.tbl ps) (no:∀x,u≠.own x) (hok:dR X.prog X.w H' s.heap a u'):Inv X pins σ H' s:=by
 subst h';have keepT:∀b xs,H b=some (.tup xs)->(upd H a u') b=some (.tup xs):=fun b xs e=>Kp.upd hu nf b _ e rfl
 have keepO:∀b x,H b=some (.own x)->(upd H a u') b=some (.own x):=fun b x e=>by
  have:b≠a:=fun z=>by
   subst z;rw[hu] at e;cases e;exact no x rfl
  rw[aB this];exact e
 have hn:∀b,H b=none->(upd H a u') b=none:=fun b e=>by
  have:b≠a:=fun z=>by
   subst z;rw[hu] at e;cases e
  rw[aB this];exact e
 refine⟨I.ok,I.os,I.bare,⟨I.base.keep,I.base.slot,fun b o e n x=>hn b (I.base.free b o e n x),I.base.there,fun b xs e=>keepT b xs (I.base.tups b xs e),
  fun b o w e=>Kp.upd hu nf b _ (I.base.frzs b o w e) rfl,fun b ps e=>?_⟩,I.loc,I.cell,hn _ I.free,fun x c e=>hn c (I.freeC x c e),fun p hp=>?_,fun b o e=>?_,I.len⟩
 ·obtain⟨more,q⟩:=I.base.tbls b ps e
  have:b≠a:=fun z=>by
   subst z;rw[hu] at q;cases q;exact nt _ rfl
  exact⟨more,by rw[aB this];exact q⟩
 ·obtain⟨h1,h2,h3⟩:=I.pin p hp
  exact⟨h1,hn _ h2,h3⟩
 ·by_cases hb:b=a
  ·subst hb
   rw[ay] at e;cases e;exact hok
  ·rw[aB hb] at e
   exact(I.hok b o e).stay (fun c v _ r=>r) (fun c r=>keepO c b r) keepT
theorem _root_.L2.Inv.frz{X:Cx}{pins:List (Addr×Obj)}{σ:L2.St}{H:Hp}{s:MD}{a:Addr}{p:PV}(I:Inv X pins σ H s)(n:cA X.K H a p) :
  ∃H',Inv X pins σ H' s/\Rep X.K H' p (.ref a)/\∀b,b≠a->H' b=H b:=by
 cases p with
 | lst ps=>
  obtain⟨xs,q,r⟩:=n;obtain⟨z,its,m,rv,e⟩:=I.hok a _ q;refine⟨upd H a (.frz _ (.lst xs)),I.reH q rfl rfl (by intro _ h;cases h) (by intro _ h;cases h) ⟨e,z,its,m,rv,e⟩,⟨a,xs,rfl,.inl ⟨_,ay⟩,r.kp (Kp.upd q rfl)⟩,fun b hb=>aB hb⟩
 | dct ks ps=>
  obtain⟨kvs,q,ek,r⟩:=n;obtain⟨z,hs,vs,rv,o,es,ep,e,rest⟩:=I.hok a _ q;refine⟨upd H a (.frz o (.dK kvs)),I.reH q rfl rfl (by intro _ h;cases h) (by intro _ h;cases h) ⟨e,z,hs,vs,rv,o,es,ep,e,rest⟩,⟨a,kvs,rfl,.inl ⟨_,ay⟩,ek,r.kp (Kp.upd q rfl)⟩,fun b hb=>aB hb⟩
 | dtt ks ps=>
  obtain⟨kvs,q,ek,r⟩:=n;obtain⟨z,hs,ys,rv,o,es,ep,e,rest⟩:=I.hok a _ q;refine⟨upd H a (.frz o (.dT kvs)),I.reH q rfl rfl (by intro _ h;cases h) (by intro _ h;cases h) ⟨e,z,hs,ys,?_,o,es,ep,e,rest⟩,⟨a,o,kvs,rfl,ay,ek,r.kp (Kp.upd q rfl)⟩,fun b hb=>aB hb⟩;exact Paired.mapP rv fun p1 q1 ⟨h1,h2,h3⟩=>⟨h1,h2.keeps fun b ys hb=>Kp.upd q rfl _ _ hb rfl,h3⟩
 | _=>exact MI n
theorem cA.nt{K:M8}{H:Hp}{a:Addr}{p:PV}(h:cA K H a p):∀u,H a=some u->Bm u=false/\Eh u=false:=fun u e=>by
 cases p with
 | lst ps=>obtain⟨_,w,_⟩:=h;rw[w] at e;cases e;exact⟨rfl,rfl⟩
 | dct ks ps=>obtain⟨_,w,_⟩:=h;rw[w] at e;cases e;exact⟨rfl,rfl⟩
 | dtt ks ps=>obtain⟨_,w,_⟩:=h;rw[w] at e;cases e;exact⟨rfl,rfl⟩
 | _=>exact MI h
end PU
namespace PU
open PySem PySem.Spec PyProof.Rows L2
variable[TW]
structure Cn where
 X:Cx
 Ac:PX->Hp->Prop
def Ek(K:M8)(H:Hp)(x:Option (Option V)):Sl->Prop
 | .no=>True
 | .val p=>∃v,x=some (some v)/\Rep K H p v
 | .own p=>∃a,x=some (some (.ref a))/\cA K H a p
 | .pin ps a=>x=some (some (.ref a))/\cA K H a (.lst ps)
structure View(K:M8)(H:Hp)(σ:L2.St)(ρ:PSt):Prop where
 at_:∀(i:Nat)(l:Sl),ρ[i]?=some l->Ek K H σ[i]? l
 tb:uT H
instance {K:M8} {H:Hp} {σ:L2.St} {ρ:PSt}:CoeFun (View K H σ ρ) (fun _=>∀(i:Nat)(l:Sl),ρ[i]?=some l->Ek K H σ[i]? l):=⟨@View.at_ _ K H σ ρ⟩
theorem Ek.same{K:M8}{H H':Hp}{x:Option (Option V)}{l:Sl}(h:Ek K H x l)(s:Same H H'):Ek K H' x l:=by
 cases l with
 | no=>exact trivial
 | val p=>obtain⟨v,e,r⟩:=h;exact⟨v,e,r.same s⟩
 | own p=>obtain⟨a,e,r⟩:=h;exact⟨a,e,r.same s⟩
 | pin ps a=>exact⟨h.1,cA.same h.2 s⟩
theorem View.same{K:M8}{H H':Hp}{σ:L2.St}{ρ:PSt}(h:View K H σ ρ)(s:Same H H'):View K H' σ ρ:=⟨fun i l e=>(h i l e).same s,s.tabs h.tb⟩
def RQ(C:Cn)(H:Hp){α:Type}(r:R α)(k:α->Prop):Prop:=
 match r with
 | .ok a=>k a
 | .er x=>∀H',Same H H'->C.Ac x H'
 | .no=>False
section
variable{C : Cn}{H H' : Hp}{α β : Type}{r : R α}{k k' : α → Prop}
theorem RQ.imp(h:RQ C H r k)(f:∀a,r=.ok a->k a->k' a):RQ C H r k':=by
 cases r with
 | ok a=>exact f a rfl h
 | er x=>exact h
 | no=>exact h
theorem RQ.same(h:RQ C H r k)(s:Same H H'):RQ C H' r k:=by
 cases r with
 | ok a=>exact h
 | er x=>exact fun H2 s2=>h H2 (s.trans s2)
 | no=>exact h
theorem RQ.bind{f:α->R β}{m:β->Prop}(h:RQ C H (r >>= f) m):RQ C H r fun a=>RQ C H (f a) m:=by
 cases r <;> exact h
theorem RQ.ofO{o:Option α}(h:RQ C H (R.ofO o) k):∃a,o=some a/\k a:=by
 cases o with
 | none=>exact MI h
 | some a=>exact⟨a,rfl,h⟩
end
def tV(C:Cn)(f:PSt->R PV):TE:=fun σ H Q=>∃ρ,View C.X.K H σ ρ/\RQ C H (f ρ) fun p=>∀v H',Same H H'->Rep C.X.K H' p v->Q v H'
def tO(C:Cn)(f:PSt->R PV):TE:=fun σ H Q=>∃ρ,View C.X.K H σ ρ/\RQ C H (f ρ) fun p=>∀v H',Same H H'->bp C.X.K H' p v->Q v H'
def tN(C:Cn)(f:PSt->R PV):TE:=fun σ H Q=>∃ρ,View C.X.K H σ ρ/\RQ C H (f ρ) fun p=>∀a H',Same H H'->H a=none->cA C.X.K H' a p->Q (.ref a) H'
def tAs(C:Cn)(f:PSt->R (List PV)):TA:=fun σ H Q=>∃ρ,View C.X.K H σ ρ/\RQ C H (f ρ) fun ps=>∀vs H',Same H H'->aH C.X.K H' ps vs->Q vs H'
def tBl(C:Cn)(f:PSt->R Bool):TT:=fun σ H Q=>∃ρ,View C.X.K H σ ρ/\RQ C H (f ρ) fun b=>∀H',Same H H'->Q b H'
def EV(C:Cn)(e:Expr)(f:PSt->R PV):Prop:=PE C.X e (tV C f)
def EO(C:Cn)(e:Expr)(f:PSt->R PV):Prop:=PE C.X e (tO C f)
def EN(C:Cn)(e:Expr)(f:PSt->R PV):Prop:=PE C.X e (tN C f)
def EA(C:Cn)(es:List Expr)(f:PSt->R (List PV)):Prop:=PA C.X es (tAs C f)
def ET(C:Cn)(e:Expr)(f:PSt->R Bool):Prop:=PT C.X e (tBl C f)
def EW(C:Cn)(e:Expr)(f:PSt->R Bool):Prop:=PW C.X e (tBl C f)
section
variable{C : Cn}{e a b c : Expr}{es : List Expr}{f fa fb fc : PSt → R PV}{fs : PSt → R (List PV)}{pos : Nt}
theorem EV.o(h:EV C e f):EO C e f:=fun pins s σ H Q I ⟨ρ,vw,q⟩=>h pins s σ H Q I ⟨ρ,vw,q.imp fun _ _ k v H' sm r=>k v H' sm r.o⟩
theorem EN.o(h:EN C e f):EO C e f:=fun pins s σ H Q I ⟨ρ,vw,q⟩=>h pins s σ H Q I ⟨ρ,vw,q.imp fun _ _ k a H' sm _ r=>k (.ref a) H' sm r.o⟩
theorem EN.v(h:EN C e f):EV C e f:=by
 intro pins s σ H Q I ⟨ρ,vw,q⟩;cases hf:f ρ with
 | ok p=>
  rw[hf] at q;refine thn (h pins s σ H (fun v H'=>∃a,v=.ref a/\Same H H'/\H a=none/\cA C.X.K H' a p) I ⟨ρ,vw,by rw[hf];exact fun a H' sm n w=>⟨a,rfl,sm,n,w⟩⟩) fun u s' ⟨v,H',I',rv,a,ev,sm,na,w⟩=>?_;obtain⟨H2,I2,rp,oth⟩:=I'.frz w;subst ev;exact⟨.ref a,H2,I2,rv,q _ H2 (sm.but na (fun u h=>(w.nt u h).1) oth) rp⟩
 | er x=>
  rw[hf] at q;exact h pins s σ H Q I ⟨ρ,vw,by rw[hf];exact q⟩
 | no=>
  rw[hf] at q;exact MI q
theorem GS (i:Nat) {x:Str} (hN:C.X.N[i]?=some x) (hv:Vis C.X.env.scope x) (hd:(x == ("__debug__":Str))=false:=by decide) (hcd:(x == ("__classdict__":Str))=false:=by decide):EV C (.Name x pos) (ah i):=by
 intro pins s σ H Q I ⟨ρ,vw,q⟩;unfold ah at q;split at q
 ·rename_i p e
  obtain⟨v,ev,r⟩:=vw i _ e;exact fG hN hv hd hcd pins s σ H Q I ⟨v,ev,q v H (Same.refl H) r⟩
 ·exact MI q
theorem GX (i:Nat) {x:Str} (hN:C.X.N[i]?=some x) (hv:Vis C.X.env.scope x) (hd:(x == ("__debug__":Str))=false:=by decide) (hcd:(x == ("__classdict__":Str))=false:=by decide):EO C (.Name x pos) (kE i):=by
 intro pins s σ H Q I ⟨ρ,vw,q⟩;unfold kE at q;split at q
 ·rename_i p e
  obtain⟨v,ev,r⟩:=vw i _ e;exact fG hN hv hd hcd pins s σ H Q I ⟨v,ev,q v H (Same.refl H) r.o⟩
 ·rename_i p e
  obtain⟨v,ev,r⟩:=vw i _ e;exact fG hN hv hd hcd pins s σ H Q I ⟨_,ev,q _ H (Same.refl H) r.o⟩
 ·rename_i ps a e
  obtain⟨ev,r⟩:=vw i _ e;exact fG hN hv hd hcd pins s σ H Q I ⟨_,ev,q _ H (Same.refl H) r.o⟩
 ·exact MI q
theorem aY{i j}:EV C (.Constant (.int i) j pos) (kI i):=fun pins s σ H Q I ⟨_,_,q⟩=>FI pins s σ H Q I (q _ H (Same.refl H) rfl)
theorem mN{i j}:EV C (.Constant (.bool i) j pos) (kB i):=fun pins s σ H Q I ⟨_,_,q⟩=>Jc pins s σ H Q I (q _ H (Same.refl H) rfl)
theorem qo{j}:EV C (.Constant .none j pos) kN:=fun pins s σ H Q I ⟨_,_,q⟩=>FF pins s σ H Q I (q _ H (Same.refl H) rfl)
theorem aX{x j}:EV C (.Constant (.str x) j pos) (kS x):=fun pins s σ H Q I ⟨_,_,q⟩=>FD pins s σ H Q I (q _ H (Same.refl H) rfl)
theorem Dy {x:Str} {v:V} {u:M9} {p:PV} (hg:Gl C.X x) (hm:C.X.mg x=some u) (r:RelV v u) (rp:∀H,Rep C.X.K H p v) (hd:(x == ("__debug__":Str))=false:=by decide):EV C (.Name x pos) (kP p):=
 fun pins s σ H Q I ⟨_,_,q⟩=>Cy hg hm r hd pins s σ H Q I (q _ H (Same.refl H) (rp H))
theorem ak:EA C [] aM:=fun pos pins s σ H Q I ⟨_,_,q⟩=>gI pos pins s σ H Q I (q [] H (Same.refl H) aH.nil)
theorem aa(ha:EV C e f)(hr:EA C es fs)(hs:MZ (e::es) C.X.env=(false,NJ e C.X.env)::MZ es C.X.env:=by exact bP rfl):EA C (e::es) (ae f fs):=by
 intro pos pins s σ H Q I ⟨ρ,vw,q⟩;refine c5 ha hr hs pos pins s σ H Q I ⟨ρ,vw,q.bind.imp fun p _ k v H1 s1 r1=>⟨ρ,vw.same s1,(k.bind.same s1).imp fun ps _ k2 vs H2 s2 r2=>?_⟩⟩;exact k2 (v::vs) H2 (s1.trans s2) (aH.cons (r1.same s2) r2)
def tA1(C:Cn)(f:PSt->R PV):TA:=fun σ H Q=>∃ρ,View C.X.K H σ ρ/\RQ C H (f ρ) fun p=>∀v H',Same H H'->bp C.X.K H' p v->Q [v] H'
theorem tG(ha:EO C e f)(hs:MZ [e] C.X.env=[(false,NJ e C.X.env)]:=by exact c6 rfl):PA C.X [e] (tA1 C f):=by
 intro pos pins s σ H Q I ⟨ρ,vw,q⟩;exact c5 ha gI hs pos pins s σ H Q I ⟨ρ,vw,q⟩
theorem Same.new{H:Hp}{a:Addr}{o:HO}(h:H a=none):Same H (upd H a o):=.of fun b u e=>by
 rw[aB (bB e h)];exact e
theorem m6{C:Cn}{H:Hp}{ps:List PV}{β:Type}{g:List PV->R β}{k:β->Prop}(h:RQ C H (gr ps >>= g) k):ps.length<=sizeLine/\RQ C H (g ps) k:=by
 unfold gr at h
 by_cases hz:ps.length<=16777216
 ·rw[if_pos hz] at h
  exact⟨by rw[N7];exact hz,h⟩
 ·rw[if_neg hz] at h
  exact MI h
theorem bf{k}(h:EA C es fs):EV C (.Tuple es k pos) (fP fs):=by
 intro pins s σ H Q I ⟨ρ,vw,q⟩;refine FC h pins s σ H Q I ⟨ρ,vw,q.bind.imp fun ps _ k vs H1 s1 r1=>?_⟩;obtain⟨z,k⟩:=m6 k;refine⟨by rw[← r1.length];exact z,fun p hp=>?_⟩;exact k _ _ (s1.trans (Same.new hp)) ⟨p,vs,rfl,ay,r1.same (Same.new hp)⟩
theorem gW(h:EA C es fs):EN C (.List es pos) (sW fs):=by
 intro pins s σ H Q I ⟨ρ,vw,q⟩;refine FG h pins s σ H Q I ⟨ρ,vw,q.bind.imp fun ps _ k vs H1 s1 r1=>?_⟩;obtain⟨z,k⟩:=m6 k;refine⟨by rw[← r1.length];exact z,fun p hp=>?_⟩;exact k p _ (s1.trans (Same.new hp)) (s1.free hp) ⟨vs,ay,r1.same (Same.new hp)⟩
def rP(K:M8)(g:PV->PV->Option PV):R2:=fun v u H Q=>∃p q z,bp K H p v/\bp K H q u/\g p q=some z/\∀w H',Same H H'->Rep K H' z w->Q w H'
theorem t2{σ:L2.St}{H:Hp}{Q:VK}{ρ:PSt}{g:PV->PV->Option PV}{r:R2}(vw:View C.X.K H σ ρ)(q:RQ C H (ar fa fb g ρ) fun p=>∀v H',Same H H'->Rep C.X.K H' p v->Q v H')
  (hr:∀v u H' Q',rP C.X.K g v u H' Q'->r v u H' Q'):tOp r (tO C fa) (tO C fb) σ H Q:=by
 refine⟨ρ,vw,q.bind.imp fun p _ k v H1 s1 r1=>⟨ρ,vw.same s1,(k.bind.same s1).imp fun p2 _ k2 u H2 s2 r2=>?_⟩⟩;obtain⟨z,ez,k3⟩:=k2.ofO;exact hr _ _ _ _ ⟨p,p2,z,r1.same s2,r2,ez,fun w H3 s3 r3=>k3 w H3 ((s1.trans s2).trans s3) r3⟩
theorem aG{op:Operator}{g:PV->PV->Option PV}(ho:OpR C.X (P6 op) (rP C.X.K g))(ha:EO C a fa)(hb:EO C b fb):EV C (.BinOp a op b pos) (ar fa fb g):=by
 intro pins s σ H Q I ⟨ρ,vw,q⟩;exact Ja ho ha hb pins s σ H Q I (t2 vw q fun _ _ _ _ h=>h)
theorem qr{op:CmpOp}{g:PV->PV->Option PV}(ho:OpR C.X (N8 op) (rP C.X.K g))(ha:EO C a fa)(hb:EO C b fb)(hm:Pl op b=false:=by first | exact wb _ | with_unfolding_all rfl):EV C (.Compare a [op] [b] pos) (ar fa fb g):=by
 intro pins s σ H Q I ⟨ρ,vw,q⟩;exact CA ho ha hb hm pins s σ H Q I (t2 vw q fun _ _ _ _ h=>h)
theorem aq{g:PV->PV->Option PV}(ho:IxR C.X (rP C.X.K g))(ha:EO C a fa)(hb:EO C b fb)(hs:ym b:=by exact fun _ _=>rfl):EV C (.Subscript a b pos) (ar fa fb g):=by
 intro pins s σ H Q I ⟨ρ,vw,q⟩;exact Jb ho ha hb hs pins s σ H Q I (t2 vw q fun _ _ _ _ h=>h)
end
end PU
namespace PU
open PySem PySem.Spec PyProof.Rows L2
variable[TW]
section
variable{X : Cx}{pins : List (Addr×Obj)}{σ : L2.St}{H : Hp}{s : MD}
theorem DkR.at{a:Addr}{kvs:List (Key×V)}(hw:X.w=TW.w)(I:Inv X pins σ H s)(h:DkR X.K H a kvs) :
  kvs.length<=sizeLine/\(a == N6)=false/\∃vs,KV kvs vs/\s.heap.DictOf (aw X.prog X.w) a vs:=by
 rcases h with h | h
 ·exact xF I.hok h
 ·exact⟨h.1,h.2.1,h.at _ _ hw _ I.kIn⟩
theorem CV{ys:List V}{its:List M9}{ps:List PV}(I:Inv X pins σ H s)(hv:Vals ys its)(hz:ys.length<=sizeLine)(hr:aH X.K H ps ys)(t':Nat) :
  ∃H',Inv X pins σ H' { s with heap:=s.heap.push { cls:=.type "list",data:=.seq its.toArray },toks:=t' }/\Same H H'/\Rep X.K H' (.lst ps) (.ref s.heap.objs.size):=by
 have I1:=I.lnew (t':=t') hv hz;have nf:H s.heap.objs.size=none:=I.fresh;obtain⟨H',I2,rp,oth⟩:=L2.Inv.frz (a:=s.heap.objs.size) (p:=.lst ps) I1 ⟨ys,ay,hr.same (Same.new nf)⟩;refine⟨H',I2,.of fun b o e=>?_,rp⟩;have hb:=bB e nf;rw[oth b hb,aB hb];exact e
theorem bp.lst_inv{K:M8}{H:Hp}{ps:List PV}{v:V}(h:bp K H (.lst ps) v):∃a xs,v=.ref a/\SqO K H a xs/\aH K H ps xs:=h
theorem bp.tup_inv{K:M8}{H:Hp}{ps:List PV}{v:V}(h:bp K H (.tup ps) v):∃a xs,v=.ref a/\SqT K H a xs/\aH K H ps xs:=by
 obtain⟨a,xs,e,q,r⟩:=(show ∃a xs,v=.ref a/\H a=some (.tup xs)/\aH K H ps xs from h);exact⟨a,xs,e,.inl (.inl q),r⟩
end
theorem Aj{prog:Md}{w:Ml}{A:Mt}{E:M9->MD->Prop}{s:MD}{t b:Addr}{vs ws:List M9}{Q:M9->MD->Prop}(ht:IsTup s.heap t vs.toArray)(hb:IsTup s.heap b ws.toArray)
  (h0:vs=[]->Q (.ref b) s) (h1:ws=[]->Q (.ref t) s) (h2:Q (.ref s.heap.objs.size) { s with heap:=s.heap.push { cls:=.type "tuple",data:=.seq (vs++ws).toArray } })
  (hsz:vs.length+ws.length<=sizeLine):Mf (Ms prog w) A (P6 .Add (.ref t) (.ref b)) Q E s:=by
 obtain⟨⟨cls,dd,data,sl⟩,ho,hc,n,hd⟩:=id ht;obtain⟨⟨cls2,dd2,data2,sl2⟩,ho2,hc2,n2,hd2⟩:=id hb;simp only at hc hd hc2 hd2;subst hc hd hc2 hd2;have e:vs.toArray++ws.toArray=(vs++ws).toArray:=by simp
 by_cases hv:vs=[]
 ·exact Ta ⟨_,ho,rfl⟩ ⟨_,ho2,rfl⟩ Rq Sz Q4 Py (Pr _ _)
   (tuple_addW0 t b vs.toArray ws.toArray n n2 dd dd2 sl sl2 (by simp[hv])) ⟨ho,ho2,h0 hv⟩
 ·by_cases hw:ws=[]
  ·exact Ta ⟨_,ho,rfl⟩ ⟨_,ho2,rfl⟩ Rq Sz Q4 Py (Pr _ _)
    (tuple_addW1 t b vs.toArray ws.toArray n n2 dd dd2 sl sl2 (by simpa using hv) (by simp[hw])) ⟨ho,ho2,h1 hw⟩
  ·refine Ta ⟨_,ho,rfl⟩ ⟨_,ho2,rfl⟩ Rq Sz Q4 Py (Pr _ _)
    (tuple_addW2 t b vs.toArray ws.toArray n n2 dd dd2 sl sl2 (by simpa using hv) (by simpa using hw) (by rw[Mj,Mj];exact hsz)) ⟨ho,ho2,?_⟩
   rw[e];exact h2
section
variable{X : Cx}
theorem vF{f:M9->M9->Sem M9}{g:PV->PV->Option PV}{r:R2}(h:OpR X f r)
  (hg:∀(p q z:PV),g p q=some z->∃i j,p=.int i/\q=.int j/\∃w:V,(∀K H,Rep K H z w)/\∀H Q,Q w H->r (.int i) (.int j) H Q):OpR X f (rP X.K g):=by
 intro pins s σ H x y v u Q I rx ry ⟨p,q,z,hp,hq,e,k⟩;obtain⟨i,j,rfl,rfl,w,hw,hr⟩:=hg p q z e;cases (show x=.int i from hp);cases (show y=.int j from hq);exact h pins s σ H _ _ v u Q I rx ry (hr H Q (k w H (Same.refl H) (hw _ _)))
theorem zy:OpR X (P6 .Mult) (rP X.K xa):=vF FL fun p q z e=>by
 unfold xa at e;split at e
 ·rename_i i j
  split at e
  ·rename_i hc
   cases e;exact⟨i,j,rfl,rfl,_,fun _ _=>rfl,fun H Q q=>⟨i,j,rfl,rfl,hc.imp (fun h=>⟨by omega,by omega⟩) (fun h=>⟨by omega,by omega⟩),q⟩⟩
  ·cases e
 ·cases e
theorem CD:OpR X (P6 .FloorDiv) (rP X.K Ds):=vF CB fun p q z e=>by
 unfold Ds at e;split at e
 ·rename_i i j
  split at e
  ·rename_i hc
   cases e;exact⟨i,j,rfl,rfl,_,fun _ _=>rfl,fun H Q q=>⟨i,j,rfl,rfl,hc,q⟩⟩
  ·cases e
 ·cases e
theorem dN:OpR X (P6 .Mod) (rP X.K eU):=vF FN fun p q z e=>by
 unfold eU at e;split at e
 ·rename_i i j
  split at e
  ·rename_i hc
   cases e;exact⟨i,j,rfl,rfl,_,fun _ _=>rfl,fun H Q q=>⟨i,j,rfl,rfl,hc,q⟩⟩
  ·cases e
 ·cases e
theorem fH:OpR X (P6 .Add) (rP X.K gx):=by
 intro pins s σ H x y v u Q I rx ry ⟨p,q,z,hp,hq,e,k⟩;have hs:=N7;unfold gx at e;split at e
 ·rename_i i j
  cases e;cases (show x=.int i from hp);cases (show y=.int j from hq);exact FP pins s σ H _ _ v u Q I rx ry ⟨i,j,rfl,rfl,k _ H (Same.refl H) rfl⟩
 ·rename_i i j
  split at e
  ·rename_i hc
   cases e;cases (show x=.str i from hp);cases (show y=.str j from hq);exact uu pins s σ H _ _ v u Q I rx ry ⟨i,j,rfl,rfl,by omega,k _ H (Same.refl H) rfl⟩
  ·cases e
 ·rename_i ps qs
  split at e
  ·rename_i hc
   cases e;obtain⟨a,xs,rfl,hx,r1⟩:=hp;obtain⟨b,ys,rfl,hy,r2⟩:=hq;cases rx;cases ry;obtain⟨hz,its,n,rv,e1⟩:=hx.is I;obtain⟨hz2,its2,n2,rv2,e2⟩:=hy.is I;have l1:=r1.length;have l2:=r2.length;have l3:=rv.length;have l4:=rv2.length;have ea:its.toArray++its2.toArray=(its++its2).toArray:=by simp
   refine PySem.P.add_list e1 e2 ?_ (by simp only[Mj];omega);rw[ea];obtain⟨H',I',sm,rp⟩:=CV I (rv.append rv2) (by rw[Mi];omega) (r1.append r2) s.toks;exact⟨.ref _,H',I',rfl,k _ H' sm rp⟩
  ·cases e
 ·rename_i ps qs
  split at e
  ·rename_i hc
   cases e;obtain⟨a,xs,rfl,hx,r1⟩:=bp.tup_inv hp;obtain⟨b,ys,rfl,hy,r2⟩:=bp.tup_inv hq;cases rx;cases ry;obtain⟨its,rv,pl,hz⟩:=I.tuple hx;obtain⟨its2,rv2,pl2,hz2⟩:=I.tuple hy;have l1:=r1.length;have l2:=r2.length;have l3:=rv.length;have l4:=rv2.length;refine Aj pl pl2 (fun z=>?_) (fun z=>?_) ?_ (by omega)
   ·subst z
    have:ps=[]:=N5 (by rw[l1,l3];rfl);subst this;exact⟨.ref b,H,I,rfl,k _ H (Same.refl H) hq⟩
   ·subst z
    have:qs=[]:=N5 (by rw[l2,l4];rfl);subst this;rw[NH] at k;exact⟨.ref a,H,I,rfl,k _ H (Same.refl H) hp⟩
   ·have nf:H s.heap.objs.size=none:=I.fresh
    refine⟨.ref s.heap.objs.size,_,I.laid (t':=s.toks) (o:=.tup (xs++ys)) (fun b ob q=>MJ _ q) (Ma _) ?_,rfl,k _ _ (Same.new nf) ⟨_,xs++ys,rfl,ay,(r1.append r2).same (Same.new nf)⟩⟩;exact⟨by rw[Mi];omega,_,rv.append rv2,Av.new _ _⟩
  ·cases e
 ·cases e
end
end PU
namespace PU
open PySem PySem.Spec PyProof.Rows L2
variable[TW]
structure StOk(K:M8)(B:Hp×Hp)(H:Hp)(σ:L2.St)(ρ:PSt):Prop where
 len:ρ.length=σ.length
 same:Same B.1 H
 kp:Kp B.2 H
 vw:View K H σ ρ
 fresh:∀(i:Nat)(p:PV)(a:Addr),ρ[i]?=some (.own p)->σ[i]?=some (some (.ref a))->B.1 a=none
 apart:∀(i j:Nat)(p q:PV)(a:Addr),ρ[i]?=some (.own p)->ρ[j]?=some (.own q)->σ[i]?=some (some (.ref a))->σ[j]?=some (some (.ref a))->i=j
 pinned:∀(i:Nat)(ps:List PV)(a:Addr),ρ[i]?=some (.pin ps a)->B.1 a≠none
section
variable{K : M8}{B : Hp×Hp}{H H' : Hp}{σ : L2.St}{ρ : PSt}{i : Nat}{p q : PV}{v : V}{a : Addr}
theorem StOk.grow(S:StOk K B H σ ρ)(s:Same H H'):StOk K B H' σ ρ:=⟨S.len,S.same.trans s,S.kp.trans (Same.kp s),S.vw.same s,S.fresh,S.apart,S.pinned⟩
theorem cx{α:Type}{l:List α}{i j:Nat}{x y:α}(h:(l.set i x)[j]?=some y):(j=i/\y=x/\i<l.length)\/(j≠i/\l[j]?=some y):=by
 rw[R0] at h
 by_cases e:i=j
 ·subst e
  rw[if_pos rfl] at h;split at h
  ·rename_i hl
   cases h;exact .inl ⟨rfl,rfl,hl⟩
  ·cases h
 ·rw[if_neg e] at h
  exact .inr ⟨fun z=>e z.symm,h⟩
theorem bC{α:Type}{l:List α}{i j:Nat}{x:α}(h:j≠i):(l.set i x)[j]?=l[j]?:=by
 rw[R0,if_neg fun z=>h z.symm]
theorem eC{α:Type}{l:List α}{i:Nat}{x:α}(h:i<l.length):(l.set i x)[i]?=some x:=by
 rw[R0,if_pos rfl,if_pos h]
theorem StOk.setV(S:StOk K B H σ ρ)(r:Rep K H p v):StOk K B H (σ.set i (some v)) (ρ.set i (.val p)):=by
 refine⟨by simp[S.len],S.same,S.kp,⟨fun j l e=>?_,S.vw.tb⟩,fun j q b e f=>?_,fun j k q q' b e1 e2 f1 f2=>?_,fun j qs b e=>?_⟩
 ·rcases cx e with⟨rfl,rfl,hl⟩|⟨hj,e⟩
  ·exact⟨v,eC (by rw[← S.len];exact hl),r⟩
  ·rw[bC hj]
   exact S.vw j l e
 ·rcases cx e with⟨_,z,_⟩|⟨hj,e⟩
  ·cases z
  ·rw[bC hj] at f
   exact S.fresh j q b e f
 ·rcases cx e1 with⟨_,z,_⟩|⟨hj,e1⟩
  ·cases z
  ·rcases cx e2 with⟨_,z,_⟩|⟨hk,e2⟩
   ·cases z
   ·rw[bC hj] at f1
    rw[bC hk] at f2;exact S.apart j k q q' b e1 e2 f1 f2
 ·rcases cx e with⟨_,z,_⟩|⟨hj,e⟩
  ·cases z
  ·exact S.pinned j qs b e
theorem StOk.setN(S:StOk K B H σ ρ)(s:Same H H')(n:H a=none)(r:cA K H' a p):StOk K B H' (σ.set i (some (.ref a))) (ρ.set i (.own p)):=by
 have other:∀(j:Nat)(q:PV),ρ[j]?=some (.own q)->σ[j]?≠some (some (.ref a)):=fun j q e f=>by
  obtain⟨b,e2,w⟩:=S.vw j _ e;rw[f] at e2;cases e2;cases q with
  | lst ps=>obtain⟨_,w,_⟩:=w;rw[n] at w;cases w
  | dct ks ps=>obtain⟨_,w,_⟩:=w;rw[n] at w;cases w
  | dtt ks ps=>obtain⟨_,w,_⟩:=w;rw[n] at w;cases w
  | _=>exact w
 refine⟨by simp[S.len],S.same.trans s,S.kp.trans (Same.kp s),⟨fun j l e=>?_,s.tabs S.vw.tb⟩,fun j q b e f=>?_,fun j k q q' b e1 e2 f1 f2=>?_,fun j qs b e=>?_⟩
 ·rcases cx e with⟨rfl,rfl,hl⟩|⟨hj,e⟩
  ·exact⟨a,eC (by rw[← S.len];exact hl),r⟩
  ·rw[bC hj]
   exact(S.vw j l e).same s
 ·rcases cx e with⟨rfl,_,hl⟩|⟨hj,e⟩
  ·rw[eC (by rw[← S.len];exact hl)] at f
   cases f;exact S.same.free n
  ·rw[bC hj] at f
   exact S.fresh j q b e f
 ·rcases cx e1 with⟨h1,_,hl⟩|⟨hj,d1⟩
  ·rcases cx e2 with⟨h2,_,_⟩|⟨hk,d2⟩
   ·rw[h1,h2]
   ·subst h1
    rw[eC (by rw[← S.len];exact hl)] at f1;cases f1;rw[bC hk] at f2;exact absurd f2 (other k q' d2)
  ·rcases cx e2 with⟨h2,_,hl⟩|⟨hk,d2⟩
   ·subst h2
    rw[eC (by rw[← S.len];exact hl)] at f2;cases f2;rw[bC hj] at f1;exact absurd f1 (other j q d1)
   ·rw[bC hj] at f1
    rw[bC hk] at f2;exact S.apart j k q q' b d1 d2 f1 f2
 ·rcases cx e with⟨_,z,_⟩|⟨hj,e⟩
  ·cases z
  ·exact S.pinned j qs b e
theorem cA.obj(h:cA K H a p):∃u,H a=some u/\Bm u=false:=by
 cases p with
 | lst ps=>obtain⟨_,w,_⟩:=h;exact⟨_,w,rfl⟩
 | dct ks ps=>obtain⟨_,w,_⟩:=h;exact⟨_,w,rfl⟩
 | dtt ks ps=>obtain⟨_,w,_⟩:=h;exact⟨_,w,rfl⟩
 | _=>exact MI h
theorem cA.kp(k:Kp H H')(e:H' a=H a)(h:cA K H a p):cA K H' a p:=by
 cases p with
 | lst ps=>obtain⟨xs,w,r⟩:=h;exact⟨xs,by rw[e];exact w,r.kp k⟩
 | dct ks ps=>obtain⟨xs,w,z,r⟩:=h;exact⟨xs,by rw[e];exact w,z,r.kp k⟩
 | dtt ks ps=>obtain⟨xs,w,z,r⟩:=h;exact⟨xs,by rw[e];exact w,z,r.kp k⟩
 | _=>exact h
theorem StOk.turn{l':Sl}(S:StOk K B H σ ρ)(e:ρ[i]?=some (.own p))(f:σ[i]?=some (some (.ref a)))(oth:∀b,b≠a->H' b=H b)(hl:Ek K H' (some (some (.ref a))) l')(hn:∀ps b,l'≠.pin ps b:=by intro _ _ h;cases h):StOk K B H' σ (ρ.set i l'):=by
 obtain⟨b,f2,w⟩:=S.vw i _ e;rw[f] at f2;cases f2;obtain⟨u,hu,nf⟩:=w.obj;have fa:=S.fresh i p a e f
 have k:Kp H H':=fun b u' eb fb=>by
  have:b≠a:=fun z=>by
   subst z;rw[hu] at eb;cases eb;rw[nf] at fb;cases fb
  rw[oth b this];exact eb
 have ne:∀(j:Nat)(q:PV)(b:Addr),j≠i->ρ[j]?=some (.own q)->σ[j]?=some (some (.ref b))->b≠a:=fun j q b hj e2 f2 z=>by
  subst z;exact hj (S.apart j i q p b e2 e f2 f)
 refine⟨by simp[S.len],S.same.but fa (fun u h=>(w.nt u h).1) oth,S.kp.trans k,⟨fun j l ej=>?_,S.vw.tb.but w.nt oth⟩,fun j q b ej fj=>?_,fun j m q q' b e1 e2 f1 f2=>?_,fun j qs b e=>?_⟩
 ·rcases cx ej with⟨rfl,rfl,hl2⟩|⟨hj,ej⟩
  ·rw[f]
   exact hl
  ·have:=S.vw j l ej
   cases l with
   | no=>exact trivial
   | val q=>obtain⟨v,e1,r⟩:=this;exact⟨v,e1,r.kp k⟩
   | own q=>
    obtain⟨b,e1,r⟩:=this;exact⟨b,e1,r.kp k (oth b (ne j q b hj ej e1))⟩
   | pin qs b=>
    exact⟨this.1,this.2.kp k (oth b fun z=>S.pinned j qs b ej (by rw[z];exact fa))⟩
 ·rcases cx ej with⟨rfl,_,_⟩|⟨hj,ej⟩
  ·rw[f] at fj
   cases fj;exact fa
  ·exact S.fresh j q b ej fj
 ·have fix:∀(j:Nat)(q:PV),(ρ.set i l')[j]?=some (.own q)->∃q',ρ[j]?=some (.own q'):=fun j q ej=>by
   rcases cx ej with⟨rfl,_,_⟩|⟨hj,ej⟩
   ·exact⟨p,e⟩
   ·exact⟨q,ej⟩
  obtain⟨q1,g1⟩:=fix j q e1;obtain⟨q2,g2⟩:=fix m q' e2;exact S.apart j m q1 q2 b g1 g2 f1 f2
 ·rcases cx e with⟨_,z,_⟩|⟨hj,e⟩
  ·exact absurd z.symm (hn qs b)
  ·exact S.pinned j qs b e
theorem StOk.rebase{B':Hp}(S:StOk K B H σ ρ)(k:Kp B' H):StOk K (B.1,B') H σ ρ:=⟨S.len,S.same,k,S.vw,S.fresh,S.apart,S.pinned⟩
end
def RS(C:Cn)(B:Hp×Hp)(D:Ends):R Fl->Prop
 | .ok (.next ρ)=>∀σ H,StOk C.X.K B H σ ρ->D.nx σ H
 | .ok (.brk ρ)=>∀σ H,StOk C.X.K B H σ ρ->D.bk σ H
 | .ok (.cont ρ)=>∀σ H,StOk C.X.K B H σ ρ->D.ct σ H
 | .ok (.ret p)=>∀v H,Same B.1 H->Rep C.X.K H p v->D.rt v H
 | .er x=>∀H,Same B.1 H->C.Ac x H
 | .no=>False
def tS(C:Cn)(g:PSt->R Fl):TS:=fun D σ H=>∃ρ B,StOk C.X.K B H σ ρ/\RS C B D (g ρ)
def SV(C:Cn)(st:Stmt)(g:PSt->R Fl):Prop:=PS C.X st (tS C g)
def SVs(C:Cn)(st:List Stmt)(g:PSt->R Fl):Prop:=PSs C.X st (tS C g)
section
variable{C : Cn}{B : Hp×Hp}{D : Ends}{H : Hp}{α : Type}
theorem RS.bind{r:R α}{g:α->R Fl}(h:RS C B D (r >>= g))(s:Same B.1 H):RQ C H r fun a=>RS C B D (g a):=by
 cases r with
 | ok a=>exact h
 | er x=>exact fun H' s'=>h H' (s.trans s')
 | no=>exact h
theorem RS.ofO{o:Option α}{g:α->R Fl}(h:RS C B D (R.ofO o >>= g)):∃a,o=some a/\RS C B D (g a):=by
 cases o with
 | none=>exact MI h
 | some a=>exact⟨a,rfl,h⟩
end
section
variable{C : Cn}{st : Stmt}{sts a b body : List Stmt}{e tg iter c : Expr}{f fk : PSt → R PV}{g g' : PSt → R Fl}{pos : Nt}{t : PSt → R Bool}
theorem bA:SVs C [] dm:=fun pins s σ H D I ⟨ρ,B,S,h⟩=>qU pins s σ H D I (h σ H S)
theorem af(h1:SV C st g)(h2:SVs C sts g'):SVs C (st::sts) (aQ g g'):=by
 intro pins s σ H D I ⟨ρ,B,S,h⟩;refine i7 h1 h2 pins s σ H D I ⟨ρ,B,S,?_⟩;unfold aQ at h;cases hg:g ρ with
 | ok fl=>
  rw[hg] at h;cases fl with
  | next ρ'=>exact fun σ' H' S'=>⟨ρ',B,S',h⟩
  | brk ρ'=>exact h
  | cont ρ'=>exact h
  | ret p=>exact h
 | er x=>rw[hg] at h;exact h
 | no=>rw[hg] at h;exact h
theorem ao(h1:SV C st g):SVs C [st] g:=by
 intro pins s σ H D I ⟨ρ,B,S,h⟩;exact lD h1 pins s σ H D I ⟨ρ,B,S,h⟩
theorem yS:SV C (.Break pos) Hk:=fun pins s σ H D I ⟨ρ,B,S,h⟩=>zj pins s σ H D I (h σ H S)
theorem aF(he:EV C e f):SV C (.Return (some e) pos) (cu f):=by
 intro pins s σ H D I ⟨ρ,B,S,h⟩;exact pH he pins s σ H D I ⟨ρ,S.vw,(h.bind S.same).imp fun p _ k v H' s' r=>k v H' (S.same.trans s') r⟩
theorem eW(hc:ET C c t)(ha:SVs C a g)(hb:SVs C b g'):SV C (.If c a b pos) (ifF t g g'):=by
 intro pins s σ H D I ⟨ρ,B,S,h⟩;refine Cp hc ha hb pins s σ H D I ⟨ρ,S.vw,(h.bind S.same).imp fun k _ q H' s'=>?_⟩;cases k with
 | true=>exact Dh ⟨ρ,B,S.grow s',q⟩
 | false=>exact Di ⟨ρ,B,S.grow s',q⟩
theorem aL(i:Nat){x:Str}{pos':Nt}(hN:C.X.N.Nodup)(he:EV C e f)(hs:PH e (some (.Name x pos')) pos.line C.X.env=pure false:=by rfl)
  (hf:C.X.fn x=true\/C.X.env.scope.names.lookup x=some .local:=by first | exact .inl rfl | exact .inr rfl | assumption) (hi:C.X.N[i]?=some x:=by rfl) (hx:Loc C.X.env.scope x:=by first | exact .inl rfl | exact .inr rfl) :
  SV C (.Assign [.Name x pos'] e pos) (cy i f):=by
 intro pins s σ H D I ⟨ρ,B,S,h⟩;exact vJ hN hi hx he hs hf pins s σ H D I ⟨ρ,S.vw,(h.bind S.same).imp fun p _ k v H' s' r=>k _ H' ((S.grow s').setV r)⟩
theorem dD(i:Nat){x:Str}{pos':Nt}(hN:C.X.N.Nodup)(he:EN C e f)(hs:PH e (some (.Name x pos')) pos.line C.X.env=pure false:=by rfl)
  (hf:C.X.fn x=true\/C.X.env.scope.names.lookup x=some .local:=by first | exact .inl rfl | exact .inr rfl | assumption) (hi:C.X.N[i]?=some x:=by rfl) (hx:Loc C.X.env.scope x:=by first | exact .inl rfl | exact .inr rfl) :
  SV C (.Assign [.Name x pos'] e pos) (lJ i f):=by
 intro pins s σ H D I ⟨ρ,B,S,h⟩;exact vJ hN hi hx he hs hf pins s σ H D I ⟨ρ,S.vw,(h.bind S.same).imp fun p _ k a H' s' n r=>k _ H' (S.setN s' n r)⟩
theorem GO{pins:List (Addr×Obj)}{s:MD}{σ:L2.St}{H:Hp}{B:Hp×Hp}{ρ:PSt}(i:Nat)(I:Inv C.X pins σ H s)(S:StOk C.X.K B H σ ρ):∃H',Inv C.X pins σ H' s/\StOk C.X.K B H' σ (uF i ρ):=by
 unfold uF
 split
 ·rename_i p e
  obtain⟨a,f,w⟩:=S.vw i _ e;obtain⟨H',I',rp,oth⟩:=L2.Inv.frz I w;exact⟨H',I',S.turn e f oth ⟨_,rfl,rp⟩⟩
 ·exact⟨H,I,S⟩
theorem SV.frz(i:Nat)(h:SV C st g):SV C st (rK i g):=by
 intro pins s σ H D I ⟨ρ,B,S,q⟩;obtain⟨H',I',S'⟩:=GO i I S;exact h pins s σ H' D I' ⟨_,B,S',q⟩
def tTg(C:Cn)(h:PV->PSt->Option PSt):TG:=fun v σ H Q=>∃ρ B p ρ',StOk C.X.K B H σ ρ/\Rep C.X.K H p v/\h p ρ=some ρ'/\∀σ',StOk C.X.K B H σ' ρ'->Q σ' H
def TGt(C:Cn)(tg:Expr)(h:PV->PSt->Option PSt):Prop:=PG C.X tg (tTg C h)
def KW(C:Cn)(h:List PV->PSt->Option PSt):TGs:=fun vs σ H Q=>∃ρ B ps ρ',StOk C.X.K B H σ ρ/\aH C.X.K H ps vs/\h ps ρ=some ρ'/\∀σ',StOk C.X.K B H σ' ρ'->Q σ' H
def E6(C:Cn)(ts:List Expr)(h:List PV->PSt->Option PSt):Prop:=PGs C.X ts (KW C h)
theorem aT(i:Nat){x:Str}(hN:C.X.N.Nodup)(hf:C.X.fn x=true\/C.X.env.scope.names.lookup x=some .local:=by first | exact .inl rfl | exact .inr rfl | assumption)(hi:C.X.N[i]?=some x:=by rfl)(hx:Loc C.X.env.scope x:=by first | exact .inl rfl | exact .inr rfl) :
  TGt C (.Name x pos) (av i):=by
 intro pins s σ H v u Q I r ⟨ρ,B,p,ρ',S,rp,e,k⟩;cases e;exact ov hN hi hx hf pins s σ H v u Q I r (k _ (S.setV rp))
theorem fS:E6 C [] iu:=by
 intro pins s σ H vs us Q I r ⟨ρ,B,ps,ρ',S,rp,e,k⟩;cases ps with
 | nil=>cases e;cases rp;exact vR pins s σ H _ us Q I r ⟨rfl,k _ S⟩
 | cons _ _=>cases e
theorem bc{es:List Expr}{h:PV->PSt->Option PSt}{h':List PV->PSt->Option PSt}(h1:TGt C e h)(h2:E6 C es h')(hs:(O6 (e::es) C.X.env).map (·.2)=Qr e C.X.env::(O6 es C.X.env).map (·.2):=by rfl):E6 C (e::es) (aO h h'):=by
 intro pins s σ H vs us Q I r ⟨ρ,B,ps,ρ',S,rp,ee,k⟩;cases ps with
 | nil=>cases ee
 | cons p qs=>
  obtain⟨x,xs,rfl,rp1,rp2⟩:=rp;have ee:(h p ρ).bind (fun ρ1=>h' qs ρ1)=some ρ':=ee;obtain⟨ρ1,e1,e2⟩:=MU.mp ee;exact sJ h1 h2 hs pins s σ H _ us Q I r ⟨x,xs,rfl,ρ,B,p,ρ1,S,rp1,e1,fun σ1 S1=>⟨ρ1,B,qs,ρ',S1,rp2,e2,k⟩⟩
end
end PU
namespace PU
open PySem PySem.Spec PyProof.Rows L2
variable[TW]
section
variable{C : Cn}{st : Stmt}{sts a b body : List Stmt}{e tg iter c : Expr}{f fk : PSt → R PV}{g g' : PSt → R Fl}{pos : Nt}{t : PSt → R Bool}
theorem iU{es:List Expr}{k n:Nat}{h:List PV->PSt->Option PSt}(hc:C.X.calm=true)(hh:E6 C es h)
  (hn:(O6 es C.X.env).length=n:=by rfl) (hst:(O6 es C.X.env).findIdx? (·.1)=none:=by rfl):TGt C (.Tuple es k pos) (ir n h):=by
 intro pins s σ H v u Q I r ⟨ρ,B,p,ρ',S,rp,e,k⟩;cases p with
 | tup ps=>
  have e:(if ps.length=n then h ps ρ else none)=some ρ':=e
  by_cases hl:ps.length=n
  ·rw[if_pos hl] at e
   obtain⟨a,xs,rfl,hq,r1⟩:=rp;exact AV hc hh hn hst pins s σ H _ u Q I r ⟨a,xs,rfl,tq hq,by rw[← r1.length];exact hl,ρ,B,ps,ρ',S,r1,e,k⟩
  ·rw[if_neg hl] at e
   cases e
 | _=>cases e
def ItP(K:M8)(J:It)(H₁:Hp)(ps:List PV):Prop:=
 ∀(i:Nat)(H:Hp),Kp H₁ H->(i=ps.length->J.stop i H)/\∀p,ps[i]?=some p->J.go i H/\∀x H',J.yld i H x H'->Same H H'/\Rep K H' p x
def tI(C:Cn)(f:PSt->R (List PV)):TI:=fun σ H Q=>∃ρ,View C.X.K H σ ρ/\RQ C H (f ρ) fun ps=>∀J H',Same H H'->ItP C.X.K J H' ps->Q J H'
def EI(C:Cn)(tg iter:Expr)(f:PSt->R (List PV)):Prop:=PI C.X tg iter (tI C f)
theorem tJ{α:Type}{l:List α}{i:Nat}{x:α}(h:l[i]?=some x):l.drop i=x::l.drop (i+1):=by
 obtain⟨hl,e⟩:=MB.mp h;rw[Pv hl,e]
theorem cN{fi:PSt->R (List PV)}{h:PV->PSt->Option PSt}(hi:EI C tg iter fi)(hg:TGt C tg h)(hb:SVs C body g)
  (hs:∀x,Pb iter C.X.env x=pure x:=by intro _;rfl) (hp:TR (Ms C.X.prog C.X.w) C.X.A C.X.env C.X.xe:=by exact Sq) (hc:C.X.calm=true:=by rfl):SV C (.For tg iter body [] pos) (kG fi h g):=by
 intro pins s σ H D I ⟨ρ,B,S,q⟩;refine Fx hp hc hi hg hb hs pins s σ H D I ⟨ρ,S.vw,(q.bind S.same).imp fun ps _ k J H1 s1 it=>?_⟩;refine⟨fun i m σ' H'=>∃ρ',m=ps.length-i/\i<=ps.length/\StOk C.X.K (B.1,H1) H' σ' ρ'/\RS C B D (gT h g (ps.drop i) ρ'),⟨ps.length,ρ,rfl,Nu _,(S.grow s1).rebase (Kp.refl H1),by simpa using k⟩,?_⟩;rintro i m σ' H' ⟨ρ',rfl,hi',S',q'⟩;have back:∀{σ2:L2.St}{H2:Hp}{ρ2:PSt},StOk C.X.K (B.1,H1) H2 σ2 ρ2->StOk C.X.K B H2 σ2 ρ2:=fun {σ2 H2 ρ2} S2=>⟨S2.len,S2.same,(S.kp.trans (Same.kp s1)).trans S2.kp,S2.vw,S2.fresh,S2.apart,S2.pinned⟩;obtain⟨stp,stepp⟩:=it i H' S'.kp
 by_cases hlt:i<ps.length
 ·have ei:ps[i]?=some ps[i]:=by simp[hlt]
  obtain⟨go,yl⟩:=stepp _ ei;rw[tJ ei] at q';obtain⟨ρ1,e1,q1⟩:=RS.ofO q';refine .inr ⟨go,fun σ2 H2=>∃ρ2,StOk C.X.K (B.1,H1) H2 σ2 ρ2/\RS C B D (gT h g (ps.drop (i+1)) ρ2),fun σ2 H2 ⟨ρ2,S2,r2⟩=>⟨ps.length-(i+1),by omega,ρ2,rfl,hlt,S2,r2⟩,fun x H2 y=>?_⟩;obtain⟨s2,rp⟩:=yl x H2 y;refine⟨ρ',(B.1,H1),ps[i],ρ1,S'.grow s2,rp,e1,fun σ3 S3=>⟨ρ1,(B.1,H1),S3,?_⟩⟩;cases hgr:g ρ1 with
  | ok fl=>
   rw[hgr] at q1;cases fl with
   | next ρ2=>exact fun σ4 H4 S4=>⟨ρ2,S4,q1⟩
   | cont ρ2=>exact fun σ4 H4 S4=>⟨ρ2,S4,q1⟩
   | brk ρ2=>exact fun σ4 H4 S4=>q1 σ4 H4 (back S4)
   | ret p=>exact q1
  | er x=>rw[hgr] at q1;exact q1
  | no=>rw[hgr] at q1;exact q1
 ·have e:i=ps.length:=by omega
  subst e;rw[QD] at q';exact .inl ⟨stp rfl,q' σ' H' (back S')⟩
end
end PU
namespace PU
open PySem PySem.Spec PyProof.Rows L2
variable[TW]
def spP(K:M8)(n:Nat)(F:List PV->Option PV):Sp:=fun vs H Q _=>vs.length=n/\uT H/\∃ps p,aH K H ps vs/\F ps=some p/\∀v H',Same H H'->Rep K H' p v->Q v H'
structure PF(P:Md)(w:Ml)(K:M8)(mg:Str->Option M9)(base:Heap)(k:Nat)(x:Str)(F:List PV->Option PV):Prop where
 ex:∃(f:Addr)(fd:FuncData)(ps:List Str),FnOk P w K mg base CX0 k f fd ps (spP K ps.length F)/\mg x=some (.ref f)/\Np K (.ref f)=true/\Binds K fd ps []/\∀qs p,F qs=some p->qs.length=ps.length
section
variable{C : Cn}{e : Expr}{es : List Expr}{fs : PSt → R (List PV)}{x : Str}{k : Nat}{F : List PV → Option PV}{p pos : Nt}
theorem au(G:PF C.X.prog C.X.w C.X.K C.X.mg C.X.base k x F){kr:Nat}(hr:Room kr C.X.A)(ha:EA C (e::es) fs)
  (hdb:(x == ("__debug__":Str))=false:=by decide) (he:MZ (e::es) C.X.env=(false,NJ e C.X.env)::MZ es C.X.env:=by exact bP rfl) (hpl:(OJ pos (MZ es C.X.env)).any (·.1)=false:=by exact i5 rfl) (hk:k<=kr:=by decide) (hg:Gl C.X x:=by exact rfl) :
  EV C (.Call (.Name x p) (e::es) [] pos) (aE fs F):=by
 replace hr:=hr.mono hk;obtain⟨f,fd,ps,a,b,c,d,l⟩:=G.ex;intro pins s σ H Q I ⟨ρ,vw,q⟩;refine vU (dvs:=[]) (ds:=[]) (E:=E0) a hr hg b c d .nil FK ha hdb he hpl pins s σ H Q I ⟨ρ,vw,q.bind.imp fun qs _ k vs H1 s1 r1=>?_⟩;obtain⟨z,ez,k⟩:=k.ofO;rw[NH];exact⟨by rw[← r1.length];exact l qs z ez,s1.tabs vw.tb,qs,z,r1,ez,fun v H' s' r'=>k v H' (s1.trans s') r'⟩
end
section
variable{P : Md}{w : Ml}{K : M8}{mg : Str → Option M9}{base : Heap}
abbrev DQ(P:Md)(w:Ml)(K:M8)(mg:Str->Option M9)(base:Heap)(N:List Str)(qual:Str)(sc:Scope)(f:Addr)(cdv:M9)(A:Mt)(outer:List RB)(s:MD)(H:Hp)(E:XK):Cn:=
 ⟨(BD CX0 P w K mg base N qual sc f cdv A outer s H E).nox,fun _ _=>False⟩
theorem AX{ps:List PV}{n i:Nat}{p:PV}(e:(start n ps)[i]?=some (.own p)):False:=by
 unfold start at e
 by_cases hi:i<ps.length
 ·rw[ML (by simpa using hi),MM] at e
  cases h:ps[i]? with
  | none=>rw[h] at e;cases e
  | some p=>rw[h] at e;cases e
 ·rw[Mm (by simpa using hi),NC] at e
  split at e <;> cases e
theorem FZ{n i:Nat}{ps qs:List PV}{a:Addr}(e:(start n ps)[i]?=some (.pin qs a)):False:=by
 unfold start at e
 by_cases hi:i<ps.length
 ·rw[ML (by simpa using hi),MM] at e
  cases h:ps[i]? with
  | none=>rw[h] at e;cases e
  | some p=>rw[h] at e;cases e
 ·rw[Mm (by simpa using hi),NC] at e
  split at e <;> cases e
theorem iY{K:M8}{H:Hp}{N:List Str}{ps:List PV}{vs:List V}(tb:uT H)(r:aH K H ps vs):StOk K (H,H) H (L2.start N vs) (start N.length ps):=by
 have hl:=r.length;refine⟨by simp[start,L2.start,hl],Same.refl H,Kp.refl H,⟨fun i l e=>?_,tb⟩,fun i p a e f=>?_,fun i j p q a e1 e2 f1 f2=>?_,fun i qs a e=>?_⟩
 ·unfold start at e
  by_cases hi:i<ps.length
  ·rw[ML (by simpa using hi),MM] at e
   cases h:ps[i]? with
   | none=>rw[h] at e;cases e
   | some p=>
    rw[h] at e;cases e;obtain⟨v,ev,rp⟩:=r.get h;refine⟨v,?_,rp⟩;unfold L2.start;rw[ML (by rw[MG,← hl];exact hi),MM,ev];rfl
  ·rw[Mm (by simpa using hi),NC] at e
   split at e
   ·cases e
    exact trivial
   ·cases e
 all_goals exfalso
 ·exact AX e
 ·exact AX e1
 ·exact FZ e
theorem J8{x qual:Str}{st:Stmt}{f:Addr}{fd:FuncData}{N ps:List Str}{k:Nat}{g:PSt->R Fl}(F:Fun K x qual st f fd)(S:FnScope N ps (ai st))(hm:mg x=some (.ref f))(hb:Binds K fd ps [])
  (hbody:∀(cdv:M9)(A:Mt)(outer:List RB)(s:MD)(H:Hp)(E:XK),Room k (A.deeper (PB qual (ai st) s.heap.objs.size f cdv))->SVs (DQ P w K mg base N qual (ai st) f cdv A outer s H E) (bh st) g) :
  PF P w K mg base (k+1) x (eI ps.length N.length g):=by
 refine⟨f,fd,ps,F.ok S (fun vs H Q E h=>h.1) (fun cdv A outer s H vs Q E hr h=>?_),hm,F.kp,hb,fun qs p h=>?_⟩
 ·obtain⟨hl,tb,qs,p,r,e,k⟩:=h
  refine⟨_,hbody cdv A outer s H E hr,start N.length qs,(H,H),iY tb r,?_⟩;unfold eI at e;rw[if_pos (by rw[r.length];exact hl)] at e;cases hg:g (start N.length qs) with
  | ok fl=>
   rw[hg] at e;cases fl with
   | next ρ=>cases e;exact fun σ H' S'=>k .non H' S'.same rfl
   | ret q=>cases e;exact fun v H' s' r'=>k v H' s' r'
   | brk ρ=>cases e
   | cont ρ=>cases e
  | er x=>rw[hg] at e;cases e
  | no=>rw[hg] at e;cases e
 ·unfold eI at h
  split at h
  ·rename_i hl;exact hl
  ·cases h
end
end PU
namespace PU
open PySem PySem.Spec PyProof.Rows L2
variable[TW]
def gu(X:Cx)(N':List Str)(scope:Scope)(cl:List (Str×Addr))(L:Addr)(s₂:MD)(H₂:Hp)(fp:List Addr):Cx where
 prog:=X.prog
 w:=X.w
 K:=X.K
 mg:=X.mg
 base:=X.base
 A:=X.A
 N:=N'
 s₀:=s₂
 H₀:=H₂
 env:=compEnvC scope cl L X.env
 outer:=X.stack
 stack:=X.stack
 ex:=fp
 fn:=fun _=>false
 calm:=true
 pn:=[]
 xe:=fun _ _=>False
abbrev dW(C:Cn)(N':List Str)(scope:Scope)(cl:List (Str×Addr))(L:Addr)(s₂:MD)(H₂:Hp)(fp:List Addr):Cn:=⟨gu C.X N' scope cl L s₂ H₂ fp,fun _ _=>False⟩
def tTc(C:Cn)(h:Tgt):TG:=fun v σ H Q=>∃ρ p ρ',ρ.length=σ.length/\View C.X.K H σ ρ/\Rep C.X.K H p v/\h p ρ=some ρ'/\∀σ',ρ'.length=σ'.length->View C.X.K H σ' ρ'->Q σ' H
def TCt(C:Cn)(tg:Expr)(h:Tgt):Prop:=PG C.X tg (tTc C h)
def KY(C:Cn)(h:yk):TGs:=fun vs σ H Q=>∃ρ ps ρ',ρ.length=σ.length/\View C.X.K H σ ρ/\aH C.X.K H ps vs/\h ps ρ=some ρ'/\∀σ',ρ'.length=σ'.length->View C.X.K H σ' ρ'->Q σ' H
def E7(C:Cn)(ts:List Expr)(h:yk):Prop:=PGs C.X ts (KY C h)
theorem View.setV{K:M8}{H:Hp}{σ:L2.St}{ρ:PSt}{i:Nat}{p:PV}{v:V}(vw:View K H σ ρ)(hl:ρ.length=σ.length)(r:Rep K H p v):View K H (σ.set i (some v)) (ρ.set i (.val p)):=by
 refine⟨fun j l e=>?_,vw.tb⟩;rcases cx e with⟨rfl,rfl,hl2⟩|⟨hj,e⟩
 ·exact⟨v,eC (by rw[← hl];exact hl2),r⟩
 ·rw[bC hj]
  exact vw j l e
section
variable{C : Cn}{e : Expr}{pos : Nt}
theorem BV(i:Nat){x:Str}(hN:C.X.N.Nodup)(hi:C.X.N[i]?=some x)(hx:Loc C.X.env.scope x)(hf:C.X.fn x=true\/C.X.env.scope.names.lookup x=some .local:=by first | exact .inl rfl | exact .inr rfl | assumption) :
  TCt C (.Name x pos) (av i):=by
 intro pins s σ H v u Q I r ⟨ρ,p,ρ',hl,vw,rp,e,k⟩;cases e;exact ov hN hi hx hf pins s σ H v u Q I r (k _ (by simp[hl]) (vw.setV hl rp))
theorem qN:E7 C [] iu:=by
 intro pins s σ H vs us Q I r ⟨ρ,ps,ρ',hl,vw,rp,e,k⟩;cases ps with
 | nil=>cases e;cases rp;exact vR pins s σ H _ us Q I r ⟨rfl,k _ hl vw⟩
 | cons _ _=>cases e
theorem i4{es:List Expr}{h:Tgt}{h':yk}(h1:TCt C e h)(h2:E7 C es h')(hs:(O6 (e::es) C.X.env).map (·.2)=Qr e C.X.env::(O6 es C.X.env).map (·.2):=by rfl):E7 C (e::es) (aO h h'):=by
 intro pins s σ H vs us Q I r ⟨ρ,ps,ρ',hl,vw,rp,ee,k⟩;cases ps with
 | nil=>cases ee
 | cons p qs=>
  obtain⟨x,xs,rfl,rp1,rp2⟩:=rp;have ee:(h p ρ).bind (fun ρ1=>h' qs ρ1)=some ρ':=ee;obtain⟨ρ1,e1,e2⟩:=MU.mp ee;exact sJ h1 h2 hs pins s σ H _ us Q I r ⟨x,xs,rfl,ρ,p,ρ1,hl,vw,rp1,e1,fun σ1 hl1 vw1=>⟨ρ1,qs,ρ',hl1,vw1,rp2,e2,k⟩⟩
theorem vn{es:List Expr}{k n:Nat}{h:yk}(hc:C.X.calm=true)(hh:E7 C es h)
  (hn:(O6 es C.X.env).length=n:=by rfl) (hst:(O6 es C.X.env).findIdx? (·.1)=none:=by rfl):TCt C (.Tuple es k pos) (ir n h):=by
 intro pins s σ H v u Q I r ⟨ρ,p,ρ',hl,vw,rp,e,k⟩;cases p with
 | tup ps=>
  have e:(if ps.length=n then h ps ρ else none)=some ρ':=e
  by_cases hl2:ps.length=n
  ·rw[if_pos hl2] at e
   obtain⟨a,xs,rfl,hq,r1⟩:=rp;exact AV hc hh hn hst pins s σ H _ u Q I r ⟨a,xs,rfl,tq hq,by rw[← r1.length];exact hl2,ρ,ps,ρ',hl,vw,r1,e,k⟩
  ·rw[if_neg hl2] at e
   cases e
 | _=>cases e
end
def E8(n:Nat)(h:Tgt):Prop:=∀p ρ ρ1,h p ρ=some ρ1->ρ1.length=ρ.length/\∀i,n<=i->ρ1[i]?=ρ[i]?
def Au(n:Nat)(h:yk):Prop:=∀p ρ ρ1,h p ρ=some ρ1->ρ1.length=ρ.length/\∀i,n<=i->ρ1[i]?=ρ[i]?
theorem oF{n i:Nat}(h:i<n):E8 n (av i):=fun p ρ ρ1 e=>by
 cases e;exact⟨by simp,fun j hj=>bC (by omega)⟩
theorem ri{n:Nat}:Au n iu:=fun ps ρ ρ1 e=>by
 cases ps with
 | nil=>cases e;exact⟨rfl,fun _ _=>rfl⟩
 | cons _ _=>cases e
theorem oG{n:Nat}{h:Tgt}{h':yk}(a:E8 n h)(b:Au n h'):Au n (aO h h'):=fun ps ρ ρ2 e=>by
 cases ps with
 | nil=>cases e
 | cons p qs=>
  have e:(h p ρ).bind (fun ρ1=>h' qs ρ1)=some ρ2:=e;obtain⟨ρ1,e1,e2⟩:=MU.mp e;obtain⟨l1,g1⟩:=a p ρ ρ1 e1;obtain⟨l2,g2⟩:=b qs ρ1 ρ2 e2;exact⟨l2.trans l1,fun i hi=>(g2 i hi).trans (g1 i hi)⟩
theorem rh{n m:Nat}{h:yk}(a:Au n h):E8 n (ir m h):=fun p ρ ρ1 e=>by
 cases p with
 | tup ps=>
  have e:(if ps.length=m then h ps ρ else none)=some ρ1:=e;split at e
  ·exact a ps ρ ρ1 e
  ·cases e
 | _=>cases e
def ETs(C:Cn)(ifs:List Expr)(t:PSt->R Bool):Prop:=(ifs=[]/\t=mI)\/∃c,ifs=[c]/\ET C c t
theorem rQ{C:Cn}:ETs C [] mI:=.inl ⟨rfl,rfl⟩
def dI(cells:List (Str×Addr)):List (Str×OO)->List (Str×Addr)->List (Str×Addr)
 | [],acc=>acc
 | (n,k)::r,acc=>if (k == .free)=true then (match cells.lookup n with
  | some c=>dI cells r ((n,c)::acc)
  | none=>dI cells r acc) else dI cells r acc
theorem bx{scope:Scope}{env:RB}(h:∀y∈scope.names,y.2=.free->∃c,env.cells.lookup y.1=some c):closureFor scope env=pure (dI env.cells scope.names []):=by
 have gen:∀(l:List (Str×OO))(acc:List (Str×Addr)),(∀y∈l,y.2=.free->∃c,env.cells.lookup y.1=some c)->
   (forIn l acc fun x r=>(match x with | (name,kind)=>if (kind == NA)=true then do let a<- Sb env name;pure (O3 ((name,a)::r)) else pure (O3 r):Sem (ForInStep (List (Str×Addr)))))=pure (dI env.cells l acc):=by
  intro l
  induction l with
  | nil=>intro acc _;rfl
  | cons y r ih=>
   intro acc hy;obtain⟨n,k⟩:=y;rw[List.forIn_cons];have hr:=fun z hz=>hy z (Me _ hz)
   by_cases hk:(k == NA)=true
   ·obtain⟨c,hc⟩:=hy (n,k) Mh (by simpa using hk)
    have hc:env.cells.lookup n=some c:=hc;have e1:Sb env n=pure c:=by unfold Sb;rw[hc]
    simp only[hk,if_true,e1,dI,hc];exact ih _ hr
   ·simp only[hk,if_false,dI]
    exact ih _ hr
 have:=gen scope.names [] h;have e:closureFor scope env=((forIn scope.names ([]:List (Str×Addr)) fun x r=>(match x with | (name,kind)=>if (kind == NA)=true then do let a<- Sb env name;pure (O3 ((name,a)::r)) else pure (O3 r):Sem (ForInStep (List (Str×Addr))))) >>= fun cs=>pure cs):=rfl;rw[e,this];rfl
theorem dz{cells:List (Str×Addr)}{x:Str}{c:Addr}:∀{l:List (Str×OO)}{acc:List (Str×Addr)},(dI cells l acc).lookup x=some c->cells.lookup x=some c\/acc.lookup x=some c
 | [],acc,h=>.inr h
 | (n,k)::r,acc,h=>by
  unfold dI at h;split at h
  ·split at h
   ·rename_i d hd
    rcases dz h with z | z
    ·exact .inl z
    ·rw[Mx] at z
     by_cases e:(x == n)=true
     ·rw[e] at z
      cases z;rw[Oz e];exact .inl hd
     ·simp only[On] at e
      rw[e] at z;exact .inr z
   ·exact dz h
  ·exact dz h
theorem jv{cells:List (Str×Addr)}{x:Str}:∀{l:List (Str×OO)}{acc:List (Str×Addr)},(acc.lookup x).isSome=true->((dI cells l acc).lookup x).isSome=true
 | [],acc,h=>h
 | (n,k)::r,acc,h=>by
  unfold dI
  split
  ·split
   ·refine jv ?_
    rw[Mx]
    split
    ·rfl
    ·exact h
   ·exact jv h
  ·exact jv h
theorem tR{cells:List (Str×Addr)}{x:Str}{c:Addr}(hc:cells.lookup x=some c):∀{l:List (Str×OO)}{acc:List (Str×Addr)},(x,NA)∈l->(dI cells l acc).lookup x=some c:=by
 have fin:∀{l:List (Str×OO)}{acc:List (Str×Addr)},(∀d,acc.lookup x=some d->d=c)->((dI cells l acc).lookup x).isSome=true->(dI cells l acc).lookup x=some c:=fun {l acc} ha h=>by
  obtain⟨d,hd⟩:=Rl.mp h;rcases dz hd with z | z
  ·rw[hc] at z;cases z;exact hd
  ·rw[hd,ha d z]
 intro l
 induction l with
 | nil=>intro acc h;cases h
 | cons y r ih=>
  intro acc h;obtain⟨n,k⟩:=y;have rest:∀acc,(x,NA)∈r->(dI cells r acc).lookup x=some c:=fun acc hr=>ih hr;rcases MP.mp h with z | z
  ·cases z
   unfold dI;rw[if_pos (show (NA == NA)=true from rfl),hc];show (dI cells r ((x,c)::acc)).lookup x=some c;have hs:(((x,c)::acc).lookup x)=some c:=by rw[Mx,beq_self_eq_true]
   exact fin (fun d hd=>by rw[hs] at hd;cases hd;rfl) (jv (by rw[hs];rfl))
  ·unfold dI
   split
   ·split
    ·exact rest _ z
    ·exact rest _ z
   ·exact rest _ z
theorem iz{env:RB}{x:Str}:∀{names:List (Str×OO)},names.lookup x=some .free->
  (names.map fun (n,k)=>if (k == NA && env.scope.kind == .function && env.kindOf n == some .cell) then (n,QS) else (n,k)).lookup x=some .cell ∨
  (names.map fun (n,k)=>if (k == NA && env.scope.kind == .function && env.kindOf n == some .cell) then (n,QS) else (n,k)).lookup x=some .free
 | [],h=>by simp at h
 | (n,k)::r,h=>by
  have ih:=@iz env x r;cases hx:x == n with
  | true=>
   simp only[Mx,hx] at h;cases h
   by_cases hc:(NA == NA && env.scope.kind == .function && env.kindOf n == some .cell)=true
   ·left
    simp only[MC,hc,if_true,Mx,hx]
   ·right
    simp only[On] at hc;simp only[MC,hc,NG,if_false,Mx,hx]
  | false=>
   simp only[Mx,hx] at h
   by_cases hc:(k == NA && env.scope.kind == .function && env.kindOf n == some .cell)=true
   ·simp only[MC,hc,if_true,Mx,hx]
    exact ih h
   ·simp only[On] at hc
    simp only[MC,hc,Mx,NG,if_false,hx];exact ih h
theorem qw{prog:Md}{w:Ml}{A:Mt}{R:Result->MD->Prop}{s:MD}{elt target iter:Expr}{ifs:List Expr}{scope:Scope}{pos:Nt}{it acc:M9}{env:RB}(I:Nat->MD->Prop)
  (turn:∀n s,I n s->Mf (Ms prog w) A (pyNext it) (fun r s₁=>match r with
   | none=>R (.ok .next) s₁
   | some v=>Mf (Ms prog w) A (Qd target it v) (fun _ s₁=>Mf (Ms prog w) A (Qr target env v) (fun _ s₂=>
     Mf (Ms prog w) A (forIn ifs true fun c r=>if r=true then do let ok<- isTrue c env (NJ c env);pure (O3 ok) else pure (O3 r)) (fun ok s₃=>
      if ok=true then Mf (Ms prog w) A (NJ elt env) (fun x s₄=>
       Mf (Ms prog w) A (call (.builtin "list.append") [acc,x]) (fun _ s₅=>∃m,m<n/\I m s₅) (fun _ _=>False) s₄) (fun _ _=>False) s₃
      else ∃m,m<n/\I m s₃) (fun _ _=>False) s₂) (fun _ _=>False) s₁) (fun _ _=>False) s₁) (fun _ _=>False) s)
  (n:Nat) (h:I n s) :
  QI (Ms prog w) A (.compLoop (.ListComp elt [⟨target,iter,ifs,0⟩] scope pos) 0 it acc env) R s:=by
 refine codeAny_loop rfl I (fun n s hI=>?_) n h;show Mf _ A ((compTurn (.ListComp elt [⟨target,iter,ifs,0⟩] scope pos) 0 it acc env).onRaise (fun x=>do noteFrame x env;theTreesLotGoes x)) _ _ s;refine wpAny_noted ?_;rw[compTurn_list];refine MA (Sy (MA (O1 (turn n s hI) (fun r s₁ h₁=>?_) fun _ _ h'=>h'.elim)));cases r with
 | none=>exact MK h₁
 | some v=>
  refine MA (O1 h₁ (fun _ s₁ h₁=>?_) fun _ _ h'=>h'.elim);refine MA (O1 h₁ (fun _ s₂ h₂=>MA (O1 h₂ (fun ok s₃ h₃=>?_) fun _ _ h'=>h'.elim)) fun _ _ h'=>h'.elim);cases ok with
  | false=>exact MK ⟨rfl,h₃⟩
  | true=>
   exact MA (MA (O1 h₃ (fun x s₄ h₄=>MA (O1 h₄ (fun _ s₅ h₅=>MK (MK ⟨rfl,h₅⟩)) fun _ _ h'=>h'.elim)) fun _ _ h'=>h'.elim))
end PU
namespace PU
open PySem PySem.Spec PyProof.Rows L2
variable[TW]
structure CompOk(NX:List Str)(scX:Scope)(scope:Scope)(N':List Str)(nt:Nat)(idx:List Nat):Prop where
 kind:scope.kind=.function
 cell:∀y∈scope.names,y.2≠.cell
 names:∀y∈scope.names,y.2=.local->scope.names.lookup y.1=some .local
 free:∀y∈scope.names,y.2=.free->scX.names.lookup y.1=some .cell\/scX.names.lookup y.1=some .free
 len:N'.length=nt+idx.length
 ix:(idx.zip (N'.drop nt)).all (fun p=>decide (NX[p.1]?=some p.2) && decide (scope.names.lookup p.2=some .free))=true
theorem CompOk.at{NX:List Str}{scX:Scope}{scope:Scope}{N':List Str}{nt:Nat}{idx:List Nat}(O:CompOk NX scX scope N' nt idx){k:Nat}{x:Str}(h:N'[nt+k]?=some x) :
  ∃i,idx[k]?=some i/\NX[i]?=some x/\scope.names.lookup x=some .free:=by
 have hk:k<idx.length:=by
  have:=(MB.mp h).1;have:=O.len;omega
 have e1:idx[k]?=some idx[k]:=by simp[hk]
 have e2:(N'.drop nt)[k]?=some x:=by rw[List.getElem?_drop];exact h
 have e3:(idx.zip (N'.drop nt))[k]?=some (idx[k],x):=by
  rw[Rx];exact⟨e1,e2⟩
 have:=Om.mp O.ix _ (Mk e3);simp only[ND,decide_eq_true_eq] at this;exact⟨_,e1,this.1,this.2⟩
section
variable{C : Cn}{elt tg iter : Expr}{ifs : List Expr}{scope : Scope}{pos : Nt}{N' : List Str}{nt : Nat}{idx : List Nat}{h : Tgt}{t : PSt → R Bool}{fe : PSt → R PV}
theorem uO{pins:List (Addr×Obj)}{σ:L2.St}{H₂:Hp}{s₂:MD}{J:It}{fp:List Addr}{it:Addr}{tn:Nat->Heap->Prop}{ρ:PSt}(O:CompOk C.X.N C.X.env.scope scope N' nt idx)(hc:C.X.calm=true)
  (I:Inv C.X pins σ H₂ s₂) (T:Turn C.X.prog C.X.w C.X.K tg J fp it tn) (st:tn 0 s₂.heap) (hf:∀b∈fp,tX C.X pins H₂ b) (vw:View C.X.K H₂ σ ρ)
  {L D:Addr} {h₁:Heap} {tk:Nat} (hD:D=s₂.heap.objs.size) (hL:s₂.heap.objs.size<=L) (hDL:D≠L) (ns:h₁.Ns L (fun _=>none)) (keep:∀b o,s₂.heap.get? b=some o->h₁.get? b=some o)
  (acc:h₁.get? D=some { cls:=.type "list",data:=.seq ([]:List M9).toArray }) :
  ∃σ',Inv (gu C.X N' scope (dI C.X.env.cells scope.names []) L s₂ H₂ fp) [] σ' (upd H₂ D (.lst [])) { s₂ with heap:=h₁,toks:=tk }/\View C.X.K (upd H₂ D (.lst [])) σ' (cb nt idx ρ)/\(cb nt idx ρ).length=σ'.length/\
   ∀b∈fp,b<s₂.heap.objs.size:=by
 have fl:∀b∈fp,b<s₂.heap.objs.size:=fun b hb=>by
  obtain⟨o,e,_⟩:=T.obj 0 _ st b hb;exact MY e
 have nD:H₂ D=none:=by rw[hD];exact I.fresh
 have frC:∀y∈scope.names,y.2=.free->∃c,C.X.env.cells.lookup y.1=some c:=fun y hy hk=>I.ok.has y.1 (O.free y hy hk)
 have clS:∀x c,(dI C.X.env.cells scope.names []).lookup x=some c->C.X.env.cells.lookup x=some c:=fun x c e=>by
  rcases dz e with z | z
  ·exact z
  ·cases z
 have cne:∀x c,(dI C.X.env.cells scope.names []).lookup x=some c->c<s₂.heap.objs.size:=fun x c e=>by
  obtain⟨v,q⟩:=I.cell x c (clS x c e);exact q.lt
 refine⟨Mv nt none++idx.map (fun i=>(σ[i]?).getD none),⟨⟨I.ok.mod,O.kind,I.ok.glob,I.ok.blt,hL,fun x y c e1 e2=>I.ok.inj x y c (clS x c e1) (clS y c e2),fun x hx=>?_,(fun x c z=>absurd (show false=true from z) MO),fun _=>I.ok.hd hc,I.ok.frames,.inl rfl,
  fun b hb=>⟨Mp (MW (fl b hb) hL),fun x c e=>(hf b hb).2.2.2.2.1 x c (clS x c e)⟩,I.bs,NB I.ok.bsz I.sz,fun b o e hb=>?_,fun b hb z=>?_,I.stack,I.stkFree⟩,
  rfl,I.bare,Un.laid keep (Sk hD.symm) nD,⟨_,ns,fun i x v hN hσ hv=>?_⟩,fun x c e=>?_,?_,fun x c e=>?_,fun p hp=>absurd (show p∈([]:List (Addr×Obj)) from hp) (by simp),?_,?_⟩,?_,?_,fl⟩
 ·-- has
  have hx:(relabel scope C.X.env).names.lookup x=some .cell\/(relabel scope C.X.env).names.lookup x=some .free:=hx
  have:scope.names.lookup x=some .free:=by
   have gen:∀(l:List (Str×OO)),(∀y∈l,y.2≠.cell)->((l.map fun (n,k)=>if (k == NA && C.X.env.scope.kind == .function && C.X.env.kindOf n == some .cell) then (n,QS) else (n,k)).lookup x=some .cell ∨
     (l.map fun (n,k)=>if (k == NA && C.X.env.scope.kind == .function && C.X.env.kindOf n == some .cell) then (n,QS) else (n,k)).lookup x=some .free)->l.lookup x=some .free:=by
    intro l
    induction l with
    | nil=>intro _ z;simp at z
    | cons y r ih=>
     intro hy z;obtain⟨n,k⟩:=y;have hk:k≠.cell:=hy (n,k) Mh;have ih:=ih fun y' hy'=>hy y' (Me _ hy');rw[Mx]
     by_cases hc':(k == NA && C.X.env.scope.kind == .function && C.X.env.kindOf n == some .cell)=true
     ·simp only[MC,hc',if_true,Mx] at z
      cases hx':x == n with
      | true=>
       have:k=.free:=by
        simp only[ND] at hc';exact Oz hc'.1.1
       rw[this]
      | false=>
       rw[hx'] at z;exact ih z
     ·simp only[On] at hc'
      simp only[MC,hc',NG,if_false,Mx] at z;cases hx':x == n with
      | true=>
       rw[hx'] at z;rcases z with z | z
       ·cases z;exact absurd rfl hk
       ·cases z;rfl
      | false=>
       rw[hx'] at z;exact ih z
   exact gen scope.names O.cell hx
  obtain⟨c,e⟩:=frC (x,.free) (Mw this) rfl;exact⟨c,tR e (Mw this)⟩
 ·-- noex
  obtain⟨e1,e2⟩:=I.bs b o e;obtain⟨g1,g2,g3,g4,_⟩:=hf b hb;rcases g4 with z | z
  ·exact I.ok.noex b o e z
  ·exact absurd (MY (I.ok.bs b o e).1) (Ru.mpr z)
 ·-- exfs
  obtain⟨g1,g2,g3,_⟩:=hf b hb;exact(MP.mp (I.stkSub b z)).elim g2 g3
 ·-- loc
  by_cases hi:i<nt
  ·rw[ML (by simpa using hi),NC,if_pos hi] at hσ
   cases hσ
  ·obtain⟨k,rfl⟩:∃k,i=nt+k:=⟨i-nt,by omega⟩
   have hN:N'[nt+k]?=some x:=hN;obtain⟨j,ej,ex,el⟩:=O.at hN;rw[Mm (by simp),OV,SM,MM,ej] at hσ;have hσ:some ((σ[j]?).getD none)=some (some v):=hσ
   have hσ:σ[j]?=some (some v):=by
    cases q:σ[j]? with
    | none=>rw[q] at hσ;cases hσ
    | some z=>rw[q] at hσ;cases hσ;rfl
   obtain⟨m,hn,hl⟩:=I.loc;have hfr:=O.free (x,.free) (Mw el) rfl;obtain⟨u,ru,lk⟩:=hl j x v ex hσ (by rcases hfr with z | z;exact .inr (.inl z);exact .inr (.inr z));refine⟨u,ru,.inr ?_⟩;rcases lk with⟨z,_⟩|⟨_,c,ec,hcell⟩
   ·exfalso
    have z:C.X.env.scope.names.lookup x=some .local:=z;rcases hfr with q | q <;> (rw[show C.X.env.scope.names.lookup x=_ from q] at z;cases z)
   ·refine⟨iz (env:=C.X.env) el,c,tR ec (Mw el),?_⟩
    obtain⟨o,ho,hd⟩:=hcell;exact⟨o,keep c o ho,hd⟩
 ·obtain⟨v,o,ho,hd⟩:=I.cell x c (clS x c e)
  exact⟨v,o,keep c o ho,hd⟩
 ·-- free
  show upd H₂ D _ L=none;rw[aB (Oc hDL)];exact I.hok.fresh hL
 ·show upd H₂ D _ c=none
  rw[aB (by rw[hD];exact Mp (cne x c e))];exact I.freeC x c (clS x c e)
 ·exact I.hok.laid keep (Sk hD.symm) ⟨by simp,[],0,.nil,acc⟩
 ·show _=N'.length
  rw[O.len];simp
 ·refine⟨fun i l e=>?_,(Same.new (o:=.lst []) nD).tabs vw.tb⟩
  unfold cb at e
  by_cases hi:i<nt
  ·rw[ML (by simpa using hi),NC,if_pos hi] at e
   cases e;exact trivial
  ·obtain⟨k,rfl⟩:∃k,i=nt+k:=⟨i-nt,by omega⟩
   rw[Mm (by simp),OV,SM,MM] at e ⊢;cases ej:idx[k]? with
   | none=>rw[ej] at e;cases e
   | some j=>
    rw[ej] at e;have e:some (roS ρ[j]?)=some l:=e;cases e;cases q:ρ[j]? with
    | none=>exact trivial
    | some l'=>
     have:=(vw j l' q).same (Same.new (o:=.lst []) nD);cases l' with
     | no=>exact trivial
     | val p=>
      obtain⟨v,ev,r⟩:=this;exact⟨v,by show some ((σ[j]?).getD none)=_;rw[ev];rfl,r⟩
     | own p=>exact trivial
     | pin qs a=>exact trivial
 ·simp[cb]
theorem uP{ρ:PSt}{p:PV}{ps rest:List PV}(e:cG h t fe ρ (p::ps)=.ok rest):∃ρ1 b,h p ρ=some ρ1/\t ρ1=.ok b/\
  ((b=true/\∃q r,fe ρ1=.ok q/\cG h t fe ρ ps=.ok r/\rest=q::r)\/(b=false/\cG h t fe ρ ps=.ok rest)):=by
 unfold cG at e;cases h1:h p ρ with
 | none=>rw[h1] at e;cases e
 | some ρ1=>
  rw[h1] at e;simp only[R.ofO_some,R.ok_bind] at e;cases h2:t ρ1 with
  | ok b=>
   rw[h2] at e;simp only[R.ok_bind] at e;refine⟨ρ1,b,rfl,h2,?_⟩;cases b with
   | true=>
    rw[if_pos rfl] at e;cases h3:fe ρ1 with
    | ok q=>
     rw[h3] at e;simp only[R.ok_bind] at e;cases h4:cG h t fe ρ ps with
     | ok r=>
      rw[h4] at e;cases e;exact .inl ⟨rfl,q,r,rfl,rfl,rfl⟩
     | er x=>rw[h4] at e;cases e
     | no=>rw[h4] at e;cases e
    | er x=>rw[h3] at e;cases e
    | no=>rw[h3] at e;cases e
   | false=>
    rw[if_neg MO] at e;exact .inr ⟨rfl,e⟩
  | er x=>rw[h2] at e;cases e
  | no=>rw[h2] at e;cases e
theorem View.weak{K:M8}{H:Hp}{σ:L2.St}{ρ ρ1:PSt}{n:Nat}(vw:View K H σ ρ1)(low:∀i,n<=i->ρ1[i]?=ρ[i]?)(no:∀i l,i<n->ρ[i]?=some l->l=.no):View K H σ ρ:=by
 refine⟨fun i l e=>?_,vw.tb⟩
 by_cases hi:i<n
 ·rw[no i l hi e];exact trivial
 ·exact vw i l (by rw[low i (by omega)];exact e)
theorem xU{idx:List Nat}{nt:Nat}{ρ:PSt}{i:Nat}{l:Sl}(hi:i<nt)(e:(cb nt idx ρ)[i]?=some l):l=.no:=by
 unfold cb at e;rw[ML (by simpa using hi),NC,if_pos hi] at e;cases e;rfl
theorem xT{idx:List Nat}{nt:Nat}{ρ:PSt}{i:Nat}{p:PV}(e:(cb nt idx ρ)[i]?=some (.own p)):False:=by
 unfold cb at e
 by_cases hi:i<nt
 ·rw[ML (by simpa using hi),NC,if_pos hi] at e
  cases e
 ·rw[Mm (by simpa using hi),MM] at e
  cases q:idx[i-(Mv nt Sl.no).length]? with
  | none=>rw[q] at e;cases e
  | some j=>
   rw[q] at e;have e:some (roS ρ[j]?)=some (Sl.own p):=e;unfold roS at e;split at e <;> cases e
theorem xS{idx:List Nat}{nt:Nat}{ρ:PSt}{i:Nat}{p:List PV}{a:Addr}(e:(cb nt idx ρ)[i]?=some (.pin p a)):False:=by
 unfold cb at e
 by_cases hi:i<nt
 ·rw[ML (by simpa using hi),NC,if_pos hi] at e
  cases e
 ·rw[Mm (by simpa using hi),MM] at e
  cases q:idx[i-(Mv nt Sl.no).length]? with
  | none=>rw[q] at e;cases e
  | some j=>
   rw[q] at e;have e:some (roS ρ[j]?)=some (Sl.pin p a):=e;unfold roS at e;split at e <;> cases e
theorem View.noOwn{K:M8}{H H':Hp}{σ:L2.St}{ρ:PSt}(vw:View K H σ ρ)(no:∀(i:Nat)(p:PV),ρ[i]?≠some (Sl.own p))(np:∀(i:Nat)(ps:List PV)(a:Addr),ρ[i]?≠some (Sl.pin ps a))(k:Kp H H')(tb:uT H'):View K H' σ ρ:=by
 refine⟨fun i l e=>?_,tb⟩;have:=vw i l e;cases l with
 | no=>exact trivial
 | val p=>obtain⟨v,ev,r⟩:=this;exact⟨v,ev,r.kp k⟩
 | own p=>exact absurd e (no i p)
 | pin ps a=>exact absurd e (np i ps a)
theorem mC{pins:List (Addr×Obj)}{σ:L2.St}{H₂:Hp}{s₂:MD}{J:It}{fp:List Addr}{it:Addr}{tn:Nat->Heap->Prop}{ρ:PSt}{ps qs:List PV}{RR:M9->Addr->Result->MD->Prop}{E:M9->MD->Prop}
  (O:CompOk C.X.N C.X.env.scope scope N' nt idx) (hc:C.X.calm=true)
  (hg:∀cl L s H fp,TCt (dW C N' scope cl L s H fp) tg h) (hlow:E8 nt h) (ht:∀cl L s H fp,ETs (dW C N' scope cl L s H fp) ifs t) (he:∀cl L s H fp,EV (dW C N' scope cl L s H fp) elt fe)
  (I:Inv C.X pins σ H₂ s₂) (T:Turn C.X.prog C.X.w C.X.K tg J fp it tn) (st:tn 0 s₂.heap) (hf:∀b∈fp,tX C.X pins H₂ b) (vw:View C.X.K H₂ σ ρ) (ip:ItP C.X.K J H₂ ps)
  (hq:cG h t fe (cb nt idx ρ) ps=.ok qs) (hz:qs.length<=sizeLine)
  (hRR:∀D L σ' H' s' xs,Inv (gu C.X N' scope (dI C.X.env.cells scope.names []) L s₂ H₂ fp) [] σ' H' s'->Same H₂ H'->H₂ D=none->H' D=some (.lst xs)->aH C.X.K H' qs xs->s₂.heap.objs.size<=L->RR (.ref D) L (.ok .next) s') :
  Mf (Ms C.X.prog C.X.w) C.X.A (newList []) (fun acc s₃=>Mf (Ms C.X.prog C.X.w) C.X.A (newFunctionEnv scope C.X.env.globals (dI C.X.env.cells scope.names []) [] C.X.env.qual none .none (some C.X.env)) (fun cenv s₄=>
   QI (Ms C.X.prog C.X.w) C.X.A (.compStart (.ListComp elt [⟨tg,iter,ifs,0⟩] scope pos) 0 (.ref it) acc { cenv with scope:=relabel scope C.X.env }) (RR acc cenv.locals) s₄) E s₃) E s₂:=by
 refine Pa (wpAny_newFunctionEnv O.cell (by intro y hy;simp at hy) (fun h₁ hns₁ hsb₁=>?_) O.kind);dsimp only at hns₁ hsb₁ ⊢;generalize hG:s₂.heap.push { cls:=.type "list",dict:=none,data:=.seq ([]:List M9).toArray }=G at hns₁ hsb₁ ⊢;have hC:G.objs.size=s₂.heap.objs.size+1:=by rw[← hG,Heap.size_push]
 have hDL:s₂.heap.objs.size≠G.objs.size:=by rw[hC];exact Mp (Nat.lt_succ_self _)
 have keep:∀b o,s₂.heap.get? b=some o->h₁.get? b=some o:=fun b o e=>
  hsb₁.extBut b o (by rw[hC];exact Mp (RF (MY e))) (MJ _ (hG▸MJ _ e))
 have acc:h₁.get? s₂.heap.objs.size=some { cls:=.type "list",data:=.seq ([]:List M9).toArray }:=hsb₁.extBut _ _ hDL (MJ _ (hG▸Mo _ rfl));have nD:H₂ s₂.heap.objs.size=none:=I.fresh;have hGe:s₂.heap.objs.size<=G.objs.size:=by rw[hC];exact TB _
 obtain⟨σ0,I0,vw0,hl0,fl⟩:=uO O hc I T st hf vw (L:=G.objs.size) (tk:=s₂.toks+([]:List (Str×M9)).length) rfl hGe hDL (by simpa using hns₁) keep acc
 have fpk:∀{H':Hp}{pins':List (Addr×Obj)},(∀b∈fp,H' b=none)->(∀p∈pins',p.1 ∉ fp)->∀b∈fp,tX (gu C.X N' scope (dI C.X.env.cells scope.names []) G.objs.size s₂ H₂ fp) pins' H' b:=fun {H' pins'} hn hp b hb=>by
  obtain⟨g1,g2,g3,g4,g5,g6⟩:=hf b hb;refine⟨hn b hb,Mp (MW (fl b hb) hGe),fun z=>?_,.inl hb,fun x c e=>?_,fun p hp' z=>?_⟩
  ·exact(MP.mp (I.stkSub b z)).elim g2 g3
  ·rcases dz e with z | z
   ·exact g5 x c z
   ·cases z
  ·subst z
   exact hp p ((show p∈([]:List (Addr×Obj))++pins' from hp')) hb
 have loop:QI (Ms C.X.prog C.X.w) C.X.A (.compLoop (.ListComp elt [⟨tg,iter,ifs,0⟩] scope pos) 0 (.ref it) (.ref s₂.heap.objs.size) (compEnvC scope (dI C.X.env.cells scope.names []) G.objs.size C.X.env))
   (RR (.ref s₂.heap.objs.size) G.objs.size) { s₂ with heap:=h₁,toks:=s₂.toks+([]:List (Str×M9)).length }:=by
  refine qw (fun n s=>∃i σ' H' xs dn rest,n=ps.length-i/\i<=ps.length/\Inv (gu C.X N' scope (dI C.X.env.cells scope.names []) G.objs.size s₂ H₂ fp) [] σ' H' s/\tn i s.heap/\(∀b∈fp,H' b=none)/\Same H₂ H'/\
   H' s₂.heap.objs.size=some (.lst xs)/\aH C.X.K H' dn xs/\View C.X.K H' σ' (cb nt idx ρ)/\(cb nt idx ρ).length=σ'.length/\cG h t fe (cb nt idx ρ) (ps.drop i)=.ok rest/\dn++rest=qs) ?_ ps.length
   ⟨0,σ0,_,[],[],qs,rfl,Nu _,I0,T.keep _ _ _ st fun b _ o e=>keep b o e,fun b hb=>?_,Same.new nD,ay,aH.nil,vw0,hl0,by simpa using hq,rfl⟩
  ·rintro n s ⟨i,σ',H',xs,dn,rest,rfl,hi,I',st',fr',sm',hD',rp',vw',hl',e',ea⟩
   obtain⟨stp,stepp⟩:=ip i H' (Same.kp sm')
   by_cases hlt:i<ps.length
   ·have ei:ps[i]?=some ps[i]:=by simp[hlt]
    obtain⟨go,yl⟩:=stepp _ ei;rw[tJ ei] at e';obtain⟨ρ1,b,e1,e2,e3⟩:=uP e';obtain⟨l1,low1⟩:=hlow _ _ _ e1;refine thn (T.item (gu C.X N' scope (dI C.X.env.cells scope.names []) G.objs.size s₂ H₂ fp) rfl rfl rfl rfl i [] s σ' H' _ I' (fpk fr' (by simp)) st' go) fun r s1 ⟨u,hr,h4⟩=>?_;subst hr;refine thn h4 fun _ s2 ⟨x,H3,I3,r3,y3,st3,fr3⟩=>?_;obtain⟨sm3,rp3⟩:=yl x H3 y3;have I3':=I3.pinned (fpk fr3 (by simp)) (T.obj _ _ st3);refine thn (hg _ _ _ _ _ _ s2 σ' H3 x u (fun σ4 H4=>H4=H3/\ρ1.length=σ4.length/\View C.X.K H4 σ4 ρ1) I3' r3 ⟨_,_,ρ1,hl',vw'.same sm3,rp3,e1,fun σ4 hl4 vw4=>⟨rfl,hl4,vw4⟩⟩) fun _ s4 ⟨σ4,H4,I4,q4⟩=>?_;obtain⟨rfl,hl4,vw4⟩:=q4
    have tests:Mf (Ms C.X.prog C.X.w) C.X.A (forIn ifs true fun c r=>if r=true then do let ok<- isTrue c (compEnvC scope (dI C.X.env.cells scope.names []) G.objs.size C.X.env) (NJ c (compEnvC scope (dI C.X.env.cells scope.names []) G.objs.size C.X.env));pure (O3 ok) else pure (O3 r))
      (TP (gu C.X N' scope (dI C.X.env.cells scope.names []) G.objs.size s₂ H₂ fp) ([]++nv fp s2.heap) σ4 (fun b' H5=>b'=b/\Same H4 H5)) (fun _ _=>False) s4:=by
     rcases ht (dI C.X.env.cells scope.names []) G.objs.size s₂ H₂ fp with⟨ez,et⟩|⟨c,ez,et⟩
     ·subst ez
      subst et;cases e2;exact wpAny_tests_nil ⟨H4,I4,rfl,Same.refl _⟩
     ·subst ez
      exact wpAny_tests_one (et _ s4 σ4 H4 _ I4 ⟨ρ1,vw4,by rw[e2];exact fun H' s'=>⟨rfl,s'⟩⟩)
    refine thn tests fun b' s5 ⟨H5,I5,eb,sm5⟩=>?_;subst eb
    have fin:∀{H7:Hp}{s7:MD},Inv (gu C.X N' scope (dI C.X.env.cells scope.names []) G.objs.size s₂ H₂ fp) ([]++nv fp s2.heap) σ4 H7 s7->Inv (gu C.X N' scope (dI C.X.env.cells scope.names []) G.objs.size s₂ H₂ fp) [] σ4 H7 s7/\tn (i+1) s7.heap/\∀b∈fp,H7 b=none:=fun {H7 s7} I7=>by
     refine⟨I7.unpinned,T.keep _ _ _ st3 fun b hb o e=>(I7.pin (b,o) (My _ (My _ (ie hb e)))).1,fun b hb=>?_⟩;obtain⟨o,e,_⟩:=T.obj _ _ st3 b hb;exact(I7.pin (b,o) (My _ (My _ (ie hb e)))).2.1
    have sm25:Same H₂ H5:=(sm'.trans sm3).trans sm5;have smd:Same H' H5:=sm3.trans sm5;have vw5:View C.X.K H5 σ4 (cb nt idx ρ):=View.weak (vw4.same sm5) low1 fun i l hi e=>xU hi e;have hl5:(cb nt idx ρ).length=σ4.length:=by rw[← l1];exact hl4
    rcases e3 with⟨rfl,q,r,e4,e5,rfl⟩|⟨rfl,e4⟩
    ·rw[if_pos rfl]
     refine thn (he _ _ _ _ _ _ s5 σ4 H5 (fun v H6=>Same H5 H6/\Rep C.X.K H6 q v) I5 ⟨ρ1,vw4.same sm5,by rw[e4];exact fun v H' s' r=>⟨s',r⟩⟩) fun u6 s6 ⟨v,H6,I6,r6,sm6,rp6⟩=>?_;have hD6:H6 s₂.heap.objs.size=some (.lst xs):=sm6 _ _ (smd _ _ hD')
     have hx:xs.length<sizeLine:=by
      have a1:=rp'.length;have a2:qs.length=dn.length+(r.length+1):=by rw[← ea];simp
      omega
     refine thn (pT (X:=gu C.X N' scope (dI C.X.env.cells scope.names []) G.objs.size s₂ H₂ fp) _ s6 σ4 H6 (.ref s₂.heap.objs.size) [v] (.ref s₂.heap.objs.size) [u6] (fun _ H7=>H7=upd H6 s₂.heap.objs.size (.lst (xs++[v]))) I6 rfl (.cons r6 .nil) ⟨_,xs,v,rfl,rfl,hD6,hx,rfl⟩) fun _ s7 ⟨_,H7,I7,_,e7⟩=>?_;subst e7;obtain⟨J7,st7,fr7⟩:=fin I7;have kp7:Kp H6 (upd H6 s₂.heap.objs.size (.lst (xs++[v]))):=Kp.upd hD6 rfl;refine⟨ps.length-(i+1),by omega,i+1,σ4,_,xs++[v],dn++[q],r,rfl,hlt,J7,st7,fr7,(sm25.trans sm6).but nD (fun u h=>by rw[hD6] at h;cases h;rfl) (fun b hb=>aB hb),ay,?_,?_,hl5,e5,by rw[← ea];simp⟩
     ·exact aH.append (aH.kp kp7 _ ((rp'.same smd).same sm6)) (aH.cons (Rep.kp kp7 _ rp6) aH.nil)
     ·exact(vw5.same sm6).noOwn (fun i p e=>xT e) (fun i p a e=>xS e) kp7 ((vw5.same sm6).tb.but (fun u h=>by rw[hD6] at h;cases h;exact⟨rfl,rfl⟩) (fun b hb=>aB hb))
    ·rw[if_neg MO]
     obtain⟨J7,st7,fr7⟩:=fin I5;exact⟨ps.length-(i+1),by omega,i+1,σ4,H5,xs,dn,rest,rfl,hlt,J7,st7,fr7,sm25,smd _ _ hD',rp'.same smd,vw5,hl5,e4,ea⟩
   ·have e:i=ps.length:=by omega
    subst e;rw[QD] at e';cases e';rw[NH] at ea;subst ea;refine thn (T.done (gu C.X N' scope (dI C.X.env.cells scope.names []) G.objs.size s₂ H₂ fp) rfl rfl rfl rfl ps.length [] s σ' H' _ I' (fpk fr' (by simp)) st' (stp rfl)) fun r s1 ⟨hr,I1⟩=>?_;subst hr;exact hRR _ _ σ' H' s1 xs I1 sm' nD hD' rp' hGe
  ·show upd H₂ _ _ b=none
   rw[aB (Mp (fl b hb))];exact(hf b hb).1
 exact codeAny_compStart_list loop (T.self _ 0 _ _ _ (T.keep _ _ _ st fun b _ o e=>keep b o e) loop)
end
end PU
namespace PU
open PySem PySem.Spec PyProof.Rows L2
variable[TW]
section
variable{C : Cn}{elt tg iter : Expr}{ifs : List Expr}{scope : Scope}{pos : Nt}{N' : List Str}{nt : Nat}{idx : List Nat}{fi : PSt → R (List PV)}{h : Tgt}{t : PSt → R Bool}{fe : PSt → R PV}
theorem mD{pins:List (Addr×Obj)}{σ σ':L2.St}{H₂ H':Hp}{s₂ s':MD}{fp:List Addr}{cl:List (Str×Addr)}{L:Addr}(I:Inv C.X pins σ H₂ s₂)(hf:∀b∈fp,tX C.X pins H₂ b)
  (I':Inv (gu C.X N' scope cl L s₂ H₂ fp) [] σ' H' s'):Inv C.X pins σ H' s':=
 I.call' (ch:=fp) I'.os I'.base I'.hok I'.bare fun b hb=>by
  obtain⟨g1,g2,g3,g4,g5,g6⟩:=hf b hb;exact⟨g4,g2,g5,g6⟩
theorem CG{α:Type}{H:Hp}{r:R α}{k:α->Prop}(q:RQ C H (CL r) k):∃a,r=.ok a/\k a:=by
 cases r with
 | ok a=>exact⟨a,rfl,q⟩
 | er x=>exact MI q
 | no=>exact MI q
theorem mB{pins:List (Addr×Obj)}{σ:L2.St}{H:Hp}{s:MD}{L:Addr}{h':Heap}(I:Inv C.X pins σ H s)(hn:H L=none)(hL:L≠C.X.env.locals)(h1:C.X.s₀.heap.objs.size<=L)(h2:∀x c,C.X.env.cells.lookup x=some c->c≠L)
  (h3:∀p∈C.X.pn++pins,p.1≠L) (sb:OM L s.heap h'):Inv C.X pins σ H { s with heap:=h' }:=
 I.turned (t':=s.toks) (fun b o hb e=>(sb.2 b hb).trans e) hn hL (.inr h1) h2 h3
theorem mr(O:CompOk C.X.N C.X.env.scope scope N' nt idx)(hi:EI C tg iter fi)
  (hg:∀cl L s H fp,TCt (dW C N' scope cl L s H fp) tg h) (he:∀cl L s H fp,EV (dW C N' scope cl L s H fp) elt fe)
  (hs:∀x,Pb iter C.X.env x=pure x:=by intro _;rfl) (hc:C.X.calm=true:=by rfl) (hlow:E8 nt h:=by repeat' (first | exact ri | exact oF (by decide) | apply rh | apply oG)) (ht:∀cl L s H fp,ETs (dW C N' scope cl L s H fp) ifs t:=by exact fun _ _ _ _ _=>rQ):EN C (.ListComp elt [⟨tg,iter,ifs,0⟩] scope pos) (gw fi h t fe nt idx):=by
 intro pins s σ H Q I ⟨ρ,vw,q⟩;rw[eval_ListComp];refine QL (use:=none) rfl hs (bx fun y hy hk=>I.ok.has y.1 (O.free y hy hk)) O.kind O.names ?_
 refine thn (hi pins s σ H (fun J H'=>∃ps qs,Same H H'/\ItP C.X.K J H' ps/\cG h t fe (cb nt idx ρ) ps=.ok qs/\qs.length<=sizeLine/\∀a H'',Same H H''->H a=none->cA C.X.K H'' a (.lst qs)->Q (.ref a) H'') I
  ⟨ρ,vw,q.bind.imp fun ps _ k J H' s' ip=>?_⟩) fun v s1 h1=>thn h1 fun itv s2 h2=>?_
 ·obtain⟨qs,e1,k⟩:=CG k.bind
  obtain⟨z,k⟩:=m6 k;exact⟨ps,qs,s',ip,e1,z,k⟩
 ·obtain⟨it,fp,tn,J,H2,e,I2,T,st2,f2,ps,qs,sm,ip,e1,hz,k⟩:=h2
  subst e;refine mC O hc hg hlow ht he I2 T st2 f2 (vw.same sm) ip e1 hz fun D L σ' H' s' xs I' sm' nD hD rp hL=>?_;obtain⟨m,hn,_⟩:=id I'.loc;have IB:=mD I2 f2 I';refine⟨m,hn,fun h' sb=>⟨.ref D,H',mB IB I'.free ?_ (NB I2.sz hL) ?_ ?_ sb,rfl,k D H' (sm.trans sm') (sm.free nD) ⟨xs,hD,rp⟩⟩⟩
  ·exact OP (MW I2.lt hL)
  ·intro x c ec z
   obtain⟨v,qc⟩:=I2.cell x c ec;have z:c=L:=z;exact Nb _ (MW (z▸qc.lt) hL)
  ·intro p hp z
   have z:p.1=L:=z;exact Nb _ (MW (z▸MY (I2.pin p hp).1) hL)
theorem RS.bind'{C:Cn}{B:Hp×Hp}{D:Ends}{H:Hp}{fi:PSt->R (List PV)}{h:Tgt}{t:PSt->R Bool}{fe:PSt->R PV}{nt:Nat}{idx:List Nat}{ρ:PSt}{g:PV->Sl}{i:Nat}
  (q:RS C B D (gw fi h t fe nt idx ρ >>= fun p=>.ok (.next (ρ.set i (g p))))) (s:Same B.1 H) :
  RQ C H (fi ρ) fun ps=>∃qs,cG h t fe (cb nt idx ρ) ps=.ok qs/\qs.length<=sizeLine/\∀σ' H'',StOk C.X.K B H'' σ' (ρ.set i (g (.lst qs)))->D.nx σ' H'':=by
 unfold gw at q;rw[R.bind_assoc] at q;refine(q.bind s).imp fun ps _ k=>?_;rw[R.bind_assoc] at k;cases hc:cG h t fe (cb nt idx ρ) ps with
 | ok qs=>
  rw[hc] at k;have k:RS C B D ((gr qs >>= fun qs=>R.ok (.lst qs)) >>= fun p=>.ok (.next (ρ.set i (g p)))):=k;unfold gr at k
  by_cases hz:qs.length<=16777216
  ·rw[if_pos hz] at k
   exact⟨qs,rfl,by rw[N7];exact hz,k⟩
  ·rw[if_neg hz] at k
   exact MI k
 | er x=>rw[hc] at k;exact MI k
 | no=>rw[hc] at k;exact MI k
theorem vt(own:Bool)(i:Nat){x:Str}{px:Nt}{spos:Nt}(hN:C.X.N.Nodup)(O:CompOk C.X.N C.X.env.scope scope N' nt idx)(hi:EI C tg iter fi)
  (hg:∀cl L s H fp,TCt (dW C N' scope cl L s H fp) tg h) (he:∀cl L s H fp,EV (dW C N' scope cl L s H fp) elt fe)
  (hsw:PH (.ListComp elt [⟨tg,iter,ifs,0⟩] scope pos) (some (.Name x px)) spos.line C.X.env=pure true:=by rfl)
  (hs:∀x,Pb iter C.X.env x=pure x:=by intro _;rfl)
  (hf:C.X.fn x=true\/C.X.env.scope.names.lookup x=some .local:=by first | exact .inl rfl | exact .inr rfl | assumption) (hc:C.X.calm=true:=by rfl) (hlow:E8 nt h:=by repeat' (first | exact ri | exact oF (by decide) | apply rh | apply oG)) (ht:∀cl L s H fp,ETs (dW C N' scope cl L s H fp) ifs t:=by exact fun _ _ _ _ _=>rQ) (hi':C.X.N[i]?=some x:=by rfl) (hx:Loc C.X.env.scope x:=by first | exact .inl rfl | exact .inr rfl) :
  SV C (.Assign [.Name x px] (.ListComp elt [⟨tg,iter,ifs,0⟩] scope pos) spos) ((if own=true then lJ else cy) i (gw fi h t fe nt idx)):=by
 intro pins s σ H D I ⟨ρ,B,S,q⟩;rw[exec_Assign_Name_used _ _ _ _ hsw];refine MA (Sy (MA ?_));show Mf _ C.X.A (do let _<- comprehension (.ListComp elt [⟨tg,iter,ifs,0⟩] scope pos) scope C.X.env _ (newList []) false (NJ iter C.X.env) (some (Qr (.Name x px) C.X.env))) _ _ s
 refine MA (O1 (QL (use:=some (Qr (.Name x px) C.X.env)) (Q:=fun _ s'=>SP C.X pins D .next s') rfl hs (bx fun y hy hk=>I.ok.has y.1 (O.free y hy hk)) O.kind O.names ?_)
  (fun _ s' hq=>MK (MK hq)) fun _ _ e=>e)
 have q':RS C B D (gw fi h t fe nt idx ρ >>= fun p=>.ok (.next (ρ.set i (if own=true then .own p else .val p)))):=by
  cases own with
  | true=>exact q
  | false=>exact q
 refine thn (hi pins s σ H (fun J H'=>∃ps qs,Same H H'/\ItP C.X.K J H' ps/\cG h t fe (cb nt idx ρ) ps=.ok qs/\qs.length<=sizeLine/\∀σ' H'',StOk C.X.K B H'' σ' (ρ.set i (if own=true then .own (.lst qs) else .val (.lst qs)))->D.nx σ' H'') I
  ⟨ρ,S.vw,(RS.bind' q' S.same).imp fun ps _ k J H' s' ip=>?_⟩) fun v s1 h1=>thn h1 fun itv s2 h2=>?_
 ·obtain⟨qs,e1,z,k⟩:=k
  exact⟨ps,qs,s',ip,e1,z,k⟩
 ·obtain⟨it,fp,tn,J,H2,e,I2,T,st2,f2,ps,qs,sm,ip,e1,hz,k⟩:=h2
  subst e;refine mC O hc hg hlow ht he I2 T st2 f2 (S.vw.same sm) ip e1 hz fun Da L σ' H' s' xs I' sm' nD hD rp hL=>?_;obtain⟨m,⟨o,es,ep,ho,hrest⟩,_⟩:=id I'.loc;have IB:=mD I2 f2 I';have nL:L≠C.X.env.locals:=OP (MW I2.lt hL)
  have nC:∀x c,C.X.env.cells.lookup x=some c->c≠L:=fun x c ec z=>by
   obtain⟨v,qc⟩:=I2.cell x c ec;have z:c=L:=z;exact Nb _ (MW (z▸qc.lt) hL)
  have nP:∀p∈C.X.pn++pins,p.1≠L:=fun p hp z=>by
   have z:p.1=L:=z;exact Nb _ (MW (z▸MY (I2.pin p hp).1) hL)
  have IP:Inv C.X (pins++[(L,o)]) σ H' s':=IB.pins_of fun p hp=>by
   rcases Mz.mp hp with z | z
   ·exact IB.pin p (My _ z)
   ·have:p=(L,o):=by simpa using z
    subst this;exact⟨ho,I'.free,nL,I2.nofs hL,fun v z=>by rw[hrest.1] at z;cases z⟩
  have S2:=S.grow (sm.trans sm')
  have fin:∀{H3:Hp}{v:V},Inv C.X (pins++[(L,o)]) σ H3 s'->v=.ref Da->(∀σ3,σ3=σ.set i (some v)->D.nx σ3 H3)->
    Mf (Ms C.X.prog C.X.w) C.X.A (Qr (.Name x px) C.X.env (.ref Da)) (fun _ s''=>∃m,s''.heap.Ns L m/\∀h',OM L s''.heap h'->SP C.X pins D .next { s'' with heap:=h' }) C.X.xe s':=fun {H3 v} I3 ev k3=>by
   refine thn (ov hN hi' hx hf (pins++[(L,o)]) s' σ H3 v (.ref Da) (fun σ4 H4=>σ4=σ.set i (some v)/\H4=H3) I3 (by subst ev;rfl) ⟨rfl,rfl⟩) fun _ s4 ⟨σ4,H4,I4,e4,e5⟩=>?_;have hp:=I4.pin (L,o) (by simp);have IU:Inv C.X pins σ4 H4 s4:=I4.unpinned;refine⟨m,⟨o,es,ep,hp.1,hrest⟩,fun h' sb=>⟨σ4,H4,mB IU hp.2.1 nL (NB I2.sz hL) nC nP sb,?_⟩⟩;subst e5;exact k3 σ4 e4
  cases own with
  | true=>
   exact fin IP rfl fun σ3 e3=>by
    subst e3;exact k _ _ (S.setN (sm.trans sm') (sm.free nD) ⟨xs,hD,rp⟩)
  | false=>
   obtain⟨H3,I3,rp3,oth⟩:=L2.Inv.frz (a:=Da) (p:=.lst qs) IP ⟨xs,hD,rp⟩;refine fin I3 rfl fun σ3 e3=>?_;subst e3;exact k _ _ ((S.grow ((sm.trans sm').but (sm.free nD) (fun u h=>by rw[hD] at h;cases h;rfl) oth)).setV rp3)
end
end PU
namespace PU
open PySem PySem.Spec PyProof.Rows L2 PySem.SeqAt
variable[TW]
section
variable{X : Cx}{pins : List (Addr×Obj)}{σ : L2.St}{H : Hp}{s : MD}
theorem kj{a:Addr}{xs ys:List V}(I:Inv X pins σ H s)(h1:SqT X.K H a xs)(h2:SqO X.K H a ys):False:=by
 obtain⟨its,_,⟨o,e,c,_⟩,_⟩:=I.tuple h1;obtain⟨_,its2,n,_,e2⟩:=h2.is I;rw[e] at e2;cases e2;have c:Pn "list"=Pn "tuple":=c;exact absurd c (by decide)
theorem C3{a:Addr}{xs ys:List V}(I:Inv X pins σ H s)(h1:SqO X.K H a xs)(h2:SqO X.K H a ys):xs=ys:=I.list_inj h1.l h2.l
mutual
theorem jb(I:Inv X pins σ H s):∀(p q:PV)(v:V)(b:Bool),bp X.K H p v->bp X.K H q v->bU p q=some b->b=true
 | .non,q,v,b,h1,h2,e=>by
  cases (show v=.non from h1);cases q with
  | non=>simpa [bU] using e.symm
  | bl j=>cases (show V.non=.bl j from h2)
  | int j=>cases (show V.non=.int j from h2)
  | str j=>cases (show V.non=.str j from h2)
  | tup qs=>obtain⟨a,xs,z,_⟩:=bp.tup_inv h2;cases z
  | lst qs=>obtain⟨a,xs,z,_⟩:=bp.lst_inv h2;cases z
  | _=>simp[bU] at e
 | .bl i,q,v,b,h1,h2,e=>by
  cases (show v=.bl i from h1);cases q with
  | bl j=>cases (show V.bl i=.bl j from h2);simpa [bU] using e.symm
  | non=>cases (show V.bl i=.non from h2)
  | int j=>cases (show V.bl i=.int j from h2)
  | str j=>cases (show V.bl i=.str j from h2)
  | tup qs=>obtain⟨a,xs,z,_⟩:=bp.tup_inv h2;cases z
  | lst qs=>obtain⟨a,xs,z,_⟩:=bp.lst_inv h2;cases z
  | _=>simp[bU] at e
 | .int i,q,v,b,h1,h2,e=>by
  cases (show v=.int i from h1);cases q with
  | int j=>cases (show V.int i=.int j from h2);simpa [bU] using e.symm
  | bl j=>cases (show V.int i=.bl j from h2)
  | non=>cases (show V.int i=.non from h2)
  | str j=>cases (show V.int i=.str j from h2)
  | tup qs=>obtain⟨a,xs,z,_⟩:=bp.tup_inv h2;cases z
  | lst qs=>obtain⟨a,xs,z,_⟩:=bp.lst_inv h2;cases z
  | _=>simp[bU] at e
 | .str i,q,v,b,h1,h2,e=>by
  cases (show v=.str i from h1);cases q with
  | str j=>cases (show V.str i=.str j from h2);simpa [bU] using e.symm
  | bl j=>cases (show V.str i=.bl j from h2)
  | non=>cases (show V.str i=.non from h2)
  | int j=>cases (show V.str i=.int j from h2)
  | tup qs=>obtain⟨a,xs,z,_⟩:=bp.tup_inv h2;cases z
  | lst qs=>obtain⟨a,xs,z,_⟩:=bp.lst_inv h2;cases z
  | _=>simp[bU] at e
 | .tup ps,q,v,b,h1,h2,e=>by
  obtain⟨a,xs,rfl,g1,r1⟩:=bp.tup_inv h1;cases q with
  | tup qs=>
   obtain⟨a2,ys,z,g2,r2⟩:=bp.tup_inv h2;cases z;cases I.tuple_inj g1 g2;exact lH I ps qs xs b r1 r2 (by simpa [bU] using e)
  | lst qs=>
   obtain⟨a2,ys,z,g2,r2⟩:=bp.lst_inv h2;cases z;exact(kj I g1 g2).elim
  | non=>cases (show V.ref a=.non from h2)
  | bl j=>cases (show V.ref a=.bl j from h2)
  | int j=>cases (show V.ref a=.int j from h2)
  | str j=>cases (show V.ref a=.str j from h2)
  | _=>simp[bU] at e
 | .lst ps,q,v,b,h1,h2,e=>by
  obtain⟨a,xs,rfl,g1,r1⟩:=bp.lst_inv h1;cases q with
  | lst qs=>
   obtain⟨a2,ys,z,g2,r2⟩:=bp.lst_inv h2;cases z;cases C3 I g1 g2;exact lH I ps qs xs b r1 r2 (by simpa [bU] using e)
  | tup qs=>
   obtain⟨a2,ys,z,g2,r2⟩:=bp.tup_inv h2;cases z;exact(kj I g2 g1).elim
  | non=>cases (show V.ref a=.non from h2)
  | bl j=>cases (show V.ref a=.bl j from h2)
  | int j=>cases (show V.ref a=.int j from h2)
  | str j=>cases (show V.ref a=.str j from h2)
  | _=>simp[bU] at e
 | .dct _ _,_,_,_,_,_,e=>by simp[bU] at e
 | .dtt _ _,_,_,_,_,_,e=>by simp[bU] at e
 | .fn _ _,_,_,_,_,_,e=>by simp[bU] at e
theorem lH(I:Inv X pins σ H s):∀(ps qs:List PV)(xs:List V)(b:Bool),aH X.K H ps xs->aH X.K H qs xs->cz ps qs=some b->b=true
 | [],qs,xs,b,r1,r2,e=>by
  cases r1;cases qs with
  | nil=>simpa [cz] using e.symm
  | cons q qs=>obtain⟨x,r,z,_⟩:=r2;cases z
 | p::ps,qs,xs,b,r1,r2,e=>by
  obtain⟨x,r,rfl,h1,t1⟩:=r1;cases qs with
  | nil=>cases (show x::r=[] from r2)
  | cons q qs=>
   obtain⟨x2,r2',z,h2,t2⟩:=r2;cases z;simp only[cz] at e;obtain⟨b1,e1,e⟩:=MU.mp e;obtain⟨b2,e2,e⟩:=MU.mp e;cases e;rw[jb I p q x b1 h1.o h2.o e1,lH I ps qs r b2 t1 t2 e2];rfl
end
theorem nE{p q:PV}{ps qs:List PV}{j:Nat}:iK (p::ps) (q::qs) (j+1)=iK ps qs j:=by simp[iK]
theorem kO:∀(ps qs:List PV)(b:Bool),cz ps qs=some b->((MX (min ps.length qs.length)).all (iK ps qs) && ps.length == qs.length)=b
 | [],[],b,e=>by simp[cz] at e;simp[e]
 | [],_::_,b,e=>by simp[cz] at e;simp[e]
 | _::_,[],b,e=>by simp[cz] at e;simp[e]
 | p::ps,q::qs,b,e=>by
  simp only[cz] at e;obtain⟨b1,e1,e⟩:=MU.mp e;obtain⟨b2,e2,e⟩:=MU.mp e;cases e;have ih:=kO ps qs b2 e2;have hm:min (p::ps).length (q::qs).length=min ps.length qs.length+1:=by simp only[Mr];omega
  rw[hm,SO,OB,List.all_map];have h0:iK (p::ps) (q::qs) 0=b1:=by simp[iK,e1]
  have hs:(iK (p::ps) (q::qs) ∘ Nat.succ)=iK ps qs:=by funext j;exact nE
  rw[h0,hs,← ih,Mr,Mr];simp[Bool.and_assoc]
theorem ox:∀{ps:List PV}{j:Nat}{p:PV},ps[j]?=some p->yu p<=dM ps
 | [],_,_,h=>by simp at h
 | p::ps,0,_,h=>by simp at h;subst h;simp only[dM];omega
 | p::ps,j+1,q,h=>by
  have:=ox (ps:=ps) (j:=j) (p:=q) (by simpa using h);simp only[dM];omega
mutual
theorem xw(I:Inv X pins σ H s):∀(p q:PV)(A:Mt)(v u:V)(v' u':M9)(b:Bool),bp X.K H p v->bp X.K H q u->RelV v v'->RelV u u'->bU p q=some b->A.units+yu p<cLine->EqAt A s v' u' b
 | .non,q,A,v,u,v',u',b,h1,h2,e1,e2,e,hu=>by
  cases (show v=.non from h1);cases e1;have hu:=P3 (QG _ _) hu;cases q with
  | non=>cases (show u=.non from h2);cases e2;simp[bU] at e;subst e;exact EqAt.same _
  | bl j=>cases (show u=.bl j from h2);cases e2;simp[bU] at e;subst e;exact EqAt.none_bool j
  | int j=>cases (show u=.int j from h2);obtain⟨t,rfl⟩:=e2;simp[bU] at e;subst e;exact EqAt.none_int j t
  | str j=>cases (show u=.str j from h2);obtain⟨t,rfl⟩:=e2;simp[bU] at e;subst e;exact EqAt.none_str j t
  | tup qs=>obtain⟨a,xs,rfl,g,_⟩:=bp.tup_inv h2;cases e2;obtain⟨its,_,pl,_⟩:=I.tuple g;simp[bU] at e;subst e;exact EqAt.none_tuple pl hu
  | lst qs=>obtain⟨a,xs,rfl,g,_⟩:=bp.lst_inv h2;cases e2;obtain⟨its,_,pl,_⟩:=I.list g.l;simp[bU] at e;subst e;exact EqAt.none_list pl.isList hu
  | _=>simp[bU] at e
 | .bl i,q,A,v,u,v',u',b,h1,h2,e1,e2,e,hu=>by
  cases (show v=.bl i from h1);cases e1;have hu:=P3 (QG _ _) hu;cases q with
  | non=>cases (show u=.non from h2);cases e2;simp[bU] at e;subst e;exact EqAt.bool_none i
  | bl j=>cases (show u=.bl j from h2);cases e2;simp only[bU,Nc] at e;subst e;exact EqAt.bool_bool i j
  | int j=>cases (show u=.int j from h2);obtain⟨t,rfl⟩:=e2;simp only[bU,Nc] at e;subst e;exact EqAt.bool_int i j t
  | str j=>cases (show u=.str j from h2);obtain⟨t,rfl⟩:=e2;simp[bU] at e;subst e;exact EqAt.bool_str i j t
  | tup qs=>obtain⟨a,xs,rfl,g,_⟩:=bp.tup_inv h2;cases e2;obtain⟨its,_,pl,_⟩:=I.tuple g;simp[bU] at e;subst e;exact EqAt.bool_tuple i pl hu
  | lst qs=>obtain⟨a,xs,rfl,g,_⟩:=bp.lst_inv h2;cases e2;obtain⟨its,_,pl,_⟩:=I.list g.l;simp[bU] at e;subst e;exact EqAt.bool_list i pl.isList hu
  | _=>simp[bU] at e
 | .int i,q,A,v,u,v',u',b,h1,h2,e1,e2,e,hu=>by
  cases (show v=.int i from h1);obtain⟨t',rfl⟩:=e1;have hu:=P3 (QG _ _) hu;cases q with
  | non=>cases (show u=.non from h2);cases e2;simp[bU] at e;subst e;exact EqAt.int_none i t'
  | bl j=>cases (show u=.bl j from h2);cases e2;simp only[bU,Nc] at e;subst e;exact EqAt.int_bool i t' j
  | int j=>cases (show u=.int j from h2);obtain⟨t,rfl⟩:=e2;simp only[bU,Nc] at e;subst e;exact EqAt.int_int i t' j t
  | str j=>cases (show u=.str j from h2);obtain⟨t,rfl⟩:=e2;simp[bU] at e;subst e;exact EqAt.int_str i t' j t
  | tup qs=>obtain⟨a,xs,rfl,g,_⟩:=bp.tup_inv h2;cases e2;obtain⟨its,_,pl,_⟩:=I.tuple g;simp[bU] at e;subst e;exact EqAt.int_tuple i t' pl hu
  | lst qs=>obtain⟨a,xs,rfl,g,_⟩:=bp.lst_inv h2;cases e2;obtain⟨its,_,pl,_⟩:=I.list g.l;simp[bU] at e;subst e;exact EqAt.int_list i t' pl.isList hu
  | _=>simp[bU] at e
 | .str i,q,A,v,u,v',u',b,h1,h2,e1,e2,e,hu=>by
  cases (show v=.str i from h1);obtain⟨t',rfl⟩:=e1;have hu:=P3 (QG _ _) hu;cases q with
  | non=>cases (show u=.non from h2);cases e2;simp[bU] at e;subst e;exact EqAt.str_none i t'
  | bl j=>cases (show u=.bl j from h2);cases e2;simp[bU] at e;subst e;exact EqAt.str_bool i t' j
  | int j=>cases (show u=.int j from h2);obtain⟨t,rfl⟩:=e2;simp[bU] at e;subst e;exact EqAt.str_int i t' j t
  | str j=>cases (show u=.str j from h2);obtain⟨t,rfl⟩:=e2;simp only[bU,Nc] at e;subst e;exact EqAt.str_str i t' j t
  | tup qs=>obtain⟨a,xs,rfl,g,_⟩:=bp.tup_inv h2;cases e2;obtain⟨its,_,pl,_⟩:=I.tuple g;simp[bU] at e;subst e;exact EqAt.str_tuple i t' pl hu
  | lst qs=>obtain⟨a,xs,rfl,g,_⟩:=bp.lst_inv h2;cases e2;obtain⟨its,_,pl,_⟩:=I.list g.l;simp[bU] at e;subst e;exact EqAt.str_list i t' pl.isList hu
  | _=>simp[bU] at e
 | .tup ps,q,A,v,u,v',u',b,h1,h2,e1,e2,e,hu=>by
  obtain⟨a,xs,rfl,g1,r1⟩:=bp.tup_inv h1;cases e1;obtain⟨its,rv,pl,_⟩:=I.tuple g1;simp only[yu] at hu;have hu0:A.units<cLine:=by omega
  cases q with
  | non=>cases (show u=.non from h2);cases e2;simp[bU] at e;subst e;exact EqAt.tuple_none pl hu0
  | bl j=>cases (show u=.bl j from h2);cases e2;simp[bU] at e;subst e;exact EqAt.tuple_bool j pl hu0
  | int j=>cases (show u=.int j from h2);obtain⟨t,rfl⟩:=e2;simp[bU] at e;subst e;exact EqAt.tuple_int j t pl hu0
  | str j=>cases (show u=.str j from h2);obtain⟨t,rfl⟩:=e2;simp[bU] at e;subst e;exact EqAt.tuple_str j t pl hu0
  | lst qs=>obtain⟨a2,ys,rfl,g,_⟩:=bp.lst_inv h2;cases e2;obtain⟨its2,_,pl2,_⟩:=I.list g.l;simp[bU] at e;subst e;exact EqAt.tuple_list pl pl2.isList hu0
  | tup qs=>
   by_cases hv:V.ref a=u
   ·subst hv
    rw[jb I _ _ _ b h1 h2 e];cases e2;exact EqAt.same _
   ·obtain⟨a2,ys,rfl,g2,r2⟩:=bp.tup_inv h2
    cases e2;obtain⟨its2,rv2,pl2,_⟩:=I.tuple g2;have l1:=r1.length;have l2:=r2.length;have l3:=rv.length;have l4:=rv2.length;have e':cz ps qs=some b:=by simpa [bU] using e
    rw[← kO ps qs b e',show ps.length=its.toArray.size by simp;omega,show qs.length=its2.toArray.size by simp;omega];refine EqAt.of_refs (fun z=>hv (by rw[z])) (RcAt.tuples pl pl2 hu0 fun j j1 j2=>?_);have:=mq I ps qs A.in1 xs ys its its2 b r1 r2 rv rv2 e' (by show A.units+1+_<_;omega) j (by simpa using j1) (by simpa using j2);simpa using this
  | _=>simp[bU] at e
 | .lst ps,q,A,v,u,v',u',b,h1,h2,e1,e2,e,hu=>by
  obtain⟨a,xs,rfl,g1,r1⟩:=bp.lst_inv h1;cases e1;obtain⟨its,rv,pl,_⟩:=I.list g1.l;simp only[yu] at hu;have hu0:A.units<cLine:=by omega
  cases q with
  | non=>cases (show u=.non from h2);cases e2;simp[bU] at e;subst e;exact EqAt.list_none pl.isList hu0
  | bl j=>cases (show u=.bl j from h2);cases e2;simp[bU] at e;subst e;exact EqAt.list_bool j pl.isList hu0
  | int j=>cases (show u=.int j from h2);obtain⟨t,rfl⟩:=e2;simp[bU] at e;subst e;exact EqAt.list_int j t pl.isList hu0
  | str j=>cases (show u=.str j from h2);obtain⟨t,rfl⟩:=e2;simp[bU] at e;subst e;exact EqAt.list_str j t pl.isList hu0
  | tup qs=>obtain⟨a2,ys,rfl,g,_⟩:=bp.tup_inv h2;cases e2;obtain⟨its2,_,pl2,_⟩:=I.tuple g;simp[bU] at e;subst e;exact EqAt.list_tuple pl.isList pl2 hu0
  | lst qs=>
   by_cases hv:V.ref a=u
   ·subst hv
    rw[jb I _ _ _ b h1 h2 e];cases e2;exact EqAt.same _
   ·obtain⟨a2,ys,rfl,g2,r2⟩:=bp.lst_inv h2
    cases e2;obtain⟨its2,rv2,pl2,_⟩:=I.list g2.l;have l1:=r1.length;have l2:=r2.length;have l3:=rv.length;have l4:=rv2.length;have e':cz ps qs=some b:=by simpa [bU] using e
    have hp:=kO ps qs b e';refine EqAt.of_refs (fun z=>hv (by rw[z])) ?_
    by_cases hl:ps.length=qs.length
    ·have hb:(MX its.toArray.size).all (iK ps qs)=b:=by
      rw[← hp,hl,RE,beq_self_eq_true,Qi,show its.toArray.size=qs.length by simp;omega]
     rw[← hb];refine RcAt.lists pl.isList pl2.isList (by simp;omega) hu0 fun j j1 j2=>?_;have:=mq I ps qs A.in1 xs ys its its2 b r1 r2 rv rv2 e' (by show A.units+1+_<_;omega) j (by simpa using j1) (by simpa using j2);simpa using this
    ·have hb:b=false:=by
      rw[← hp,beq_eq_false_iff_ne.mpr hl,QV]
     rw[hb];exact RcAt.lists_lengths pl.isList pl2.isList (by simp;omega) hu0
  | _=>simp[bU] at e
 | .dct _ _,_,_,_,_,_,_,_,_,_,_,_,e,_=>by simp[bU] at e
 | .dtt _ _,_,_,_,_,_,_,_,_,_,_,_,e,_=>by simp[bU] at e
 | .fn _ _,_,_,_,_,_,_,_,_,_,_,_,e,_=>by simp[bU] at e
theorem mq(I:Inv X pins σ H s):∀(ps qs:List PV)(A:Mt)(xs ys:List V)(vs ws:List M9)(b:Bool),aH X.K H ps xs->aH X.K H qs ys->Vals xs vs->Vals ys ws->cz ps qs=some b->A.units+dM ps<cLine->
  ∀j (h1:j<vs.length) (h2:j<ws.length),EqAt A s vs[j] ws[j] (iK ps qs j)
 | [],qs,A,xs,ys,vs,ws,b,r1,r2,rv,rw',e,hu,j,h1,h2=>by
  cases r1;cases rv;exact absurd h1 (O0 _)
 | p::ps,[],A,xs,ys,vs,ws,b,r1,r2,rv,rw',e,hu,j,h1,h2=>by
  cases r2;cases rw';exact absurd h2 (O0 _)
 | p::ps,q::qs,A,xs,ys,vs,ws,b,r1,r2,rv,rw',e,hu,j,h1,h2=>by
  obtain⟨x,r,rfl,p1,t1⟩:=r1;obtain⟨y,r',rfl,p2,t2⟩:=r2;cases rv with
  | cons a1 c1=>
   cases rw' with
   | cons a2 c2=>
    simp only[cz] at e;obtain⟨b1,e1,e⟩:=MU.mp e;obtain⟨b2,e2,e⟩:=MU.mp e;simp only[dM] at hu;cases j with
    | zero=>
     have:iK (p::ps) (q::qs) 0=b1:=by simp[iK,e1]
     rw[this];exact xw I p q A x y _ _ b1 p1.o p2.o a1 a2 e1 (by omega)
    | succ j=>
     rw[nE];exact mq I ps qs A r r' _ _ b2 t1 t2 c1 c2 e2 (by omega) j (Sj h1) (Sj h2)
end
end
end PU
namespace PU
open PySem PySem.Spec PyProof.Rows L2 PySem.SeqAt PySem.Calls PyProof.V
variable[TW]
def EqW(P:Md)(w:Ml)(A:Mt)(s:MD)(y x:M9)(b:Bool):Prop:=∀(E:M9->MD->Prop)(Q:Bool->MD->Prop),Q b s->Mf (Ms P w) A (eqBool y x) Q E s
theorem EqW.of{P:Md}{w:Ml}{A:Mt}{s:MD}{y x:M9}{b:Bool}(h:EqAt A s y x b):EqW P w A s y x b:=fun E Q q=>h P w E Q q
section
variable{P : Md}{w : Ml}{κ : Type}[DecidableEq κ]{kd : KeyKind P w κ}{A : Mt}{E : M9 → MD → Prop}{s : MD}
inductive HitW (P:Md) (w:Ml) (A:Mt) (s:MD) (other:List (κ×M9)):List (κ×M9)->Bool->Prop
 | done:HitW P w A s other [] true
 | lacks {k:κ} {v:M9} {t:List (κ×M9)}:Nh other k=none->HitW P w A s other ((k,v)::t) false
 | meets {k:κ} {v y:M9} {t:List (κ×M9)} {e b:Bool}:Nh other k=some y->EqW P w A s v y e->HitW P w A s other t b->HitW P w A s other ((k,v)::t) (e && b)
theorem HitW.split{other:List (κ×M9)}{k:κ}{v:M9}{t:List (κ×M9)}{b:Bool}(h:HitW P w A s other ((k,v)::t) b) :
  (Nh other k=none/\b=false)\/∃y e c,Nh other k=some y/\EqW P w A s v y e/\HitW P w A s other t c/\b=(e && c):=by
 cases h with
 | lacks n=>exact .inl ⟨n,rfl⟩
 | meets y1 y2 y3=>exact .inr ⟨_,_,_,y1,y2,y3,rfl⟩
theorem ue{nm:String}{d1 d2:Addr}{l1 l2:List (κ×M9)}{r:Bool}{Q:Bool->MD->Prop}(n1:(d1 == N6)=false)(n2:(d2 == N6)=false)(D1:s.heap.DictOf kd d1 l1)(D2:s.heap.DictOf kd d2 l2)
  (hh:l1.length=l2.length->HitW P w A s l2 l1 r) (q:Q (l1.length == l2.length && r) s):Mf (Ms P w) A (RJ nm d1 d2) Q E s:=by
 obtain⟨o1,es1,c1,get1,_,dat1,ks1,prs1,_⟩:=D1;obtain⟨o2,es2,c2,get2,_,dat2,ks2,prs2,_⟩:=D2;have len1:l1.length=es1.size:=by rw[← prs1.length];exact NI
 have len2:l2.length=es2.size:=by rw[← prs2.length];exact NI
 have seek:∀k,findBy kd.is es2 k=Nh l2 k:=fun k=>by
  rw[← prs2.find k];clear len2 prs2 ks2 dat2 get2;cases es2;simp[findBy]
 rw[len1,len2] at q;unfold RJ Builtin.Dict.showsAll;rw[if_neg (by rw[n1];exact MO),if_neg (by rw[n2];exact MO)];refine MA (MK (MA (MK (MA (Og get1 dat1 ?_)))));dsimp only;refine MA (Og get2 dat2 ?_)
 by_cases sz:es1.size=es2.size
 case neg=>
  rw[if_pos (by simpa using sz)];have no:(es1.size == es2.size)=false:=by simpa using sz
  rw[no,Rn] at q;exact MA (Q1 (MK q))
 case pos=>
  have q':Q r s:=by simpa [sz] using q
  have hh':=hh (by rw[len1,len2];exact sz);rw[if_neg (by rw[sz];simp)];refine MA (wpAny_dictEpoch get1 dat1 (MA ?_));rw[Std.Legacy.Range.forIn_eq_forIn_range'];simp only[Std.Legacy.Range.size,Nat.sub_zero,Nat.add_sub_cancel,Nat.div_one];refine Rp _ (fun todo z s'=>s'=s/\z=(none,())/\∃j,todo=QU j (es1.size-j)/\j<=es1.size/\HitW P w A s l2 (l1.drop j) r) _ ?_ ?_ _ _ ⟨rfl,rfl,0,by simp,Nu _,hh'⟩
  ·rintro x todo z s' ⟨rfl,rfl,j,et,hj,rest⟩
   have lt:j<es1.size:=by
    rcases OA j es1.size with g | g
    ·exact g
    ·rw[Nat.sub_eq_zero_of_le g] at et;simp at et
   have e1:es1.size-j=(es1.size-(j+1))+1:=by omega
   rw[e1,RL] at et;injection et with ex et;subst ex;refine MA (Og get1 dat1 ?_);rw[Oo lt];have lt':x<l1.length:=by rw[len1];exact lt
   obtain⟨k,v,ekv⟩:∃k v,l1[x]=(k,v):=⟨_,_,rfl⟩;have cut:l1.drop x=(k,v)::l1.drop (x+1):=by rw[← ekv];exact Pv lt'
   obtain⟨isk,isv⟩:=prs1.get? (i:=x) (e:=es1[x]) (k:=k) (v:=v) (by rw[SX];exact Oo lt) (by rw[ME lt',ekv]);obtain⟨k',isk',hs⟩:=ks1 es1[x] (Array.getElem_mem lt);have ek:k'=k:=kd.inj _ _ _ isk' isk;rw[ek] at hs;rw[cut] at rest;show Mf _ _ (holding [es1[x].key,es1[x].val] _ >>= _) _ _ _;rw[hs];refine MA (O5 (MA (wpAny_dictFind_of isk get2 dat2 ks2 ?_)));cases at2:es2.findIdx? fun e=>kd.is k e.key with
   | none=>
    have nn:Nh l2 k=none:=by rw[← seek k,findBy_of_findIdx?,at2]
    rcases rest.split with⟨_,er⟩|⟨y,_,_,hy,_⟩
    ·rw[er] at q'
     refine MK ?_;show Mf _ _ (if (!false)=true then _ else _) _ _ _;rw[if_pos (by decide)];exact MK (MK q')
    ·rw[nn] at hy;cases hy
   | some m=>
    obtain⟨mlt,_,_⟩:=Array.findIdx?_eq_some_iff_getElem.mp at2
    have vv:Nh l2 k=some es2[m].val:=by
     rw[← seek k,findBy_of_findIdx?,at2];simp[Oo mlt]
    refine MA (Og get2 dat2 ?_);rw[Oo mlt];rcases rest.split with⟨nn,_⟩|⟨y,e,c,hy,he,ht,er⟩
    ·rw[vv] at nn;cases nn
    ·have ey:es2[m].val=y:=Mq (vv.symm.trans hy)
     rw[← ey,← isv] at he;refine O5 (he _ _ ?_);cases e with
     | false=>
      rw[er,Rn] at q';show Mf _ _ (if (!false)=true then _ else _) _ _ _;rw[if_pos (by decide)];exact MK (MK q')
     | true=>
      rw[SA] at er;rw[← er] at ht;show Mf _ _ (if (!true)=true then _ else _) _ _ _;rw[if_neg (by decide)];refine MA (wpAny_dictEpoch get1 dat1 ?_);rw[if_neg (by simp)];exact MK ⟨rfl,rfl,x+1,et,lt,ht⟩
  ·rintro z s' ⟨rfl,rfl,j,et,hj,rest⟩
   have ej:j=es1.size:=by
    rcases OA j es1.size with g | g
    ·have e1:es1.size-j=(es1.size-(j+1))+1:=by omega
     rw[e1,RL] at et;cases et
    ·exact Nat.le_antisymm hj g
   refine MK ?_;rw[ej,← len1,QD] at rest;cases rest;exact q'
theorem kX{d1 d2:Addr}{l1 l2:List (κ×M9)}{r:Bool}{Q:M9->MD->Prop}(n1:(d1 == N6)=false)(n2:(d2 == N6)=false)(D1:s.heap.DictOf kd d1 l1)(D2:s.heap.DictOf kd d2 l2)(hu:A.units<cLine)
  (hh:l1.length=l2.length->HitW P w A.in1 s l2 l1 r) (q:Q (.bool (l1.length == l2.length && r)) s):Mf (Ms P w) A (richCompare .Eq (.ref d1) (.ref d2)) Q E s:=by
 refine wpAny_richCompare_same_room (op:=.Eq) D1.typeIs D2.typeIs SE (QP SE D1.typeIs PySem.F.entry_dict_eq ?_ (PySem.F.args_dict_eq_2 _ _)) hu;show Mf _ _ (Qu "__eq__" ⟨[.ref d1,.ref d2],[]⟩ >>= _) _ _ s;unfold Qu;refine MA (MA (Qf D1.typeIs ?_));show Mf _ _ (pure (Ni d1,Ni d2)) _ _ s;refine MK (MA (Ro (T:="dict") D2.typeIs PySem.F.sub_dict_dict ?_));simp only[SB,NG,if_false];refine MA (MK (MA (MK (MA (ue n1 n2 D1 D2 hh (MK ⟨_,rfl,(fun z=>nomatch z),?_⟩))))));simpa using q
end
section
variable{X : Cx}{pins : List (Addr×Obj)}{σ : L2.St}{H : Hp}{s : MD}
theorem mT{kvs:List (Key×V)}{vs:List (Key×M9)}(r:KV kvs vs)(k:Key):(jB kvs k=none/\Nh vs k=none)\/∃v u,jB kvs k=some v/\Nh vs k=some u/\RelV v u:=by
 induction r with
 | nil=>exact .inl ⟨rfl,rfl⟩
 | @cons p q ps qs h t ih=>
  obtain⟨h1,h2⟩:=h
  by_cases e:p.1=k
  ·refine .inr ⟨p.2,q.2,iR e,?_,h2⟩
   simp[Nh,Nw,← h1,e]
  ·rw[fQ e]
   have e2:Nh (q::qs) k=Nh qs k:=by simp[Nh,Nw,← h1,e]
   rw[e2];exact ih
theorem nJ{k:Key}:∀{ks:List Key}{ps:List PV}{kvs:List (Key×V)},kvs.map (·.1)=ks->ps.length=kvs.length->bM ks ps k=none->jB kvs k=none
 | [],_,kvs,e,_,_=>by
  have:kvs=[]:=by simpa using e
  subst this;rfl
 | j::ks,[],kvs,e,hl,_=>by
  have:kvs.length=0:=by simpa using hl.symm
  have:kvs=[]:=N5 this;subst this;cases e
 | j::ks,p::ps,kv::kvs,e,hl,h=>by
  have e1:kv.1=j:=by simpa using congrArg Qp e
  have e2:kvs.map (·.1)=ks:=by simpa using congrArg RK e
  have h:(if j=k then some p else bM ks ps k)=none:=h;split at h
  ·cases h
  ·rename_i hn
   rw[fQ (by rw[e1];exact hn)];exact nJ e2 (by simpa using hl) h
 | j::ks,p::ps,[],e,_,_=>by cases e
theorem gM{K:M8}{H:Hp}{k:Key}:∀{ks:List Key}{ps:List PV}{kvs:List (Key×V)}{p:PV},kvs.map (·.1)=ks->aH K H ps (kvs.map (·.2))->bM ks ps k=some p->∃v,jB kvs k=some v/\Rep K H p v
 | _,_,[],_,h1,h2,e=>by
  subst h1;simp only[O7,bM] at e;cases e
 | _,[],kv::kvs,_,h1,h2,e=>by
  cases h2
 | _,q::ps,kv::kvs,p,h1,h2,e=>by
  subst h1;obtain⟨x,r,ex,hx,ht⟩:=h2;simp only[MC,Nq] at ex;obtain⟨rfl,rfl⟩:=ex;simp only[MC,bM] at e
  by_cases hk:kv.1=k
  ·rw[if_pos hk] at e
   cases e;exact⟨kv.2,iR hk,hx⟩
  ·rw[if_neg hk] at e
   rw[fQ hk];exact gM rfl ht e
theorem oP(A:Mt)(eqf:PV->PV->Option Bool)(I:Inv X pins σ H s){ls:List Key}{qs:List PV}{kvs2:List (Key×V)}{vs2:List (Key×M9)}(e2:kvs2.map (·.1)=ls)(r2:aH X.K H qs (kvs2.map (·.2)))(kv2:KV kvs2 vs2) :
  ∀(ks:List Key)(ps:List PV)(kvs1:List (Key×V))(vs1:List (Key×M9))(b:Bool),kvs1.map (·.1)=ks->aH X.K H ps (kvs1.map (·.2))->KV kvs1 vs1->m4 eqf ks ps ls qs=some b->
   (∀p∈ps,∀(q:PV)(v u:V)(v' u':M9)(c:Bool),bp X.K H p v->bp X.K H q u->RelV v v'->RelV u u'->eqf p q=some c->EqW X.prog X.w A s v' u' c)->HitW X.prog X.w A s vs2 vs1 b
 | [],[],kvs1,vs1,b,e1,r1,kv1,h,_=>by
  have:kvs1=[]:=by simpa using e1
  subst this;cases kv1;have h:some true=some b:=h;cases h;exact .done
 | k::ks,p::ps,kvs1,vs1,b,e1,r1,kv1,h,he=>by
  cases kvs1 with
  | nil=>cases e1
  | cons kv kvs=>
   have ek:kv.1=k:=by simpa using congrArg Qp e1
   have et:kvs.map (·.1)=ks:=by simpa using congrArg RK e1
   obtain⟨x,r,ex,rp,rt⟩:=r1;have exx:kv.2=x:=by simpa using congrArg Qp ex
   have err:kvs.map (·.2)=r:=by simpa using congrArg RK ex
   cases kv1 with
   | @cons _ q _ qs' hd tl=>
    obtain⟨k',u1⟩:=q;obtain⟨h1,h2⟩:=hd;have h1:kv.1=k':=h1;have h2:RelV kv.2 u1:=h2;subst err;rw[← h1,ek];unfold m4 at h;cases hl:bM ls qs k with
    | none=>
     rw[hl] at h;have h:some false=some b:=h;cases h;have:=nJ e2 (by rw[r2.length,MG]) hl;rcases mT kv2 k with⟨_,z⟩|⟨v,u,z,_⟩
     ·exact .lacks z
     ·rw[this] at z;cases z
    | some q2=>
     rw[hl] at h;have h:((eqf p q2).bind fun a=>(m4 eqf ks ps ls qs).bind fun b=>some (a && b))=some b:=h;obtain⟨c1,g1,h⟩:=MU.mp h;obtain⟨c2,g2,h⟩:=MU.mp h;cases h;obtain⟨v2,ev2,rp2⟩:=gM e2 r2 hl;rcases mT kv2 k with⟨z,_⟩|⟨v,u,z,z2,z3⟩
     ·rw[ev2] at z;cases z
     ·rw[ev2] at z
      cases z;exact .meets z2 (he p Mh q2 kv.2 v2 u1 u c1 (exx▸rp.o) rp2.o h2 z3 g1) (oP A eqf I e2 r2 kv2 ks ps kvs qs' c2 et rt tl g2 fun p' hp'=>he p' (Me _ hp'))
 | [],_::_,_,_,_,_,_,_,h,_=>by cases h
 | _::_,[],_,_,_,_,_,_,h,_=>by cases h
theorem wx{k:Key}{r:PV}:∀(ks:List Key)(ps:List PV),ks.length=ps.length->k ∉ ks->∀(ls:List Key)(qs:List PV),bM (ks++k::ls) (ps++r::qs) k=some r
 | [],[],_,_,ls,qs=>by
  show (if k=k then some r else _)=_;rw[if_pos rfl]
 | j::ks,p::ps,hl,hn,ls,qs=>by
  show (if j=k then some p else bM (ks++k::ls) (ps++r::qs) k)=_;rw[if_neg (fun e=>hn (by rw[e];exact Mh))];exact wx ks ps (by simpa using hl) (fun h=>hn (Me _ h)) ls qs
 | [],_::_,h,_,_,_=>by simp at h
 | _::_,[],h,_,_,_=>by simp at h
theorem pL{P:Md}{w:Ml}{κ:Type}[DecidableEq κ]{kd:KeyKind P w κ}:∀{es:List DictEntry}{l1 l2:List (κ×M9)},Pairs kd es l1->Pairs kd es l2->l1=l2
 | _,_,_,.nil,.nil=>rfl
 | _,_,_,.cons a b c,.cons a' b' c'=>by
  rw[pL c c'];have h1:=kd.inj _ _ _ a a';have h2:=b.symm.trans b';rw[Pd h1 h2]
theorem uL{P:Md}{w:Ml}{κ:Type}[DecidableEq κ]{kd:KeyKind P w κ}{h:Heap}{a:Addr}{l1 l2:List (κ×M9)}(d1:h.DictOf kd a l1)(d2:h.DictOf kd a l2):l1=l2:=by
 obtain⟨o1,es1,c1,get1,_,dat1,_,prs1,_⟩:=d1;obtain⟨o2,es2,c2,get2,_,dat2,_,prs2,_⟩:=d2;rw[get1] at get2;cases get2;rw[dat1] at dat2;cases dat2;exact pL prs1 prs2
theorem Bd:∀{l1 l2:List (Key×V)}{vs:List (Key×M9)},KV l1 vs->KV l2 vs->l1=l2
 | _,_,_,.nil,.nil=>rfl
 | _,_,_,.cons a c,.cons a' c'=>by
  rw[Bd c c'];rw[Pd (a.1.trans a'.1.symm) (RelV.inj a.2 a'.2)]
theorem wH:∀{l:List (Key×V)}{vs:List (Key×M9)},KV l vs->l.map (·.1)=vs.map (·.1)
 | _,_,.nil=>rfl
 | _,_,.cons a c=>by rw[MC,MC,wH c,a.1]
theorem qf(eqf:PV->PV->Option Bool)(he:∀(p q:PV)(v:V)(c:Bool),Rep X.K H p v->Rep X.K H q v->eqf p q=some c->c=true):∀(kvs kvs0:List (Key×V))(qs0 qs ps:List PV)(b:Bool),
  ((kvs0++kvs).map (·.1)).Nodup->aH X.K H qs0 (kvs0.map (·.2))->aH X.K H qs (kvs.map (·.2))->aH X.K H ps (kvs.map (·.2))->m4 eqf (kvs.map (·.1)) ps ((kvs0++kvs).map (·.1)) (qs0++qs)=some b->b=true
 | [],kvs0,qs0,qs,ps,b,nd,r0,rq,rp,h=>by
  have:ps=[]:=N5 (by rw[rp.length];rfl);subst this;have h:some true=some b:=h;cases h;rfl
 | kv::kvs,kvs0,qs0,[],ps,b,nd,r0,rq,rp,h=>by
  have:=rq.length;simp at this
 | kv::kvs,kvs0,qs0,q::qs,[],b,nd,r0,rq,rp,h=>by
  have:=rp.length;simp at this
 | kv::kvs,kvs0,qs0,q::qs,p::ps,b,nd,r0,rq,rp,h=>by
  obtain⟨x,r,ex,rp1,rpt⟩:=rp;obtain⟨y,r',ey,rq1,rqt⟩:=rq;have exx:kv.2=x:=by simpa using congrArg Qp ex
  have err:kvs.map (·.2)=r:=by simpa using congrArg RK ex
  have eyy:kv.2=y:=by simpa using congrArg Qp ey
  have err':kvs.map (·.2)=r':=by simpa using congrArg RK ey
  subst exx eyy err;rw[← err'] at rqt
  have nk:kv.1 ∉ kvs0.map (·.1):=fun z=>by
   rw[Mc,NY] at nd;exact nd.2.2 _ z _ (by simp) rfl
  have lk:bM ((kvs0++kv::kvs).map (·.1)) (qs0++q::qs) kv.1=some q:=by
   rw[Mc,MC];exact wx _ _ (by rw[MG,r0.length,MG]) nk _ _
  rw[MC] at h;unfold m4 at h;rw[lk] at h;have h:((eqf p q).bind fun a=>(m4 eqf (kvs.map (·.1)) ps ((kvs0++kv::kvs).map (·.1)) (qs0++q::qs)).bind fun b=>some (a && b))=some b:=h;obtain⟨c1,g1,h⟩:=MU.mp h;obtain⟨c2,g2,h⟩:=MU.mp h;cases h;rw[he p q kv.2 c1 rp1 rq1 g1];have:=qf eqf he kvs (kvs0++[kv]) (qs0++[q]) qs ps c2 (by simpa using nd) (by rw[Mc];exact r0.append (aH.cons rq1 aH.nil)) rqt rpt (by simpa using g2);rw[this];rfl
theorem vT(hw:X.w=TW.w)(I:Inv X pins σ H s):∀(n:Nat)(p q:PV)(v:V)(b:Bool),bp X.K H p v->bp X.K H q v->yt n p q=some b->b=true:=by
 intro n
 induction n with
 | zero=>
  intro p q v b h1 h2 e;have e:bU p q=some b:=by cases p <;> exact e
  exact jb I p q v b h1 h2 e
 | succ n ih=>
  intro p q v b h1 h2 e
  by_cases hd:∃ks ps ls qs,p=.dct ks ps/\q=.dct ls qs
  ·obtain⟨ks,ps,ls,qs,rfl,rfl⟩:=hd
   have e:(if ks.length=ls.length then m4 (yt n) ks ps ls qs else some false)=some b:=e;obtain⟨a1,kvs1,rfl,d1,k1,r1⟩:=h1;obtain⟨a2,kvs2,ea,d2,k2,r2⟩:=h2;cases ea;obtain⟨_,n1,vs1,kv1,D1⟩:=DkR.at hw I d1;obtain⟨_,n2,vs2,kv2,D2⟩:=DkR.at hw I d2;have:=uL D1 D2;subst this;have:=Bd kv1 kv2;subst this;subst k1;subst k2;rw[if_pos rfl] at e;obtain⟨_,_,_,_,_,_,_,_,nd⟩:=D1;exact qf (yt n) (fun p q v c g1 g2 g=>ih p q v c g1.o g2.o g) kvs1 [] [] qs ps b (by rw[Pi,wH kv1];exact nd) aH.nil r2 r1 (by simpa using e)
  ·have e:bU p q=some b:=by
    rw[← e];cases p with
    | dct ks ps=>
     cases q with
     | dct ls qs=>exact absurd ⟨ks,ps,ls,qs,rfl,rfl⟩ hd
     | _=>rfl
    | _=>rfl
   exact jb I p q v b h1 h2 e
theorem DA(hw:X.w=TW.w)(I:Inv X pins σ H s):∀(n:Nat)(p q:PV)(A:Mt)(v u:V)(v' u':M9)(b:Bool),bp X.K H p v->bp X.K H q u->RelV v v'->RelV u u'->yt n p q=some b->A.units+yu p<cLine->EqW X.prog X.w A s v' u' b:=by
 intro n
 induction n with
 | zero=>
  intro p q A v u v' u' b h1 h2 e1 e2 e hu;have e:bU p q=some b:=by cases p <;> exact e
  exact .of (xw I p q A v u v' u' b h1 h2 e1 e2 e hu)
 | succ n ih=>
  intro p q A v u v' u' b h1 h2 e1 e2 e hu
  by_cases hd:∃ks ps ls qs,p=.dct ks ps/\q=.dct ls qs
  ·obtain⟨ks,ps,ls,qs,rfl,rfl⟩:=hd
   have e0:=e;have h10:=h1;have h20:=h2;have e:(if ks.length=ls.length then m4 (yt n) ks ps ls qs else some false)=some b:=e;obtain⟨a1,kvs1,rfl,d1,k1,r1⟩:=h1;obtain⟨a2,kvs2,rfl,d2,k2,r2⟩:=h2;cases e1;cases e2;obtain⟨_,n1,vs1,kv1,D1⟩:=DkR.at hw I d1;obtain⟨_,n2,vs2,kv2,D2⟩:=DkR.at hw I d2;have l1:vs1.length=ks.length:=by rw[← k1,MG];exact(N3 kv1).symm
   have l2:vs2.length=ls.length:=by rw[← k2,MG];exact(N3 kv2).symm
   simp only[yu] at hu;have hu0:A.units<cLine:=by omega
   have dep:∀p∈ps,yu p<=dM ps:=fun p hp=>by
    obtain⟨j,hj⟩:=PR.mp hp;exact ox hj
   by_cases same:a1=a2
   ·subst same
    rw[vT hw I (n+1) _ _ _ b h10 h20 e0];exact .of (EqAt.same _)
   ·intro E Q hq
    unfold eqBool;refine O5 (wpAny_ite_split (fun hab=>absurd (by have:=Oz hab;injection this) same) fun _=>MA ?_)
    by_cases hl:ks.length=ls.length
    ·rw[if_pos hl] at e
     refine kX (r:=b) n1 n2 D1 D2 hu0 (fun _=>oP A.in1 (yt n) I k2 r2 kv2 ks ps kvs1 vs1 b k1 r1 kv1 e fun p hp q v u v' u' c g1 g2 g3 g4 g5=>ih p q A.in1 v u v' u' c g1 g2 g3 g4 g5 ?_) (OD ?_)
     ·have:=dep p hp
      show A.units+1+_<_;omega
     ·have:(vs1.length == vs2.length)=true:=by rw[l1,l2,hl];simp
      rw[this,SA];exact hq
    ·rw[if_neg hl] at e
     cases e;refine kX (r:=false) n1 n2 D1 D2 hu0 (fun z=>absurd (by rw[← l1,← l2];exact z) hl) (OD ?_);rw[QV];exact hq
  ·have e:bU p q=some b:=by
    rw[← e];cases p with
    | dct ks ps=>
     cases q with
     | dct ls qs=>exact absurd ⟨ks,ps,ls,qs,rfl,rfl⟩ hd
     | _=>rfl
    | _=>rfl
   exact .of (xw I p q A v u v' u' b h1 h2 e1 e2 e hu)
end
end PU
namespace PU
open PySem PySem.Spec PyProof.Rows L2 PySem.SeqAt
variable[TW]
theorem cn{K:M8}{H:Hp}{p:PV}{v:V}(h:pb p=true)(r:bp K H p v):v=scV p:=by
 cases p with
 | non=>exact r
 | bl b=>exact r
 | int i=>exact r
 | str x=>exact r
 | _=>cases h
section
variable{X : Cx}
theorem su{pins:List (Addr×Obj)}{σ:L2.St}{H:Hp}{s:MD}{ps qs:List PV}{v u:V}{v' u':M9}{b:Bool}(hu:X.A.units+64<cLine)(I:Inv X pins σ H s)(e:cz ps qs=some b)(hd:dM ps<=60) :
  (bp X.K H (.tup ps) v->bp X.K H (.tup qs) u->RelV v v'->RelV u u'->RcAt X.A s v' u' b/\RcNeAt X.A s v' u' (!b))/\
  (bp X.K H (.lst ps) v->bp X.K H (.lst qs) u->RelV v v'->RelV u u'->RcAt X.A s v' u' b/\RcNeAt X.A s v' u' (!b)):=by
 have hu0:X.A.units<cLine:=by omega
 have hp:=kO ps qs b e;constructor
 ·intro h1 h2 e1 e2
  obtain⟨a,xs,rfl,g1,r1⟩:=bp.tup_inv h1;obtain⟨a2,ys,rfl,g2,r2⟩:=bp.tup_inv h2;cases e1;cases e2;obtain⟨its,rv,pl,_⟩:=I.tuple g1;obtain⟨its2,rv2,pl2,_⟩:=I.tuple g2;have l1:=r1.length;have l2:=r2.length;have l3:=rv.length;have l4:=rv2.length
  have each:∀j (j1:j<its.toArray.size) (j2:j<its2.toArray.size),EqAt X.A.in1 s its.toArray[j] its2.toArray[j] (iK ps qs j):=fun j j1 j2=>by
   have:=mq I ps qs X.A.in1 xs ys its its2 b r1 r2 rv rv2 e (by show X.A.units+1+_<_;omega) j (by simpa using j1) (by simpa using j2);simpa using this
  rw[← hp,show ps.length=its.toArray.size by simp;omega,show qs.length=its2.toArray.size by simp;omega];exact⟨RcAt.tuples pl pl2 hu0 each,RcNeAt.tuples pl pl2 hu0 each⟩
 ·intro h1 h2 e1 e2
  obtain⟨a,xs,rfl,g1,r1⟩:=bp.lst_inv h1;obtain⟨a2,ys,rfl,g2,r2⟩:=bp.lst_inv h2;cases e1;cases e2;obtain⟨its,rv,pl,_⟩:=I.list g1.l;obtain⟨its2,rv2,pl2,_⟩:=I.list g2.l;have l1:=r1.length;have l2:=r2.length;have l3:=rv.length;have l4:=rv2.length
  have each:∀j (j1:j<its.toArray.size) (j2:j<its2.toArray.size),EqAt X.A.in1 s its.toArray[j] its2.toArray[j] (iK ps qs j):=fun j j1 j2=>by
   have:=mq I ps qs X.A.in1 xs ys its its2 b r1 r2 rv rv2 e (by show X.A.units+1+_<_;omega) j (by simpa using j1) (by simpa using j2);simpa using this
  by_cases hl:ps.length=qs.length
  ·have hb:(MX its.toArray.size).all (iK ps qs)=b:=by
    rw[← hp,hl,RE,beq_self_eq_true,Qi,show its.toArray.size=qs.length by simp;omega]
   rw[← hb];exact⟨RcAt.lists pl.isList pl2.isList (by simp;omega) hu0 each,RcNeAt.lists pl.isList pl2.isList (by simp;omega) hu0 each⟩
  ·have hb:b=false:=by
    rw[← hp,beq_eq_false_iff_ne.mpr hl,QV]
   rw[hb];exact⟨RcAt.lists_lengths pl.isList pl2.isList (by simp;omega) hu0,RcNeAt.lists_lengths pl.isList pl2.isList (by simp;omega) hu0⟩
theorem oz(hu:X.A.units+64<cLine)(hw:X.w=TW.w:=by rfl):OpR X (N8 .Eq) (rP X.K gEq):=by
 intro pins s σ H x y v u Q I rx ry ⟨p,q,z,hp,hq,e,k⟩;unfold gEq at e;split at e
 ·rename_i ks ps ls qs
  split at e
  ·rename_i hd
   obtain⟨b,eb,ez⟩:=MR.mp e;subst ez;have eb:(if ks.length=ls.length then m4 (yt 2) ks ps ls qs else some false)=some b:=eb;obtain⟨a1,kvs1,rfl,d1,k1,r1⟩:=hp;obtain⟨a2,kvs2,rfl,d2,k2,r2⟩:=hq;cases rx;cases ry;obtain⟨_,n1,vs1,kv1,D1⟩:=DkR.at hw I d1;obtain⟨_,n2,vs2,kv2,D2⟩:=DkR.at hw I d2;have l1:vs1.length=ks.length:=by rw[← k1,MG];exact(N3 kv1).symm
   have l2:vs2.length=ls.length:=by rw[← k2,MG];exact(N3 kv2).symm
   have fin:EP X pins σ Q (.bool b) s:=⟨.bl b,H,I,rfl,k _ H (Same.refl H) rfl⟩;have hu0:X.A.units<cLine:=by omega
   by_cases hl:ks.length=ls.length
   ·rw[if_pos hl] at eb
    refine kX (r:=b) n1 n2 D1 D2 hu0 (fun _=>oP X.A.in1 (yt 2) I k2 r2 kv2 ks ps kvs1 vs1 b k1 r1 kv1 eb fun p hp q v u v' u' c g1 g2 g3 g4 g5=>DA hw I 2 p q X.A.in1 v u v' u' c g1 g2 g3 g4 g5 ?_) ?_
    ·obtain⟨j,hj⟩:=PR.mp hp
     have:=ox hj;show X.A.units+1+_<_;omega
    ·have:(vs1.length == vs2.length)=true:=by rw[l1,l2,hl];simp
     rw[this,SA];exact fin
   ·rw[if_neg hl] at eb
    cases eb;refine kX (r:=false) n1 n2 D1 D2 hu0 (fun z=>absurd (by rw[← l1,← l2];exact z) hl) ?_;rw[QV];exact fin
  ·cases e
 ·split at e
  ·rename_i hd
   obtain⟨b,eb,ez⟩:=MR.mp e;subst ez;exact((su hu I eb hd).1 hp hq rx ry).1 _ _ _ _ ⟨.bl b,H,I,rfl,k _ H (Same.refl H) rfl⟩
  ·cases e
 ·split at e
  ·rename_i hd
   obtain⟨b,eb,ez⟩:=MR.mp e;subst ez;exact((su hu I eb hd).2 hp hq rx ry).1 _ _ _ _ ⟨.bl b,H,I,rfl,k _ H (Same.refl H) rfl⟩
  ·cases e
 ·split at e
  ·rename_i hc
   obtain⟨h1,h2,h3⟩:=hc;cases e;rw[cn h1 hp] at rx;rw[cn h2 hq] at ry;exact Jh pins s σ H _ _ v u Q I rx ry ⟨h3,k _ H (Same.refl H) rfl⟩
  ·cases e
theorem FQ(hu:X.A.units+64<cLine):OpR X (N8 .NotEq) (rP X.K gNe):=by
 intro pins s σ H x y v u Q I rx ry ⟨p,q,z,hp,hq,e,k⟩;unfold gNe at e;split at e
 ·split at e
  ·rename_i hd
   obtain⟨b,eb,ez⟩:=MR.mp e;subst ez;exact((su hu I eb hd).1 hp hq rx ry).2 _ _ _ _ ⟨.bl (!b),H,I,rfl,k _ H (Same.refl H) rfl⟩
  ·cases e
 ·split at e
  ·rename_i hd
   obtain⟨b,eb,ez⟩:=MR.mp e;subst ez;exact((su hu I eb hd).2 hp hq rx ry).2 _ _ _ _ ⟨.bl (!b),H,I,rfl,k _ H (Same.refl H) rfl⟩
  ·cases e
 ·split at e
  ·rename_i hc
   obtain⟨h1,h2,h3⟩:=hc;cases e;rw[cn h1 hp] at rx;rw[cn h2 hq] at ry;exact Je pins s σ H _ _ v u Q I rx ry ⟨h3,k _ H (Same.refl H) rfl⟩
  ·cases e
theorem FR:OpR X (N8 .Lt) (rP X.K gLt):=by
 intro pins s σ H x y v u Q I rx ry ⟨p,q,z,hp,hq,e,k⟩;unfold gLt at e;split at e
 ·rename_i i j
  cases e;cases (show x=.int i from hp);cases (show y=.int j from hq);exact Jf pins s σ H _ _ v u Q I rx ry ⟨i,j,rfl,rfl,k _ H (Same.refl H) rfl⟩
 ·rename_i i j
  cases e;cases (show x=.str i from hp);cases (show y=.str j from hq);exact vX pins s σ H _ _ v u Q I rx ry ⟨i,j,rfl,rfl,k _ H (Same.refl H) rfl⟩
 ·cases e
theorem Ll:OpR X (N8 .LtE) (rP X.K gLe):=by
 intro pins s σ H x y v u Q I rx ry ⟨p,q,z,hp,hq,e,k⟩;unfold gLe at e;split at e
 ·rename_i i j
  cases e;cases (show x=.int i from hp);cases (show y=.int j from hq);exact Jg pins s σ H _ _ v u Q I rx ry ⟨i,j,rfl,rfl,k _ H (Same.refl H) rfl⟩
 ·rename_i i j
  cases e;cases (show x=.str i from hp);cases (show y=.str j from hq);obtain⟨t,rfl⟩:=rx;obtain⟨t',rfl⟩:=ry;exact PySem.P.le_str ⟨.bl _,H,I,rfl,k _ H (Same.refl H) rfl⟩
 ·cases e
theorem Cd{K:M8}{H:Hp}{p:PV}{v:V}(r:bp K H p v):decide (v=.non)=GI p:=by
 cases p with
 | non=>cases (show v=.non from r);rfl
 | bl b=>cases (show v=.bl b from r);rfl
 | int b=>cases (show v=.int b from r);rfl
 | str b=>cases (show v=.str b from r);rfl
 | tup ps=>obtain⟨a,xs,rfl,_⟩:=bp.tup_inv r;rfl
 | lst ps=>obtain⟨a,xs,rfl,_⟩:=bp.lst_inv r;rfl
 | dct ks ps=>obtain⟨a,kvs,rfl,_⟩:=r;rfl
 | dtt ks ps=>obtain⟨a,kvs,rfl,_⟩:=r;rfl
 | fn L cs=>obtain⟨f,_,_,_,_,_,rfl,_⟩:=(show Rep K H (.fn L cs) v from r);rfl
theorem Ji:OpR X (N8 .Is) (rP X.K zW):=by
 intro pins s σ H x y v u Q I rx ry ⟨p,q,z,hp,hq,e,k⟩;unfold zW at e;split at e
 ·cases e
  cases (show y=.non from hq);refine FO pins s σ H _ _ v u Q I rx ry ⟨rfl,?_⟩;rw[Cd hp];exact k _ H (Same.refl H) rfl
 ·cases e
end
end PU
namespace PU
open PySem PySem.Spec PyProof.Rows L2 PySem.SeqAt
variable[TW]
theorem dC{K:M8}{H:Hp}{p:PV}{v:V}{k:Key}(e:eV p=some k)(r:bp K H p v):v=kV k:=by
 cases p with
 | int i=>cases e;exact r
 | str i=>cases e;exact r
 | _=>cases e
theorem sA{K:M8}{H:Hp}{ps:List PV}{xs:List V}{i:Int}{p:PV}(r:aH K H ps xs)(e:atI ps i=some p):∃v,atI xs i=some v/\Rep K H p v:=by
 unfold atI at e ⊢;rw[← r.length];obtain⟨j,ej,e2⟩:=MU.mp e;obtain⟨v,ev,rp⟩:=r.get e2;exact⟨v,by rw[ej];exact ev,rp⟩
section
variable{X : Cx}
theorem ixP(hu:X.A.units+64<cLine)(hw:X.w=TW.w:=by rfl):IxR X (rP X.K gIx):=by
 intro value slice pins s σ H x y v u Q I rx ry ⟨p,q,z,hp,hq,e,k⟩ hs;have h16:=N7;unfold gIx at e;split at e
 ·rename_i ps i
  obtain⟨a,xs,rfl,g,r⟩:=bp.lst_inv hp;cases (show y=.int i from hq);obtain⟨w,ew,rp⟩:=sA r e;exact Df value slice pins s σ H _ _ v u Q I rx ry ⟨a,xs,i,w,rfl,rfl,g.l,ew,k w H (Same.refl H) rp⟩ hs
 ·rename_i ps i
  obtain⟨a,xs,rfl,g,r⟩:=bp.tup_inv hp;cases (show y=.int i from hq);obtain⟨w,ew,rp⟩:=sA r e;exact GD value slice pins s σ H _ _ v u Q I rx ry ⟨a,xs,i,w,rfl,rfl,g,ew,k w H (Same.refl H) rp⟩ hs
 ·rename_i t i
  split at e
  ·rename_i hl
   obtain⟨c,ec,ez⟩:=MR.mp e;subst ez;cases (show x=.str t from hp);cases (show y=.int i from hq);exact GE value slice pins s σ H _ _ v u Q I rx ry ⟨t,i,c,rfl,rfl,by omega,ec,k _ H (Same.refl H) rfl⟩ hs
  ·cases e
 ·rename_i ks ps
  obtain⟨kk,ek,e⟩:=MU.mp e;obtain⟨a,kvs,rfl,g,e1,r⟩:=hp;cases rx;have hy:=dC ek hq;subst hy;obtain⟨w,ew,rp⟩:=gM e1 r e;obtain⟨zz,hd,vs,rel,dd⟩:=DkR.at hw I g;obtain⟨w',hw,rw'⟩:=mQ.some_of (v:=w) (o:=Nh vs kk) (by rw[← ew];exact rel.val kk);exact tail_any dd.typeIs RZ.lookup (wpAny_getItem_of (lW ry) dd.mapOf hw ⟨w,H,I.tok _,rw',k w H (Same.refl H) rp⟩) hs
 ·cases e
theorem mH{K:M8}{H:Hp}:∀{qs:List PV}{xs:List V},qs.all pb=true->aH K H qs xs->xs=qs.map scV/\xs.all mM=true
 | [],_,_,r=>by cases r;exact⟨rfl,rfl⟩
 | q::qs,_,h,⟨x,t,e,h1,h2⟩=>by
  subst e;simp only[OB,ND] at h;obtain⟨e1,e2⟩:=mH h.2 h2;have hx:=cn h.1 h1.o;refine⟨by rw[MC,hx,e1],?_⟩;rw[OB,e2,Qi,hx];cases q <;> first | rfl | cases h.1
theorem oa{p:PV}(h:pb p=true):mM (scV p)=true:=by
 cases p <;> first | rfl | cases h
theorem Ko(hu:X.A.units+64<cLine)(hw:X.w=TW.w:=by rfl):OpR X (N8 .In) (rP X.K gIn):=by
 intro pins s σ H x y v u Q I rx ry ⟨p,q,z,hp,hq,e,k⟩;unfold gIn at e;split at e
 ·rename_i i j
  cases e;cases (show x=.str i from hp);cases (show y=.str j from hq);exact vY pins s σ H _ _ v u Q I rx ry ⟨i,j,rfl,rfl,k _ H (Same.refl H) rfl⟩
 ·rename_i qs _
  split at e
  ·rename_i hc
   cases e;obtain⟨a,xs,rfl,g,r⟩:=bp.lst_inv hq;obtain⟨e1,e2⟩:=mH hc.2 r;refine pQ pins s σ H _ _ v u Q I rx ry ⟨a,xs,rfl,.inl g.l,by rw[cn hc.1 hp];exact oa hc.1,e2,?_⟩;rw[cn hc.1 hp,e1];exact k _ H (Same.refl H) rfl
  ·cases e
 ·rename_i qs _
  split at e
  ·rename_i hc
   cases e;obtain⟨a,xs,rfl,g,r⟩:=bp.tup_inv hq;obtain⟨e1,e2⟩:=mH hc.2 r;refine pQ pins s σ H _ _ v u Q I rx ry ⟨a,xs,rfl,.inr g,by rw[cn hc.1 hp];exact oa hc.1,e2,?_⟩;rw[cn hc.1 hp,e1];exact k _ H (Same.refl H) rfl
  ·cases e
 ·rename_i ks ps _
  obtain⟨kk,ek,ez⟩:=MR.mp e;subst ez;obtain⟨a,kvs,rfl,g,e1,r⟩:=hq;cases ry;have hx:=dC ek hp;subst hx;obtain⟨zz,hd,vs,rel,dd⟩:=DkR.at hw I g;refine wpAny_in_of (lW rx) hd dd.mapOf ?_;rw[← (rel.val kk).isSome_eq,← kK];refine⟨.bl _,H,I.tok _,rfl,k _ H (Same.refl H) ?_⟩;subst e1;rw[ON];rfl
 ·cases e
theorem CC(hu:X.A.units+64<cLine)(hw:X.w=TW.w:=by rfl):OpR X (N8 .NotIn) (rP X.K iA):=by
 intro pins s σ H x y v u Q I rx ry ⟨p,q,z,hp,hq,e,k⟩;have e:=e;obtain⟨z0,e1,ez⟩:=MU.mp e;clear e;have e:=e1;clear e1;unfold gIn at e;split at e
 ·rename_i i j _
  cases e;cases ez;cases (show x=.str i from hp);cases (show y=.str j from hq);exact pP pins s σ H _ _ v u Q I rx ry ⟨i,j,rfl,rfl,k _ H (Same.refl H) rfl⟩
 ·rename_i qs _
  split at e
  ·rename_i hc
   cases e;cases ez;obtain⟨a,xs,rfl,g,r⟩:=bp.lst_inv hq;obtain⟨e1,e2⟩:=mH hc.2 r;refine kn pins s σ H _ _ v u Q I rx ry ⟨a,xs,rfl,.inl g.l,by rw[cn hc.1 hp];exact oa hc.1,e2,?_⟩;rw[cn hc.1 hp,e1];exact k _ H (Same.refl H) rfl
  ·cases e
 ·rename_i qs _
  split at e
  ·rename_i hc
   cases e;cases ez;obtain⟨a,xs,rfl,g,r⟩:=bp.tup_inv hq;obtain⟨e1,e2⟩:=mH hc.2 r;refine kn pins s σ H _ _ v u Q I rx ry ⟨a,xs,rfl,.inr g,by rw[cn hc.1 hp];exact oa hc.1,e2,?_⟩;rw[cn hc.1 hp,e1];exact k _ H (Same.refl H) rfl
  ·cases e
 ·rename_i ks ps _
  obtain⟨kk,ek,ez'⟩:=MR.mp e;subst ez';cases ez;obtain⟨a,kvs,rfl,g,e1,r⟩:=hq;cases ry;have hx:=dC ek hp;subst hx;obtain⟨zz,hd,vs,rel,dd⟩:=DkR.at hw I g;refine wpAny_notIn_of (lW rx) hd dd.mapOf ?_;rw[← (rel.val kk).isSome_eq,← kK];refine⟨.bl _,H,I.tok _,rfl,k _ H (Same.refl H) ?_⟩;subst e1;rw[ON];rfl
 ·cases e
theorem vk(hw:X.w=TW.w):KI X (fun v H Q=>∃p b,bp X.K H p v/\vm p=some b/\Q b H):=by
 intro pins s σ H x v Q I rx ⟨p,b,rp,e,q⟩;have h16:=N7;cases p with
 | non=>
  cases (show x=.non from rp);cases e;exact cB pins s σ H _ v Q I rx ⟨_,rfl,q⟩
 | bl i=>
  cases (show x=.bl i from rp);cases e;exact cB pins s σ H _ v Q I rx ⟨_,rfl,q⟩
 | int i=>
  cases (show x=.int i from rp);cases e;exact cB pins s σ H _ v Q I rx ⟨_,rfl,q⟩
 | str i=>
  cases (show x=.str i from rp);simp only[vm] at e;split at e
  ·cases e
   exact cB pins s σ H _ v Q I rx ⟨_,⟨by omega,rfl⟩,q⟩
  ·cases e
 | tup ps=>
  obtain⟨a,xs,rfl,g,r⟩:=bp.tup_inv rp;cases e;have:ps.isEmpty=xs.isEmpty:=by have:=r.length;cases ps <;> cases xs <;> simp_all
  exact cB pins s σ H _ v Q I rx ⟨_,.inr (.inl ⟨xs,g,by rw[this]⟩),q⟩
 | lst ps=>
  obtain⟨a,xs,rfl,g,r⟩:=bp.lst_inv rp;cases e;have:ps.isEmpty=xs.isEmpty:=by have:=r.length;cases ps <;> cases xs <;> simp_all
  exact cB pins s σ H _ v Q I rx ⟨_,.inl ⟨xs,g.l,by rw[this]⟩,q⟩
 | dct ks ps=>
  obtain⟨a,kvs,rfl,g,e1,r⟩:=rp;cases rx;cases e;obtain⟨hz,hS,vs,rel,m⟩:=DkR.at hw I g;have hlen:kvs.length=vs.length:=N3 rel;refine wpAny_truthy_dict hS m (by omega) ⟨H,I.tok _,?_⟩;rw[nO rel];subst e1;have:(kvs.map (·.1)).isEmpty=kvs.isEmpty:=by cases kvs <;> rfl
  rw[this] at q;exact q
 | dtt ks ps=>cases e
 | fn L cs=>cases e
end
section
variable{C : Cn}{a b c e : Expr}{f fa fb fc : PSt → R PV}{t u : PSt → R Bool}{rest : List Expr}{pos : Nt}
theorem jr(ha:EO C a f)(he:∀whole,isTrue a C.X.env whole=(do let v<- whole;standAt a.pos;holding [v] (truthy v)):=by intro _;rfl)(hw:C.X.w=TW.w:=by rfl):ET C a (dS f):=by
 intro pins s σ H Q I ⟨ρ,vw,q⟩;refine isTrue_plain (thn (ha pins s σ H (fun v H'=>∃p b,bp C.X.K H' p v/\vm p=some b/\Q b H') I ⟨ρ,vw,q.bind.imp fun p _ k v H' s' r=>?_⟩) fun v s1 ⟨x,H1,I1,r1,q1⟩=>vk hw pins s1 σ H1 x v Q I1 r1 q1) (he _);obtain⟨b,eb,k⟩:=k.ofO;exact⟨p,b,r,eb,k H' s'⟩
def wU(g:PV->PV->Option PV):Prop:=∀p q z,g p q=some z->∃b,z=.bl b
theorem bQ{op:CmpOp}{g:PV->PV->Option PV}(ho:OpR C.X (N8 op) (rP C.X.K g))(hg:wU g)(ha:EO C a fa)(hb:EO C b fb)(hm:Pl op b=false:=by first | exact wb _ | with_unfolding_all rfl):ET C (.Compare a [op] [b] pos) (dS (ar fa fb g)):=by
 intro pins s σ H Q I ⟨ρ,vw,q⟩;refine vI ho ha hb hm pins s σ H Q I ?_;refine t2 vw (g:=g) (q.bind.imp fun p e k v H' s' r=>?_) fun _ _ _ _ h=>h
 have:∃b,p=.bl b:=by
  unfold ar at e;cases h1:fa ρ with
  | ok x=>
   rw[h1] at e;cases h2:fb ρ with
   | ok y=>
    rw[h2] at e;cases h3:g x y with
    | some z=>
     simp only[R.ok_bind,h3,R.ofO_some] at e;cases e;exact hg x y _ h3
    | none=>simp only[R.ok_bind,h3,R.ofO_none] at e;cases e
   | er x=>rw[h2] at e;cases e
   | no=>rw[h2] at e;cases e
  | er x=>rw[h1] at e;cases e
  | no=>rw[h1] at e;cases e
 obtain⟨b,rfl⟩:=this;cases (show v=.bl b from r);exact⟨b,rfl,k H' s'⟩
theorem EW.et(h:EW C e t):ET C e t:=PW.pt h
theorem rO(ha:ET C a t):EW C (.BoolOp .And [a] pos) t:=Cm ha
theorem Bs(ha:ET C a t):EW C (.BoolOp .Or [a] pos) t:=Ft ha
theorem xr(ha:ET C a t)(hb:EW C (.BoolOp .And (b::rest) pos) u):EW C (.BoolOp .And (a::b::rest) pos) (E2 t u):=by
 intro wh pins s σ H Q I ⟨ρ,vw,q⟩;refine Fu ha hb wh pins s σ H Q I ⟨ρ,vw,q.bind.imp fun c _ k H' s'=>?_⟩;cases c with
 | true=>exact Dh ⟨ρ,vw.same s',(k.same s').imp fun b _ k2 H2 s2=>k2 H2 (s'.trans s2)⟩
 | false=>exact Di (k H' s')
theorem Dw(ha:ET C a t)(hb:EW C (.BoolOp .Or (b::rest) pos) u):EW C (.BoolOp .Or (a::b::rest) pos) (orB t u):=by
 intro wh pins s σ H Q I ⟨ρ,vw,q⟩;refine J0 ha hb wh pins s σ H Q I ⟨ρ,vw,q.bind.imp fun c _ k H' s'=>?_⟩;cases c with
 | true=>exact Dh (k H' s')
 | false=>exact Di ⟨ρ,vw.same s',(k.same s').imp fun b _ k2 H2 s2=>k2 H2 (s'.trans s2)⟩
theorem GV(ha:ET C a t):ET C (.UnaryOp .Not a pos) (FY t):=by
 intro pins s σ H Q I ⟨ρ,vw,q⟩;exact Fw ha pins s σ H Q I ⟨ρ,vw,q.bind.imp fun c _ k H' s'=>k H' s'⟩
theorem Bt{op}(h:EV C a f):EV C (.BoolOp op [a] pos) f:=FE h
theorem Bu(ha:EV C a fa)(hb:EV C (.BoolOp .And (b::rest) pos) fb):EV C (.BoolOp .And (a::b::rest) pos) (Ho fa fb):=by
 intro pins s σ H Q I ⟨ρ,vw,q⟩;refine FJ ha hb pins s σ H Q I ⟨ρ,vw,q.bind.imp fun p _ k v H' s' r=>?_⟩;cases p with
 | bl c=>
  cases (show v=.bl c from r);refine⟨c,rfl,?_⟩;cases c with
  | true=>exact Dh ⟨ρ,vw.same s',(RQ.same k s').imp fun z _ k2 v2 H2 s2 r2=>k2 v2 H2 (s'.trans s2) r2⟩
  | false=>exact Di (k _ H' s' rfl)
 | _=>exact MI k
theorem GT(hc:ET C c t)(ha:EV C a fa)(hb:EV C b fb):EV C (.IfExp c a b pos) (ifV t fa fb):=by
 intro pins s σ H Q I ⟨ρ,vw,q⟩;refine zp hc ha hb pins s σ H Q I ⟨ρ,vw,q.bind.imp fun c _ k H' s'=>?_⟩;cases c with
 | true=>exact Dh ⟨ρ,vw.same s',(RQ.same k s').imp fun z _ k2 v2 H2 s2 r2=>k2 v2 H2 (s'.trans s2) r2⟩
 | false=>exact Di ⟨ρ,vw.same s',(RQ.same k s').imp fun z _ k2 v2 H2 s2 r2=>k2 v2 H2 (s'.trans s2) r2⟩
end
theorem cM:wU gEq:=fun p q z e=>by
 unfold gEq at e;split at e
 ·split at e
  ·obtain⟨b,_,ez⟩:=MR.mp e
   exact⟨b,ez.symm⟩
  ·cases e
 ·split at e
  ·obtain⟨b,_,ez⟩:=MR.mp e
   exact⟨b,ez.symm⟩
  ·cases e
 ·split at e
  ·obtain⟨b,_,ez⟩:=MR.mp e
   exact⟨b,ez.symm⟩
  ·cases e
 ·split at e
  ·cases e
   exact⟨_,rfl⟩
  ·cases e
theorem oO:wU gNe:=fun p q z e=>by
 unfold gNe at e;split at e
 ·split at e
  ·obtain⟨b,_,ez⟩:=MR.mp e;exact⟨_,ez.symm⟩
  ·cases e
 ·split at e
  ·obtain⟨b,_,ez⟩:=MR.mp e;exact⟨_,ez.symm⟩
  ·cases e
 ·split at e
  ·cases e;exact⟨_,rfl⟩
  ·cases e
theorem lX:wU gLt:=fun p q z e=>by unfold gLt at e;split at e <;> cases e <;> exact⟨_,rfl⟩
theorem Dm:wU gLe:=fun p q z e=>by unfold gLe at e;split at e <;> cases e <;> exact⟨_,rfl⟩
theorem zP:wU zW:=fun p q z e=>by unfold zW at e;split at e <;> cases e <;> exact⟨_,rfl⟩
theorem wR:wU gIn:=fun p q z e=>by
 unfold gIn at e;split at e
 ·cases e;exact⟨_,rfl⟩
 ·split at e <;> cases e;exact⟨_,rfl⟩
 ·split at e <;> cases e;exact⟨_,rfl⟩
 ·obtain⟨b,_,ez⟩:=MR.mp e;exact⟨_,ez.symm⟩
 ·cases e
theorem uB:wU iA:=fun p q z e=>by
 obtain⟨z0,e,ez⟩:=MU.mp e;cases z0 <;> cases ez
 exact⟨_,rfl⟩
end PU
namespace PU
open PySem PySem.Spec PyProof.Rows L2 PySem.SeqAt
variable[TW]
def r1(K:M8)(g:PV->Option PV):List V->Hp->VK->Prop:=fun vs H Q=>∃v p z,vs=[v]/\bp K H p v/\g p=some z/\∀w H',Same H H'->Rep K H' z w->Q w H'
def rn1(K:M8)(g:PV->Option PV):List V->Hp->VK->Prop:=fun vs H Q=>∃v p z,vs=[v]/\bp K H p v/\g p=some z/\∀a H',Same H H'->H a=none->cA K H' a z->Q (.ref a) H'
section
variable{C : Cn}{e : Expr}{f : PSt → R PV}{g : PV → Option PV}{x : Str}{p pos : Nt}{id T : String}
theorem t1{σ:L2.St}{H:Hp}{Q:VK}{ρ:PSt}(vw:View C.X.K H σ ρ)(q:RQ C H (un1 f g ρ) fun p=>∀v H',Same H H'->Rep C.X.K H' p v->Q v H'):tCB (r1 C.X.K g) (tA1 C f) σ H Q:=by
 refine⟨ρ,vw,q.bind.imp fun p _ k v H1 s1 r1=>?_⟩;obtain⟨z,ez,k⟩:=k.ofO;exact⟨v,p,z,rfl,r1,ez,fun w H' s' r'=>k w H' (s1.trans s') r'⟩
theorem tn1{σ:L2.St}{H:Hp}{Q:VK}{ρ:PSt}(vw:View C.X.K H σ ρ)(q:RQ C H (un1 f g ρ) fun p=>∀a H',Same H H'->H a=none->cA C.X.K H' a p->Q (.ref a) H'):tCB (rn1 C.X.K g) (tA1 C f) σ H Q:=by
 refine⟨ρ,vw,q.bind.imp fun p _ k v H1 s1 r1=>?_⟩;obtain⟨z,ez,k⟩:=k.ofO;exact⟨v,p,z,rfl,r1,ez,fun a H' s' n' r'=>k a H' (s1.trans s') (s1.free n') r'⟩
theorem ml (hc:iy C.X (.builtin id) (r1 C.X.K g)) (hg:Gl C.X x) (hm:C.X.mg x=none) (hv:OX x=some (.builtin id)) (ha:EO C e f) (hn:x≠"__name__":=by decide) (hdb:(x == ("__debug__":Str))=false:=by decide)
  (hs:MZ [e] C.X.env=[(false,NJ e C.X.env)]:=by exact c6 rfl):EV C (.Call (.Name x p) [e] [] pos) (un1 f g):=by
 intro pins s σ H Q I ⟨ρ,vw,q⟩;exact zu hc hg hm hv (tG ha hs) hn hdb hs (by rfl) pins s σ H Q I (t1 vw q)
theorem Dx (hc:iy C.X (.type T) (r1 C.X.K g)) (hg:Gl C.X x) (hm:C.X.mg x=none) (hv:OX x=some (.type T)) (ha:EO C e f) (hn:x≠"__name__":=by decide) (hdb:(x == ("__debug__":Str))=false:=by decide)
  (hs:MZ [e] C.X.env=[(false,NJ e C.X.env)]:=by exact c6 rfl):EV C (.Call (.Name x p) [e] [] pos) (un1 f g):=by
 intro pins s σ H Q I ⟨ρ,vw,q⟩;exact pK hc hg hm hv (tG ha hs) hn hdb hs (by rfl) pins s σ H Q I (t1 vw q)
theorem DB (hc:iy C.X (.type T) (rn1 C.X.K g)) (hg:Gl C.X x) (hm:C.X.mg x=none) (hv:OX x=some (.type T)) (ha:EO C e f) (hn:x≠"__name__":=by decide) (hdb:(x == ("__debug__":Str))=false:=by decide)
  (hs:MZ [e] C.X.env=[(false,NJ e C.X.env)]:=by exact c6 rfl):EN C (.Call (.Name x p) [e] [] pos) (un1 f g):=by
 intro pins s σ H Q I ⟨ρ,vw,q⟩;exact pK hc hg hm hv (tG ha hs) hn hdb hs (by rfl) pins s σ H Q I (tn1 vw q)
end
section
variable{X : Cx}
theorem Ej (hw:X.w=TW.w:=by rfl):iy X (.builtin "len") (r1 X.K qF):=by
 intro pins s σ H xs us Q I r ⟨v,p,z,e1,rp,ez,k⟩;have h16:=N7;subst e1;cases p with
 | lst ps=>
  obtain⟨a,xs,rfl,g,rr⟩:=bp.lst_inv rp;cases ez;exact oY pins s σ H _ us Q I r ⟨_,_,rfl,.inl ⟨xs,g.l,rfl⟩,by rw[← rr.length];exact k _ H (Same.refl H) rfl⟩
 | tup ps=>
  obtain⟨a,xs,rfl,g,rr⟩:=bp.tup_inv rp;cases ez;exact oY pins s σ H _ us Q I r ⟨_,_,rfl,.inr ⟨xs,g,rfl⟩,by rw[← rr.length];exact k _ H (Same.refl H) rfl⟩
 | str x=>
  simp only[qF] at ez;split at ez
  ·cases ez
   cases (show v=.str x from rp);exact oY pins s σ H _ us Q I r ⟨_,_,rfl,⟨by omega,rfl⟩,k _ H (Same.refl H) rfl⟩
  ·cases ez
 | dct ks ps=>
  obtain⟨a,kvs,rfl,g,e1,rr⟩:=rp;cases ez;obtain⟨u,rfl,ru⟩:=vals1 r;cases ru;obtain⟨hz,hS,vs,rel,m⟩:=DkR.at hw I g;have hlen:kvs.length=vs.length:=N3 rel;subst e1;rw[MG,hlen] at k;exact call_len_dict hS m (by omega) ⟨.int vs.length,H,I.tok _,⟨_,rfl⟩,k _ H (Same.refl H) rfl⟩
 | _=>cases ez
theorem cInt:iy X (.type "int") (r1 X.K I9):=by
 intro pins s σ H xs us Q I r ⟨v,p,z,e1,rp,ez,k⟩;subst e1;cases p with
 | int i=>cases ez;cases (show v=.int i from rp);exact qz pins s σ H _ us Q I r (.inl ⟨i,rfl,k _ H (Same.refl H) rfl⟩)
 | bl i=>cases ez;cases (show v=.bl i from rp);exact qz pins s σ H _ us Q I r (.inr ⟨i,rfl,k _ H (Same.refl H) rfl⟩)
 | _=>cases ez
theorem BH:iy X (.type "tuple") (r1 X.K nQ):=by
 intro pins s σ H xs us Q I r ⟨v,p,z,e1,rp,ez,k⟩;subst e1;cases p with
 | lst ps=>
  obtain⟨a,xs,rfl,g,rr⟩:=bp.lst_inv rp;cases ez;exact jw pins s σ H _ us Q I r ⟨a,xs,rfl,.inl ⟨g.l,fun l hl=>k _ _ (Same.new hl) ⟨l,xs,rfl,ay,rr.same (Same.new hl)⟩⟩⟩
 | tup ps=>
  obtain⟨a,xs,rfl,g,rr⟩:=bp.tup_inv rp;cases ez;exact jw pins s σ H _ us Q I r ⟨a,xs,rfl,.inr ⟨g,k _ H (Same.refl H) rp⟩⟩
 | _=>cases ez
end
section
variable{C : Cn}{e tg : Expr}{f : PSt → R PV}{pos : Nt}
theorem Dj{K:M8}{H:Hp}{a:Addr}{xs:List V}{ps:List PV}(g:SqF K H a xs)(r:aH K H ps xs):ItP K (Itl K a) H ps:=fun i H' k=>by
 have g':=(k.sqF g).l.l;have r':=aH.kp k ps r;have hl:=r'.length;refine⟨fun h=>⟨xs,g',by omega⟩,fun p e=>?_⟩;obtain⟨x,ex,rp⟩:=r'.get e
 exact⟨⟨xs,x,g',ex⟩,fun y H2 ⟨eh,hy⟩=>by
  subst eh;have:=hy xs g';rw[ex] at this;cases this;exact⟨Same.refl _,rp⟩⟩
theorem GF{K:M8}{H:Hp}{a:Addr}{xs:List V}{ps:List PV}(g:SqT K H a xs)(r:aH K H ps xs):ItP K (Itt K a) H ps:=fun i H' k=>by
 have g':=k.sqT g;have r':=aH.kp k ps r;have hl:=r'.length;refine⟨fun h=>⟨xs,g',by omega⟩,fun p e=>?_⟩;obtain⟨x,ex,rp⟩:=r'.get e
 exact⟨⟨xs,x,g',ex⟩,fun y H2 ⟨eh,hy⟩=>by
  subst eh;have:=hy xs g';rw[ex] at this;cases this;exact⟨Same.refl _,rp⟩⟩
theorem t4{K:M8}{H:Hp}{lo:Int}{n:Nat}:ItP K (Itr lo n) H (cD lo n):=fun i H' k=>by
 refine⟨fun h=>?_,fun p e=>?_⟩
 ·have:n<=i:=by simp[cD] at h;omega
  exact this
 ·unfold cD at e
  rw[MM] at e
  have hi:i<n:=by
   by_cases hi:i<n
   ·exact hi
   ·rw[Nm (by simpa using hi)] at e
    cases e
  rw[Ot hi] at e;cases e;exact⟨hi,fun y H2 ⟨eh,hy⟩=>by subst eh hy;exact⟨Same.refl _,rfl⟩⟩
theorem jt {p:Nt} (hg:Gl C.X "range") (hm:C.X.mg "range"=none) (he:EV C e f) (hs:MZ [e] C.X.env=[(false,NJ e C.X.env)]:=by exact c6 rfl):EI C tg (.Call (.Name "range" p) [e] [] pos) (Cb f):=by
 intro pins s σ H Rk I ⟨ρ,vw,q⟩;refine vQ hg hm (c5 he gI hs) hs pins s σ H Rk I ⟨ρ,vw,q.bind.imp fun p _ k v H1 s1 r1=>?_⟩;cases p with
 | int j=>
  cases (show v=.int j from r1)
  by_cases hj:j.natAbs<1000000000
  ·have k:RQ C H (if j.natAbs<1000000000 then R.ok (cD 0 j.toNat) else R.no) fun ps=>∀J H',Same H H'->ItP C.X.K J H' ps->Rk J H':=k
   rw[if_pos hj] at k;exact⟨j,rfl,by omega,by omega,k _ H1 s1 t4⟩
  ·have k:RQ C H (if j.natAbs<1000000000 then R.ok (cD 0 j.toNat) else R.no) fun ps=>∀J H',Same H H'->ItP C.X.K J H' ps->Rk J H':=k
   rw[if_neg hj] at k;exact MI k
 | _=>exact MI k
end
section
variable{C : Cn}{e : Expr}{f : PSt → R PV}{pos apos cpos : Nt}
theorem dE(i:Nat){x:Str}{np:Nt}(he:EV C e f)(hs:MZ [e] C.X.env=[(false,NJ e C.X.env)]:=by exact c6 rfl)
  (hb:Od (.Name x np) "append" C.X.env (NJ (.Name x np) C.X.env)=NJ (.Name x np) C.X.env:=by rfl) (hline:(apos.endLine == cpos.line)=true:=by rfl)
  (hd:(x == ("__debug__":Str))=false:=by decide) (hcd:(x == ("__classdict__":Str))=false:=by decide) (hN:C.X.N[i]?=some x:=by rfl) (hv:Vis C.X.env.scope x:=by first | exact .inl rfl | exact .inr (.inl rfl) | exact .inr (.inr rfl)):SV C (.Expr (.Call (.Attribute (.Name x np) "append" apos) [e] [] cpos) pos) (qH i f):=by
 intro pins s σ H D I ⟨ρ,B,S,q⟩;unfold qH at q;split at q
 ·rename_i ps e1
  obtain⟨a,e2,xs,hx,rr⟩:=S.vw i _ e1;refine vK (zw PySem.F.plainAttrs_list Sh PySem.F.type_list_append pT (fG hN hv hd hcd) (c5 he gI hs) hb (by rw[hs];rfl) hline hs (by rfl)) (by rfl) pins s σ H D I ?_;refine⟨_,e2,.inl ⟨rfl,xs,SqL.of hx⟩,ρ,S.vw,(RS.bind q S.same).imp fun p _ q' v H1 s1 r1=>?_⟩
  by_cases hl:ps.length<16777216
  ·rw[if_pos hl] at q'
   refine⟨a,xs,v,rfl,rfl,s1 _ _ hx,by rw[N7,← rr.length];exact hl,?_⟩;refine q' σ _ ((S.grow s1).turn e1 e2 (fun b hb=>aB hb) ?_);have kp:Kp H1 (upd H1 a (.lst (xs++[v]))):=Kp.upd (s1 _ _ hx) rfl;exact⟨a,rfl,xs++[v],ay,aH.append (aH.kp kp _ (rr.same s1)) (aH.cons (Rep.kp kp _ r1) aH.nil)⟩
  ·rw[if_neg hl] at q'
   exact MI q'
 ·exact MI q
end
end PU
namespace PU
open PySem PySem.Spec PyProof.Rows L2 PySem.SeqAt
variable[TW]
section
variable{C : Cn}
theorem az(i:Nat){x:Str}{pos:Nt}(hN:C.X.N[i]?=some x:=by rfl)(hv:Vis C.X.env.scope x:=by first | exact Ra rfl | exact Qe (Ra rfl) | exact Qe (Qe rfl))
  (hd:(x == ("__debug__":Str))=false:=by decide) (hcd:(x == ("__classdict__":Str))=false:=by decide):EV C (.Name x pos) (ah i):=GS i hN hv hd hcd
theorem xx(i:Nat){x:Str}{pos:Nt}(hN:C.X.N[i]?=some x:=by rfl)(hv:Vis C.X.env.scope x:=by first | exact Ra rfl | exact Qe (Ra rfl) | exact Qe (Qe rfl))
  (hd:(x == ("__debug__":Str))=false:=by decide) (hcd:(x == ("__classdict__":Str))=false:=by decide):EO C (.Name x pos) (kE i):=GX i hN hv hd hcd
variable{a b c : Expr}{fa fb fc : PSt → R PV}{pos : Nt}
end
end PU
namespace PU
open PySem PySem.Spec PyProof.Rows L2 PySem.SeqAt
variable[TW]
section
variable{X : Cx}{pins : List (Addr×Obj)}{σ : L2.St}{H : Hp}{s : MD}
theorem _root_.L2.Inv.turnedL{wr:List Addr}{h':Heap}{t':Nat}(I:L2.Inv X pins σ H s)(k:∀b o,b ∉ wr->s.heap.get? b=some o->h'.get? b=some o)(hw:∀b∈wr,tX X pins H b):L2.Inv X pins σ H { s with heap:=h',toks:=t' }:=by
 have nw:∀b u,H b=some u->b ∉ wr:=fun b u e z=>by rw[(hw b z).1] at e;cases e
 refine I.step (g':=s.gens) (d':=s.drawn) (ch:=wr) (fun b hb=>?_) (fun b o _ _ hc e _=>k b o hc e) (fun b o _ _ hc e _=>⟨o.slots,k b o hc e⟩) (fun _ _ _ _ n=>n)
  (fun b o hc e=>⟨o,k b o hc e⟩) (fun _ _ e=>e) (fun _ _ _ e=>e) (fun b ps e=>⟨#[],by rw[e];simp⟩) (fun m hm=>?_) (fun b u e=>?_) I.bare
 ·obtain⟨g1,g2,g3,g4,g5,g6⟩:=hw b hb
  exact⟨g4,g2,g5,g6⟩
 ·obtain⟨o,es,ep,ho,r⟩:=hm
  exact⟨o,es,ep,k _ o (fun z=>(hw _ z).2.1 rfl) ho,r⟩
 ·refine(I.hok b u e).stay (fun c v hc q=>k c v ?_ q) (fun _ q=>q) fun _ _ q=>q
  rcases hc with z | z
  ·rw[z];exact nw b u e
  ·exact nw c _ z
theorem _root_.L2.Inv.tupled{wr:List Addr}{h':Heap}{t':Nat}{T:Addr}{vals:List M9}{xs:List V}(I:L2.Inv X pins σ H s)(k:∀b o,b ∉ wr->s.heap.get? b=some o->h'.get? b=some o)(hw:∀b∈wr,tX X pins H b)(hws:∀b∈wr,b<s.heap.objs.size)
  (hT:s.heap.objs.size<=T) (ht:h'.IsTuple T vals.toArray) (rv:Vals xs vals) (hz:xs.length<=sizeLine) (hnr:¬ ∀v∈vals,∃b,v=Ni b):L2.Inv X pins σ (upd H T (.tup xs)) { s with heap:=h',toks:=t' }:=by
 have nw:∀b u,H b=some u->b ∉ wr:=fun b u e z=>by rw[(hw b z).1] at e;cases e
 have nT:H T=none:=I.hok.fresh hT;have neT:∀b u,H b=some u->b≠T:=fun b u e=>bB e nT
 have lo:∀b o,s.heap.get? b=some o->b≠T:=fun b o e z=>by
  subst z;exact absurd (MY e) (Ru.mpr hT)
 have hlt:X.env.locals≠T:=fun z=>absurd I.lt (by rw[z];exact Ru.mpr hT)
 refine I.step (g':=s.gens) (d':=s.drawn) (ch:=wr) (fun b hb=>?_) (fun b o _ _ hc e _=>k b o hc e) (fun b o _ _ hc e _=>⟨o.slots,k b o hc e⟩) (fun b o _ e n=>by rw[aB (lo b o e)];exact n)
  (fun b o hc e=>⟨o,k b o hc e⟩) (fun b xs e=>by rw[aB (neT _ _ e)];exact e) (fun b o u e=>by rw[aB (neT _ _ e)];exact e) (fun b ps e=>⟨#[],by rw[aB (neT _ _ e),e];simp⟩) (fun m hm=>?_) (fun b u e=>?_) I.bare
 ·obtain⟨g1,g2,g3,g4,g5,g6⟩:=hw b hb
  exact⟨g4,g2,g5,g6⟩
 ·obtain⟨o,es,ep,ho,r⟩:=hm
  exact⟨o,es,ep,k _ o (fun z=>(hw _ z).2.1 rfl) ho,r⟩
 ·by_cases hb:b=T
  ·subst hb
   rw[ay] at e;cases e;obtain⟨o,e1,e2,e3⟩:=ht;exact⟨hz,vals,rv,o,e1,e2,e3,fun h=>absurd h hnr⟩
  ·rw[aB hb] at e
   refine(I.hok b u e).stay (fun c v hc q=>k c v ?_ q) (fun c q=>by rw[aB (neT _ _ q)];exact q) fun c ys q=>by rw[aB (neT _ _ q)];exact q
   rcases hc with z | z
   ·rw[z];exact nw b u e
   ·exact nw c _ z
end
theorem vj{P:Md}{w:Ml}{K:M8}{elts:List Expr}{kk:Nat}{tp:Nt}{it:Addr}{fp wr:List Addr}{n:Nat}{own:Nat->Heap->Prop}{J:It}
  (W:∀(X:Cx)(pins:List (Addr×Obj))(σ:L2.St)(H:Hp)(s:MD)(i:Nat),X.prog=P->X.w=w->X.K=K->X.calm=true->L2.Inv X pins σ H s->own i s.heap->J.go i H\/J.stop i H->
   ∃(more:List Addr)(Pt:Nat->Array M9->Prop)(St:Nat->Heap->Prop)(Mid:Nat->Addr->Heap->Prop),WalksT P w X.A it more wr n Pt St Mid/\St i s.heap/\(∀j h,St j h->own j h)/\
    ∀vals,Pt i vals->∃xs,Vals xs vals.toList/\xs.length<=sizeLine/\(¬ ∀v∈vals.toList,∃b,v=Ni b)/\∀T,H T=none->J.yld i H (.ref T) (upd H T (.tup xs)))
  (hI:it∈fp) (hwr:∀b∈wr,b∈fp)
  (obj:∀i h,own i h->∀b∈fp,∃o,h.get? b=some o/\∀v,o.data≠.cell v) (keep:∀i h h',own i h->(∀b∈fp,∀o,h.get? b=some o->h'.get? b=some o)->own i h')
  (hgo:∀i H,J.go i H->i<n) (hstop:∀i H,J.stop i H->i=n)
  (self:∀(A:Mt)(i:Nat)(s:MD)(Q:M9->MD->Prop)(E:M9->MD->Prop),own i s.heap->Q (.ref it) s->Mf (Ms P w) A (pyIter (.ref it)) Q E s) :
  Turn P w K (.Tuple elts kk tp) J fp it own where
 mem:=hI
 obj:=obj
 keep:=keep
 item:=by
  intro X hP hw hK hc i pins s σ H E I hf st hg;obtain⟨more,Pt,St,Mid,W',st',ofSt,hval⟩:=W X pins σ H s i hP hw hK hc I st (.inl hg);subst hP hw hK;refine W'.item i s _ _ (hgo i H hg) st' fun T vals h' tk hPt hT hTup hMid hk=>?_;obtain⟨xs,rv,hz,hnr,hy⟩:=hval vals hPt;have nT:H T=none:=I.hok.fresh hT;have hfw:∀b∈wr,tX X pins H b:=fun b hb=>hf b (hwr b hb)
  have hws:∀b∈wr,b<s.heap.objs.size:=fun b hb=>by
   obtain⟨o,e,_⟩:=obj i _ st b (hwr b hb);exact MY e
  have I1:L2.Inv X pins σ (upd H T (.tup xs)) { s with heap:=h',toks:=tk }:=I.tupled (vals:=vals.toList) hk hfw hws hT (by simpa using hTup) rv hz hnr;refine⟨_,rfl,W'.go elts kk tp i T _ _ _ hMid fun h'' st'' hk''=>?_⟩
  have fne:∀b∈fp,upd H T (.tup xs) b=none:=fun b hb=>by
   obtain⟨o,e,_⟩:=obj i _ st b hb;rw[aB (Mp (MW (MY e) hT))];exact(hf b hb).1
  have I2:L2.Inv X pins σ (upd H T (.tup xs)) { s with heap:=h'',toks:=tk }:=L2.Inv.turnedL (s:={ s with heap:=h',toks:=tk }) (wr:=wr) (t':=tk) I1 hk'' fun b hb=>⟨fne b (hwr b hb),(hfw b hb).2⟩;exact⟨.ref T,_,I2,rfl,hy T nT,ofSt _ _ st'',fne⟩
 done:=by
  intro X hP hw hK hc i pins s σ H E I hf st hg;obtain⟨more,Pt,St,Mid,W',st',ofSt,hval⟩:=W X pins σ H s i hP hw hK hc I st (.inr hg);subst hP hw hK;have e:=hstop i H hg;subst e;refine W'.done s _ _ st' fun h' tk hk=>⟨rfl,?_⟩;exact I.turnedL hk fun b hb=>hf b (hwr b hb)
 self:=self
def p8(n:Nat)(Gd:Hp->Prop)(xs:List (List V)):It:=
 ⟨fun i H=>i<n/\Gd H,fun i H x H'=>∃T ys,x=.ref T/\H T=none/\xs[i]?=some ys/\H'=upd H T (.tup ys),fun i H=>i=n/\Gd H⟩
theorem rF{K:M8}{H₁:Hp}{n:Nat}{Gd:Hp->Prop}{xs:List (List V)}{pss:List (List PV)}(hn:pss.length=n)(hg:∀H,Kp H₁ H->Gd H)(r:∀(i:Nat)(ps:List PV)(ys:List V),pss[i]?=some ps->xs[i]?=some ys->aH K H₁ ps ys) :
  ItP K (p8 n Gd xs) H₁ (pss.map PV.tup):=fun i H k=>by
 refine⟨fun h=>⟨by rw[h,MG,hn],hg H k⟩,fun p e=>?_⟩;rw[MM] at e;cases hp:pss[i]? with
 | none=>rw[hp] at e;cases e
 | some ps=>
  rw[hp] at e;cases e;have hi:i<n:=by rw[← hn];exact(MB.mp hp).1
  refine⟨⟨hi,hg H k⟩,fun x H' ⟨T,ys,ex,nT,ey,eH⟩=>?_⟩;subst ex eH;refine⟨Same.new nT,T,ys,rfl,ay,?_⟩;exact(aH.kp k ps (r i ps ys hp ey)).same (Same.new nT)
end PU
namespace PU
open PySem PySem.Spec PyProof.Rows L2 PySem.SeqAt
variable[TW]
theorem mO:OX "enumerate"=some (.type "enumerate"):=by decide +kernel
def pC(x:Str):List V:=x.cps.toList.map fun c=>.str ⟨#[c]⟩
theorem ub{K:M8}{H:Hp}(x:Str):aH K H (gy x) (pC x):=by
 unfold gy pC
 induction x.cps.toList with
 | nil=>rfl
 | cons c r ih=>exact⟨_,_,rfl,rfl,ih⟩
def Ef(xs:List V):List (List V):=(MX xs.length).zipWith (fun (i:Nat) x=>[.int (i:Int),x]) xs
theorem qZ{α β:Type}(f:Nat->α->β)(l:List α)(i:Nat):((MX l.length).zipWith f l)[i]?=l[i]?.map (f i):=by
 rw[QO]
 by_cases hi:i<l.length
 ·rw[Ot hi]
  simp[hi]
 ·rw[Nm (by simpa using hi)]
  simp[hi]
theorem sN{K:M8}{H:Hp}{ps:List PV}{xs:List V}(r:aH K H ps xs):∀(i:Nat)(qs:List PV)(ys:List V),(yw ps)[i]?=some qs->(Ef xs)[i]?=some ys->aH K H qs ys:=fun i qs ys h1 h2=>by
 unfold yw at h1;unfold Ef at h2;rw[qZ] at h1 h2;cases e:ps[i]? with
 | none=>rw[e] at h1;cases h1
 | some p=>
  rw[e] at h1;obtain⟨x,ex,rp⟩:=r.get e;rw[ex] at h2;cases h1;cases h2;exact⟨_,_,rfl,rfl,_,_,rfl,rp,rfl⟩
theorem sO(ps:List PV):(yw ps).length=ps.length:=by simp[yw]
section
variable{P : Md}{w : Ml}{K : M8}{elts : List Expr}{kk : Nat}{tp : Nt}
theorem ua(a it e:Addr)(xs:List V)(hne:e≠it)(hae:a≠e)(hai:a≠it) :
  Turn P w K (.Tuple elts kk tp) (p8 xs.length (fun H=>SqL K H a xs) (Ef xs)) [e,it] e (fun i h=>(∃old,IsEnum h e it i old)/\h.IsListIter it a i):=by
 refine vj (wr:=[e,it]) (n:=xs.length) (fun X pins σ H s i hP hw hK hc I st hg=>?_) (by simp) (fun b hb=>hb) (fun i h st b hb=>?_) (fun i h h' st k=>?_) (fun i H h=>h.1) (fun i H h=>h.1) fun A i s Q E st h=>QH st.1.choose_spec h
 ·subst hP hw hK
  have hq:SqL X.K H a xs:=by rcases hg with h | h <;> exact h.2
  obtain⟨its,rv,pl,hz⟩:=I.list hq;have hl:=rv.length;have W:=T5 (A:=X.A) (Draws.list (prog:=X.prog) (w:=X.w) (A:=X.A.in1) (I.ok.hd hc) it a hai its.toArray) e hne (by simp[hne,Oc hae]) (by simp);rw[show its.toArray.size=xs.length by simp[hl]] at W;refine⟨_,_,_,_,W,⟨st.1,st.2,pl.isList⟩,fun j h st=>⟨st.1,st.2.1⟩,fun vals hv=>?_⟩;obtain⟨t,x,hx,rfl⟩:=hv;have hx:its[i]?=some x:=by simpa using hx
  have hi:i<xs.length:=by rw[hl];exact(MB.mp hx).1
  have e1:xs[i]?=some xs[i]:=by simp[hi]
  obtain⟨u,eu,ru⟩:=rv.get e1;rw[hx] at eu;cases eu;refine⟨[.int i,xs[i]],.cons ⟨t,rfl⟩ (.cons ru .nil),by show 2<=sizeLine;decide,fun z=>(by obtain⟨b,z⟩:=z _ Mh;cases z),fun T hT=>⟨T,_,rfl,hT,?_,rfl⟩⟩;unfold Ef;rw[qZ,e1];rfl
 ·obtain⟨⟨old,he⟩,o,ho,hc,hd⟩:=st
  rcases MP.mp hb with rfl | hb
  ·exact⟨_,he,fun v z=>by cases (show RY _=QY v from z)⟩
  ·have:b=it:=by simpa using hb
   subst this;exact⟨o,ho,fun v z=>by rw[hd] at z;cases z⟩
 ·obtain⟨⟨old,he⟩,hi⟩:=st
  exact⟨⟨old,k e (by simp) _ he⟩,hi.at fun o x=>k it (by simp) o x⟩
theorem xE{prog:Md}{w:Ml}{A:Mt}(hh:A.handled=none)(it:Addr)(x:Str)(t:Tok) :
  Draws prog w A it [it] x.cps.size (fun i v=>∃c u,x.cps[i]?=some c/\v=.str ⟨#[c]⟩ u) (fun i h=>h.IsStrIter it (Ou x) x t i):=by
 unfold Ou
 split
 ·exact Draws.strAscii hh it x t
 ·exact Draws.strWide hh it x t
theorem u9(it e:Addr)(x:Str)(t:Tok)(hne:e≠it) :
  Turn P w K (.Tuple elts kk tp) (p8 x.cps.size (fun _=>True) (Ef (pC x))) [e,it] e (fun i h=>(∃old,IsEnum h e it i old)/\h.IsStrIter it (Ou x) x t i):=by
 refine vj (wr:=[e,it]) (n:=x.cps.size) (fun X pins σ H s i hP hw hK hc I st hg=>?_) (by simp) (fun b hb=>hb) (fun i h st b hb=>?_) (fun i h h' st k=>?_) (fun i H h=>h.1) (fun i H h=>h.1) fun A i s Q E st h=>QH st.1.choose_spec h
 ·subst hP hw hK
  refine⟨_,_,_,_,T5 (A:=X.A) (xE (A:=X.A.in1) (I.ok.hd hc) it x t) e hne (by simp[hne]) (by simp),⟨st.1,st.2⟩,fun j h st=>⟨st.1,st.2⟩,fun vals hv=>?_⟩;obtain⟨t',v,⟨c,u,hc',rfl⟩,rfl⟩:=hv
  have e1:(pC x)[i]?=some (.str ⟨#[c]⟩):=by
   unfold pC;rw[MM];simp[hc']
  refine⟨[.int i,.str ⟨#[c]⟩],.cons ⟨t',rfl⟩ (.cons ⟨u,rfl⟩ .nil),by show 2<=sizeLine;decide,fun z=>(by obtain⟨b,z⟩:=z _ Mh;cases z),fun T hT=>⟨T,_,rfl,hT,?_,rfl⟩⟩;unfold Ef;rw[qZ,e1];rfl
 ·obtain⟨⟨old,he⟩,o,ho,hc,hd⟩:=st
  rcases MP.mp hb with rfl | hb
  ·exact⟨_,he,fun v z=>by cases (show RY _=QY v from z)⟩
  ·have:b=it:=by simpa using hb
   subst this;exact⟨o,ho,fun v z=>by rw[hd] at z;cases z⟩
 ·obtain⟨⟨old,he⟩,o,ho,r⟩:=st
  exact⟨⟨old,k e (by simp) _ he⟩,o,k it (by simp) o ho,r⟩
end
theorem xD {C:Cn} {e:Expr} {elts:List Expr} {kk:Nat} {tp p pos:Nt} {f:PSt->R PV} (hg:Gl C.X "enumerate") (hm:C.X.mg "enumerate"=none) (he:EV C e f) (hs:MZ [e] C.X.env=[(false,NJ e C.X.env)]:=by exact c6 rfl) :
  EI C (.Tuple elts kk tp) (.Call (.Name "enumerate" p) [e] [] pos) (xy f):=by
 intro pins s σ H Rk I ⟨ρ,vw,q⟩
 refine Call_ (nK I hg hm mO (Nr (thn ((c5 he gI hs) pos pins s σ H (fun vs H'=>∃v p ps,vs=[v]/\Same H H'/\Rep C.X.K H' p v/\rS p=some ps/\∀J H2,Same H' H2->ItP C.X.K J H2 ps->Rk J H2) I ⟨ρ,vw,q.bind.imp fun p _ k v H' s' r=>?_⟩)
  fun us s1 ⟨vs,H1,I1,r1,v,p,ps,ev,sm,rp,ep,k⟩=>?_) hs rfl))
 ·obtain⟨ps,ep,k⟩:=k.ofO
  exact⟨v,p,ps,rfl,s',r,ep,fun J H2 s2 it=>k J H2 (s'.trans s2) it⟩
 ·subst ev
  obtain⟨u,rfl,ru⟩:=vals1 r1;have hne:s1.heap.objs.size+1≠s1.heap.objs.size:=Nat.succ_ne_self _
  have fp:∀{h':Heap},(∀b o,s1.heap.get? b=some o->h'.get? b=some o)->L2.Inv C.X pins σ H1 { s1 with heap:=h' }/\∀b∈[s1.heap.objs.size+1,s1.heap.objs.size],tX C.X pins H1 b:=fun {h'} hk=>by
   refine⟨I1.kept (t':=s1.toks) hk,fun b hb=>?_⟩
   have hb:s1.heap.objs.size<=b:=by
    simp only[MP,OG,or_false] at hb;rcases hb with rfl | rfl
    ·exact TB _
    ·exact Ma _
   exact I1.fpOk hb (I1.hok.fresh hb)
  cases p with
  | lst qs=>
   cases ep;obtain⟨a,xs,rfl,g,rr⟩:=rp;cases ru;obtain⟨its,rv,pl,hz⟩:=I1.list g.l.l;have ha:a<s1.heap.objs.size:=by obtain⟨o,n,ho,_⟩:=pl;exact MY ho
   refine call_enumerate_list pl.isList fun h' he' hi' hsz hk=>QH he' ?_;obtain⟨I2,hf⟩:=fp hk;refine⟨_,_,_,_,H1,rfl,I2,ua a s1.heap.objs.size (s1.heap.objs.size+1) xs hne (Mp (RF ha)) (Mp ha),⟨⟨_,he'⟩,hi'⟩,hf,k _ H1 (Same.refl H1) ?_⟩;exact rF (by rw[sO,rr.length]) (fun H2 k2=>(k2.sqF g).l.l) (sN rr)
  | str x=>
   cases ep;cases (show v=.str x from rp);obtain⟨t,rfl⟩:=ru;refine call_enumerate_str fun h' he' hi' hsz hk=>QH he' ?_;obtain⟨I2,hf⟩:=fp hk;refine⟨_,_,_,_,H1,rfl,I2,u9 s1.heap.objs.size (s1.heap.objs.size+1) x t hne,⟨⟨_,he'⟩,hi'⟩,hf,k _ H1 (Same.refl H1) ?_⟩;exact rF (by rw[sO];simp[gy]) (fun H2 k2=>trivial) (sN (ub x))
  | _=>cases ep
end PU
namespace PU
open PySem PySem.Spec PyProof.Rows L2 PySem.SeqAt
variable[TW]
theorem zK{K:M8}{H:Hp}(k:Key):Rep K H (zL k) (kV k):=by
 cases k <;> rfl
section
variable{P : Md}{w : Ml}{K : M8}{elts : List Expr}{kk : Nat}{tp : Nt}
theorem uo{kvs:List (Key×V)}{vs:List (Key×M9)}(rel:KV kvs vs):∀{i:Nat}{a:Key×V}{b:Key×M9},kvs[i]?=some a->vs[i]?=some b->a.1=b.1/\RelV a.2 b.2:=by
  induction rel with
  | nil=>intro i a b h _;simp at h
  | cons h t ih=>
   intro i a b h1 h2;cases i with
   | zero=>simp at h1 h2;subst h1 h2;exact h
   | succ i=>exact ih (by simpa using h1) (by simpa using h2)
def Aw(K:M8)(H:Hp)(d:Addr)(o:Obj)(kvs:List (Key×V)):Prop:=H d=some (.frz o (.dK kvs))\/(K.lookup d=some o/\yn K d kvs)
theorem Aw.at{X:Cx}{pins:List (Addr×Obj)}{σ:L2.St}{H:Hp}{s:MD}{d:Addr}{o:Obj}{kvs:List (Key×V)}{es:Array DictEntry}{ep:Nat}(hw:X.w=TW.w)(I:L2.Inv X pins σ H s)(h:Aw X.K H d o kvs)(ho:o.data=.dict es ep) :
  ∃vs,KV kvs vs/\s.heap.DictAt (aw X.prog X.w) d vs ep/\s.heap.get? d=some o/\o.ExactDict:=by
 rcases h with hq | ⟨hk,_,_,o2,es2,ep2,e,x,d2,r⟩
 ·obtain⟨e0,z,_,vs,rel,o',es',ep',e1,x1,d1,rest⟩:=I.hok d _ hq
  rw[e0] at e1;cases e1;rw[ho] at d1;cases d1;exact⟨vs,rel,⟨o,es,e0,x1,ho,rest⟩,e0,x1⟩
 ·rw[hk] at e
  cases e;rw[ho] at d2;cases d2;obtain⟨vs,rel,rest⟩:=r X.prog;rw[← hw] at rest;exact⟨vs,rel,⟨o,es,I.kIn _ _ hk,x,ho,rest⟩,I.kIn _ _ hk,x⟩
end
end PU
namespace PU
open PySem PySem.Spec PyProof.Rows L2 PySem.SeqAt
variable[TW]
section
variable{P : Md}{w : Ml}{K : M8}{tg : Expr}
def BN(K:M8)(d:Addr)(o:Obj)(kvs:List (Key×V)):It:=
 ⟨fun i H=>i<kvs.length/\Aw K H d o kvs,fun i H x H'=>H'=H/\∃kv,kvs[i]?=some kv/\x=kV kv.1,fun i H=>i=kvs.length/\Aw K H d o kvs⟩
theorem Aw.kp{H H':Hp}{d:Addr}{o:Obj}{kvs:List (Key×V)}(k:Kp H H')(h:Aw K H d o kvs):Aw K H' d o kvs:=by
 rcases h with h | h
 ·exact .inl (k _ _ h rfl)
 ·exact .inr h
theorem Dk{H:Hp}{d:Addr}{o:Obj}{kvs:List (Key×V)}{ks:List Key}(g:Aw K H d o kvs)(e:kvs.map (·.1)=ks):ItP K (BN K d o kvs) H (ks.map zL):=fun i H' k=>by
 subst e;refine⟨fun h=>⟨by simpa using h,g.kp k⟩,fun p ep=>?_⟩;rw[MM,MM] at ep;cases hk:kvs[i]? with
 | none=>rw[hk] at ep;cases ep
 | some kv=>
  rw[hk] at ep;cases ep;refine⟨⟨(MB.mp hk).1,g.kp k⟩,fun x H2 ⟨eh,kv',e1,e2⟩=>?_⟩;rw[hk] at e1;cases e1;subst eh e2;exact⟨Same.refl _,zK kv.1⟩
theorem vi(d it:Addr)(o:Obj)(es:Array DictEntry)(ep:Nat)(ho:o.data=.dict es ep)(kvs:List (Key×V))(hw:w=TW.w):Turn P w K tg (BN K d o kvs) [it] it (fun i h=>h.IsKeyIter it d i kvs.length ep) where
 mem:=by simp
 obj:=fun i h st b hb=>by
  have e:b=it:=by simpa using hb
  subst e;obtain⟨o,e,c,dd⟩:=st;exact⟨o,e,fun v z=>by rw[dd] at z;cases z⟩
 keep:=fun i h h' st k=>st.at fun o e=>k it (by simp) o e
 item:=by
  intro X hP hw hK hc i pins s σ H E I hf st hg;subst hP hw hK;obtain⟨hi,hq⟩:=hg;obtain⟨vs,rel,dat,_,_⟩:=hq.at hw I ho;have hl:kvs.length=vs.length:=N3 rel;obtain⟨f0,f1,f2,f3,f4,f5⟩:=hf it (by simp);have eg:vs[i]?=some vs[i]:=by simp[← hl,hi]
  have egk:kvs[i]?=some kvs[i]:=by simp[hi]
  obtain⟨hk1,hk2⟩:kvs[i].1=vs[i].1/\RelV kvs[i].2 vs[i].2:=uo rel egk eg;rw[hl] at st;refine wpAny_pyNext_dict_item st dat (k:=vs[i].1) (v:=vs[i].2) eg fun key h' hkey st' sb=>?_;have I1:Inv X pins σ H { s with heap:=h' }:=I.turned (t':=s.toks) (fun b o hb e=>(sb.2 b hb).trans e) f0 f1 f3 f4 f5;obtain⟨oi,e,c,dd⟩:=id st'
  have rk:RelV (kV kvs[i].1) key:=by
   rw[hk1];rcases bg hkey with⟨j,t,e1,e2⟩|⟨y,t,e1,e2⟩
   ·rw[e1,e2];exact⟨t,rfl⟩
   ·rw[e1,e2];exact⟨t,rfl⟩
  exact⟨key,rfl,x8 (s:={ s with heap:=h' }) e c dd (by decide) ⟨kV kvs[i].1,H,I1,rk,⟨rfl,_,egk,rfl⟩,by rw[hl];exact st',fun b hb=>(hf b hb).1⟩⟩
 done:=by
  intro X hP hw hK hc i pins s σ H E I hf st hg;subst hP hw hK;obtain⟨hi,hq⟩:=hg;obtain⟨vs,rel,dat,_,_⟩:=hq.at hw I ho;have hl:kvs.length=vs.length:=N3 rel;obtain⟨f0,f1,f2,f3,f4,f5⟩:=hf it (by simp);rw[hl] at st;exact wpAny_pyNext_dict_end (I.ok.hd hc) st dat (by simp[← hl,hi]) fun h' eb=>⟨rfl,I.turned (t':=s.toks) (fun b o hb e=>eb b o hb e) f0 f1 f3 f4 f5⟩
 self:=fun _ _ _ _ _ st h=>wpAny_pyIter_keyiter st h
def yo(x:Str):It:=⟨fun i _=>i<x.cps.size,fun i H y H'=>H'=H/\∃c,x.cps[i]?=some c/\y=.str ⟨#[c]⟩,fun i _=>i=x.cps.size⟩
theorem zO{H:Hp}{x:Str}:ItP K (yo x) H (gy x):=fun i H' k=>by
 refine⟨fun h=>show i=x.cps.size by simpa [gy] using h,fun p ep=>?_⟩;unfold gy at ep;rw[MM] at ep;cases hk:x.cps.toList[i]? with
 | none=>rw[hk] at ep;cases ep
 | some c=>
  rw[hk] at ep;cases ep;refine⟨show i<x.cps.size by simpa using (MB.mp hk).1,fun y H2 ⟨eh,c',e1,e2⟩=>?_⟩
  have:c'=c:=by
   rw[SX] at hk;rw[hk] at e1;exact(Mq e1).symm
  subst this eh e2;exact⟨Same.refl _,rfl⟩
theorem pj{A:Mt}(hh:A.handled=none)(it:Addr)(x:Str)(t:Tok):Walks P w A it [it] [it] x.cps.size (SignAt x) (fun i h=>h.IsStrIter it (Ou x) x t i):=by
 unfold Ou
 split
 ·exact Walks.strAscii hh it x t
 ·exact Walks.strWide hh it x t
theorem qP (x:Str):["enumerate","zip","dict_itemiterator","dict_reverseitemiterator","odict_iterator","itertools.zip_longest","itertools.pairwise"].contains (Ou x)=false:=by
 unfold Ou
 split <;> decide
theorem u0(it:Addr)(x:Str)(t:Tok):Turn P w K tg (yo x) [it] it (fun i h=>h.IsStrIter it (Ou x) x t i) where
 mem:=by simp
 obj:=fun i h st b hb=>by
  have e:b=it:=by simpa using hb
  subst e;obtain⟨o,e,c,dd⟩:=st;exact⟨o,e,fun v z=>by rw[dd] at z;cases z⟩
 keep:=fun i h h' st k=>by
  obtain⟨o,e,r⟩:=st;exact⟨o,k it (by simp) o e,r⟩
 item:=by
  intro X hP hw hK hc i pins s σ H E I hf st hg;subst hP hw hK;obtain⟨f0,f1,f2,f3,f4,f5⟩:=hf it (by simp);have W:=pj (P:=X.prog) (w:=X.w) (I.ok.hd hc) it x t;refine W.item i s _ _ hg st fun v h' tk hv st' kk=>?_;obtain⟨c,u,ec,rfl⟩:=hv;have I1:Inv X pins σ H { s with heap:=h',toks:=tk }:=I.turned (fun b o hb e=>kk b o (by simpa using hb) e) f0 f1 f3 f4 f5;obtain⟨oi,e,cc,dd⟩:=id st';exact⟨_,rfl,x8 (s:={ s with heap:=h',toks:=tk }) e cc dd (qP x) ⟨.str ⟨#[c]⟩,H,I1,⟨u,rfl⟩,⟨rfl,c,ec,rfl⟩,st',fun b hb=>(hf b hb).1⟩⟩
 done:=by
  intro X hP hw hK hc i pins s σ H E I hf st hg;subst hP hw hK;obtain⟨f0,f1,f2,f3,f4,f5⟩:=hf it (by simp);have W:=pj (P:=X.prog) (w:=X.w) (I.ok.hd hc) it x t;have hg:i=x.cps.size:=hg;subst hg;refine W.done s _ _ st fun h' tk hk=>⟨rfl,I.turned (fun b o hb e=>hk b o (by simpa using hb) e) f0 f1 f3 f4 f5⟩
 self:=fun A i s Q E st h=>by
  unfold Ou at st;split at st
  ·exact wpAny_pyIter_striter_ascii st h
  ·exact wpAny_pyIter_striter_wide st h
end
section
variable{C : Cn}{e tg : Expr}{f : PSt → R PV}
theorem dU(he:EV C e f)(hw:C.X.w=TW.w:=by rfl):EI C tg e (itF f):=by
 intro pins s σ H R I ⟨ρ,vw,q⟩;refine thn (he pins s σ H (fun v H'=>∃p ps,Same H H'/\Rep C.X.K H' p v/\fK p=some ps/\∀J H2,Same H' H2->ItP C.X.K J H2 ps->R J H2) I ⟨ρ,vw,q.bind.imp fun p _ k v H' s' r=>?_⟩) fun v s1 ⟨x,H1,I1,r1,p,ps,sm,rp,ep,k⟩=>?_
 ·obtain⟨ps,ep,k⟩:=k.ofO
  exact⟨p,ps,s',r,ep,fun J H2 s2 it=>k J H2 (s'.trans s2) it⟩
 ·cases p with
  | lst qs=>
   cases ep;obtain⟨a,xs,rfl,g,rr⟩:=rp;cases r1;obtain⟨its,rv,pl,hz⟩:=I1.list g.l.l;refine wpAny_pyIter_list pl.isList ?_;refine⟨s1.heap.objs.size,[s1.heap.objs.size],_,_,H1,rfl,I1.kept (t':=s1.toks) fun b o e=>MJ _ e,vh a _,⟨_,Mo _ rfl,rfl,rfl⟩,fun b hb=>?_,k _ H1 (Same.refl H1) (Dj g rr)⟩;have e:b=s1.heap.objs.size:=by simpa using hb
   subst e;exact I1.fpOk (Ma _) (I1.hok.fresh (Ma _))
  | tup qs=>
   cases ep;obtain⟨a,xs,rfl,g,rr⟩:=rp;cases r1;obtain⟨its,rv,pl,hz⟩:=I1.tuple (tq g);refine wpAny_pyIter_tuple (show s1.heap.IsTuple a its.toArray from pl) ?_;refine⟨s1.heap.objs.size,[s1.heap.objs.size],_,_,H1,rfl,I1.kept (t':=s1.toks) fun b o e=>MJ _ e,tZ a _,⟨_,Mo _ rfl,rfl,rfl⟩,fun b hb=>?_,k _ H1 (Same.refl H1) (GF (tq g) rr)⟩;have e:b=s1.heap.objs.size:=by simpa using hb
   subst e;exact I1.fpOk (Ma _) (I1.hok.fresh (Ma _))
  | dct ks qs=>
   cases ep;obtain⟨a,kvs,rfl,g,ek,rr⟩:=rp;cases r1
   obtain⟨o,es,ep,ho,hq,hs⟩:∃o es ep,o.data=.dict es ep/\Aw C.X.K H1 a o kvs/\(a == N6)=false:=by
    rcases g with⟨o,g⟩ | g
    ·obtain⟨e0,z,hs,vs,rel,o',es',ep',e1,x1,d1,rest⟩:=I1.hok a _ g
     rw[e0] at e1;cases e1;exact⟨o,es',ep',d1,.inl g,hs⟩
    ·obtain⟨_,hs,o,es,ep,e,x,d,r⟩:=id g
     exact⟨o,es,ep,d,.inr ⟨e,g⟩,hs⟩
   obtain⟨vs,rel,dat,_,_⟩:=hq.at hw I1 ho;have hl:kvs.length=vs.length:=N3 rel;refine wpAny_pyIter_dict hs dat ?_;refine⟨s1.heap.objs.size,[s1.heap.objs.size],_,_,H1,rfl,I1.kept (t':=s1.toks) fun b o e=>MJ _ e,vi a _ o es ep ho kvs hw,⟨_,Mo _ rfl,rfl,by rw[hl];rfl⟩,fun b hb=>?_,k _ H1 (Same.refl H1) (Dk hq ek)⟩;have e:b=s1.heap.objs.size:=by simpa using hb
   subst e;exact I1.fpOk (Ma _) (I1.hok.fresh (Ma _))
  | str y=>
   cases ep;cases (show x=.str y from rp);obtain⟨t,rfl⟩:=r1;refine wpAny_pyIter_strU ?_;refine⟨s1.heap.objs.size,[s1.heap.objs.size],_,_,H1,rfl,I1.kept (t':=s1.toks) fun b o e=>MJ _ e,u0 _ y t,⟨_,Mo _ rfl,rfl,rfl⟩,fun b hb=>?_,k _ H1 (Same.refl H1) zO⟩;have e:b=s1.heap.objs.size:=by simpa using hb
   subst e;exact I1.fpOk (Ma _) (I1.hok.fresh (Ma _))
  | _=>cases ep
end
end PU
namespace PU
open PySem PySem.Spec PyProof.Rows L2 PySem.SeqAt
variable[TW]
theorem nU{C:Cn}{e:Expr}{f:PSt->R PV}{pos:Nt}(h:EV C e f):EV C (.UnaryOp .USub e pos) (un1 f pd):=by
 intro pins s σ H Q I ⟨ρ,vw,q⟩;refine J9 EU h pins s σ H Q I ⟨ρ,vw,q.bind.imp fun p _ k v H1 s1 r1=>?_⟩;obtain⟨z,ez,k⟩:=k.ofO;cases p with
 | int i=>cases ez;cases (show v=.int i from r1);exact⟨i,rfl,k _ H1 s1 rfl⟩
 | _=>cases ez
def rM1(K:M8)(g:PV->PV->Option PV):V->List V->Hp->VK->Prop:=fun v vs H Q=>∃p q z u,vs=[u]/\bp K H p v/\bp K H q u/\g p q=some z/\∀w H',Same H H'->Rep K H' z w->Q w H'
structure StrM(name:Str)(id:String):Prop where
 slot:Slot "str" name id
 ty:typeOf (.builtin id)=pure (.type "method_descriptor")
theorem JL{C:Cn}{o e:Expr}{fo fe:PSt->R PV}{g:PV->PV->Option PV}{name:Str}{id:String}{apos cpos:Nt}(S:StrM name id)(hm:MtR C.X id (rM1 C.X.K g))(ho:EV C o fo)(he:EO C e fe)
  (hbase:Od o name C.X.env (NJ o C.X.env)=NJ o C.X.env:=by rfl) (hline:(apos.endLine == cpos.line)=true:=by rfl) (hs:MZ [e] C.X.env=[(false,NJ e C.X.env)]:=by exact c6 rfl) :
  EV C (.Call (.Attribute o name apos) [e] [] cpos) (zE fo fe g):=by
 intro pins s σ H Q I ⟨ρ,vw,q⟩;refine zw PySem.F.plainAttrs_str S.slot S.ty hm ho (tG he hs) hbase (by rw[hs];rfl) hline hs (by rfl) pins s σ H Q I ⟨ρ,vw,q.bind.imp fun p _ k v H1 s1 r1=>?_⟩;cases p with
 | str x=>
  cases (show v=.str x from r1);have k:RQ C H (fe ρ >>= fun q=>R.ofO (g (.str x) q)) fun p=>∀v H',Same H H'->Rep C.X.K H' p v->Q v H':=k;refine⟨rfl,ρ,vw.same s1,(k.bind.same s1).imp fun p2 _ k2 u H2 s2 r2=>?_⟩;obtain⟨z,ez,k3⟩:=k2.ofO;exact⟨.str x,p2,z,u,rfl,rfl,r2,ez,fun w H3 s3 r3=>k3 w H3 ((s1.trans s2).trans s3) r3⟩
 | _=>exact MI k
theorem kb{K:M8}{H:Hp}:∀{ps:List PV}{xs:List V}{us:List M9}{ys:List Str},kA ps=some ys->aH K H ps xs->Vals xs us->StrsAre us ys
 | [],_,_,_,e,r,rv=>by cases e;cases r;cases rv;exact .nil
 | p::ps,_,_,_,e,⟨x,t,ex,h1,h2⟩,rv=>by
  subst ex;cases p with
  | str y=>
   obtain⟨r,er,ez⟩:=MR.mp (show (kA ps).map (y::·)=some _ from e);subst ez;cases (show x=.str y from h1);cases rv with
   | cons a b=>
    obtain⟨tt,rfl⟩:=a;exact .cons y tt (kb er h2 b)
  | _=>cases e
theorem IQ:StrM "join" "str.join":=⟨PySem.F.slot_str_join,PySem.F.type_str_join⟩
theorem Jp {X:Cx}:MtR X "str.join" (rM1 X.K xc):=by
 intro pins s σ H x xs v us Q I rx rs ⟨p,q,z,u,e1,rp,rq,ez,k⟩;subst e1;obtain⟨u',rfl,ru⟩:=vals1 rs;unfold xc at ez;split at ez
 ·rename_i y ps
  obtain⟨ys,ey,ez⟩:=MU.mp ez;split at ez
  ·rename_i hl
   cases ez;cases (show x=.str y from rp);obtain⟨t,rfl⟩:=rx;obtain⟨a,zs,rfl,g,rr⟩:=bp.lst_inv rq;cases ru;obtain⟨_,its,n,rv,e⟩:=g.is I;exact join_list (items:=its.toArray) ⟨_,e,rfl,_,rfl⟩ (kb ey rr (by simpa using rv)) hl fun t' k'=>⟨.str _,H,I.tok _,⟨_,rfl⟩,k _ H (Same.refl H) rfl⟩
  ·cases ez
 ·rename_i y ps
  obtain⟨ys,ey,ez⟩:=MU.mp ez;split at ez
  ·rename_i hl
   cases ez;cases (show x=.str y from rp);obtain⟨t,rfl⟩:=rx;obtain⟨a,zs,rfl,g,rr⟩:=bp.tup_inv rq;cases ru;obtain⟨its,rv,pl,_⟩:=I.tuple g;exact join_tuple (items:=its.toArray) pl (kb ey rr (by simpa using rv)) hl fun t' k'=>⟨.str _,H,I.tok _,⟨_,rfl⟩,k _ H (Same.refl H) rfl⟩
  ·cases ez
 ·cases ez
end PU
namespace PU
open PySem PySem.Spec PyProof.Rows L2 PySem.SeqAt
variable[TW]
def Lf(K:M8):V->Option Int->Option Int->Hp->VK->Prop:=fun v lo hi H Q=>∃p z,bp K H p v/\gSl p lo hi=some z/\∀w H',Same H H'->Rep K H' z w->Q w H'
def tOI(C:Cn)(f:PSt->R (Option Int)):TO:=fun σ H Q=>∃ρ,View C.X.K H σ ρ/\RQ C H (f ρ) fun o=>∀H',Same H H'->Q o H'
def EOI(C:Cn)(e:Option Expr)(f:PSt->R (Option Int)):Prop:=PO C.X e (tOI C f)
theorem oV{K:M8}{H:Hp}{ps:List PV}{xs:List V}(r:aH K H ps xs)(lo hi:Option Int):aH K H (qG ps lo hi) (Ag xs lo hi):=by
 unfold qG Ag;rw[r.length];exact(r.drop _).take _
section
variable{C : Cn}{e : Expr}{f : PSt → R PV}{lo hi : Option Expr}{l h : PSt → R (Option Int)}{pos p2 : Nt}
theorem fU:EOI C none gq:=fun pins s σ H Q I ⟨ρ,vw,q⟩=>Cu pins s σ H Q I (q H (Same.refl H))
theorem fT(he:EV C e f):EOI C (some e) (kJ f):=by
 intro pins s σ H Q I ⟨ρ,vw,q⟩;refine Ct he pins s σ H Q I ⟨ρ,vw,q.bind.imp fun p _ k v H1 s1 r1=>?_⟩;cases p with
 | int i=>cases (show v=.int i from r1);exact⟨i,rfl,k H1 s1⟩
 | _=>exact MI k
theorem slP{X:Cx}:SlR X (Lf X.K):=by
 intro pins s σ H x v vl vu lo hi sl Q I rx hs pl pu ⟨p,z,rp,ez,k⟩;cases p with
 | lst ps=>
  cases ez;obtain⟨a,xs,rfl,g,rr⟩:=bp.lst_inv rp;obtain⟨T,id,h1,h2,h3⟩:=C4 pins s σ H _ v vl vu lo hi sl (fun w H'=>∃b,w=.ref b/\H b=none/\H'=upd H b (.lst (Ag xs lo hi))) I rx hs pl pu ⟨a,xs,rfl,g.l,fun b hb=>⟨b,rfl,hb,rfl⟩⟩;refine⟨T,id,h1,h2,thn h3 fun u s' ⟨w,H',I',rw',b,ew,nb,eH⟩=>?_⟩;subst ew eH;obtain⟨H2,I2,rp2,oth⟩:=L2.Inv.frz (a:=b) (p:=.lst (qG ps lo hi)) I' ⟨_,ay,(oV rr lo hi).same (Same.new nb)⟩;refine⟨.ref b,H2,I2,rw',k _ H2 (.of fun c o ec=>?_) rp2⟩;have hc:=bB ec nb;rw[oth c hc,aB hc];exact ec
 | tup ps=>
  simp only[gSl] at ez;obtain⟨a,xs,rfl,g,rr⟩:=bp.tup_inv rp
  by_cases hw:HT.sIx ps.length 0 lo=0/\HT.sIx ps.length ps.length hi=ps.length
  ·rw[if_pos hw] at ez
   cases ez
  ·rw[if_neg hw] at ez
   cases ez;exact AH pins s σ H _ v vl vu lo hi sl Q I rx hs pl pu ⟨a,xs,rfl,g,by rw[← rr.length];exact hw,fun b hb=>k _ _ (Same.new hb) ⟨b,_,rfl,ay,(oV rr lo hi).same (Same.new hb)⟩⟩
 | _=>cases ez
theorem oT(ha:EO C e f)(hl:EOI C lo l)(hh:EOI C hi h):EV C (.Subscript e (.Slice lo hi none p2) pos) (mZ f l h):=by
 intro pins s σ H Q I ⟨ρ,vw,q⟩;refine ow slP ha hl hh pins s σ H Q I ⟨ρ,vw,q.bind.imp fun p _ k v H1 s1 r1=>⟨ρ,vw.same s1,(k.bind.same s1).imp fun o1 _ k2 H2 s2=>⟨ρ,(vw.same s1).same s2,(k2.bind.same (s1.trans s2)).imp fun o2 _ k3 H3 s3=>?_⟩⟩⟩;obtain⟨z,ez,k4⟩:=k3.ofO;exact⟨p,z,(r1.same s2).same s3,ez,fun w H4 s4 r4=>k4 w H4 (((s1.trans s2).trans s3).trans s4) r4⟩
end
theorem pF{K:M8}{H:Hp}{k:Key}{p:PV}{v:V}(rp:Rep K H p v):∀{kvs:List (Key×V)}{ps:List PV},aH K H ps (kvs.map (·.2))->aH K H (kD (kvs.map (·.1)) ps k p) ((kvs.map fun kv=>if kv.1=k then (kv.1,v) else kv).map (·.2))
 | [],ps,r=>by
  cases ps with
  | nil=>rfl
  | cons q qs=>obtain⟨x,t,e,_⟩:=r;cases e
 | kv::kvs,ps,r=>by
  cases ps with
  | nil=>cases r
  | cons q qs=>
   obtain⟨x,t,e,h1,h2⟩:=r;simp only[MC,Nq] at e;obtain⟨rfl,rfl⟩:=e;have ih:=pF (k:=k) rp h2;simp only[MC,kD,NU]
   by_cases hk:kv.1=k
   ·rw[if_pos hk,if_pos hk];exact⟨_,_,rfl,rp,ih⟩
   ·rw[if_neg hk,if_neg hk];exact⟨_,_,rfl,h1,ih⟩
theorem sE{K:M8}{H:Hp}{kvs:List (Key×V)}{ps:List PV}{k:Key}{p:PV}{v:V}(rr:aH K H ps (kvs.map (·.2)))(rp:Rep K H p v) :
  ∃ks' ps',iJ (kvs.map (·.1)) ps k p=.dct ks' ps'/\(putK kvs k v).map (·.1)=ks'/\aH K H ps' ((putK kvs k v).map (·.2)):=by
 unfold iJ;have e:((kvs.map (·.1)).any fun j=>decide (j=k))=(kvs.any fun kv=>decide (kv.1=k)):=by rw[ON];rfl
 rw[e];unfold putK
 split
 ·refine⟨_,_,rfl,?_,pF rp rr⟩
  rw[MV];apply Os;intro kv _;simp only[PC]
  split <;> rfl
 ·refine⟨_,_,rfl,by simp,?_⟩
  rw[Mc];exact aH.append rr ⟨_,_,rfl,rp,rfl⟩
theorem eJ{K:M8}{H:Hp}{a:Addr}{kvs:List (Key×V)}{ps:List PV}{k:Key}{p:PV}{v:V}(rr:aH K H ps (kvs.map (·.2)))(rp:Rep K H p v)(ha:H a=some (.dK (putK kvs k v))):cA K H a (iJ (kvs.map (·.1)) ps k p):=by
 obtain⟨ks',ps',e,e1,e2⟩:=sE (k:=k) rr rp;rw[e];exact⟨_,ha,e1,e2⟩
theorem iX{C:Cn}(i:Nat){x:Str}{ke e:Expr}{fk fv:PSt->R PV}{np pos' pos:Nt}(hu:C.X.A.units+64<cLine)(hk:EV C ke fk)(hv:EV C e fv)(hN:C.X.N[i]?=some x:=by rfl)(hvis:Vis C.X.env.scope x:=by first | exact Ra rfl | exact Qe (Ra rfl))
  (hs:PH e (some (.Subscript (.Name x np) ke pos')) pos.line C.X.env=pure false:=by rfl) (hd:(x == ("__debug__":Str))=false:=by decide) (hcd:(x == ("__classdict__":Str))=false:=by decide) :
  SV C (.Assign [.Subscript (.Name x np) ke pos'] e pos) (qT i fk fv):=by
 intro pins s σ H D I ⟨ρ,B,S,q⟩;unfold qT at q;split at q
 ·rename_i ks ps e1
  obtain⟨a,e2,kvs,hx,ek,rr⟩:=S.vw i _ e1;refine vL (by omega) (fG hN hvis hd hcd) hk hv hs pins s σ H D I ⟨ρ,S.vw,(q.bind S.same).imp fun p _ q1 v H1 s1 r1=>⟨_,e2,ρ,S.vw.same s1,(q1.bind (S.same.trans s1)).imp fun kp _ q2 y H2 s2 r2=>?_⟩⟩;obtain⟨k,e3,q3⟩:=RS.ofO q2
  by_cases hl:ks.length<16777216
  ·rw[if_pos hl] at q3
   have hy:=dC e3 r2.o;subst hy;subst ek;have hx2:H2 a=some (.dK kvs):=s2 _ _ (s1 _ _ hx);refine⟨a,_,rfl,BO.k hx2 (by rw[N7];simpa using hl),?_⟩;have kp:Kp H2 (upd H2 a (.dK (putK kvs k v))):=Kp.upd hx2 rfl;refine q3 σ _ (((S.grow s1).grow s2).turn e1 e2 (fun b hb=>aB hb) ⟨a,rfl,?_⟩);exact eJ (aH.kp kp _ ((rr.same s1).same s2)) (Rep.kp kp _ (r1.same s2)) ay
  ·rw[if_neg hl] at q3
   exact MI q3
 ·exact MI q
theorem jZ{C:Cn}{pos:Nt}:EN C (.Dict [] [] pos) newD:=fun pins s σ H Q I ⟨ρ,vw,q⟩=>zt pins s σ H Q I fun p hp=>q p _ (Same.new hp) hp ⟨[],ay,rfl,rfl⟩
def kc(K:M8)(H:Hp):List (Key×PV)->List (Key×V)->Prop
 | [],xs=>xs=[]
 | kp::r,xs=>∃v t,xs=(kp.1,v)::t/\Rep K H kp.2 v/\kc K H r t
theorem kc.kp{K:M8}{H H':Hp}(k:Kp H H'):∀{kps:List (Key×PV)}{xs:List (Key×V)},kc K H kps xs->kc K H' kps xs
 | [],_,h=>h
 | kp::r,_,⟨v,t,e,h1,h2⟩=>⟨v,t,e,Rep.kp k _ h1,kc.kp k h2⟩
def ED(C:Cn)(pos:Nt)(ks:List (Option Expr))(vs:List Expr)(f:PSt->R (List (Key×PV))):Prop:=∃trs,PPs C.X pos ks vs trs/\
 ∀σ H Q,(∃ρ,View C.X.K H σ ρ/\RQ C H (f ρ) fun kps=>∀kvs H',Same H H'->kc C.X.K H' kps kvs->Q (kvs.map fun kv=>(kV kv.1,kv.2)) H')->sj trs σ H Q
theorem BA{C:Cn}{pos:Nt}:ED C pos [] [] G6:=⟨[],vM,fun σ H Q ⟨ρ,vw,q⟩=>q [] H (Same.refl H) rfl⟩
theorem mw{C:Cn}{pos:Nt}{k v:Expr}{ks:List (Option Expr)}{vs:List Expr}{fk fv:PSt->R PV}{f:PSt->R (List (Key×PV))}(hk:EV C k fk)(hv:EV C v fv)(h:ED C pos ks vs f):ED C pos (some k::ks) (v::vs) (qv fk fv f):=by
 obtain⟨trs,hp,ht⟩:=h;refine⟨_,sH hk hv hp,fun σ H Q ⟨ρ,vw,q⟩=>⟨ρ,vw,q.bind.imp fun kp _ q1 x H1 s1 r1=>?_⟩⟩
 obtain⟨kk,ek,q1⟩:∃kk,eV kp=some kk/\RQ C H (fv ρ >>= fun p=>f ρ >>= fun r=>R.ok ((kk,p)::r)) _:=by
  cases h:eV kp with
  | none=>rw[h] at q1;exact MI q1
  | some kk=>rw[h] at q1;exact⟨kk,rfl,q1⟩
 refine⟨ρ,vw.same s1,(q1.bind.same s1).imp fun p _ q2 y H2 s2 r2=>ht σ H2 _ ⟨ρ,(vw.same s1).same s2,(q2.bind.same (s1.trans s2)).imp fun kps _ q3 kvs H3 s3 r3=>?_⟩⟩;have hx:=dC ek r1.o;subst hx;exact q3 ((kk,y)::kvs) H3 ((s1.trans s2).trans s3) ⟨y,kvs,rfl,r2.same s3,r3⟩
def Aq(d:PV)(kp:Key×PV):PV:=match d with
 | .dct ks ps=>iJ ks ps kp.1 kp.2
 | d=>d
theorem oD(kps:List (Key×PV)):gL kps=kps.foldl Aq (.dct [] []):=rfl
theorem lQ{K:M8}{H:Hp}:∀{kps:List (Key×PV)}{kvs acc:List (Key×V)}{ps:List PV},kc K H kps kvs->aH K H ps (acc.map (·.2))->
  ∃ks' ps',kps.foldl Aq (PV.dct (acc.map (·.1)) ps)=PV.dct ks' ps'/\(fI acc kvs).map (·.1)=ks'/\aH K H ps' ((fI acc kvs).map (·.2))
 | [],kvs,acc,ps,h,r=>by cases h;exact⟨_,_,rfl,rfl,r⟩
 | kp::kps,kvs,acc,ps,⟨v,t,e,h1,h2⟩,r=>by
  subst e;obtain⟨ks',ps',g,g1,g2⟩:=sE (k:=kp.1) r h1;obtain⟨ks2,ps2,f,f1,f2⟩:=lQ (acc:=putK acc kp.1 v) h2 g2;refine⟨ks2,ps2,?_,f1,f2⟩;rw[OU]
  have:Aq (PV.dct (acc.map (·.1)) ps) kp=PV.dct ((putK acc kp.1 v).map (·.1)) ps':=by
   show iJ _ _ _ _=_;rw[g,g1]
  rw[this];exact f
theorem kc.length{K:M8}{H:Hp}:∀{kps:List (Key×PV)}{xs:List (Key×V)},kc K H kps xs->kps.length=xs.length
 | [],_,h=>by cases h;rfl
 | kp::r,_,⟨v,t,e,h1,h2⟩=>by subst e;simp[kc.length h2]
theorem xA{C:Cn}{pos:Nt}{ks:List (Option Expr)}{vs:List Expr}{f:PSt->R (List (Key×PV))}(h:ED C pos ks vs f)(hall:ks.all (·.isSome)=true:=by rfl)(hl:ks.length=vs.length:=by rfl)(h0:ks≠[]:=by exact fun z=>nomatch z)
  (h15:ks.length<=15:=by decide):EN C (.Dict ks vs pos) (xI f):=by
 obtain⟨trs,hp,ht⟩:=h;intro pins s σ H Q I ⟨ρ,vw,q⟩;refine Cz hp hall hl h0 h15 pins s σ H Q I fun p hn=>ht σ _ _ ⟨ρ,vw.same (Same.new hn),(q.bind.same (Same.new hn)).imp fun kps _ q1 kvs H3 s3 r3=>?_⟩;have sm:Same H H3:=(Same.new hn).trans s3;have e3:H3 p=some (.dK []):=s3 _ _ ay
 by_cases hk:kps.length<=15
 ·rw[if_pos hk] at q1
  refine⟨e3,kvs,rfl,by rw[← r3.length];exact hk,?_⟩;have kp:Kp H3 (upd H3 p (.dK (fI [] kvs))):=Kp.upd e3 rfl;obtain⟨ks',ps',g,g1,g2⟩:=lQ (acc:=[]) (ps:=[]) (kc.kp kp r3) aH.nil;refine q1 p _ (sm.but hn (fun u h=>by rw[e3] at h;cases h;rfl) (fun b hb=>aB hb)) hn ?_
  ·rw[oD]
   have g:kps.foldl Aq (PV.dct [] [])=PV.dct ks' ps':=g;rw[g];exact⟨_,ay,g1,g2⟩
 ·rw[if_neg hk] at q1
  exact MI q1
end PU
namespace PU
open PySem PySem.Spec PyProof.Rows L2 PySem.SeqAt
variable[TW]
structure Con(K:M8)(mg:Str->Option M9)(x:Str)(c:PV):Prop where
 ex:∃v u,mg x=some u/\RelV v u/\∀H,Rep K H c v
theorem qp {C:Cn} {x:Str} {c:PV} {pos:Nt} (hg:Gl C.X x) (h:Con C.X.K C.X.mg x c) (hd:(x == ("__debug__":Str))=false:=by decide):EV C (.Name x pos) (kP c):=by
 obtain⟨v,u,hm,r,rp⟩:=h.ex;exact Dy hg hm r rp hd
def GZ(p:Params)(e:Str×Tok×M9):DictEntry:={ hash:=PyData.keyHash p e.1,key:=.str e.1 e.2.1,val:=e.2.2 }
omit [TW] in
theorem uA(w:Ml)(x:Str):PyData.keyHash w.params x=hashStr w x:=rfl
omit [TW] in
theorem ny{P:Md}{w:Ml}:∀(es:List (Str×Tok×M9)),Pairs (aw P w) (es.map (GZ w.params)) (es.map fun e=>((Nv e.1:Key),e.2.2))
 | []=>.nil
 | e::es=>.cons (gg P w e.1 e.2.1) rfl (ny es)
omit [TW] in
theorem wI:∀{xs:List V}{es:List (Str×Tok×M9)},Vals xs (es.map (·.2.2))->KV ((es.map fun e=>(Nv e.1:Key)).zip xs) (es.map fun e=>((Nv e.1:Key),e.2.2))
 | [],[],_=>.nil
 | x::xs,e::es,r=>by
  cases r with
  | cons a b=>exact .cons ⟨rfl,a⟩ (wI b)
 | [],_::_,r=>by cases r
 | _::_,[],r=>by cases r
omit [TW] in
theorem con_dct{w:Ml}{tabs:List Addr}{qual:Nat->Nat->Str}{K:M8}{h:Heap}{mg:Str->Option M9}{x:Str}{a:Addr}{o:Obj}(es:List (Str×Tok×M9)){ep:Nat}{ps:List PV}{xs:List V}(X:K.In h)(G:h.Ns mainGlobals mg)
  (n1:NK K mainGlobals x=some (some (.ref a))) (n2:K.lookup a=some o) (n3:o={ cls:=.type "dict",data:=.dict (es.map (GZ w.params)).toArray ep }) (hs:(a == N6)=false)
  (nd:(es.map (·.1)).Nodup) (hz:es.length<=sizeLine) (vals:Vals xs (es.map (·.2.2))) (reps:∀H,@aH ⟨w,tabs,qual⟩ K H ps xs):@Con ⟨w,tabs,qual⟩ K mg x (.dct (es.map fun e=>.inr e.1) ps):=by
 letI:TW:=⟨w,tabs,qual⟩
 have hl:xs.length=es.length:=by rw[vals.length,MG]
 have e1:((es.map fun e=>(Nv e.1:Key)).zip xs).map (·.1)=es.map fun e=>.inr e.1:=PY (by rw[MG];omega);have e2:((es.map fun e=>(Nv e.1:Key)).zip xs).map (·.2)=xs:=QA (by rw[MG];omega);refine⟨.ref a,_,PJ X G n1,rfl,fun H=>⟨a,(es.map fun e=>(Nv e.1:Key)).zip xs,rfl,.inr ⟨?_,hs,o,_,_,n2,?_,by rw[n3],fun P=>⟨es.map fun e=>((Nv e.1:Key),e.2.2),wI vals,?_,?_,?_⟩⟩,e1,by rw[e2];exact reps H⟩⟩
 ·rw[Pj,MG,hl]
  omega
 ·rw[n3]
  exact⟨rfl,rfl,rfl⟩
 ·intro e he
  have he:e∈es.map (GZ w.params):=by simpa using he
  obtain⟨z,_,rfl⟩:=MF.mp he;exact⟨.inr z.1,gg P w z.1 z.2.1,uA w z.1⟩
 ·have e3:(es.map (GZ w.params)).toArray.toList=es.map (GZ w.params):=by simp
  rw[e3];exact ny (P:=P) (w:=w) es
 ·rw[MV]
  have:((·.1) ∘ fun e:Str×Tok×M9=>((Nv e.1:Key),e.2.2))=Nv ∘ (·.1):=rfl;rw[this,← MV];exact List.Pairwise.map _ (fun a b hab e=>hab (Ov e)) nd
theorem Jj{P:Md}{w:Ml}{K:M8}{mg:Str->Option M9}{base:Heap}{x qual:Str}{st:Stmt}{f:Addr}{fd:FuncData}{N ps:List Str}{k:Nat}{g:PSt->R Fl}(F:Fun K x qual st f fd)(S:FnScope N ps (ai st))
  (hbody:∀(cdv:M9)(A:Mt)(outer:List RB)(s:MD)(H:Hp)(E:XK),Room k (A.deeper (PB qual (ai st) s.heap.objs.size f cdv))->SVs (DQ P w K mg base N qual (ai st) f cdv A outer s H E) (bh st) g) :
  FnOk P w K mg base CX0 (k+1) f fd ps (spP K ps.length (eI ps.length N.length g)):=by
 refine F.ok S (fun vs H Q E h=>h.1) (fun cdv A outer s H vs Q E hr h=>?_);obtain⟨hl,tb,qs,p,r,e,k⟩:=h;refine⟨_,hbody cdv A outer s H E hr,start N.length qs,(H,H),iY tb r,?_⟩;unfold eI at e;rw[if_pos (by rw[r.length];exact hl)] at e;cases hg:g (start N.length qs) with
 | ok fl=>
  rw[hg] at e;cases fl with
  | next ρ=>cases e;exact fun σ H' S'=>k .non H' S'.same rfl
  | ret q=>cases e;exact fun v H' s' r'=>k v H' s' r'
  | brk ρ=>cases e
  | cont ρ=>cases e
 | er x=>rw[hg] at e;cases e
 | no=>rw[hg] at e;cases e
theorem uc{K:M8}{H:Hp}{a:Addr}{ns:List Int}(h:SqF K H a (ns.map V.int)):aH K H [.lst (ns.map .int)] [.ref a]:=by
 have:∀l:List Int,aH K H (l.map PV.int) (l.map V.int):=by
  intro l
  induction l with
  | nil=>rfl
  | cons x l ih=>exact⟨_,_,rfl,rfl,ih⟩
 exact⟨_,_,rfl,⟨a,_,rfl,h,this ns⟩,rfl⟩
end PU
namespace PU
open PySem PySem.Spec PyProof.Rows L2 PySem.SeqAt
section
variable{P : Md}{w : Ml}{A : Mt}{E : M9 → MD → Prop}{s : MD}{it a : Addr}{i n ep slot : Nat}
def Tells(P:Md)(w:Ml)(s:MD)(a:Addr)(slot i ep:Nat)(r:Option (M9×Nat)):Prop:=∀(A:Mt)(E:M9->MD->Prop)(Q:Option (M9×Nat)->MD->Prop),Q r s->Mf (Ms P w) A (setNext a slot i ep) Q E s
end
end PU
section
namespace PU
def whF(t:PSt->R Bool)(g:PSt->R Fl):Nat->PSt->R Fl
 | 0,_=>.no
 | n+1,ρ=>t ρ >>= fun b=>if b=true then g ρ >>= fun fl=>(match fl with
  | .next ρ2=>whF t g n ρ2
  | .cont ρ2=>whF t g n ρ2
  | .brk ρ2=>.ok (.next ρ2)
  | .ret q=>.ok (.ret q)) else .ok (.next ρ)
def whS(n:Nat)(t:PSt->R Bool)(g:PSt->R Fl):PSt->R Fl:=whF t g n
end PU
namespace PU
open PySem PySem.Spec PyProof.Rows L2 PySem.SeqAt
variable[TW]
theorem o6{C:Cn}{c:Expr}{body:List Stmt}{t:PSt->R Bool}{g:PSt->R Fl}{pos:Nt}(n:Nat)(hc:ET C c t)(hb:SVs C body g)(hp:TR (Ms C.X.prog C.X.w) C.X.A C.X.env C.X.xe:=by exact Sq):SV C (.While c body [] pos) (whS n t g):=by
 intro pins s σ H D I ⟨ρ,B,S,q⟩;refine zi hp hc hb pins s σ H D I ⟨fun m σ' H'=>∃ρ',StOk C.X.K B H' σ' ρ'/\RS C B D (whF t g m ρ'),⟨n,ρ,S,q⟩,?_⟩;rintro m σ' H' ⟨ρ',S',q'⟩;cases m with
 | zero=>exact MI q'
 | succ m=>
  have q':RS C B D (t ρ' >>= fun b=>if b=true then g ρ' >>= fun fl=>(match fl with
   | .next ρ2=>whF t g m ρ2
   | .cont ρ2=>whF t g m ρ2
   | .brk ρ2=>.ok (.next ρ2)
   | .ret q=>.ok (.ret q)) else .ok (.next ρ')):=q'
  refine⟨ρ',S'.vw,(q'.bind S'.same).imp fun b _ k H1 s1=>?_⟩;cases b with
  | false=>
   rw[if_neg MO] at k ⊢;exact k σ' H1 (S'.grow s1)
  | true=>
   rw[if_pos rfl] at k ⊢;refine⟨fun σ2 H2=>∃ρ2,StOk C.X.K B H2 σ2 ρ2/\RS C B D (whF t g m ρ2),fun σ2 H2 z=>⟨m,Nat.lt_succ_self m,z⟩,ρ',B,S'.grow s1,?_⟩;cases hgr:g ρ' with
   | ok fl=>
    rw[hgr] at k;cases fl with
    | next ρ2=>exact fun σ4 H4 S4=>⟨ρ2,S4,k⟩
    | cont ρ2=>exact fun σ4 H4 S4=>⟨ρ2,S4,k⟩
    | brk ρ2=>exact fun σ4 H4 S4=>k σ4 H4 S4
    | ret p=>exact k
   | er x=>rw[hgr] at k;exact k
   | no=>rw[hgr] at k;exact k
end PU
end
namespace PU
open PySem PySem.Spec PyProof.Rows L2 PySem.SeqAt
variable[TW]
theorem mv {C:Cn} {tg a b:Expr} {f f2:PSt->R PV} {p pos:Nt} (hg:Gl C.X "range") (hm:C.X.mg "range"=none) (ha:EV C a f) (hb:EV C b f2) (hs:MZ [a,b] C.X.env=[(false,NJ a C.X.env),(false,NJ b C.X.env)]:=by rfl)
  (hs2:MZ [b] C.X.env=[(false,NJ b C.X.env)]:=by exact c6 rfl):EI C tg (.Call (.Name "range" p) [a,b] [] pos) (Ee f f2):=by
 intro pins s σ H Rk I ⟨ρ,vw,q⟩;refine vP hg hm (c5 ha (c5 hb gI hs2) (by rw[hs,hs2])) hs hs2 pins s σ H Rk I ⟨ρ,vw,q.bind.imp fun p _ k v H1 s1 r1=>⟨ρ,vw.same s1,(k.bind.same s1).imp fun p2 _ k2 v2 H2 s2 r2=>?_⟩⟩;cases p with
 | int i=>
  cases p2 with
  | int j=>
   cases (show v=.int i from r1);cases (show v2=.int j from r2);have k2:RQ C H (if i.natAbs<1000000000/\j.natAbs<1000000000 then R.ok (cD i (j-i).toNat) else R.no) fun ps=>∀J H',Same H H'->ItP C.X.K J H' ps->Rk J H':=k2
   by_cases hj:i.natAbs<1000000000/\j.natAbs<1000000000
   ·rw[if_pos hj] at k2
    exact⟨i,j,rfl,⟨by omega,by omega,by omega,by omega⟩,k2 _ H2 (s1.trans s2) t4⟩
   ·rw[if_neg hj] at k2
    exact MI k2
  | _=>exact MI k2
 | _=>exact MI k2
end PU
section
namespace PU
def Dl:PV->Bool
 | .dct _ _=>true
 | _=>false
end PU
namespace PU
open PySem PySem.Spec PyProof.Rows L2 PySem.SeqAt
variable[TW]
theorem jU{K:M8}{H:Hp}{k:Key}:∀{ks:List Key}{ps:List PV}{kvs:List (Key×V)},kvs.map (·.1)=ks->aH K H ps (kvs.map (·.2))->bM ks ps k=none->jB kvs k=none
 | _,_,[],h1,h2,e=>rfl
 | _,[],kv::kvs,h1,h2,e=>by
  cases h2
 | _,q::ps,kv::kvs,h1,h2,e=>by
  subst h1;obtain⟨x,r,ex,hx,ht⟩:=h2;simp only[MC,Nq] at ex;obtain⟨rfl,rfl⟩:=ex;simp only[MC,bM] at e
  by_cases hk:kv.1=k
  ·rw[if_pos hk] at e
   cases e
  ·rw[if_neg hk] at e
   rw[fQ hk];exact jU rfl ht e
end PU
end
namespace PU
open PySem PySem.Spec PyProof.Rows L2 PySem.SeqAt
theorem o7:isSubtype (.type "dict") (.type "dict")=pure true:=by rw[isSubtype_type];kernel_rfl
section
variable{P : Md}{w : Ml}{A : Mt}{E : M9 → MD → Prop}{s : MD}{d : Addr}{kvs : List (Key×M9)}{ep : Nat}
theorem pX{Q:M9->MD->Prop}(hh:A.handled=none)(hd:(d == N6)=false)(m:s.heap.DictAt (aw P w) d kvs ep)(hz:kvs.length<=sizeLine)
  (q:∀(h':Heap) (tk:Nat) (acc:Array M9) (c:Nat),(∀b o,s.heap.get? b=some o->h'.get? b=some o)->h'.get? s.heap.objs.size=some { cls:=.type "list",data:=.seq acc c }->
   ItemsOf (fun i v=>∃k x,kvs[i]?=some (k,x)/\(aw P w).is k v=true) acc kvs.length->Q (.ref s.heap.objs.size) { s with heap:=h',toks:=tk }):Mf (Ms P w) A (call (.type "list") [.ref d]) Q E s:=by
 have ld:d<s.heap.objs.size:=by obtain⟨o,es,ho,_⟩:=m;exact MY ho
 refine callType_codes (Q₁:=fun obj s₁=>obj=.ref s.heap.objs.size/\s₁={ s with heap:=s.heap.push { cls:=.type "list",data:=.seq #[] } }) PySem.F.called_list (PySem.F.typeCall_list_1 _) PySem.F.entry_list_init (code_list_new _ ⟨rfl,rfl⟩) fun obj s₁ h₁=>?_;obtain⟨rfl,rfl⟩:=h₁;have g0:(s.heap.push { cls:=.type "list",data:=.seq #[] }).get? s.heap.objs.size=some { cls:=.type "list",data:=.seq #[] }:=Mo _ rfl;refine⟨⟨_,g0,rfl⟩,PySem.F.args_list_init_2 _ _,?_⟩;show Mf _ _ (do let old<- RI (.ref s.heap.objs.size);Builtin.List.listUpdate (.ref s.heap.objs.size) (fun _=>#[]);letGo old.toList.reverse;PK (.ref s.heap.objs.size) (.ref d) .none) _ _ _;refine MA ?_;unfold RI;refine MA (wpAny_seqItems g0 rfl (MK ?_));show Mf _ _ (updateSeq s.heap.objs.size (fun _=>#[]) >>= fun _=>letGo (#[]:Array M9).toList.reverse >>= fun _=>PK (.ref s.heap.objs.size) (.ref d) .none) _ _ _;refine MA (SC g0 rfl ?_ (Nu _) (Nu _));have g1:=PL (Nz (fun _=>(#[]:Array M9))) g0 rfl
 have k1:∀b o,s.heap.get? b=some o->((s.heap.push { cls:=.type "list",data:=.seq #[] }).update s.heap.objs.size (Nz (fun _=>(#[]:Array M9)))).get? b=some o:=
  fun b o e=>(P7 _ _ (OP (MY e))).trans (MJ _ e)
 have z1:((s.heap.push { cls:=.type "list",data:=.seq #[] }).update s.heap.objs.size (Nz (fun _=>(#[]:Array M9)))).objs.size=s.heap.objs.size+1:=by rw[Heap.size_update,Heap.size_push]
 refine MA (wpAny_letGo ?_);generalize (s.heap.push { cls:=.type "list",data:=.seq #[] }).update s.heap.objs.size (Nz (fun _=>(#[]:Array M9)))=h1 at g1 k1 z1 ⊢
 have m1:h1.DictAt (aw P w) d kvs ep:=by
  obtain⟨o,es,ho,r⟩:=m;exact⟨o,es,k1 _ _ ho,r⟩
 have t1:({ s with heap:=h1 }:MD).TypeIs (.ref d) "dict":=m1.dictOf.typeIs;unfold PK;refine MA (PZ (T:="dict") t1 ?_)
 have r1:Builtin.List.listSameRef (.ref s.heap.objs.size) (.ref d)=false:=by
  show (s.heap.objs.size == d)=false;simpa using OP ld
 have r2:(Pn "dict" == Pn "list")=false:=by decide
 have r3:(Pn "dict" == Pn "tuple")=false:=by decide
 simp only[r1,r2,r3,Bool.or_false,NG,if_false];refine MA (wpAny_pyIter_dict (knd:=aw P w) (s:={ s with heap:=h1 }) hd m1 ?_);refine MA (O5 ?_)
 have m2:(h1.push { cls:=.type "dict_keyiterator",data:=.fields #[.ref d,.int 0 0,.int kvs.length 0,.int ep 0] }).DictAt (aw P w) d kvs ep:=by
  obtain⟨o,es,ho,r⟩:=m1;exact⟨o,es,MJ _ ho,r⟩
 have t2:=(show ({ s with heap:=h1.push { cls:=.type "dict_keyiterator",data:=.fields #[.ref d,.int 0 0,.int kvs.length 0,.int ep 0] } }:MD).TypeIs (.ref d) "dict" from m2.dictOf.typeIs);unfold Builtin.List.listLengthHint;refine MA (Qa (T:="dict") (v:=.ref d) t2 QE.lookup ?_)
 wp_delta
 refine MA (Ro (T:="dict") (v:=.ref d) (b:=true) t2 o7 ?_);show Mf _ _ (typeOf (Ni d) >>= _) _ _ _;refine MA (PZ (T:="dict") (v:=.ref d) t2 (MK ?_));rw[if_pos (by decide)];refine MA (Q1 (MA ?_));unfold Builtin.List.listTouch;have nI:h1.objs.size≠s.heap.objs.size:=by rw[z1];exact Nat.succ_ne_self _
 have gL2:(h1.push { cls:=.type "dict_keyiterator",data:=.fields #[.ref d,.int 0 0,.int kvs.length 0,.int ep 0] }).get? s.heap.objs.size=some _:=MJ _ g1;have gI2:(h1.push { cls:=.type "dict_keyiterator",data:=.fields #[.ref d,.int 0 0,.int kvs.length 0,.int ep 0] }).get? h1.objs.size=some _:=Mo _ rfl;have k2:∀b o,s.heap.get? b=some o->(h1.push { cls:=.type "dict_keyiterator",data:=.fields #[.ref d,.int 0 0,.int kvs.length 0,.int ep 0] }).get? b=some o:=fun b o e=>MJ _ (k1 b o e);refine MA (SC gL2 rfl ?_ (Nu _) (by show 1<=_;rw[N7];decide));have g3:=PL (Nz (·.push Po)) gL2 rfl;refine SC g3 rfl ?_ (by show 1<=_;rw[N7];decide) (Nu _);have g4:=PL (Nz (·.pop)) g3 rfl
 have k4:∀b ob,b≠s.heap.objs.size->(h1.push { cls:=.type "dict_keyiterator",data:=.fields #[.ref d,.int 0 0,.int kvs.length 0,.int ep 0] }).get? b=some ob->(((h1.push { cls:=.type "dict_keyiterator",data:=.fields #[.ref d,.int 0 0,.int kvs.length 0,.int ep 0] }).update s.heap.objs.size (Nz (·.push Po))).update s.heap.objs.size (Nz (·.pop))).get? b=some ob:=fun b ob hb e=>
  (P7 _ _ (Oc hb)).trans ((P7 _ _ (Oc hb)).trans e)
 show Mf _ _ _ _ _ { s with heap:=(((h1.push { cls:=.type "dict_keyiterator",data:=.fields #[.ref d,.int 0 0,.int kvs.length 0,.int ep 0] }).update s.heap.objs.size (Nz (·.push Po))).update s.heap.objs.size (Nz (·.pop))) };generalize ((h1.push { cls:=.type "dict_keyiterator",data:=.fields #[.ref d,.int 0 0,.int kvs.length 0,.int ep 0] }).update s.heap.objs.size (Nz (·.push Po))).update s.heap.objs.size (Nz (·.pop))=h4 at g4 k4 ⊢;have nd:d≠s.heap.objs.size:=Mp ld;have ndI:d≠h1.objs.size:=by rw[z1];exact Mp (RF ld)
 have st4:h4.IsKeyIter h1.objs.size d 0 kvs.length ep/\h4.DictAt (aw P w) d kvs ep:=by
  refine⟨⟨_,k4 _ _ nI gI2,rfl,rfl⟩,?_⟩;obtain⟨o,es,ho,r⟩:=m2;exact⟨o,es,k4 _ _ nd ho,r⟩
 have nL:s.heap.objs.size ∉ [h1.objs.size,d]:=fun z=>by
  rcases MP.mp z with e | z
  ·exact nI e.symm
  ·exact nd (MQ.mp z).symm
 have W:∀A':Mt,A'.handled=none->Walks P w A' h1.objs.size [h1.objs.size,d] [h1.objs.size] kvs.length _ _:=fun A' hA=>Walks.dictKeys (knd:=aw P w) hA h1.objs.size d ndI kvs ep;refine MK ⟨plainId_quiet PySem.F.plain_extend_loop _,codeAny_extend_loopS (W A.in1.in1 hh).toS hz _ nL _ kvs.length 0 _ _ _ rfl (Nu _) st4 g4 (ItemsOf.nil _) fun s' acc c mm gA it'=>?_⟩;rw[Moved.eq_with mm];refine⟨rfl,q s'.heap s'.toks acc c (fun b o e=>mm.heap b o (fun hb=>?_) (k4 b o (Mp (MY e)) (k2 b o e))) gA it'⟩;have lt:=MY e;rcases MP.mp hb with z | z
 ·exact absurd lt (z▸Nb _)
 ·rw[MQ.mp z,z1] at lt
  exact absurd lt (Ru.mpr (TB _))
end
end PU
section
namespace PU
def xb:PV->Option PV
 | .lst ps=>some (.lst ps)
 | .tup ps=>some (.lst ps)
 | .dct ks _=>some (.lst (ks.map zL))
 | _=>none
end PU
namespace PU
open PySem PySem.Spec PyProof.Rows L2 PySem.SeqAt
variable[TW]
theorem qa{K:M8}{H:Hp}:∀ks:List Key,aH K H (ks.map zL) (ks.map kV)
 | []=>rfl
 | k::ks=>by
  refine⟨kV k,ks.map kV,rfl,?_,qa ks⟩;cases k <;> exact rfl
omit [TW] in
theorem Dc{P:Md}{w:Ml}{k:Key}{v:M9}(h:(aw P w).is k v=true):RelV (kV k) v:=by
 rcases bg (show rE k v=true from h) with⟨i,t,rfl,rfl⟩|⟨x,t,rfl,rfl⟩
 ·exact⟨t,rfl⟩
 ·exact⟨t,rfl⟩
omit [TW] in
theorem vb{P:Md}{w:Ml}:∀(kvs:List (Key×M9))(us:List M9),us.length=kvs.length->(∀(i:Nat)(v:M9),us[i]?=some v->∃k x,kvs[i]?=some (k,x)/\(aw P w).is k v=true)->Vals ((kvs.map (·.1)).map kV) us
 | [],us,hl,_=>by
  cases us with
  | nil=>exact .nil
  | cons a r=>cases hl
 | kv::kvs,us,hl,h=>by
  cases us with
  | nil=>cases hl
  | cons a r=>
   obtain⟨k,x,e,hk⟩:=h 0 a rfl;cases e;exact .cons (Dc hk) (vb kvs r (by simpa using hl) fun i v e=>h (i+1) v e)
theorem Hh {X:Cx} (hc:X.calm=true:=by rfl) (hw:X.w=TW.w:=by rfl):iy X (.type "list") (rn1 X.K xb):=by
 intro pins s σ H xs us Q I r ⟨v,p,z,e1,rp,ez,k⟩;subst e1;cases p with
 | lst ps=>
  obtain⟨a,xs,rfl,g,rr⟩:=bp.lst_inv rp;cases ez;exact ky pins s σ H _ us Q I r ⟨a,xs,rfl,.inl g.l,fun l hl=>k _ _ (Same.new hl) hl ⟨xs,ay,rr.same (Same.new hl)⟩⟩
 | tup ps=>
  obtain⟨a,xs,rfl,g,rr⟩:=bp.tup_inv rp;cases ez;exact ky pins s σ H _ us Q I r ⟨a,xs,rfl,.inr g,fun l hl=>k _ _ (Same.new hl) hl ⟨xs,ay,rr.same (Same.new hl)⟩⟩
 | dct ks ps=>
  obtain⟨a,kvs,rfl,g,e1,rr⟩:=rp;cases ez;obtain⟨u,rfl,ru⟩:=vals1 r;cases ru;obtain⟨hz,hS,vs,rel,o,es,ep,ho,x1,d1,rest⟩:=DkR.at hw I g;have hl:kvs.length=vs.length:=N3 rel
  have hk:kvs.map (·.1)=vs.map (·.1):=by
   clear hl hz e1 rr g rest
   induction rel with
   | nil=>rfl
   | cons a b ih=>rw[MC,MC,ih,a.1]
  refine pX (kvs:=vs) (ep:=ep) (I.ok.hd hc) hS ⟨o,es,ho,x1,d1,rest⟩ (by omega) fun h' tk acc c keep gA it'=>?_;obtain⟨i1,i2⟩:=it'
  have rv:Vals (ks.map kV) acc.toList:=by
   rw[← e1,hk];exact vb (P:=X.prog) (w:=X.w) vs acc.toList (by simpa using i1) fun i v e=>i2 i v (by simpa using e)
  have hlk:ks.length=kvs.length:=by rw[← e1,MG]
  have I2:=I.laid (a:=s.heap.objs.size) (o:=.lst (ks.map kV)) (h':=h') (t':=tk) keep (Ma _) ⟨by rw[MG];omega,acc.toList,c,rv,by rw[Array.toArray_toList];exact gA⟩;have nf:H s.heap.objs.size=none:=I.fresh;exact⟨.ref _,_,I2,rfl,k _ _ (Same.new nf) nf ⟨_,ay,qa ks⟩⟩
 | _=>cases ez
end PU
end
section
namespace PU
def sV(fo fe fd:PSt->R PV)(g:PV->PV->PV->Option PV):PSt->R PV:=fun ρ=>fo ρ >>= fun p=>if Dl p=true then fe ρ >>= fun q=>fd ρ >>= fun y=>R.ofO (g p q y) else .no
def uE:PV->PV->PV->Option PV
 | .dct ks ps,q,y=>(eV q).bind fun k=>some ((bM ks ps k).getD y)
 | _,_,_=>none
end PU
namespace PU
open PySem PySem.Spec PyProof.Rows L2 PySem.SeqAt
variable[TW]
theorem Dz{C:Cn}{o e d:Expr}{fo fe fd:PSt->R PV}{apos cpos:Nt}(ho:EO C o fo)(he:EV C e fe)(hd:EV C d fd)(hw:C.X.w=TW.w:=by rfl)
  (hbase:Od o "get" C.X.env (NJ o C.X.env)=NJ o C.X.env:=by rfl) (hline:(apos.endLine == cpos.line)=true:=by rfl) (hs:MZ [e,d] C.X.env=[(false,NJ e C.X.env),(false,NJ d C.X.env)]:=by rfl) (hs2:MZ [d] C.X.env=[(false,NJ d C.X.env)]:=by exact c6 rfl) :
  EV C (.Call (.Attribute o "get" apos) [e,d] [] cpos) (sV fo fe fd uE):=by
 intro pins s σ H Q I ⟨ρ,vw,q⟩;refine TZ hbase (by rw[hs];rfl) hline rfl (thn (ho pins s σ H (fun v H1=>∃p,bp C.X.K H1 p v/\Same H H1/\RQ C H (if Dl p=true then fe ρ >>= fun q=>fd ρ >>= fun y=>R.ofO (uE p q y) else .no) fun p=>∀v H',Same H H'->Rep C.X.K H' p v->Q v H') I ⟨ρ,vw,q.bind.imp fun p _ k v H1 s1 r1=>⟨p,r1,s1,k⟩⟩) fun v s1 ⟨x,H1,I1,r1,p,ro,sm,k⟩=>?_);cases p with
 | dct ks ps=>
  have ro':=ro;obtain⟨a,kvs,rfl,g,e1,r⟩:=ro;cases r1;obtain⟨hz,hdd,vs,rel,dd⟩:=DkR.at hw I1 g;have k:RQ C H (fe ρ >>= fun q=>fd ρ >>= fun y=>R.ofO (uE (.dct ks ps) q y)) fun p=>∀v H',Same H H'->Rep C.X.K H' p v->Q v H':=k;refine⟨"dict","dict.get",Px,S7,PySem.F.type_dict_get,dd.typeIs,dd.mapOf.noDict,?_⟩
  have hA:=(c5 he (c5 hd gI hs2) (by rw[hs,hs2])) cpos pins s1 σ H1 (fun xs H2=>∃q y z u x,xs=[u,x]/\Rep C.X.K H2 q u/\Rep C.X.K H2 y x/\uE (.dct ks ps) q y=some z/\Same H1 H2/\∀v H',Same H H'->Rep C.X.K H' z v->Q v H') I1 ⟨ρ,vw.same sm,(k.bind.same sm).imp fun q _ k2 u H2 s2 r2=>⟨ρ,vw.same (sm.trans s2),(k2.bind.same (sm.trans s2)).imp fun y _ k4 x H3 s3 r3=>by
   obtain⟨z,ez,k3⟩:=k4.ofO;exact⟨q,y,z,u,x,rfl,r2.same s3,r3,ez,s2.trans s3,k3⟩⟩⟩
  rw[hs] at hA ⊢;refine SF rfl (Si ?_);refine thn hA fun us s2 ⟨xs,H2,I2,r2,q,y,z,u,x,eu,rq,ry,ez,s2',k3⟩=>?_;subst eu
  obtain⟨u',x',rfl,ru,rx⟩:∃u' x',us=[u',x']/\RelV u u'/\RelV x x':=by
   cases r2 with
   | cons a b=>
    obtain⟨x',e,rx⟩:=vals1 b;subst e;exact⟨_,x',rfl,a,rx⟩
  obtain⟨kk,ek,ez⟩:=MU.mp (show (eV q).bind (fun k=>some ((bM ks ps k).getD y))=some z from ez);cases ez;have hy:=dC ek rq.o;subst hy;obtain⟨a2,kvs2,ea,g2,e2,rr2⟩:=ro'.same s2';cases ea;obtain⟨_,hd2,vs2,rel2,dd2⟩:=DkR.at hw I2 g2;refine Rf S7 dd2.typeIs PySem.F.entry_dict_get (PySem.F.args_dict_get_3 _ _ _) (meets_dict_get_default (aw C.X.prog C.X.w) a (lW ru) hd2 x') ⟨_,dd2.mapOf,?_⟩;cases el:bM ks ps kk with
  | some p'=>
   obtain⟨w,ew,rp⟩:=gM e2 rr2 el;obtain⟨w',hw',rw'⟩:=mQ.some_of (v:=w) (o:=Nh vs2 kk) (by rw[← ew];exact rel2.val kk);rw[hw'];rw[el] at k3;exact⟨w,H2,I2.tok _,rw',k3 w H2 (sm.trans s2') rp⟩
  | none=>
   have ew:=jU (k:=kk) e2 rr2 el;have hn:Nh vs2 kk=none:=mQ.none_of (by rw[← ew];exact rel2.val kk);rw[hn];rw[el] at k3;exact⟨x,H2,I2.tok _,rx,k3 x H2 (sm.trans s2') ry⟩
 | _=>exact MI k
end PU
end
namespace PU
open PySem PySem.Spec PyProof.Rows L2 PySem.SeqAt
theorem con_str{w:Ml}{tabs:List Addr}{qual:Nat->Nat->Str}{K:M8}{h:Heap}{mg:Str->Option M9}{x:Str}{i:Str}{t:Tok}(X:K.In h)(G:h.Ns mainGlobals mg)(n1:NK K mainGlobals x=some (some (.str i t))):@Con ⟨w,tabs,qual⟩ K mg x (.str i):=by
 letI:TW:=⟨w,tabs,qual⟩
 exact⟨.str i,.str i t,PJ X G n1,⟨t,rfl⟩,fun H=>rfl⟩
end PU
namespace PU
open PySem PySem.Spec PyProof.Rows L2 PySem.SeqAt
variable[TW]
theorem A9{C:Cn}{a b c:Expr}{fa fb fc:PSt->R PV}{pos:Nt}{op op':CmpOp}{g g':PV->PV->Option PV}(ho:OpR C.X (N8 op) (rP C.X.K g))(ho':OpR C.X (N8 op') (rP C.X.K g'))(hg:wU g)(hg':wU g')(ha:EO C a fa)(hb:EO C b fb)(hc:EO C c fc)
  (hm:lastMarks [op,op'] [b,c]=false:=by with_unfolding_all rfl):ET C (.Compare a [op,op'] [b,c] pos) (dS (tT fa fb fc g g')):=by
 intro pins s σ H Q I ⟨ρ,vw,q⟩;refine zh ho ho' ha hb hc hm pins s σ H Q I ?_;have q1:=q.bind;refine⟨ρ,vw,q1.bind.imp fun p _ k v H1 s1 r1=>⟨ρ,vw.same s1,(k.bind.same s1).imp fun p2 _ k2 u H2 s2 r2=>?_⟩⟩;obtain⟨z,ez,k3⟩:=k2.bind.ofO;obtain⟨bb,rfl⟩:=hg _ _ _ ez;refine⟨p,p2,.bl bb,r1.same s2,r2,ez,fun w H3 s3 r3=>?_⟩;cases (show w=.bl bb from r3);refine⟨bb,rfl,?_⟩;have s13:=(s1.trans s2).trans s3;cases bb with
 | true=>
  refine Dh ⟨ρ,vw.same s13,?_⟩;refine(RQ.same (RQ.bind k3) s13).imp fun p3 _ k4 w4 H4 s4 r4=>?_;obtain⟨z2,ez2,k5⟩:=k4.ofO;obtain⟨b2,rfl⟩:=hg' _ _ _ ez2;refine⟨p2,p3,.bl b2,(r2.same s3).same s4,r4,ez2,fun w5 H5 s5 r5=>?_⟩;cases (show w5=.bl b2 from r5);obtain⟨b3,eb,k6⟩:=k5.ofO;cases eb;exact⟨b2,rfl,k6 H5 ((s13.trans s4).trans s5)⟩
 | false=>
  have k3:RQ C H (R.ofO (vm (.bl false))) (fun b=>∀H',Same H H'->Q b H'):=k3;obtain⟨b3,eb,k6⟩:=RQ.ofO k3;cases eb;exact Di ⟨false,rfl,k6 H3 s13⟩
end PU
namespace PU
open PySem PySem.Spec PyProof.Rows L2 PySem.SeqAt
def zU:PV->Option Int->Option Int->Option PV
 | .str x,lo,hi=>if x.length<=16777216 then some (.str (Nf x lo hi)) else none
 | .lst ps,lo,hi=>gSl (.lst ps) lo hi
 | .tup ps,lo,hi=>gSl (.tup ps) lo hi
 | _,_,_=>none
def kh(f:PSt->R PV)(l h:PSt->R (Option Int)):PSt->R PV:=fun ρ=>f ρ >>= fun p=>l ρ >>= fun lo=>h ρ >>= fun hi=>R.ofO (zU p lo hi)
variable[TW]
def Lh(K:M8):V->Option Int->Option Int->Hp->VK->Prop:=fun v lo hi H Q=>∃p z,bp K H p v/\zU p lo hi=some z/\∀w H',Same H H'->Rep K H' z w->Q w H'
theorem slA{X:Cx}:SlR X (Lh X.K):=by
 intro pins s σ H x v vl vu lo hi sl Q I rx hs pl pu ⟨p,z,rp,ez,k⟩;cases p with
 | lst ps=>exact slP pins s σ H x v vl vu lo hi sl Q I rx hs pl pu ⟨_,z,rp,ez,k⟩
 | tup ps=>exact slP pins s σ H x v vl vu lo hi sl Q I rx hs pl pu ⟨_,z,rp,ez,k⟩
 | str y=>
  simp only[zU] at ez;split at ez
  ·rename_i hz
   cases ez;cases (show x=.str y from rp);obtain⟨t,rfl⟩:=rx;have fin:∀(lo hi:Option Int) t' kk,(∀w H',Same H H'->Rep X.K H' (.str (Nf y lo hi)) w->Q w H')->EP X pins σ Q (.str (Nf y lo hi) t') { s with toks:=kk }:=fun lo hi t' kk k=>⟨.str _,H,I.tok _,⟨t',rfl⟩,k _ H (Same.refl H) rfl⟩;obtain⟨o,e1,e2,e3⟩:=hs;have hz:y.length<=sizeLine:=by rw[N7];exact hz
   refine⟨"str",_,PySem.F.slot_str_getitem.lookup,typeIs_str _ _ _,?_⟩;cases pl with
   | none=>
    cases pu with
    | none=>exact PD (l:=none) (u:=none) (st:=none) ⟨o,e1,e2,e3⟩ rfl (Qc ⟨NB (Pg y _ _) hz,fun t' kk=>fin none none t' kk k⟩)
    | int j uj=>exact PD (l:=none) (u:=some (j,uj)) (st:=none) ⟨o,e1,e2,e3⟩ rfl (Qc ⟨NB (Pg y _ _) hz,fun t' kk=>fin none (some j) t' kk k⟩)
   | int i ui=>
    cases pu with
    | none=>exact PD (l:=some (i,ui)) (u:=none) (st:=none) ⟨o,e1,e2,e3⟩ rfl (Qc ⟨NB (Pg y _ _) hz,fun t' kk=>fin (some i) none t' kk k⟩)
    | int j uj=>exact PD (l:=some (i,ui)) (u:=some (j,uj)) (st:=none) ⟨o,e1,e2,e3⟩ rfl (Qc ⟨NB (Pg y _ _) hz,fun t' kk=>fin (some i) (some j) t' kk k⟩)
  ·cases ez
 | _=>cases ez
theorem gV{C:Cn}{e:Expr}{f:PSt->R PV}{lo hi:Option Expr}{l h:PSt->R (Option Int)}{pos p2:Nt}(ha:EO C e f)(hl:EOI C lo l)(hh:EOI C hi h):EV C (.Subscript e (.Slice lo hi none p2) pos) (kh f l h):=by
 intro pins s σ H Q I ⟨ρ,vw,q⟩;refine ow slA ha hl hh pins s σ H Q I ⟨ρ,vw,q.bind.imp fun p _ k v H1 s1 r1=>⟨ρ,vw.same s1,(k.bind.same s1).imp fun o1 _ k2 H2 s2=>⟨ρ,(vw.same s1).same s2,(k2.bind.same (s1.trans s2)).imp fun o2 _ k3 H3 s3=>?_⟩⟩⟩;obtain⟨z,ez,k4⟩:=k3.ofO;exact⟨p,z,(r1.same s2).same s3,ez,fun w H4 s4 r4=>k4 w H4 (((s1.trans s2).trans s3).trans s4) r4⟩
end PU
namespace PU
open PySem PySem.Spec PyProof.Rows L2 PySem.SeqAt
def p9(ps qs:List PV):List (List PV):=ps.zipWith (fun a b=>[a,b]) qs
def gv:PV->Bool
 | .non | .bl _ | .int _ | .str _=>true
 | _=>false
def E9(f g:PSt->R PV):PSt->R (List PV):=fun ρ=>f ρ >>= fun p=>g ρ >>= fun q=>(match p,q with
 | .lst ps,.lst qs=>if (ps.all gv || qs.all gv)=true then .ok ((p9 ps qs).map .tup) else .no
 | _,_=>.no)
variable[TW]
section
variable{P : Md}{w : Ml}{K : M8}{elts : List Expr}{kk : Nat}{tp : Nt}
def Hv(xs ys:List V):List (List V):=xs.zipWith (fun a b=>[a,b]) ys
theorem tD{x:V}{u:M9}(r:RelV x u)(h:∀b,x≠.ref b):¬ ∃b,u=Ni b:=fun ⟨b,e⟩=>by
 subst e;cases x with
 | ref a=>exact h a rfl
 | non=>cases r
 | bl b=>cases r
 | ty n=>cases r
 | int i=>obtain⟨t,r⟩:=r;cases r
 | str i=>obtain⟨t,r⟩:=r;cases r
 | byt i=>obtain⟨t,r⟩:=r;cases r
 | flt i=>obtain⟨t,r⟩:=r;cases r
theorem zY{K:M8}{H:Hp}{p:PV}{x:V}(hf:gv p=true)(r:Rep K H p x):∀b,x≠.ref b:=fun b e=>by
 subst e;cases p with
 | non=>cases (show V.ref b=_ from r)
 | bl _=>cases (show V.ref b=_ from r)
 | int _=>cases (show V.ref b=_ from r)
 | str _=>cases (show V.ref b=_ from r)
 | _=>cases hf
theorem qj{K:M8}{H:Hp}{ps:List PV}{xs:List V}(hf:ps.all gv=true)(r:aH K H ps xs):∀x∈xs,∀b,x≠.ref b:=fun x hx=>by
 obtain⟨i,hi⟩:=PR.mp hx;have hl:=r.length;have hlt:i<ps.length:=by rw[hl];exact(MB.mp hi).1
 have e1:ps[i]?=some ps[i]:=by simp[hlt]
 obtain⟨y,ey,ry⟩:=r.get e1;rw[hi] at ey;cases ey;exact zY (Om.mp hf _ (N0 hlt)) ry
theorem yO(z TI TO i1 i2 a b:Addr)(D:ZipApart z TI TO i1 i2 a b)(xs ys:List V)(hfl:(∀x∈xs,∀b,x≠V.ref b)\/(∀y∈ys,∀b,y≠V.ref b)) :
  Turn P w K (.Tuple elts kk tp) (p8 (min xs.length ys.length) (fun H=>SqL K H a xs/\SqL K H b ys) (Hv xs ys)) [z,TI,TO,i1,i2] z
   (fun i h=>IsZip h z TI TO .none/\IsPair h TI (.ref i1) (.ref i2)/\(∃a b,IsPair h TO a b)/\h.IsListIter i1 a i/\h.IsListIter i2 b i):=by
 refine vj (wr:=[z,TO,i1,i2]) (n:=min xs.length ys.length) (fun X pins σ H s i hP hw hK hc I st hg=>?_) (by simp) (fun b hb=>by simp at hb ⊢;rcases hb with rfl | rfl | rfl | rfl <;> simp) (fun i h st b hb=>?_) (fun i h h' st k=>?_) (fun i H h=>h.1) (fun i H h=>h.1) fun A i s Q E st h=>wpAny_pyIter_zip st.1 h
 ·subst hP hw hK
  obtain⟨hq1,hq2⟩:SqL X.K H a xs/\SqL X.K H b ys:=by rcases hg with h | h <;> exact h.2
  obtain⟨its1,rv1,pl1,hz1⟩:=I.list hq1;obtain⟨its2,rv2,pl2,hz2⟩:=I.list hq2;have hl1:=rv1.length;have hl2:=rv2.length;have W:=WalksT.zip2 (prog:=X.prog) (w:=X.w) (A:=X.A) (I.ok.hd hc) z TI TO i1 i2 a b D its1.toArray its2.toArray;rw[show min its1.toArray.size its2.toArray.size=min xs.length ys.length by simp[hl1,hl2]] at W;refine⟨_,_,_,_,W,⟨st.1,st.2.1,st.2.2.1,st.2.2.2.1,st.2.2.2.2,pl1.isList,pl2.isList⟩,fun j h st=>⟨st.1,st.2.1,st.2.2.1,st.2.2.2.1,st.2.2.2.2.1⟩,fun vals hv=>?_⟩;obtain⟨x,y,hx,hy,rfl⟩:=hv;have hx:its1[i]?=some x:=by simpa using hx
  have hy:its2[i]?=some y:=by simpa using hy
  have h1:i<xs.length:=by rw[hl1];exact(MB.mp hx).1
  have h2:i<ys.length:=by rw[hl2];exact(MB.mp hy).1
  have e1:xs[i]?=some xs[i]:=by simp[h1]
  have e2:ys[i]?=some ys[i]:=by simp[h2]
  obtain⟨u,eu,ru⟩:=rv1.get e1;rw[hx] at eu;cases eu;obtain⟨v,ev,rv⟩:=rv2.get e2;rw[hy] at ev;cases ev;refine⟨[xs[i],ys[i]],.cons ru (.cons rv .nil),by show 2<=sizeLine;decide,fun z=>?_,fun T hT=>⟨T,_,rfl,hT,?_,rfl⟩⟩
  ·rcases hfl with g | g
   ·exact tD ru (g _ (N0 h1)) (z _ Mh)
   ·exact tD rv (g _ (N0 h2)) (z _ (Me _ Mh))
  unfold Hv;rw[QO,e1,e2]
 ·obtain⟨hz,hTI,⟨u,v,hTO⟩,⟨o1,ho1,_,hd1⟩,o2,ho2,_,hd2⟩:=st
  simp only[MP,OG,or_false] at hb;rcases hb with rfl | rfl | rfl | rfl | rfl
  ·exact⟨_,hz,fun v z=>by cases (show RY _=QY v from z)⟩
  ·exact⟨_,hTI,fun v z=>by cases (show Data.seq _ _=QY v from z)⟩
  ·exact⟨_,hTO,fun v z=>by cases (show Data.seq _ _=QY v from z)⟩
  ·exact⟨o1,ho1,fun v z=>by rw[hd1] at z;cases z⟩
  ·exact⟨o2,ho2,fun v z=>by rw[hd2] at z;cases z⟩
 ·obtain⟨hz,hTI,⟨u,v,hTO⟩,h1,h2⟩:=st
  exact⟨k z (by simp) _ hz,k TI (by simp) _ hTI,⟨u,v,k TO (by simp) _ hTO⟩,h1.at fun o x=>k i1 (by simp) o x,h2.at fun o x=>k i2 (by simp) o x⟩
end
theorem yB{K:M8}{H:Hp}{ps qs:List PV}{xs ys:List V}(r1:aH K H ps xs)(r2:aH K H qs ys):∀(i:Nat)(zs:List PV)(ws:List V),(p9 ps qs)[i]?=some zs->(Hv xs ys)[i]?=some ws->aH K H zs ws:=fun i zs ws h1 h2=>by
 unfold p9 at h1;unfold Hv at h2;rw[QO] at h1 h2;cases e:ps[i]? with
 | none=>rw[e] at h1;cases h1
 | some p=>
  cases e2:qs[i]? with
  | none=>rw[e,e2] at h1;cases h1
  | some q=>
   rw[e,e2] at h1;obtain⟨x,ex,rp⟩:=r1.get e;obtain⟨y,ey,rq⟩:=r2.get e2;rw[ex,ey] at h2;cases h1;cases h2;exact⟨_,_,rfl,rp,_,_,rfl,rq,rfl⟩
theorem xC {C:Cn} {e e2:Expr} {elts:List Expr} {kk:Nat} {tp p pos:Nt} {f g:PSt->R PV} (hg:Gl C.X "zip") (hm:C.X.mg "zip"=none) (he:EV C e f) (he2:EV C e2 g)
  (hs:MZ [e,e2] C.X.env=[(false,NJ e C.X.env),(false,NJ e2 C.X.env)]:=by exact yT rfl rfl) (hs2:MZ [e2] C.X.env=[(false,NJ e2 C.X.env)]:=by exact c6 rfl) :
  EI C (.Tuple elts kk tp) (.Call (.Name "zip" p) [e,e2] [] pos) (E9 f g):=by
 intro pins s σ H Rk I ⟨ρ,vw,q⟩
 refine Call_ (nK I hg hm PyProof.Rows.boot_zip (Nr (thn ((c5 he (c5 he2 gI hs2) (by rw[hs,hs2])) pos pins s σ H (fun vs H'=>∃v u ps qs,vs=[v,u]/\Same H H'/\Rep C.X.K H' (.lst ps) v/\Rep C.X.K H' (.lst qs) u/\(ps.all gv || qs.all gv)=true/\∀J H2,Same H' H2->ItP C.X.K J H2 ((p9 ps qs).map .tup)->Rk J H2) I ⟨ρ,vw,q.bind.imp fun p _ k v H1 s1 r1=>⟨ρ,vw.same s1,(k.bind.same s1).imp fun p2 _ k2 u H2 s2 r2=>?_⟩⟩)
  fun us s1 ⟨vs,H1,I1,r1,v,u,ps,qs,ev,sm,rp,rq,hfl,k⟩=>?_) (by rw[hs,hs2]) (by rw[hs2];rfl)))
 ·cases p with
  | lst ps=>
   cases p2 with
   | lst qs=>
    by_cases hfl:(ps.all gv || qs.all gv)=true
    ·simp only[if_pos hfl] at k2
     exact⟨v,u,ps,qs,rfl,s1.trans s2,r1.same s2,r2,hfl,fun J H3 s3 it=>k2 J H3 ((s1.trans s2).trans s3) it⟩
    ·simp only[if_neg hfl] at k2
     exact MI k2
   | _=>exact MI k2
  | _=>exact MI k2
 ·subst ev
  obtain⟨w1,w2,rfl,rw1,rw2⟩:=vals2 r1;obtain⟨a,xs,rfl,g1,rr1⟩:=rp;obtain⟨b,ys,rfl,g2,rr2⟩:=rq;cases rw1;cases rw2;obtain⟨its1,rv1,pl1,hz1⟩:=I1.list g1.l.l;obtain⟨its2,rv2,pl2,hz2⟩:=I1.list g2.l.l;have ha:a<s1.heap.objs.size:=by obtain⟨o,n,ho,_⟩:=pl1;exact MY ho
  have hb:b<s1.heap.objs.size:=by obtain⟨o,n,ho,_⟩:=pl2;exact MY ho
  have hfl2:(∀x∈xs,∀b,x≠V.ref b)\/(∀y∈ys,∀b,y≠V.ref b):=by
   cases hA:ps.all gv with
   | true=>exact .inl (qj hA rr1)
   | false=>
    rw[hA,Bool.false_or] at hfl;exact .inr (qj hfl rr2)
  refine call_zip_2 pl1.isList pl2.isList fun h' z1 z2 z3 z4 z5 hsz hk=>wpAny_pyIter_zip z1 ?_;refine⟨_,[s1.heap.objs.size+4,s1.heap.objs.size+2,s1.heap.objs.size+3,s1.heap.objs.size,s1.heap.objs.size+1],_,_,H1,rfl,I1.kept (t':=s1.toks) hk,yO (s1.heap.objs.size+4) (s1.heap.objs.size+2) (s1.heap.objs.size+3) s1.heap.objs.size (s1.heap.objs.size+1) a b (zipApart_new ha hb) xs ys hfl2,⟨z1,z2,⟨_,_,z3⟩,z4,z5⟩,fun c hc=>?_,k _ H1 (Same.refl H1) ?_⟩
  ·have hc:s1.heap.objs.size<=c:=by
    simp only[MP,OG,or_false] at hc;rcases hc with rfl | rfl | rfl | rfl | rfl <;> omega
   exact I1.fpOk hc (I1.hok.fresh hc)
  ·refine rF ?_ (fun H2 k2=>⟨(k2.sqF g1).l.l,(k2.sqF g2).l.l⟩) (yB rr1 rr2)
   unfold p9;rw[List.length_zipWith,rr1.length,rr2.length]
end PU
namespace PU
open PySem PySem.Spec PyProof.Rows L2
variable[TW]
def spN(K:M8)(n:Nat)(F:List PV->Option PV):Sp:=fun vs H Q _=>vs.length=n/\uT H/\∃ps p,aH K H ps vs/\F ps=some p/\∀a H',Same H H'->H a=none->cA K H' a p->Q (.ref a) H'
structure PFN(P:Md)(w:Ml)(K:M8)(mg:Str->Option M9)(base:Heap)(k:Nat)(x:Str)(F:List PV->Option PV):Prop where
 ex:∃(f:Addr)(fd:FuncData)(ps:List Str),FnOk P w K mg base CX0 k f fd ps (spN K ps.length F)/\mg x=some (.ref f)/\Np K (.ref f)=true/\Binds K fd ps []/\∀qs p,F qs=some p->qs.length=ps.length
section
variable{C : Cn}{e : Expr}{es : List Expr}{fs : PSt → R (List PV)}{x : Str}{k : Nat}{F : List PV → Option PV}{p pos : Nt}
theorem xB(G:PFN C.X.prog C.X.w C.X.K C.X.mg C.X.base k x F){kr:Nat}(hr:Room kr C.X.A)(ha:EA C (e::es) fs)
  (hdb:(x == ("__debug__":Str))=false:=by decide) (he:MZ (e::es) C.X.env=(false,NJ e C.X.env)::MZ es C.X.env:=by exact bP rfl) (hpl:(OJ pos (MZ es C.X.env)).any (·.1)=false:=by exact i5 rfl) (hk:k<=kr:=by decide) (hg:Gl C.X x:=by exact rfl) :
  EN C (.Call (.Name x p) (e::es) [] pos) (aE fs F):=by
 replace hr:=hr.mono hk;obtain⟨f,fd,ps,a,b,c,d,l⟩:=G.ex;intro pins s σ H Q I ⟨ρ,vw,q⟩;refine vU (dvs:=[]) (ds:=[]) (E:=E0) a hr hg b c d .nil FK ha hdb he hpl pins s σ H Q I ⟨ρ,vw,q.bind.imp fun qs _ k vs H1 s1 r1=>?_⟩;obtain⟨z,ez,k⟩:=k.ofO;rw[NH];exact⟨by rw[← r1.length];exact l qs z ez,s1.tabs vw.tb,qs,z,r1,ez,fun v H' s' n' r'=>k v H' (s1.trans s') (s1.free n') r'⟩
end
end PU
namespace PU
open PySem PySem.Spec PyProof.Rows L2
variable[TW]
def RN(C:Cn)(B:Hp×Hp)(D:Ends):R Fl->Prop
 | .ok (.ret p)=>∀a H,Same B.1 H->B.1 a=none->cA C.X.K H a p->D.rt (.ref a) H
 | _=>False
def tSN(C:Cn)(g:PSt->R Fl):TS:=fun D σ H=>∃ρ B,StOk C.X.K B H σ ρ/\RN C B D (g ρ)
def SVN(C:Cn)(st:List Stmt)(g:PSt->R Fl):Prop:=PSs C.X st (tSN C g)
section
variable{C : Cn}{st : Stmt}{sts : List Stmt}{e : Expr}{f : PSt → R PV}{g g' : PSt → R Fl}{pos : Nt}
theorem BX(he:EN C e f):SVN C [.Return (some e) pos] (cu f):=by
 intro pins s σ H D I ⟨ρ,B,S,h⟩;refine lD (pH he) pins s σ H D I ⟨ρ,S.vw,?_⟩;unfold cu at h;cases hf:f ρ with
 | ok p=>rw[hf] at h;exact fun a H' s' n' w'=>h a H' (S.same.trans s') (S.same.free n') w'
 | er x=>rw[hf] at h;exact MI h
 | no=>rw[hf] at h;exact MI h
theorem iW(hn:∀ρ p,g ρ≠.ok (.ret p))(h1:SV C st g)(h2:SVN C sts g'):SVN C (st::sts) (aQ g g'):=by
 intro pins s σ H D I ⟨ρ,B,S,h⟩;refine i7 h1 h2 pins s σ H D I ⟨ρ,B,S,?_⟩;unfold aQ at h;cases hg:g ρ with
 | ok fl=>
  rw[hg] at h;cases fl with
  | next ρ'=>exact fun σ' H' S'=>⟨ρ',B,S',h⟩
  | brk ρ'=>exact MI h
  | cont ρ'=>exact MI h
  | ret p=>exact absurd hg (hn ρ p)
 | er x=>rw[hg] at h;exact MI h
 | no=>rw[hg] at h;exact MI h
omit [TW] in
theorem iZ(i:Nat)(f:PSt->R PV)(ρ:PSt)(p:PV):cy i f ρ≠.ok (.ret p):=by
 unfold cy;cases f ρ with
 | ok q=>intro h;cases h
 | er x=>intro h;cases h
 | no=>intro h;cases h
end
section
variable{P : Md}{w : Ml}{K : M8}{mg : Str → Option M9}{base : Heap}
omit [TW] in
theorem Ab(f:PSt->R PV)(ρ:PSt):(∃p,cu f ρ=.ok (.ret p))\/∀fl,cu f ρ≠.ok fl:=by
 unfold cu;cases f ρ with
 | ok q=>exact .inl ⟨q,rfl⟩
 | er x=>exact .inr fun fl h=>by cases h
 | no=>exact .inr fun fl h=>by cases h
omit [TW] in
theorem Aa(i:Nat)(f:PSt->R PV)(g:PSt->R Fl)(h:∀ρ,(∃p,g ρ=.ok (.ret p))\/∀fl,g ρ≠.ok fl)(ρ:PSt):(∃p,aQ (cy i f) g ρ=.ok (.ret p))\/∀fl,aQ (cy i f) g ρ≠.ok fl:=by
 unfold aQ cy;cases f ρ with
 | ok q=>exact h _
 | er x=>exact .inr fun fl h=>by cases h
 | no=>exact .inr fun fl h=>by cases h
end
end PU
namespace PU
open PySem PySem.Spec PyProof.Rows L2 PySem.SeqAt
theorem l7:typeLookup (.type "tuple") "keys"=pure none:=by rw[typeLookup_type,builtinLookup_eq_fast];kernel_rfl
theorem jA{prog:Md}{w:Ml}{A:Mt}{E:M9->MD->Prop}{s:MD}{a:Addr}{o:Obj}{xs:Array M9}{k:Nat}{name:Str}{Q:Option M9->MD->Prop}
  (hx:s.heap.get? a=some o) (hc:o.cls=.type "tuple") (hdat:o.data=.seq xs k) (hd:o.dict=none) (hmiss:typeLookup (.type "tuple") name=pure none) (hname:(["__module__","__name__","__qualname__","__doc__","__annotations__"]:List Str).contains name=false) (hA:A.handled=none)
  (h:∀h' tk e,Heap.NewExcOf s.heap h' e "AttributeError"->Q none { s with heap:=h',toks:=tk }) (hsz:name.length+100<=sizeLine:=by size_fits) :
  Mf (Ms prog w) A (getAttr? (.ref a) name) Q E s:=by
 obtain⟨c,dct,dat,sl⟩:=o;simp only at hc hdat hd;subst hc hdat hd;obtain⟨hp,g,d,tk,os⟩:=s;have hT:∀tk',(⟨hp,g,d,tk',os⟩:MD).TypeIs (.ref a) "tuple":=fun _=>⟨_,hx,rfl⟩;have f1:=sub_AttributeError;have f3:=Q3.lookup;have f4:=Q3.bind (.ref a);have f5:=am_tuple_getattr_none;unfold getAttr? getAttrBy? getAttrBy
 repeat (any_goals (first | assumption | exact hT _ | ((with_reducible show Mf _ _ (call (Value.builtin "tuple.__getattribute__") _ _) _ _ _);refine call_meets Q3 (hT _) am_entry_tuple_getattribute (F.args_tuple_getattribute_2 _ _) (meets_getattribute_miss_tuple a xs k sl name _ hmiss hname hsz) ⟨hx,hA,fun h' tk' e hx'=>?_⟩) | wp_step))
 obtain⟨t',u',he⟩:=hx'.there;show Mf _ _ (getattributeRaised _ _ _ _ _ _ _) _ _ _;unfold getattributeRaised
 repeat (any_goals (first | assumption | wp_step))
 exact h _ _ _ hx'.of
theorem iB:entryFor table "dict.update.loop"=some Qy.«dict.update.loop»:=entryFor_of_tree (by kernel_rfl)
section
variable{prog : Md}{w : Ml}{K : Type}[DecidableEq K]{knd : KeyKind prog w K}{A : Mt}
def storeAll(acc:List (K×M9))(l:List (K×M9)):List (K×M9):=l.foldl (fun a p=>SZ a p.1 p.2) acc
theorem sh{R:Result->MD->Prop}{h0:Heap}{d it a:Addr}{items:Array M9}{kvs:List (K×M9)}{result:M9}(hh:A.handled=none)(hda:a≠d)(hia:a≠it)(hdi:d≠it)(ha:h0.IsTuple a items)(hn:items.size=kvs.length)
  (hp:∀(j:Nat)(x:M9),items[j]?=some x->∃(p:Addr)(key:M9)(k:K)(v:M9),x=.ref p/\kvs[j]?=some (k,v)/\p≠d/\p≠it/\h0.IsTuple p #[key,v]/\knd.is k key=true) :
  ∀(m i:Nat)(s:MD)(acc:List (K×M9)),m=items.size-i->i<=items.size->(∀b o,b≠d->b≠it->h0.get? b=some o->s.heap.get? b=some o)->s.heap.IsTupleIter it a i->s.heap.DictOf knd d acc->acc.length+m<=sizeLine->
   (∀h' tk,(∀b o,b≠d->b≠it->h0.get? b=some o->h'.get? b=some o)->h'.DictOf knd d (storeAll acc (kvs.drop i))->R (.ok (.ret result)) { s with heap:=h',toks:=tk })->
   QI (Ms prog w) A (.builtin "dict.update.loop" ⟨[.ref d,.ref it,QM (i:Int),result],[]⟩) R s
 | 0,i,s,acc,hm,hi,hk,hit,hd,hz,hR=>by
  have e:i=items.size:=by omega
  have hq:s.heap.IsTuple a items:=ha.at fun o e=>hk a o hda hia e;refine codeAny_builtin iB ?_;unfold Qy.«dict.update.loop»;show Mf _ _ (pyNext (.ref it) >>= _) _ _ s;refine MA (TX (by exact hh) hit hq (by rw[e];simp) fun h' eb=>?_);have hd':h'.DictOf knd d acc:=hd.extBut eb hdi;show Mf _ _ (Builtin.Dict.addKeywords d [] >>= _) _ _ _;refine MA (MK (MK (hR h' s.toks (fun b o hb1 hb2 q=>eb b o hb2 (hk b o hb1 hb2 q)) ?_)));rw[e,hn,QD];exact hd'
 | m+1,i,s,acc,hm,hi,hk,hit,hd,hz,hR=>by
  have hlt:i<items.size:=by omega
  have hq:s.heap.IsTuple a items:=ha.at fun o e=>hk a o hda hia e;have hx:items[i]?=some items[i]:=by simp[hlt]
  obtain⟨p,key,k,v,ex,ek,h1,h2,h3,h4⟩:=hp i _ hx;refine codeAny_builtin iB ?_;unfold Qy.«dict.update.loop»;show Mf _ _ (pyNext (.ref it) >>= _) _ _ s;refine MA (TH hit hq hx fun h' hit' sb=>?_);rw[ex];have hd':h'.DictOf knd d acc:=hd.extBut sb.extBut hdi;have hpt:h'.IsTuple p #[key,v]:=h3.at fun o e=>(sb.2 p h2).trans (hk p o h1 h2 e);obtain⟨op,hop,hcp,np,hdp⟩:=id hpt;dsimp only;refine MA (O5 (MA (wpAny_tryCatch ?_)));unfold Builtin.Dict.pairItems;refine MA (PZ hpt.typeIs ?_);rw[if_pos (by decide)];refine MA ?_
  have hsi:Mf (Ms prog w) (A.under (Code.builtin "dict.update.loop" ⟨[.ref d,.ref it,QM (i:Int),result],[]⟩)) (seqItems? (.ref p)) (fun r s'=>r=some #[key,v]/\s'={ s with heap:=h' }) (fun _ _=>False) { s with heap:=h' }:=by
   repeat (any_goals (first | assumption | wp_step))
   rw[hdp];exact MK ⟨rfl,rfl⟩
  refine O1 hsi (fun r s' hr=>?_) fun _ _ h=>h.elim;obtain⟨rfl,rfl⟩:=hr;refine MK ?_;show Mf _ _ (holding [key,v] (dictSet d key v)) _ _ _;refine O5 (wpAny_dictSet_pairs h4 hd' (fun h'' hd'' sb'=>?_) (by omega));refine MK ⟨Code.quiet_builtin _ (by decide +kernel),?_⟩;have ei:((i:Int)+1)=((i+1:Nat):Int):=by omega
  rw[ei];have hlen:=stored_length_le acc k v;refine sh hh hda hia hdi ha hn hp m (i+1) _ (SZ acc k v) (by omega) hlt (fun b o hb1 hb2 q=>?_) ?_ hd'' (by omega) fun h3 tk hk3 hd3=>hR h3 tk hk3 ?_
  ·exact(sb'.2 b hb1).trans ((sb.2 b hb2).trans (hk b o hb1 hb2 q))
  ·exact hit'.at fun o e=>(sb'.2 it (Oc hdi)).trans e
  ·have hdr:kvs.drop i=(k,v)::kvs.drop (i+1):=by
    obtain⟨hl,e⟩:=MB.mp ek;rw[Pv hl,e]
   rw[hdr];exact hd3
theorem mE {E:M9->MD->Prop} {s:MD} {a:Addr} {o:Obj} {items:Array M9} {n0:Nat} {kvs:List (K×M9)} {Q:M9->MD->Prop} (hA:A.handled=none) (hx:s.heap.get? a=some o) (hc:o.cls=.type "tuple") (hdat:o.data=.seq items n0) (hdn:o.dict=none)
  (hn:items.size=kvs.length) (hz:kvs.length<=sizeLine)
  (hp:∀(j:Nat)(x:M9),items[j]?=some x->∃(p:Addr)(key:M9)(k:K)(v:M9),x=.ref p/\kvs[j]?=some (k,v)/\s.heap.IsTuple p #[key,v]/\knd.is k key=true)
  (h:∀h' tk,(∀b o,s.heap.get? b=some o->h'.get? b=some o)->h'.DictOf knd s.heap.objs.size (storeAll [] kvs)->Q (.ref s.heap.objs.size) { s with heap:=h',toks:=tk }) :
  Mf (Ms prog w) A (call (.type "dict") [.ref a]) Q E s:=by
 refine callType_codes (Q₁:=fun obj s₁=>obj=.ref s.heap.objs.size/\s₁={ s with heap:=s.heap.push { cls:=.type "dict",data:=.dict #[] } }) F.kt_called_dict (F.kt_typeCall_dict_1 _) F.entry_dict_init (kt_code_dict_new _ ⟨rfl,rfl⟩) ?_;rintro obj s₁ ⟨rfl,rfl⟩;have hnew:(s.heap.push { cls:=.type "dict",data:=.dict #[] }).DictOf knd s.heap.objs.size []:=SJ s.heap;have hx':(s.heap.push { cls:=.type "dict",data:=.dict #[] }).get? a=some o:=MJ _ hx;have hT:Shared.TypeIs { s with heap:=s.heap.push { cls:=.type "dict",data:=.dict #[] } } (.ref a) "tuple":=⟨o,hx',hc⟩;refine⟨hnew.typeIs,F.args_dict_init_2 _ _,?_⟩;unfold Qy.«dict.__init__»;refine MA ?_;unfold Builtin.Dict.selfAndRest;refine MA (Qf hnew.typeIs ?_);show Mf _ _ (pure (s.heap.objs.size,[Ni a])) _ _ _;refine MK ?_;show Mf _ _ (RC "dict.__init__" s.heap.objs.size (.ref a) [] .none) _ _ _;unfold RC;refine MA (PZ hT ?_);rw[if_pos (by decide)];refine MA (jA hx' hc hdat hdn l7 (by decide +kernel) (by exact hA) fun h1 tk1 e1 ne=>?_);have k1:∀b u,(s.heap.push { cls:=.type "dict",data:=.dict #[] }).get? b=some u->h1.get? b=some u:=fun b u q=>ne.keeps b u q;rw[if_pos (show (none:Option M9).isNone=true from rfl)];have ht:h1.IsTuple a items:=⟨o,k1 a o hx',hc,n0,hdat⟩;refine MA (Q1 (MA (wpAny_pyIter_tuple ht ?_)))
 have sD:s.heap.objs.size<h1.objs.size:=by
  obtain⟨od,_,_,hod,_⟩:=hnew;exact MY (k1 _ _ hod)
 have k2:∀b u,s.heap.get? b=some u->(h1.push { cls:=.type "tuple_iterator",data:=.fields #[.ref a,.int 0 0] }).get? b=some u:=fun b u q=>MJ _ (k1 b u (MJ _ q));refine MK ⟨Code.quiet_builtin _ (by decide +kernel),?_⟩;have lts:∀b u,s.heap.get? b=some u->b≠s.heap.objs.size/\b≠h1.objs.size:=fun b u q=>⟨Mp (MY q),Mp (Nat.lt_trans (MY q) sD)⟩;refine sh (knd:=knd) (h0:=h1.push { cls:=.type "tuple_iterator",data:=.fields #[.ref a,.int 0 0] }) (kvs:=kvs) (by exact hA) (lts a o hx).1 (lts a o hx).2 (Mp sD) (ht.push _) hn (fun j x hj=>?_) items.size 0 _ [] (by omega) (Nu _) (fun b u _ _ q=>q) ⟨_,Mo _ rfl,rfl,rfl⟩ ?_ (by simp;omega) fun h' tk hk' hd'=>?_
 ·obtain⟨p,key,k,v,e1,e2,e3,e4⟩:=hp j x hj
  obtain⟨op,hop,r⟩:=id e3;exact⟨p,key,k,v,e1,e2,(lts p op hop).1,(lts p op hop).2,⟨op,k2 p op hop,r⟩,e4⟩
 ·obtain⟨od,es,ep,hod,r⟩:=hnew
  exact⟨od,es,ep,MJ _ (k1 _ _ hod),r⟩
 ·exact⟨rfl,h h' tk (fun b u q=>hk' b u (lts b u q).1 (lts b u q).2 (k2 b u q)) hd'⟩
end
end PU
namespace PU
open PySem L2
def km:List PV->Option (List (Key×PV))
 | []=>some []
 | .tup [.str k,v]::r=>(km r).map fun l=>(.inr k,v)::l
 | _=>none
def qg:PV->Option PV
 | .tup ps=>if ps.length<=1000 then (km ps).map gL else none
 | _=>none
end PU
namespace PU
open PySem PySem.Spec PyProof.Rows L2 PySem.SeqAt
variable[TW]
theorem sM{X:Cx}{pins:List (Addr×Obj)}{σ:L2.St}{H:Hp}{s:MD}(I:L2.Inv X pins σ H s):∀{ps:List PV}{kps:List (Key×PV)}{xs:List V}{its:List M9},km ps=some kps->aH X.K H ps xs->Vals xs its->
  ∃(kvs:List (Key×V))(vs:List (Key×M9)),kc X.K H kps kvs/\KV kvs vs/\its.length=vs.length/\∀(j:Nat)(x:M9),its[j]?=some x->∃(p:Addr)(key:M9)(k:Key)(v:M9),x=.ref p/\vs[j]?=some (k,v)/\s.heap.IsTuple p #[key,v]/\(aw X.prog X.w).is k key=true
 | [],kps,xs,its,e,r,rv=>by
  cases e;cases r;cases rv;exact⟨[],[],rfl,.nil,rfl,fun j x h=>by simp at h⟩
 | p::ps,kps,xs,its,e,r,rv=>by
  obtain⟨x,t,rfl,r1,r2⟩:=r;cases rv with
  | cons ru rv=>
  unfold km at e;split at e
  ·rename_i h;cases h
  ·rename_i k v r' h
   cases h;obtain⟨l,el,ez⟩:=MR.mp e;cases ez;obtain⟨kvs,vs,q1,q2,q3,q4⟩:=sM I el r2 rv;obtain⟨a,ys,rfl,g,rr⟩:=r1;obtain⟨y1,t1,rfl,h1,y2,t2,rfl,h2,h3⟩:=rr;cases h3;cases h1;cases ru;obtain⟨its2,rv2,pl,hz⟩:=I.tuple (tq g);cases rv2 with
   | cons ra rv2=>
   cases rv2 with
   | cons rb rv2=>
   cases rv2;obtain⟨tk,rfl⟩:=ra;refine⟨(.inr k,y2)::kvs,(.inr k,_)::vs,⟨y2,kvs,rfl,h2,q1⟩,.cons ⟨rfl,rb⟩ q2,by simp[q3],fun j x hj=>?_⟩;cases j with
   | zero=>
    simp at hj;subst hj;exact⟨a,_,_,_,rfl,rfl,pl,gg _ _ _ _⟩
   | succ j=>
    obtain⟨p,key,k',v',e1,e2,e3,e4⟩:=q4 j x (by simpa using hj);exact⟨p,key,k',v',e1,by simpa using e2,e3,e4⟩
  ·cases e
omit [TW] in
theorem kg{K:Type}[DecidableEq K]:∀(l acc:List (K×M9)),(storeAll acc l).length<=acc.length+l.length
 | [],acc=>by simp[storeAll]
 | p::l,acc=>by
  have h1:=kg l (SZ acc p.1 p.2);have h2:=stored_length_le acc p.1 p.2;have e:storeAll acc (p::l)=storeAll (SZ acc p.1 p.2) l:=rfl;rw[e,Mr];omega
theorem BI {X:Cx} (hc:X.calm=true:=by rfl) (hw:X.w=TW.w:=by rfl):iy X (.type "dict") (rn1 X.K qg):=by
 intro pins s σ H xs us Q I r ⟨v,p,z,e1,rp,ez,k⟩;subst e1;cases p with
 | tup ps=>
  have ez:(if ps.length<=1000 then (km ps).map gL else none)=some z:=ez
  by_cases hlen:ps.length<=1000
  ·rw[if_pos hlen] at ez
   obtain⟨kps,ek,rfl⟩:=MR.mp ez;obtain⟨a,xs,rfl,g,rr⟩:=rp;obtain⟨u,rfl,ru⟩:=vals1 r;cases ru;obtain⟨its,rv,⟨o,ho,hcl,⟨n0,hdat⟩,hdn⟩,hz⟩:=I.tupleX (tq g);obtain⟨kvs,vs,q1,q2,q3,q4⟩:=sM I ek rr rv;have hl1:=rr.length;have hl2:=rv.length;have hs:=N7;refine mE (knd:=aw X.prog X.w) (kvs:=vs) (I.ok.hd hc) ho hcl hdat (hdn fun v hv=>(by obtain⟨j,hj⟩:=PR.mp hv;obtain⟨p,_,_,_,e,_⟩:=q4 j v (by simpa using hj);exact⟨p,e⟩)) (by rw[Mj];exact q3) (by omega) (fun j x hj=>q4 j x (by simpa using hj)) fun h' tk keep D'=>?_;have nf:H s.heap.objs.size=none:=I.fresh
   have hne:(s.heap.objs.size == N6)=false:=by
    have hb:=I.big;refine beq_eq_false_iff_ne.mpr fun e=>?_;rw[e] at hb;exact Nb _ hb
   have hm:KV (fI [] kvs) (storeAll [] vs):=KV.merge q2 .nil
   have hml:(fI [] kvs).length<=sizeLine:=by
    have a1:(fI [] kvs).length=(storeAll [] vs).length:=N3 hm;have a2:=kg vs [];simp only[OT] at a2;omega
   have I2:=I.laid (a:=s.heap.objs.size) (o:=.dK (fI [] kvs)) (h':=h') (t':=tk) keep (Ma _) ⟨hml,hne,_,hm,D'⟩;have kp:Kp H (upd H s.heap.objs.size (.dK (fI [] kvs))):=Same.kp (Same.new nf);obtain⟨ks',ps',g1,g2,g3⟩:=lQ (acc:=[]) (ps:=[]) (kc.kp kp q1) aH.nil;refine⟨.ref _,_,I2,rfl,k _ _ (Same.new nf) nf ?_⟩;rw[oD];have g1:kps.foldl Aq (PV.dct [] [])=PV.dct ks' ps':=g1;rw[g1];exact⟨_,ay,g2,g3⟩
  ·rw[if_neg hlen] at ez
   cases ez
 | _=>cases ez
end PU
namespace PU
open PySem PySem.Spec PyProof.Rows L2 PySem.SeqAt
def qd:List PV->Option (List Int)
 | []=>some []
 | .int i::r=>(qd r).map (i::·)
 | _=>none
variable[TW]
end PU
namespace PU
open PySem PySem.Spec PyProof.Rows L2
def AL(i:Nat):PSt->R Fl:=fun ρ=>match ρ[i]? with
 | some (.own p)=>.ok (.ret p)
 | _=>.no
def runN(m n:Nat)(g:PSt->R Fl)(ps:List PV):Option PV:=if ps.length=m then (match g (start n ps) with
 | .ok (.ret p)=>some p
 | _=>none) else none
section
variable{g g' : PSt → R Fl}{t : PSt → R Bool}{f fk fv : PSt → R PV}{i : Nat}
theorem pN(i:Nat)(f:PSt->R PV)(ρ:PSt)(p:PV):lJ i f ρ≠.ok (.ret p):=by
 unfold lJ;cases f ρ with
 | ok q=>intro h;cases h
 | er x=>intro h;cases h
 | no=>intro h;cases h
theorem ye(i:Nat)(f:PSt->R PV)(ρ:PSt)(p:PV):qH i f ρ≠.ok (.ret p):=by
 unfold qH;intro h;split at h
 ·cases hf:f ρ with
  | ok q=>
   rw[hf,R.ok_bind] at h
   repeat' split at h
   all_goals cases h
  | er x=>rw[hf] at h;cases h
  | no=>rw[hf] at h;cases h
 ·cases h
theorem xg{h:Tgt}{fi:PSt->R (List PV)}(hg:∀ρ p,g ρ≠.ok (.ret p))(ρ:PSt)(p:PV):kG fi h g ρ≠.ok (.ret p):=by
 have go:∀(ps:List PV)(ρ:PSt),gT h g ps ρ≠.ok (.ret p):=by
  intro ps
  induction ps with
  | nil=>intro ρ h;cases h
  | cons x ps ih=>
   intro ρ e;unfold gT at e;cases h1:h x ρ with
   | none=>rw[h1] at e;cases e
   | some ρ1=>
    rw[h1,R.ofO_some,R.ok_bind] at e;cases h2:g ρ1 with
    | ok fl=>
     rw[h2,R.ok_bind] at e;cases fl with
     | next ρ2=>exact ih ρ2 e
     | cont ρ2=>exact ih ρ2 e
     | brk ρ2=>cases e
     | ret q=>exact hg ρ1 q h2
    | er x=>rw[h2] at e;cases e
    | no=>rw[h2] at e;cases e
 unfold kG;intro e;cases h1:fi ρ with
 | ok ps=>rw[h1,R.ok_bind] at e;exact go ps ρ e
 | er x=>rw[h1] at e;cases e
 | no=>rw[h1] at e;cases e
end
variable[TW]
section
variable{C : Cn}
theorem yR(i:Nat){x:Str}{np pos:Nt}(hN:C.X.N[i]?=some x:=by rfl)(hv:Vis C.X.env.scope x:=by first | exact Ra rfl | exact Qe (Ra rfl) | exact Qe (Qe rfl))
  (hd:(x == ("__debug__":Str))=false:=by decide) (hcd:(x == ("__classdict__":Str))=false:=by decide):SVN C [.Return (some (.Name x np)) pos] (AL i):=by
 intro pins s σ H D I ⟨ρ,B,S,h⟩;unfold AL at h;split at h
 ·rename_i p e1
  obtain⟨a,ea,nw⟩:=S.vw i _ e1;exact lD (pH (fG hN hv hd hcd)) pins s σ H D I ⟨.ref a,ea,h a H S.same (S.fresh i p a e1 ea) nw⟩
 ·exact MI h
end
section
variable{P : Md}{w : Ml}{K : M8}{mg : Str → Option M9}{base : Heap}
theorem Cv{x qual:Str}{st:Stmt}{f:Addr}{fd:FuncData}{N ps:List Str}{k:Nat}{g:PSt->R Fl}(F:Fun K x qual st f fd)(S:FnScope N ps (ai st))(hm:mg x=some (.ref f))(hb:Binds K fd ps [])
  (hbody:∀(cdv:M9)(A:Mt)(outer:List RB)(s:MD)(H:Hp)(E:XK),Room k (A.deeper (PB qual (ai st) s.heap.objs.size f cdv))->SVN (DQ P w K mg base N qual (ai st) f cdv A outer s H E) (bh st) g) :
  PFN P w K mg base (k+1) x (runN ps.length N.length g):=by
 refine⟨f,fd,ps,F.ok S (fun vs H Q E h=>h.1) (fun cdv A outer s H vs Q E hr' h=>?_),hm,F.kp,hb,fun qs p h=>?_⟩
 ·obtain⟨hl,tb,qs,p,r,e0,k⟩:=h
  refine⟨_,hbody cdv A outer s H E hr',start N.length qs,(H,H),iY tb r,?_⟩;unfold runN at e0;rw[if_pos (by rw[r.length];exact hl)] at e0;split at e0
  ·rename_i q hq
   rw[hq];cases e0;exact fun a H' s' n' w'=>k a H' s' n' w'
  ·cases e0
 ·unfold runN at h
  split at h
  ·rename_i hl;exact hl
  ·cases h
end
end PU
namespace PU
open PySem L2
def IW(p:PV):R (List PV):=match p with
 | .int j=>if j.natAbs<1000000000 then .ok (cD 0 j.toNat) else .no
 | _=>.no
def Ed(p q:PV):R (List PV):=match p,q with
 | .int i,.int j=>if i.natAbs<1000000000/\j.natAbs<1000000000 then .ok (cD i (j-i).toNat) else .no
 | _,_=>.no
theorem yG{j:Int}(h0:0<=j)(h1:j<1000000000):IW (.int j)=.ok (cD 0 j.toNat):=by
 unfold IW;exact if_pos (by omega)
theorem vc{i j:Int}(h0:0<=i)(h1:i<1000000000)(h2:0<=j)(h3:j<1000000000):Ed (.int i) (.int j)=.ok (cD i (j-i).toNat):=by
 unfold Ed;exact if_pos ⟨by omega,by omega⟩
section
def Fh(g':PSt->R Fl):R Fl->R Fl
 | .ok (.next ρ)=>g' ρ
 | .ok (.brk ρ)=>.ok (.brk ρ)
 | .ok (.cont ρ)=>.ok (.cont ρ)
 | .ok (.ret p)=>.ok (.ret p)
 | .er x=>.er x
 | .no=>.no
def uZ{α β:Type}(f:α->β):R α->R β
 | .ok a=>.ok (f a)
 | .er x=>.er x
 | .no=>.no
def jz{α β:Type}(f:α->R β):R α->R β
 | .ok a=>f a
 | .er x=>.er x
 | .no=>.no
def ifK{α:Type}(g g':PSt->R α)(ρ:PSt):R Bool->R α
 | .ok true=>g ρ
 | .ok false=>g' ρ
 | .er x=>.er x
 | .no=>.no
def nZ{α β γ:Type}(f:α->β->R γ):R α->R β->R γ
 | .ok a,.ok b=>f a b
 | .ok _,.er x=>.er x
 | .ok _,.no=>.no
 | .er x,_=>.er x
 | .no,_=>.no
variable{α : Type}{ρ : PSt}{f fa fb fc : PSt → R PV}{g g' : PSt → R Fl}{t u : PSt → R Bool}{i : Nat}
@[simp] theorem nM:Fh g' (.ok (.next ρ))=g' ρ:=by unfold Fh;exact Mn _
@[simp] theorem wO(p:PV):Fh g' (.ok (.ret p))=.ok (.ret p):=by unfold Fh;exact Mn _
@[simp] theorem Gw{β:Type}(f:α->β)(a:α):uZ f (.ok a)=.ok (f a):=by unfold uZ;exact Mn _
@[simp] theorem lV{β:Type}(f:α->R β)(a:α):jz f (.ok a)=f a:=by unfold jz;exact Mn _
@[simp] theorem Kv(g g':PSt->R α):ifK g g' ρ (.ok true)=g ρ:=by unfold ifK;exact Mn _
@[simp] theorem Kw(g g':PSt->R α):ifK g g' ρ (.ok false)=g' ρ:=by unfold ifK;exact Mn _
@[simp] theorem wN{β γ:Type}(f:α->β->R γ)(a:α)(b:β):nZ f (.ok a) (.ok b)=f a b:=by unfold nZ;exact Mn _
@[simp] theorem v8:aQ g g' ρ=Fh g' (g ρ):=by
 unfold aQ;cases g ρ with
 | ok fl=>cases fl <;> rfl
 | er x=>rfl
 | no=>rfl
@[simp] theorem Ih:dm ρ=.ok (.next ρ):=by unfold dm;exact Mn _
@[simp] theorem AA:cu f ρ=uZ .ret (f ρ):=by unfold cu;cases f ρ <;> rfl
@[simp] theorem KN:ifF t g g' ρ=ifK g g' ρ (t ρ):=by
 unfold ifF;cases t ρ with
 | ok b=>cases b <;> rfl
 | er x=>rfl
 | no=>rfl
def IM(i:Nat)(ρ:PSt)(p:PV):Fl:=.next (ρ.set i (.val p))
def Jd(i:Nat)(ρ:PSt)(p:PV):Fl:=.next (ρ.set i (.own p))
@[simp] theorem Ju(p:PV):IM i ρ p=.next (ρ.set i (.val p)):=by unfold IM;exact Mn _
@[simp] theorem Lw(p:PV):Jd i ρ p=.next (ρ.set i (.own p)):=by unfold Jd;exact Mn _
@[simp] theorem Eo:cy i f ρ=uZ (IM i ρ) (f ρ):=by unfold cy;cases f ρ <;> rfl
@[simp] theorem K4:lJ i f ρ=uZ (Jd i ρ) (f ρ):=by unfold lJ;cases f ρ <;> rfl
@[simp] theorem Kf:Hk ρ=.ok (.brk ρ):=by unfold Hk;exact Mn _
@[simp] theorem Kd:rK i g ρ=g (uF i ρ):=by unfold rK;exact Mn _
@[simp] theorem Ka(j:Int):kI j ρ=.ok (.int j):=by unfold kI;exact Mn _
@[simp] theorem Kb(j:Bool):kB j ρ=.ok (.bl j):=by unfold kB;exact Mn _
@[simp] theorem LY:kN ρ=.ok .non:=by unfold kN;exact Mn _
@[simp] theorem LV(j:Str):kS j ρ=.ok (.str j):=by unfold kS;exact Mn _
@[simp] theorem LW(j:PV):kP j ρ=.ok j:=by unfold kP;exact Mn _
@[simp] theorem K7:aM ρ=.ok []:=by unfold aM;exact Mn _
def DL(p:PV)(ps:List PV):R (List PV):=.ok (p::ps)
@[simp] theorem Kz(p:PV)(ps:List PV):DL p ps=.ok (p::ps):=by unfold DL;exact Mn _
@[simp] theorem Io{fs:PSt->R (List PV)}:ae f fs ρ=nZ DL (f ρ) (fs ρ):=by unfold ae;cases f ρ <;> cases fs ρ <;> rfl
def tupP(ps:List PV):R PV:=if ps.length<=16777216 then .ok (.tup ps) else .no
def lstP(ps:List PV):R PV:=if ps.length<=16777216 then .ok (.lst ps) else .no
@[simp] theorem Jt(ps:List PV):tupP ps=if ps.length<=16777216 then .ok (.tup ps) else .no:=by unfold tupP;exact Mn _
@[simp] theorem Gx(ps:List PV):lstP ps=if ps.length<=16777216 then .ok (.lst ps) else .no:=by unfold lstP;exact Mn _
@[simp] theorem JZ{fs:PSt->R (List PV)}:fP fs ρ=jz tupP (fs ρ):=by
 unfold fP;cases fs ρ with
 | ok ps=>simp only[R.ok_bind,gr,lV,Jt];split <;> rfl
 | er x=>rfl
 | no=>rfl
@[simp] theorem K9{fs:PSt->R (List PV)}:sW fs ρ=jz lstP (fs ρ):=by
 unfold sW;cases fs ρ with
 | ok ps=>simp only[R.ok_bind,gr,lV,Gx];split <;> rfl
 | er x=>rfl
 | no=>rfl
def opP(g:PV->PV->Option PV)(p q:PV):R PV:=R.ofO (g p q)
def op1(g:PV->Option PV)(p:PV):R PV:=R.ofO (g p)
@[simp] theorem M5(g:PV->PV->Option PV)(p q:PV):opP g p q=R.ofO (g p q):=by unfold opP;exact Mn _
@[simp] theorem Gv(g:PV->Option PV)(p:PV):op1 g p=R.ofO (g p):=by unfold op1;exact Mn _
@[simp] theorem Kg{g:PV->PV->Option PV}:ar fa fb g ρ=nZ (opP g) (fa ρ) (fb ρ):=by unfold ar;cases fa ρ <;> cases fb ρ <;> rfl
@[simp] theorem En{g:PV->Option PV}:un1 f g ρ=jz (op1 g) (f ρ):=by unfold un1;cases f ρ <;> rfl
def Iz(p:PV):R Bool:=R.ofO (vm p)
@[simp] theorem Lr(p:PV):Iz p=R.ofO (vm p):=by unfold Iz;exact Mn _
@[simp] theorem K1:dS f ρ=jz Iz (f ρ):=by unfold dS;cases f ρ <;> rfl
@[simp] theorem Kj:E2 t u ρ=ifK u (fun _=>.ok false) ρ (t ρ):=by
 unfold E2;cases t ρ with
 | ok b=>cases b <;> rfl
 | er x=>rfl
 | no=>rfl
@[simp] theorem KJ:orB t u ρ=ifK (fun _=>.ok true) u ρ (t ρ):=by
 unfold orB;cases t ρ with
 | ok b=>cases b <;> rfl
 | er x=>rfl
 | no=>rfl
@[simp] theorem K5:FY t ρ=uZ not (t ρ):=by unfold FY;cases t ρ <;> rfl
def Hq(fb:PSt->R PV)(ρ:PSt)(p:PV):R PV:=match p with
 | .bl true=>fb ρ
 | .bl false=>.ok (.bl false)
 | _=>.no
@[simp] theorem JC:Hq fb ρ (.bl true)=fb ρ:=by unfold Hq;exact Mn _
@[simp] theorem JD:Hq fb ρ (.bl false)=.ok (.bl false):=by unfold Hq;exact Mn _
@[simp] theorem Ki:Ho fa fb ρ=jz (Hq fb ρ) (fa ρ):=by unfold Ho;cases fa ρ <;> rfl
@[simp] theorem KM:ifV t fa fb ρ=ifK fa fb ρ (t ρ):=by
 unfold ifV;cases t ρ with
 | ok b=>cases b <;> rfl
 | er x=>rfl
 | no=>rfl
@[simp] theorem Ay:mI ρ=.ok true:=by unfold mI;exact Mn _
def DT(F:List PV->Option PV)(ps:List PV):R PV:=R.ofO (F ps)
@[simp] theorem KA(F:List PV->Option PV)(ps:List PV):DT F ps=R.ofO (F ps):=by unfold DT;exact Mn _
@[simp] theorem Iq{fs:PSt->R (List PV)}{F:List PV->Option PV}:aE fs F ρ=jz (DT F) (fs ρ):=by unfold aE;cases fs ρ <;> rfl
def itQ(F:PV->Option (List PV))(p:PV):R (List PV):=R.ofO (F p)
@[simp] theorem M6(F:PV->Option (List PV))(p:PV):itQ F p=R.ofO (F p):=by unfold itQ;exact Mn _
@[simp] theorem KL:itF f ρ=jz (itQ fK) (f ρ):=by unfold itF;cases f ρ <;> rfl
@[simp] theorem Ik:xy f ρ=jz (itQ rS) (f ρ):=by unfold xy;cases f ρ <;> rfl
def JK(h:Tgt)(g:PSt->R Fl)(ρ:PSt)(ps:List PV):R Fl:=gT h g ps ρ
@[simp] theorem Gy(h:Tgt)(ps:List PV):JK h g ρ ps=gT h g ps ρ:=by unfold JK;exact Mn _
@[simp] theorem AB{fi:PSt->R (List PV)}{h:Tgt}:kG fi h g ρ=jz (JK h g ρ) (fi ρ):=by unfold kG;cases fi ρ <;> rfl
@[simp] theorem K2:Cb f ρ=jz IW (f ρ):=by unfold Cb;cases f ρ <;> rfl
@[simp] theorem Az:Ee fa fb ρ=nZ Ed (fa ρ) (fb ρ):=by unfold Ee;cases fa ρ <;> cases fb ρ <;> rfl
@[simp] theorem HF{g:PV->PV->Option PV}(x:Str):zE (kS x) fb g ρ=jz (opP g (.str x)) (fb ρ):=by unfold zE;cases fb ρ <;> rfl
@[simp] theorem Hz:gq ρ=.ok none:=by unfold gq;exact Mn _
def aP(p:PV):R (Option Int):=match p with
 | .int i=>.ok (some i)
 | _=>.no
@[simp] theorem M7(i:Int):aP (.int i)=.ok (some i):=by unfold aP;exact Mn _
@[simp] theorem Ir:kJ f ρ=jz aP (f ρ):=by unfold kJ;cases f ρ <;> rfl
def slQ(p:PV)(lh:Option Int×Option Int):R PV:=R.ofO (gSl p lh.1 lh.2)
def uq(a b:Option Int):R (Option Int×Option Int):=.ok (a,b)
@[simp] theorem M4(p:PV)(a b:Option Int):slQ p (a,b)=R.ofO (gSl p a b):=by unfold slQ;exact Mn _
@[simp] theorem Kt(a b:Option Int):uq a b=.ok (a,b):=by unfold uq;exact Mn _
@[simp] theorem Hx{l h:PSt->R (Option Int)}:mZ f l h ρ=nZ slQ (f ρ) (nZ uq (l ρ) (h ρ)):=by unfold mZ;cases f ρ <;> cases l ρ <;> cases h ρ <;> rfl
@[simp] theorem K8:newD ρ=.ok (.dct [] []):=by unfold newD;exact Mn _
@[simp] theorem K6:G6 ρ=.ok []:=by unfold G6;exact Mn _
def Gq(p:PV):R Key:=R.ofO (eV p)
@[simp] theorem Bl(p:PV):Gq p=R.ofO (eV p):=by unfold Gq;exact Mn _
def kvQ(k:Key)(p:PV):R (Key×PV):=.ok (k,p)
@[simp] theorem Lx(k:Key)(p:PV):kvQ k p=.ok (k,p):=by unfold kvQ;exact Mn _
def DK(a:Key×PV)(r:List (Key×PV)):R (List (Key×PV)):=.ok (a::r)
@[simp] theorem Jz(a:Key×PV)(r:List (Key×PV)):DK a r=.ok (a::r):=by unfold DK;exact Mn _
@[simp] theorem Im{fd:PSt->R (List (Key×PV))}:qv fa fb fd ρ=nZ DK (nZ kvQ (jz Gq (fa ρ)) (fb ρ)) (fd ρ):=by
 unfold qv;cases fa ρ with
 | ok p=>simp only[R.ok_bind,lV,Bl];cases eV p <;> cases fb ρ <;> cases fd ρ <;> rfl
 | er x=>cases fb ρ <;> cases fd ρ <;> rfl
 | no=>cases fb ρ <;> cases fd ρ <;> rfl
def DF(kps:List (Key×PV)):R PV:=if kps.length<=15 then .ok (gL kps) else .no
@[simp] theorem Jx(kps:List (Key×PV)):DF kps=if kps.length<=15 then .ok (gL kps) else .no:=by unfold DF;exact Mn _
@[simp] theorem Il{fd:PSt->R (List (Key×PV))}:xI fd ρ=jz DF (fd ρ):=by unfold xI;cases fd ρ <;> rfl
def DM(h:Tgt)(t:PSt->R Bool)(fe:PSt->R PV)(ρ:PSt)(ps:List PV):R PV:=jz lstP (CL (cG h t fe ρ ps))
@[simp] theorem Gz(h:Tgt)(ps:List PV):DM h t f ρ ps=jz lstP (CL (cG h t f ρ ps)):=by unfold DM;exact Mn _
@[simp] theorem Ip{fi:PSt->R (List PV)}{h:Tgt}{nt:Nat}{idx:List Nat}:gw fi h t f nt idx ρ=jz (DM h t f (cb nt idx ρ)) (fi ρ):=by
 unfold gw;cases fi ρ with
 | ok ps=>
  simp only[R.ok_bind,lV,Gz];cases cG h t f (cb nt idx ρ) ps with
  | ok qs=>simp only[CL,R.ok_bind,lV,Gx,gr];split <;> rfl
  | er x=>rfl
  | no=>rfl
 | er x=>rfl
 | no=>rfl
@[simp] theorem qI(p:PV):av i p ρ=some (ρ.set i (.val p)):=by unfold av;exact Mn _
@[simp] theorem HC(a:α):CL (.ok a)=.ok a:=by unfold CL;exact Mn _
end
section
variable{p : PV}{l : Sl}{ρ : PSt}{i : Nat}
@[simp] theorem qJ:ah 0 (.val p::ρ)=.ok p:=by unfold ah;exact Mn _
@[simp] theorem BP:ah (i+1) (l::ρ)=ah i ρ:=by unfold ah;rw[Mg]
@[simp] theorem HI:kE 0 (.own p::ρ)=.ok p:=by unfold kE;exact Mn _
@[simp] theorem Ii:kE (i+1) (l::ρ)=kE i ρ:=by unfold kE;rw[Mg]
@[simp] theorem Ke:uF 0 (.own p::ρ)=.val p::ρ:=by unfold uF;exact Mn _
@[simp] theorem Ij:uF 0 (.val p::ρ)=.val p::ρ:=by unfold uF;exact Mn _
theorem xf:uF (i+1) (l::ρ)=l::uF i ρ:=by
 unfold uF;simp only[Mg];cases ρ[i]? with
 | none=>rfl
 | some x=>cases x <;> rfl
@[simp] theorem Kc:uF (i+1) (l::ρ)=l::uF i ρ:=xf
def roA(i:Nat)(ρ:PSt):Sl:=roS ρ[i]?
@[simp] theorem Lv:roA 0 (.val p::ρ)=.val p:=by unfold roA roS;exact Mn _
@[simp] theorem Lu:roA (i+1) (l::ρ)=roA i ρ:=by unfold roA;rw[Mg]
theorem v9(nt:Nat)(idx:List Nat):cb nt idx ρ=Mv nt .no++idx.map fun i=>roA i ρ:=by unfold cb roA;exact Mn _
def BK(i:Nat)(ρ:PSt)(p:PV):R PSt:=match ρ[i]? with
 | some (.own (.lst ps))=>if ps.length<16777216 then .ok (ρ.set i (.own (.lst (ps++[p])))) else .no
 | _=>.no
def yz(i:Nat)(ρ:PSt):Bool:=match ρ[i]? with
 | some (.own (.lst _))=>true
 | _=>false
def Ah(l:Sl)(ρ:PSt):PSt:=l::ρ
@[simp] theorem Jy:Ah l ρ=l::ρ:=by unfold Ah;exact Mn _
@[simp] theorem KC(ps:List PV):BK 0 (.own (.lst ps)::ρ) p=if ps.length<16777216 then .ok (.own (.lst (ps++[p]))::ρ) else .no:=by unfold BK;exact Mn _
@[simp] theorem KB:BK (i+1) (l::ρ) p=uZ (Ah l) (BK i ρ p):=by
 unfold BK;rw[Mg];cases ρ[i]? with
 | none=>rfl
 | some x=>
  cases x with
  | own q=>
   cases q with
   | lst ps=>dsimp only;split <;> rfl
   | _=>rfl
  | _=>rfl
@[simp] theorem Ky(ps:List PV):yz 0 (.own (.lst ps)::ρ)=true:=by unfold yz;exact Mn _
@[simp] theorem Kx:yz (i+1) (l::ρ)=yz i ρ:=by unfold yz;rw[Mg]
def Hn(i:Nat)(ρ:PSt)(p:PV):R Fl:=uZ .next (BK i ρ p)
@[simp] theorem GA:Hn i ρ p=uZ .next (BK i ρ p):=by unfold Hn;exact Mn _
theorem DZ(f:PSt->R PV)(h:yz i ρ=true):qH i f ρ=jz (Hn i ρ) (f ρ):=by
 unfold yz at h;unfold qH;cases e:ρ[i]? with
 | none=>rw[e] at h;cases h
 | some x=>
  rw[e] at h;cases x with
  | own q=>
   cases q with
   | lst ps=>
    dsimp only;cases f ρ with
    | ok p=>
     simp only[R.ok_bind,lV,GA];unfold BK;rw[e];dsimp only
     split <;> rfl
    | er x=>rfl
    | no=>rfl
   | _=>cases h
  | _=>cases h
def Ia(b:Bool)(i:Nat)(ρ:PSt)(r:R PV):R Fl:=if b=true then jz (Hn i ρ) r else .no
@[simp] theorem GB(r:R PV):Ia true i ρ r=jz (Hn i ρ) r:=by unfold Ia;exact if_pos rfl
@[simp] theorem Kh(f:PSt->R PV):qH i f ρ=Ia (yz i ρ) i ρ (f ρ):=by
 cases h:yz i ρ with
 | true=>rw[DZ f h,GB]
 | false=>
  unfold Ia;rw[if_neg MO];unfold yz at h;unfold qH
  split
  ·rename_i ps e
   rw[e] at h;cases h
  ·rfl
def AU(i:Nat)(ρ:PSt)(k:Key)(p:PV):R PSt:=match ρ[i]? with
 | some (.own (.dct ks ps))=>if ks.length<16777216 then .ok (ρ.set i (.own (iJ ks ps k p))) else .no
 | _=>.no
def Dr(i:Nat)(ρ:PSt):Bool:=match ρ[i]? with
 | some (.own (.dct _ _))=>true
 | _=>false
@[simp] theorem Ks(ks:List Key)(ps:List PV)(k:Key):AU 0 (.own (.dct ks ps)::ρ) k p=if ks.length<16777216 then .ok (.own (iJ ks ps k p)::ρ) else .no:=by unfold AU;exact Mn _
@[simp] theorem Kr(k:Key):AU (i+1) (l::ρ) k p=uZ (Ah l) (AU i ρ k p):=by
 unfold AU;rw[Mg];cases ρ[i]? with
 | none=>rfl
 | some x=>
  cases x with
  | own q=>
   cases q with
   | dct ks ps=>dsimp only;split <;> rfl
   | _=>rfl
  | _=>rfl
@[simp] theorem Jw(ks:List Key)(ps:List PV):Dr 0 (.own (.dct ks ps)::ρ)=true:=by unfold Dr;exact Mn _
@[simp] theorem Jv:Dr (i+1) (l::ρ)=Dr i ρ:=by unfold Dr;rw[Mg]
def HY(i:Nat)(ρ:PSt)(p:PV)(k:Key):R Fl:=uZ .next (AU i ρ k p)
@[simp] theorem Gs(k:Key):HY i ρ p k=uZ .next (AU i ρ k p):=by unfold HY;exact Mn _
def J5(b:Bool)(i:Nat)(ρ:PSt)(v:R PV)(k:R PV):R Fl:=if b=true then nZ (HY i ρ) v (jz Gq k) else .no
@[simp] theorem Gu(v k:R PV):J5 true i ρ v k=nZ (HY i ρ) v (jz Gq k):=by unfold J5;exact if_pos rfl
@[simp] theorem K3(fk fv:PSt->R PV):qT i fk fv ρ=J5 (Dr i ρ) i ρ (fv ρ) (fk ρ):=by
 unfold qT Dr;cases e:ρ[i]? with
 | none=>rfl
 | some x=>
  cases x with
  | own q=>
   cases q with
   | dct ks ps=>
    dsimp only;rw[Gu];cases fv ρ with
    | ok p=>
     simp only[R.ok_bind];cases fk ρ with
     | ok kp=>
      simp only[R.ok_bind,lV,Bl];cases eV kp with
      | none=>rfl
      | some k=>
       simp only[R.ofO_some,R.ok_bind,wN,Gs];unfold AU;rw[e];dsimp only
       split <;> rfl
     | er x=>rfl
     | no=>rfl
    | er x=>rfl
    | no=>rfl
   | _=>rfl
  | _=>rfl
end
@[simp] theorem ES(a b:Int):gx (.int a) (.int b)=some (.int (a+b)):=rfl
theorem l5{a b:Str}(h:a.length+b.length<=16777216):gx (.str a) (.str b)=some (.str (a++b)):=if_pos h
@[simp] theorem ER(a b:List PV):gx (.tup a) (.tup b)=if a.length+b.length<=16777216 then some (.tup (a++b)) else none:=rfl
@[simp] theorem KQ(a b:Int):KG (.int a) (.int b)=some (.int (a-b)):=rfl
theorem yH{a b:Int}(h:a.natAbs<18446744073709551616\/b.natAbs<18446744073709551616):xa (.int a) (.int b)=some (.int (a * b)):=if_pos h
theorem yK{a b:Int}(h:0<b/\b<1073741824):Ds (.int a) (.int b)=some (.int (a / b)):=if_pos h
theorem iD{a b:Int}(h:0<b):eU (.int a) (.int b)=some (.int (a % b)):=if_pos h
@[simp] theorem v_lt(a b:Int):gLt (.int a) (.int b)=some (.bl (decide (a<b))):=rfl
@[simp] theorem LZ(a b:Int):gLe (.int a) (.int b)=some (.bl (decide (a<=b))):=rfl
@[simp] theorem M0(a b:Int):gGt (.int a) (.int b)=some (.bl (decide (b<a))):=rfl
@[simp] theorem M3(a b:Int):gGe (.int a) (.int b)=some (.bl (decide (b<=a))):=rfl
@[simp] theorem HN(x y:Str):gLt (.str x) (.str y)=some (.bl (decide (x.cps.toList<y.cps.toList))):=rfl
@[simp] theorem HX(a b:Int):gEq (.int a) (.int b)=some (.bl (decide (a=b))):=by simp[gEq,pb,scV,C7]
@[simp] theorem yJ(a b:Str):gEq (.str a) (.str b)=some (.bl (decide (a=b))):=by simp[gEq,pb,scV,C7]
@[simp] theorem HK(b:Bool):vm (.bl b)=some b:=rfl
@[simp] theorem Et(ps:List PV):vm (.lst ps)=some (!ps.isEmpty):=rfl
@[simp] theorem Eu(ks:List Key)(ps:List PV):vm (.dct ks ps)=some (!ks.isEmpty):=rfl
@[simp] theorem EC(ps:List PV):qF (.lst ps)=some (.int ps.length):=rfl
@[simp] theorem Ez(ps:List PV):qF (.tup ps)=some (.int ps.length):=rfl
theorem kZ{x:Str}(h:x.length<=16777216):qF (.str x)=some (.int x.length):=if_pos h
@[simp] theorem HQ(ps:List PV)(i:Int):gIx (.lst ps) (.int i)=atI ps i:=rfl
@[simp] theorem HP(ps:List PV)(i:Int):gIx (.tup ps) (.int i)=atI ps i:=rfl
theorem yI{z:Str}{i:Int}{c:Nat}(h:z.length<=16777216)(e:atI z.cps.toList i=some c):gIx (.str z) (.int i)=some (.str ⟨#[c]⟩):=by
 show (if z.length<=16777216 then (atI z.cps.toList i).map fun c=>PV.str ⟨#[c]⟩ else none)=_;rw[if_pos h,e];rfl
@[simp] theorem HR(ks:List Key)(ps:List PV)(k:PV):gIx (.dct ks ps) k=(eV k).bind fun k=>bM ks ps k:=rfl
@[simp] theorem EG(i:Int):eV (.int i)=some (.inl i):=rfl
@[simp] theorem EF(x:Str):eV (.str x)=some (.inr x):=rfl
@[simp] theorem mV(k j:Key)(ks:List Key)(p:PV)(ps:List PV):bM (k::ks) (p::ps) j=if k=j then some p else bM ks ps j:=rfl
@[simp] theorem HW(b:Bool):I9 (.bl b)=some (.int (if b then 1 else 0)):=rfl
@[simp] theorem EK(b:Int):I9 (.int b)=some (.int b):=rfl
@[simp] theorem Es(ps:List PV):nQ (.lst ps)=some (.tup ps):=rfl
@[simp] theorem Er(ps:List PV):nQ (.tup ps)=some (.tup ps):=rfl
@[simp] theorem HU(ps:List PV):fK (.lst ps)=some ps:=rfl
@[simp] theorem HS(ps:List PV):fK (.tup ps)=some ps:=rfl
@[simp] theorem HV(ks:List Key)(ps:List PV):fK (.dct ks ps)=some (ks.map zL):=rfl
@[simp] theorem Kk(x:Str):zL (.inr x)=.str x:=rfl
@[simp] theorem Eb(ps:List PV):rS (.lst ps)=some ((yw ps).map .tup):=rfl
@[simp] theorem Ea(x:Str):rS (.str x)=some ((yw (gy x)).map .tup):=rfl
@[simp] theorem Ex(i:Int):KH (.int i)=if i.natAbs.log2<1920 then some (.str (toString i)) else none:=rfl
@[simp] theorem Ew(x:Str):KH (.str x)=some (.str x):=rfl
@[simp] theorem Iy(x:Str):GG (.str x)=true:=rfl
@[simp] theorem HM(ps:List PV)(lo hi:Option Int):gSl (.lst ps) lo hi=some (.lst (qG ps lo hi)):=rfl
theorem hZ{α:Type}{xs:List α}{i:Int}{n:Nat}{x:α}(hi:i=n)(h:xs[n]?=some x):atI xs i=some x:=by
 subst hi;have hl:=(MB.mp h).1;unfold atI ixN;rw[if_pos (by omega),if_pos (by omega)];simpa using h
@[simp] theorem LK{α:Type}(x:α)(xs:List α):atI (x::xs) 0=some x:=hZ (n:=0) rfl rfl
@[simp] theorem LJ{α:Type}(x y:α)(xs:List α):atI (x::y::xs) 1=some y:=hZ (n:=1) rfl rfl
@[simp] theorem LI{α:Type}(x y z:α)(xs:List α):atI (x::y::z::xs) 2=some z:=hZ (n:=2) rfl rfl
@[simp] theorem LH{α:Type}(x y z u:α)(xs:List α):atI (x::y::z::u::xs) 3=some u:=hZ (n:=3) rfl rfl
theorem xi{h:Tgt}{g:PSt->R Fl}(I:Nat->PSt->Prop):∀(ps:List PV)(n:Nat)(ρ:PSt),I n ρ->
  (∀(i:Nat)(p:PV)(ρ:PSt),ps[i]?=some p->I (n+i) ρ->∃ρ1 ρ2,h p ρ=some ρ1/\(g ρ1=.ok (.next ρ2)\/g ρ1=.ok (.cont ρ2))/\I (n+i+1) ρ2)->
  ∃ρ',gT h g ps ρ=.ok (.next ρ')/\I (n+ps.length) ρ'
 | [],n,ρ,h0,_=>⟨ρ,rfl,h0⟩
 | p::ps,n,ρ,h0,hs=>by
  obtain⟨ρ1,ρ2,e1,e2,i2⟩:=hs 0 p ρ rfl h0
  obtain⟨ρ3,e3,i3⟩:=xi I ps (n+1) ρ2 i2 fun i q ρ' hq hi=>by
   have:=hs (i+1) q ρ' (by simpa using hq) (by rw[show n+(i+1)=n+1+i by omega];exact hi);rw[show n+(i+1)+1=n+1+i+1 by omega] at this;exact this
  refine⟨ρ3,?_,by rw[Mr,show n+(ps.length+1)=n+1+ps.length by omega];exact i3⟩;unfold gT;rw[e1];rcases e2 with e2 | e2 <;> (simp only[R.ofO_some,R.ok_bind,e2];exact e3)
theorem zX{h:Tgt}{g:PSt->R Fl}{ps:List PV}{ρ:PSt}(I:Nat->PSt->Prop)(h0:I 0 ρ)
  (hs:∀(i:Nat)(p:PV)(ρ:PSt),ps[i]?=some p->I i ρ->∃ρ1 ρ2,h p ρ=some ρ1/\(g ρ1=.ok (.next ρ2)\/g ρ1=.ok (.cont ρ2))/\I (i+1) ρ2) :
  ∃ρ',gT h g ps ρ=.ok (.next ρ')/\I ps.length ρ':=by
 have:=xi I ps 0 ρ h0 fun i p ρ hp hi=>by
  rw[RD] at hi ⊢;exact hs i p ρ hp hi
 simpa using this
theorem uf(lo:Int)(n:Nat):(cD lo n).length=n:=by simp[cD]
theorem ug{lo:Int}{n i:Nat}{p:PV}(h:(cD lo n)[i]?=some p):i<n/\p=.int (lo+i):=by
 unfold cD at h;rw[MM] at h
 by_cases hi:i<n
 ·rw[Ot hi] at h
  exact⟨hi,(Mq h).symm⟩
 ·rw[Nm (by simpa using hi)] at h
  cases h
theorem forR{h:Tgt}{g:PSt->R Fl}{lo:Int}{n:Nat}{ρ:PSt}(I:Nat->PSt->Prop)(h0:I 0 ρ)
  (hs:∀(i:Nat)(ρ:PSt),i<n->I i ρ->∃ρ1 ρ2,h (.int (lo+i)) ρ=some ρ1/\(g ρ1=.ok (.next ρ2)\/g ρ1=.ok (.cont ρ2))/\I (i+1) ρ2) :
  ∃ρ',gT h g (cD lo n) ρ=.ok (.next ρ')/\I n ρ':=by
 obtain⟨ρ',e,i'⟩:=zX (ps:=cD lo n) I h0 fun i p ρ hp hi=>by
  obtain⟨hn,rfl⟩:=ug hp;exact hs i ρ hn hi
 rw[uf] at i';exact⟨ρ',e,i'⟩
theorem xh{α:Type}{enc:α->PV}{h:Tgt}{g:PSt->R Fl}{xs:List α}(I:List α->PSt->Prop)
  (hs:∀(pre:List α)(x:α)(post:List α)(ρ:PSt),xs=pre++x::post->I pre ρ->∃ρ1 ρ2,h (enc x) ρ=some ρ1/\(g ρ1=.ok (.next ρ2)\/g ρ1=.ok (.cont ρ2))/\I (pre++[x]) ρ2) :
  ∀(ys pre:List α)(ρ:PSt),xs=pre++ys->I pre ρ->∃ρ',gT h g (ys.map enc) ρ=.ok (.next ρ')/\I xs ρ'
 | [],pre,ρ,e,h0=>⟨ρ,rfl,by rw[e,NH];exact h0⟩
 | y::ys,pre,ρ,e,h0=>by
  obtain⟨ρ1,ρ2,e1,e2,i2⟩:=hs pre y ys ρ e h0;obtain⟨ρ3,e3,i3⟩:=xh I hs ys (pre++[y]) ρ2 (by rw[e];simp) i2;refine⟨ρ3,?_,i3⟩;rw[MC];unfold gT;rw[e1];rcases e2 with e2 | e2 <;> (simp only[R.ofO_some,R.ok_bind,e2];exact e3)
theorem forM{α:Type}{enc:α->PV}{h:Tgt}{g:PSt->R Fl}{xs:List α}{ρ:PSt}(I:List α->PSt->Prop)(h0:I [] ρ)
  (hs:∀(pre:List α)(x:α)(post:List α)(ρ:PSt),xs=pre++x::post->I pre ρ->∃ρ1 ρ2,h (enc x) ρ=some ρ1/\(g ρ1=.ok (.next ρ2)\/g ρ1=.ok (.cont ρ2))/\I (pre++[x]) ρ2) :
  ∃ρ',gT h g (xs.map enc) ρ=.ok (.next ρ')/\I xs ρ':=xh I hs xs [] ρ rfl h0
end PU
namespace PU
open PySem PySem.Spec PyProof.Rows L2 PySem.SeqAt
def AF:List PV->Option (List Key)
 | []=>some []
 | p::r=>(eV p).bind fun k=>(AF r).map fun l=>k::l
def Kl:PV->Option (Key ⊕ List Key)
 | .tup qs=>(AF qs).map .inr
 | p=>(eV p).map .inl
def F0:List PV->Option bZ
 | []=>some []
 | p::r=>(Kl p).bind fun k=>(F0 r).map fun l=>k::l
def l9:PV->Option bZ
 | .tup ps=>F0 ps
 | _=>none
def jf:List bZ->List PV->bZ->Option PV
 | k::ks,p::ps,j=>if k=j then some p else jf ks ps j
 | _,_,_=>none
def nR:PV->PV->Option PV
 | .dtt ks ps,q=>(l9 q).bind fun k=>jf ks ps k
 | _,_=>none
def jY:PV->PV->Option PV
 | q,.dtt ks _=>(l9 q).map fun k=>.bl (!(ks.any fun j=>decide (j=k)))
 | _,_=>none
def Cc(ks:List bZ)(ps:List PV)(k:bZ)(p:PV):List PV:=List.zipWith (fun j q=>if j=k then p else q) ks ps
def uW(ks:List bZ)(ps:List PV)(k:bZ)(p:PV):PV:=if (ks.any fun j=>decide (j=k))=true then .dtt ks (Cc ks ps k p) else .dtt (ks++[k]) (ps++[p])
def mK(i:Nat)(fk fv:PSt->R PV):PSt->R Fl:=fun ρ=>match ρ[i]? with
 | some (.own (.dtt ks ps))=>fv ρ >>= fun p=>fk ρ >>= fun kp=>R.ofO (l9 kp) >>= fun k=>if ks.length<16777216 then .ok (.next (ρ.set i (.own (uW ks ps k p)))) else .no
 | _=>.no
def uK(fk fv:PSt->R PV):PSt->R PV:=fun ρ=>fk ρ >>= fun kp=>fv ρ >>= fun p=>R.ofO (l9 kp) >>= fun k=>.ok (.dtt [k] [p])
def CW:PSt->R PV:=fun _=>.ok (.dtt [] [])
variable[TW]
theorem pw{K:M8}{H:Hp}:∀{ps:List PV}{xs:List V}{ks:List Key},AF ps=some ks->aH K H ps xs->xs=ks.map kV
 | [],_,_,e,r=>by cases e;cases r;rfl
 | p::ps,_,_,e,⟨x,t,ex,h1,h2⟩=>by
  obtain⟨k,ek,e⟩:=MU.mp e;obtain⟨l,el,e⟩:=MR.mp e;subst e ex;rw[MC,← dC ek h1.o,← pw el h2]
theorem pq{K:M8}{H:Hp}:∀{ps:List PV}{xs:List V}{ks:bZ},F0 ps=some ks->aH K H ps xs->NV H ks xs
 | [],xs,ks,e,r=>by cases e;exact r
 | p::ps,xs,ks,e,r=>by
  obtain⟨x,t,rfl,r1,r2⟩:=r;unfold F0 at e;obtain⟨k,e1,e⟩:=MU.mp e;obtain⟨l,e2,e⟩:=MR.mp e;cases e;have ih:=pq e2 r2;cases p with
  | tup qs=>
   obtain⟨j,e3,e4⟩:=MR.mp (show (AF qs).map Nv=some k from e1);subst e4;obtain⟨c,ys,rfl,hc,rr⟩:=r1;rw[pw e3 rr] at hc;exact⟨c,t,rfl,hc,ih⟩
  | int i=>
   cases e1;cases (show x=.int i from r1);exact⟨t,rfl,ih⟩
  | str i=>
   cases e1;cases (show x=.str i from r1);exact⟨t,rfl,ih⟩
  | _=>cases e1
theorem iT{K:M8}{H:Hp}{p:PV}{v:V}{k:bZ}(e:l9 p=some k)(r:bp K H p v):∃b,v=.ref b/\fg H b k:=by
 cases p with
 | tup ps=>
  obtain⟨a,xs,rfl,g,rr⟩:=r;exact⟨a,rfl,xs,g,pq e rr⟩
 | _=>cases e
theorem pW{K:M8}{H:Hp}{k:bZ}:∀{ks:List bZ}{ps:List PV}{kvs:List (bZ×V)}{p:PV},kvs.map (·.1)=ks->aH K H ps (kvs.map (·.2))->jf ks ps k=some p->∃v,jB kvs k=some v/\Rep K H p v
 | _,_,[],_,h1,h2,e=>by
  subst h1;simp only[O7,jf] at e;cases e
 | _,[],kv::kvs,_,h1,h2,e=>by
  cases h2
 | _,q::ps,kv::kvs,p,h1,h2,e=>by
  subst h1;obtain⟨x,r,ex,hx,ht⟩:=h2;simp only[MC,Nq] at ex;obtain⟨rfl,rfl⟩:=ex;simp only[MC,jf] at e
  by_cases hk:kv.1=k
  ·rw[if_pos hk] at e
   cases e;exact⟨_,by simp[jB,hk],hx⟩
  ·rw[if_neg hk] at e
   obtain⟨v,ev,rv⟩:=pW rfl ht e;exact⟨v,by unfold jB at ev ⊢;rw[P8 (by simp[hk])];exact ev,rv⟩
theorem sd{kvs:List (bZ×V)}{k:bZ}:(jB kvs k).isSome=((kvs.map (·.1)).any fun j=>decide (j=k)):=by
 rw[ON];unfold jB;rw[Qk]
 induction kvs with
 | nil=>rfl
 | cons kv r ih=>
  rw[Ng,Nw];simp only[PC];cases decide (kv.1=k) with
  | true=>rfl
  | false=>exact ih
section
variable{X : Cx}
theorem ixT(hu:X.A.units+64<cLine):IxR X (rP X.K nR):=by
 intro value slice pins s σ H x y v u Q I rx ry ⟨p,q,z,hp,hq,e,k⟩ hs;unfold nR at e;split at e
 ·rename_i ks ps
  obtain⟨kk,ek,e⟩:=MU.mp e;obtain⟨a,kvs,rfl,g,e1,r⟩:=hp;cases rx;obtain⟨b,rfl,hb⟩:=iT ek hq;obtain⟨w,ew,rp⟩:=pW e1 r e;have dg:Hu H a (.ref b) (some w):=.inr ⟨kvs,kk,b,g,rfl,hb,ew.symm⟩;obtain⟨_,_,_,_,dd⟩:=uJ I.hok g;exact tail_any (rV I dg) RZ.lookup (xO (by omega) I dg ry fun w' s' I' rw'=>⟨w,H,I',rw',k w H (Same.refl H) rp⟩) hs
 ·cases e
theorem zx(hu:X.A.units+64<cLine):OpR X (N8 .NotIn) (rP X.K jY):=by
 intro pins s σ H x y v u Q I rx ry ⟨p,q,z,hp,hq,e,k⟩;unfold jY at e;split at e
 ·rename_i ks ps
  obtain⟨kk,ek,ez⟩:=MR.mp e;subst ez;obtain⟨a,kvs,rfl,g,e1,r⟩:=hq;cases ry;obtain⟨b,rfl,hb⟩:=iT ek hp;have dg:Hu H a (.ref b) (jB kvs kk):=.inr ⟨kvs,kk,b,g,rfl,hb,rfl⟩;refine DH (by omega) I dg rx fun s' I'=>⟨.bl _,H,I',rfl,k _ H (Same.refl H) ?_⟩;subst e1;rw[sd];rfl
 ·cases e
end
theorem rG:wU jY:=fun p q z e=>by
 unfold jY at e;split at e
 ·obtain⟨b,_,ez⟩:=MR.mp e;exact⟨_,ez.symm⟩
 ·cases e
theorem nr{K:M8}{H:Hp}{k:bZ}{p:PV}{v:V}(rp:Rep K H p v):∀{kvs:List (bZ×V)}{ps:List PV},aH K H ps (kvs.map (·.2))->aH K H (Cc (kvs.map (·.1)) ps k p) ((kvs.map fun kv=>if kv.1=k then (kv.1,v) else kv).map (·.2))
 | [],ps,r=>by
  cases ps with
  | nil=>rfl
  | cons q qs=>obtain⟨x,t,e,_⟩:=r;cases e
 | kv::kvs,ps,r=>by
  cases ps with
  | nil=>cases r
  | cons q qs=>
   obtain⟨x,t,e,h1,h2⟩:=r;simp only[MC,Nq] at e;obtain⟨rfl,rfl⟩:=e;have ih:=nr (k:=k) rp h2;simp only[MC,Cc,NU]
   by_cases hk:kv.1=k
   ·rw[if_pos hk,if_pos hk];exact⟨_,_,rfl,rp,ih⟩
   ·rw[if_neg hk,if_neg hk];exact⟨_,_,rfl,h1,ih⟩
theorem vH{K:M8}{H:Hp}{kvs:List (bZ×V)}{ps:List PV}{k:bZ}{p:PV}{v:V}(rr:aH K H ps (kvs.map (·.2)))(rp:Rep K H p v) :
  ∃ks' ps',uW (kvs.map (·.1)) ps k p=.dtt ks' ps'/\(putK kvs k v).map (·.1)=ks'/\aH K H ps' ((putK kvs k v).map (·.2)):=by
 unfold uW;have e:((kvs.map (·.1)).any fun j=>decide (j=k))=(kvs.any fun kv=>decide (kv.1=k)):=by rw[ON];rfl
 rw[e];unfold putK
 split
 ·refine⟨_,_,rfl,?_,nr rp rr⟩
  rw[MV];apply Os;intro kv _;simp only[PC]
  split <;> rfl
 ·refine⟨_,_,rfl,by simp,?_⟩
  rw[Mc];exact aH.append rr ⟨_,_,rfl,rp,rfl⟩
theorem sF{K:M8}{H:Hp}{a:Addr}{kvs:List (bZ×V)}{ps:List PV}{k:bZ}{p:PV}{v:V}(rr:aH K H ps (kvs.map (·.2)))(rp:Rep K H p v)(ha:H a=some (.dT (putK kvs k v))):cA K H a (uW (kvs.map (·.1)) ps k p):=by
 obtain⟨ks',ps',e,e1,e2⟩:=vH (k:=k) rr rp;rw[e];exact⟨_,ha,e1,e2⟩
theorem qO{C:Cn}(i:Nat){x:Str}{ke e:Expr}{fk fv:PSt->R PV}{np pos' pos:Nt}(hu:C.X.A.units+64<cLine)(hk:EV C ke fk)(hv:EV C e fv)(hN:C.X.N[i]?=some x:=by rfl)(hvis:Vis C.X.env.scope x:=by first | exact .inl rfl | exact .inr (.inl rfl) | exact .inr (.inr rfl))
  (hs:PH e (some (.Subscript (.Name x np) ke pos')) pos.line C.X.env=pure false:=by rfl) (hd:(x == ("__debug__":Str))=false:=by decide) (hcd:(x == ("__classdict__":Str))=false:=by decide) :
  SV C (.Assign [.Subscript (.Name x np) ke pos'] e pos) (mK i fk fv):=by
 intro pins s σ H D I ⟨ρ,B,S,q⟩;unfold mK at q;split at q
 ·rename_i ks ps e1
  obtain⟨a,e2,kvs,hx,ek,rr⟩:=S.vw i _ e1;refine vL (by omega) (fG hN hvis hd hcd) hk hv hs pins s σ H D I ⟨ρ,S.vw,(q.bind S.same).imp fun p _ q1 v H1 s1 r1=>⟨_,e2,ρ,S.vw.same s1,(q1.bind (S.same.trans s1)).imp fun kp _ q2 y H2 s2 r2=>?_⟩⟩;obtain⟨k,e3,q3⟩:=RS.ofO q2
  by_cases hl:ks.length<16777216
  ·rw[if_pos hl] at q3
   obtain⟨b,rfl,hb⟩:=iT e3 r2.o;subst ek;have hx2:H2 a=some (.dT kvs):=s2 _ _ (s1 _ _ hx);refine⟨a,_,rfl,BO.t hx2 hb (by rw[N7];simpa using hl),?_⟩;have kp:Kp H2 (upd H2 a (.dT (putK kvs k v))):=Kp.upd hx2 rfl;refine q3 σ _ (((S.grow s1).grow s2).turn e1 e2 (fun b hb=>aB hb) ⟨a,rfl,?_⟩);exact sF (aH.kp kp _ ((rr.same s1).same s2)) (Rep.kp kp _ (r1.same s2)) ay
  ·rw[if_neg hl] at q3
   exact MI q3
 ·exact MI q
theorem Hc{X:Cx}{pins:List (Addr×Obj)}{σ:L2.St}{H:Hp}{s:MD}{a b:Addr}{v:V}{r:M9}{A:Mt}{E:M9->MD->Prop}{kvs:List (bZ×V)}{k:bZ}{Q:Unit->MD->Prop}(hu:A.units+16<cLine)(I:Inv X pins σ H s)
  (e:H a=some (.dT kvs)) (eb:fg H b k) (l:kvs.length<sizeLine) (rv:RelV v r) (h:∀s',Inv X pins σ (upd H a (.dT (putK kvs k v))) s'->Q () s') :
  Mf (Ms X.prog X.w) A (dictSet a (.ref b) r) Q E s:=by
 obtain⟨z,hd,xs,rel,dd⟩:=DC I.hok e;have hz:xs.length<=sizeLine:=by rw[← N3 rel];exact z
 have hl:(putK kvs k v).length<=sizeLine:=by have:=dv kvs k v;omega
 refine wpAny_dictSet_heap (hsz:=hz) (knd:=gc X.prog X.w) (show A.units+8<cLine by omega) (key_of I.hok eb) dd fun h' dd' hs=>h _ ?_;obtain⟨q,es,ep,hq,h2,h3,h4,_,h5⟩:=dd';refine k7 I (by rw[e];exact P0) hs ⟨q,hq⟩ ⟨hl,hd,_,(rel.put k eb rv).keeps fun c ys ec=>?_,q,es,ep,hq,h2,h3,h4,h5⟩;rw[aB (CZ ec e (fun z=>nomatch z))];exact ec
theorem Ad{C:Cn}{k v:Expr}{fk fv:PSt->R PV}{pos:Nt}(hu:C.X.A.units+64<cLine)(hk:EV C k fk)(hv:EV C v fv):EN C (.Dict [some k] [v] pos) (uK fk fv):=by
 intro pins s σ H Q I ⟨ρ,vw,q⟩;have hn:=I.hok.fresh (Ma s.heap.objs.size);have I1:=I.laid (a:=s.heap.objs.size) (o:=.dT []) (h':=s.heap.push { cls:=.type "dict",data:=.dict #[] }) (t':=s.toks) (fun _ _ q=>MJ _ q) (Ma _) (tH s.heap I.big)
 refine wpAny_Dict_any rfl rfl (by simp) (show 1<=15 by decide) (thn (sH hk hv vM pins _ σ _ (fun ps H3=>∃b k y,ps=[(.ref b,y)]/\fg H3 b k/\H3 s.heap.objs.size=some (.dT [])/\Q (.ref s.heap.objs.size) (upd H3 s.heap.objs.size (.dT (putK [] k y)))) I1
  ⟨ρ,vw.same (Same.new hn),(q.bind.same (Same.new hn)).imp fun kp _ q1 x H1 s1 r1=>⟨ρ,vw.same ((Same.new hn).trans s1),(q1.bind.same ((Same.new hn).trans s1)).imp fun p _ q2 y H2 s2 r2=>?_⟩⟩) fun ws s2 ⟨ps,H2,I2,rel,b,k,y,ep,hb,hd,q2⟩=>?_)
 ·obtain⟨k,ek,q3⟩:=q2.bind.ofO
  obtain⟨b,rfl,hb⟩:=iT ek (r1.same s2).o;have hd:H2 s.heap.objs.size=some (.dT []):=s2 _ _ (s1 _ _ ay);refine⟨b,k,y,rfl,hb,hd,?_⟩;have kp:Kp H2 (upd H2 s.heap.objs.size (.dT (putK [] k y))):=Kp.upd hd rfl;exact q3 s.heap.objs.size _ ((((Same.new hn).trans s1).trans s2).but hn (fun u h=>by rw[hd] at h;cases h;rfl) (fun b hb=>aB hb)) hn ⟨_,ay,rfl,⟨_,_,rfl,Rep.kp kp _ r2,rfl⟩⟩
 ·subst ep
  cases rel with
  | @cons _ w _ ws h t=>
  cases t;obtain⟨w1,w2⟩:=w;cases (show w1=Ni b from h.1);unfold PySem.storeAll;rw[List.forIn_cons];refine MA (MA (Hc (by omega) I2 hd hb (by rw[N7];decide) h.2 fun s' I'=>MK ?_));dsimp only;rw[List.forIn_nil];exact MK ⟨.ref s.heap.objs.size,_,I',rfl,q2⟩
theorem rT{C:Cn}{pos:Nt}:EN C (.Dict [] [] pos) CW:=fun pins s σ H Q I ⟨ρ,vw,q⟩=>zr pins s σ H Q I fun p hp=>q p _ (Same.new hp) hp ⟨[],ay,rfl,rfl⟩
end PU
namespace PU
open PySem PySem.Spec PyProof.Rows L2 PySem.SeqAt
def DX(i:Nat)(f:PSt->R PV):PSt->R Fl:=fun ρ=>match ρ[i]? with
 | some (.val (.int a))=>f ρ >>= fun q=>match q with
  | .int b=>.ok (.next (ρ.set i (.val (.int (a+b)))))
  | _=>.no
 | _=>.no
variable[TW]
theorem Fb{C:Cn}{e:Expr}{f:PSt->R PV}{pos:Nt}(i:Nat){x:Str}{pos':Nt}(hN:C.X.N.Nodup)(he:EV C e f)
  (hf:C.X.fn x=true\/C.X.env.scope.names.lookup x=some .local:=by first | exact .inl rfl | exact .inr rfl | assumption) (hi:C.X.N[i]?=some x:=by rfl) (hx:Loc C.X.env.scope x:=by first | exact .inl rfl | exact .inr rfl) :
  SV C (.AugAssign (.Name x pos') .Add e pos) (DX i f):=by
 intro pins s σ H D I ⟨ρ,B,S,h⟩;unfold DX at h;split at h
 ·rename_i a e1
  obtain⟨v,ev,rv⟩:=S.vw i _ e1;cases (show v=.int a from rv);refine Fy hN hi hx he GJ hf pins s σ H D I ⟨_,ev,ρ,S.vw,(h.bind S.same).imp fun q _ k w H1 s1 r1=>?_⟩;cases q with
  | int b=>
   cases (show w=.int b from r1);exact⟨a,b,rfl,rfl,k _ H1 ((S.grow s1).setV rfl)⟩
  | _=>exact MI k
 ·exact MI h
end PU
namespace PU
open PySem PySem.Spec PyProof.Rows L2 PySem.SeqAt
variable[TW]
def trC(H:Hp)(l:List (Addr×Obj)):Hp:=fun b=>match l.lookup b with
 | some o=>some (.frz o (.own 0))
 | none=>H b
def drC(H:Hp)(l:List (Addr×Obj)):Hp:=fun b=>match l.lookup b with
 | some _=>none
 | none=>H b
theorem l8{H:Hp}{l:List (Addr×Obj)}{b:Addr}{o:Obj}(h:l.lookup b=some o):trC H l b=some (.frz o (.own 0)):=by unfold trC;rw[h]
theorem aW{H:Hp}{l:List (Addr×Obj)}{b:Addr}(h:l.lookup b=none):trC H l b=H b:=by unfold trC;rw[h]
theorem mx{H:Hp}{l:List (Addr×Obj)}{b:Addr}{o:Obj}(h:l.lookup b=some o):drC H l b=none:=by unfold drC;rw[h]
theorem ba{H:Hp}{l:List (Addr×Obj)}{b:Addr}(h:l.lookup b=none):drC H l b=H b:=by unfold drC;rw[h]
structure Cls(X:Cx)(H:Hp)(s:MD)(l:List (Addr×Obj)):Prop where
 at_:∀c o,l.lookup c=some o->s.heap.get? c=some o
 fr:∀c o,l.lookup c=some o->H c=none
 bs:∀c o,l.lookup c=some o->X.base.get? c=none
 st:∀c o,l.lookup c=some o->c ∉ frs X.stack
section
variable{X : Cx}{pins : List (Addr×Obj)}{σ : L2.St}{H H' : Hp}{s s' : MD}{l : List (Addr×Obj)}
theorem Cls.out(hc:Cls X H s l){b:Addr}{o:HO}(e:H b=some o):l.lookup b=none:=by
 cases q:l.lookup b with
 | none=>rfl
 | some u=>rw[hc.fr b u q] at e;cases e
theorem GY(I:L2.Inv X pins σ H s)(hc:Cls X H s l):Env0 X.prog X.w X.K X.mg X.base X.A X.stack s (trC H l):=by
 have e:=I.env0;refine⟨e.frames,e.mod,fun b o h=>⟨(e.bs b o h).1,?_⟩,e.bsz,e.funs,fun b hb=>?_,fun b o h=>?_,e.bare⟩
 ·cases q:l.lookup b with
  | none=>rw[aW q];exact(e.bs b o h).2
  | some u=>rw[hc.bs b u q] at h;cases h
 ·cases q:l.lookup b with
  | none=>rw[aW q];exact e.frf b hb
  | some u=>exact absurd hb (hc.st b u q)
 ·cases q:l.lookup b with
  | some u=>
   rw[l8 q] at h;cases h;exact⟨hc.at_ b u q,u,hc.at_ b u q⟩
  | none=>
   rw[aW q] at h;exact(e.hok b o h).stay (fun _ _ _ z=>z) (fun c z=>by rw[aW (hc.out z)];exact z) fun c xs z=>by rw[aW (hc.out z)];exact z
theorem pO(un:Un (frs X.stack) [] (trC H l) H' s.heap s'.heap){b:Addr}{o:HO}(e:H' b=some o)(n:∀q,o≠.frz q (.own 0)):l.lookup b=none:=by
 cases q:l.lookup b with
 | none=>rfl
 | some u=>
  rw[un.frzs b u _ (l8 q)] at e;cases e;exact absurd rfl (n u)
theorem unC(hc:Cls X H s l)(un:Un (frs X.stack) [] (trC H l) H' s.heap s'.heap)(hok:HOk X.prog X.w H' s'.heap):Un (frs X.stack) [] H (drC H' l) s.heap s'.heap where
 keep:=fun b o e n hb hx=>by
  cases q:l.lookup b with
  | none=>exact un.keep b o e (by rw[aW q];exact n) hb hx
  | some u=>
   have h1:=hc.at_ b u q;rw[e] at h1;cases h1;exact(hok b _ (un.frzs b o _ (l8 q))).1
 slot:=fun b o e n hb hx=>by
  cases q:l.lookup b with
  | none=>exact un.slot b o e (by rw[aW q];exact n) hb hx
  | some u=>exact absurd hb (hc.st b u q)
 free:=fun b o e n hx=>by
  cases q:l.lookup b with
  | none=>rw[ba q];exact un.free b o e (by rw[aW q];exact n) hx
  | some u=>exact mx q
 there:=un.there
 tups:=fun b xs e=>by
  have q:=hc.out e;rw[ba q];exact un.tups b xs (by rw[aW q];exact e)
 frzs:=fun b o u e=>by
  have q:=hc.out e;rw[ba q];exact un.frzs b o u (by rw[aW q];exact e)
 tbls:=fun b ps e=>by
  have q:=hc.out e;rw[ba q];exact un.tbls b ps (by rw[aW q];exact e)
theorem Lz(un:Un (frs X.stack) [] (trC H l) H' s.heap s'.heap)(hok:HOk X.prog X.w H' s'.heap):HOk X.prog X.w (drC H' l) s'.heap:=fun b o e=>by
 cases q:l.lookup b with
 | some u=>rw[mx q] at e;cases e
 | none=>
  rw[ba q] at e;exact(hok b o e).stay (fun _ _ _ z=>z) (fun c z=>by rw[ba (pO un z fun _ h=>by cases h)];exact z) fun c xs z=>by rw[ba (pO un z fun _ h=>by cases h)];exact z
theorem Fi(hc:Cls X H s l)(un:Un (frs X.stack) [] (trC H l) H' s.heap s'.heap)(sm:Same (trC H l) H'):Same H (drC H' l):=
 ⟨fun b o e n=>by
  have q:=hc.out e;rw[ba q];exact sm.at_ b o (by rw[aW q];exact e) n,fun b ps e=>by
  have q:=hc.out e;obtain⟨p1,e1,k1⟩:=sm.tb b ps (by rw[aW q];exact e);refine⟨p1,by rw[ba q];exact e1,fun t=>?_⟩;have t1:=k1 ⟨t.1,fun pos v h=>let ⟨c,f1,f2⟩:=t.2 pos v h;⟨c,f1,by rw[aW (hc.out f2)];exact f2⟩⟩;exact⟨t1.1,fun pos v h=>let ⟨c,f1,f2⟩:=t1.2 pos v h;⟨c,f1,by rw[ba (pO un f2 fun _ h=>by cases h)];exact f2⟩⟩⟩
theorem BL{Q:VK}{u:M9}(I:L2.Inv X pins σ H s)(hc:Cls X H s l)(h:CE X.stack X.prog X.w (trC H l) s (fun v H'=>Un (frs X.stack) [] (trC H l) H' s.heap s'.heap->Q v (drC H' l)) u s'):EP X pins σ Q u s':=by
 obtain⟨v,H',os,bare,un,hok,r,q⟩:=h;obtain⟨hh,g,d,t,os'⟩:=s';obtain rfl:os'=s.os:=os;exact⟨v,drC H' l,I.call (h':=hh) (g':=g) (d':=d) (t':=t) (ch:=[]) (unC hc un hok) (Lz un hok) bare (fun b z=>absurd z (by simp)),r,q un⟩
end
mutual
def noFn:PV->Bool
 | .fn _ _=>false
 | .tup ps=>aN ps
 | .lst ps=>aN ps
 | .dct _ ps=>aN ps
 | .dtt _ ps=>aN ps
 | _=>true
def aN:List PV->Bool
 | []=>true
 | p::ps=>noFn p && aN ps
end
def GH:HO->Bool
 | .tup _=>true
 | .frz _ (.lst _)=>true
 | .frz _ (.dK _)=>true
 | .frz _ (.dT _)=>true
 | _=>false
mutual
theorem Rep.pl{K:M8}{H H':Hp}(k:∀b u,H b=some u->GH u=true->H' b=some u):∀(p:PV){v:V},noFn p=true->Rep K H p v->Rep K H' p v
 | .non,_,_,h=>h
 | .bl _,_,_,h=>h
 | .int _,_,_,h=>h
 | .str _,_,_,h=>h
 | .tup ps,_,n,⟨a,xs,e,h,r⟩=>⟨a,xs,e,k _ _ h rfl,aH.pl k ps n r⟩
 | .lst ps,_,n,⟨a,xs,e,h,r⟩=>⟨a,xs,e,by
   rcases h with⟨o,h⟩ | h
   ·exact .inl ⟨o,k _ _ h rfl⟩
   ·exact .inr h,aH.pl k ps n r⟩
 | .dct ks ps,_,n,⟨a,kvs,e,h,ek,r⟩=>⟨a,kvs,e,by
   rcases h with⟨o,h⟩ | h
   ·exact .inl ⟨o,k _ _ h rfl⟩
   ·exact .inr h,ek,aH.pl k ps n r⟩
 | .dtt ks ps,_,n,⟨a,o,kvs,e,h,ek,r⟩=>⟨a,o,kvs,e,k _ _ h rfl,ek,aH.pl k ps n r⟩
 | .fn _ _,_,n,_=>by cases n
theorem aH.pl{K:M8}{H H':Hp}(k:∀b u,H b=some u->GH u=true->H' b=some u):∀(ps:List PV){xs:List V},aN ps=true->aH K H ps xs->aH K H' ps xs
 | [],_,_,h=>h
 | p::ps,_,n,⟨x,r,e,h1,h2⟩=>by
  have n:(noFn p && aN ps)=true:=n;rw[ND] at n;exact⟨x,r,e,Rep.pl k p n.1 h1,aH.pl k ps n.2 h2⟩
end
theorem oN{u:HO}(h:GH u=true):∀q,u≠.frz q (.own 0):=fun q e=>by subst e;cases h
end PU
namespace PU
open PySem PySem.Spec PyProof.Rows L2 PySem.SeqAt
variable[TW]
theorem yh{p:Nt}{r:List M9}(l:List M9)(h:TriplesOk l):Ow p (l++r)=(Ow p l).or (Ow p r):=by
 fun_induction TriplesOk l with
 | case1=>simp[Ow]
 | case2 a t b u x rest ih=>
  simp only[OI,Ow]
  split
  ·rfl
  ·exact ih h
 | case3 l h1 h2=>exact h.elim
theorem yg{p pos:Nt}{c v:M9}(h:Ow p [QM pos.line,QM pos.col,c]=some v):v=c/\p.line=pos.line/\p.col=pos.col:=by
 simp only[Ow,QM] at h;split at h
 ·rename_i hc
  cases h;simp only[ND,beq_iff_eq] at hc;exact⟨rfl,by omega,by omega⟩
 ·cases h
section
variable{X : Cx}{pins : List (Addr×Obj)}{σ : L2.St}{H : Hp}{s : MD}
theorem Do{H':Hp}{h':Heap}{P:Addr}{ps more:Array M9}{t':Nat}(I:L2.Inv X pins σ H s)(hP:H P=some (.tbl ps))(hx:Su P s.heap h')(hp:H' P=some (.tbl (ps++more)))(gP:h'.get? P=some (O2 (ps++more)))
  (old:∀b,b<s.heap.objs.size->b≠P->H' b=H b) (new:∀b o,s.heap.objs.size<=b->H' b=some o->dR X.prog X.w H' h' b o):L2.Inv X pins σ H' { s with heap:=h',toks:=t' }:=by
 have lt:∀b o,H b=some o->b<s.heap.objs.size:=fun b o e=>I.hok.lt e;have k:∀b o,b≠P->H b=some o->H' b=some o:=fun b o n e=>by rw[old b (lt b o e) n];exact e
 have nP:∀{b:Addr}{o:HO},H b=some o->(∀q,o≠.tbl q)->b≠P:=fun {b o} e n z=>by subst z;rw[hP] at e;cases e;exact n _ rfl
 refine I.un ⟨fun b o e n _ _=>hx b o (fun z=>by subst z;rw[hP] at n;cases n) e,fun b o e n _ _=>⟨o.slots,hx b o (fun z=>by subst z;rw[hP] at n;cases n) e⟩,
  fun b o e n _=>by rw[old b (MY e) (fun z=>by subst z;rw[hP] at n;cases n)];exact n,fun b o e _=>?_,fun b xs e=>k b _ (nP e fun _ z=>by cases z) e,fun b o u e=>k b _ (nP e fun _ z=>by cases z) e,fun b qs e=>?_⟩ fun b o e=>?_
 ·by_cases hb:b=P
  ·subst hb;exact⟨_,gP⟩
  ·exact⟨o,hx b o hb e⟩
 ·by_cases hb:b=P
  ·subst hb
   rw[hP] at e;cases e;exact⟨more,hp⟩
  ·exact⟨#[],by rw[k b _ hb e];simp⟩
 ·by_cases hl:b<s.heap.objs.size
  ·by_cases hb:b=P
   ·subst hb
    rw[hp] at e;cases e;exact gP
   ·rw[old b hl hb] at e
    refine(I.hok b o e).stay (fun c u hc q=>hx c u (fun z=>?_) q) (fun c q=>k c _ (nP q fun _ z=>by cases z) q) fun c xs q=>k c _ (nP q fun _ z=>by cases z) q;rcases hc with h | h
    ·exact hb (h▸z)
    ·exact nP h (fun _ z=>by cases z) z
  ·exact new b o (Nat.le_of_not_lt hl) e
theorem AZ{F:Obj}{c':Addr}{q:Str}{h':Heap}{t':Nat}(I:L2.Inv X pins σ H s)(hk:∀b o,s.heap.get? b=some o->h'.get? b=some o)(hsz:s.heap.objs.size<=h'.objs.size)(hfr:F.isFreed=false)(hc':H c'=some (eT c' q)) :
  ∃H',L2.Inv X pins σ H' { s with heap:=h'.push F,toks:=t' }/\Same H H'/\H' h'.objs.size=some (FnAt h'.objs.size F)/\H' c'=some (eT c' q):=by
 have nf:H h'.objs.size=none:=I.hok.fresh hsz;have I1:L2.Inv X pins σ H { s with heap:=h',toks:=t' }:=I.kept (t':=t') hk;refine⟨upd H h'.objs.size (FnAt h'.objs.size F),I1.laid (a:=h'.objs.size) (t':=t') (fun _ _ q=>MJ _ q) (Ma _) ⟨Mo _ hfr,⟨_,Mo _ hfr⟩,fun h1 h2 e k=>k _ e⟩,Same.new nf,ay,?_⟩;rw[aB (bB hc' nf)];exact hc'
theorem AY{F:Obj}{c' P:Addr}{ps:Array M9}{pos:Nt}{q:Str}{h':Heap}{t':Nat}(I:L2.Inv X pins σ H s)(hP:H P=some (.tbl ps))(hq:TW.qual pos.line pos.col=q)(hx:Su P s.heap h')(hge:s.heap.objs.size<=c')(hlt:c'<h'.objs.size)(hrec:h'.CodeRec (.ref c') q)
  (htb:h'.get? P=some (O2 (ps++#[QM pos.line,QM pos.col,.ref c']))) (hfr:F.isFreed=false) :
  ∃H',L2.Inv X pins σ H' { s with heap:=h'.push F,toks:=t' }/\Same H H'/\H' h'.objs.size=some (FnAt h'.objs.size F)/\H' c'=some (eT c' q):=by
 have gP:s.heap.get? P=some (O2 ps):=I.hok P _ hP;have hPs:P<s.heap.objs.size:=MY gP;have hsz:s.heap.objs.size<=h'.objs.size:=RG (P3 hge hlt);have nc:H c'=none:=I.hok.fresh hge;have nf:H h'.objs.size=none:=I.hok.fresh hsz;have c1:c'≠P:=OP (MW hPs hge);have f1:h'.objs.size≠P:=OP (MW hPs hsz);have cf:c'≠h'.objs.size:=Mp hlt;obtain⟨H',hH⟩:∃H':Hp,H'=upd (upd (upd H P (.tbl (ps++#[QM pos.line,QM pos.col,.ref c']))) c' (eT c' q)) h'.objs.size (FnAt h'.objs.size F):=⟨_,rfl⟩;have eP:H' P=some (.tbl (ps++#[QM pos.line,QM pos.col,.ref c'])):=by rw[hH,aB (Oc f1),aB (Oc c1),ay]
 have ec:H' c'=some (eT c' q):=by rw[hH,aB cf,ay]
 have ef:H' h'.objs.size=some (FnAt h'.objs.size F):=by rw[hH,ay]
 have old:∀b,b<s.heap.objs.size->b≠P->H' b=H b:=fun b hb hn=>by rw[hH,aB (Mp (MW hb hsz)),aB (Mp (MW hb hge)),aB hn]
 have lt:∀b o,H b=some o->b<s.heap.objs.size:=fun b o e=>I.hok.lt e;have hx2:Su P s.heap (h'.push F):=fun b o n e=>MJ _ (hx b o n e);refine⟨H',Do (t':=t') I hP hx2 eP (MJ _ htb) old fun b o hb e=>?_,⟨fun b o e n=>?_,fun b qs e=>?_⟩,ef,ec⟩
 ·by_cases hbf:b=h'.objs.size
  ·subst hbf
   rw[ef] at e;cases e;exact⟨Mo _ hfr,⟨_,Mo _ hfr⟩,fun h1 h2 e k=>k _ e⟩
  ·by_cases hbc:b=c'
   ·subst hbc
    rw[ec] at e;cases e;obtain⟨c2,oc,vs,tq,e1,e2,e3,e4⟩:=hrec;cases e1;refine⟨⟨b,oc,vs,tq,rfl,MJ _ e2,e3,e4⟩,⟨oc,MJ _ e2⟩,?_⟩;intro h1 h2 ⟨c3,oc3,vs3,tq3,g1,g2,g3,g4⟩ k;cases g1;exact⟨_,oc3,vs3,tq3,rfl,k _ g2,g3,g4⟩
   ·exfalso
    rw[hH,aB hbf,aB hbc,aB (OP (MW hPs hb)),I.hok.fresh hb] at e;cases e
 ·have hb:b≠P:=fun z=>by subst z;rw[hP] at e;cases e;cases n
  rw[old b (lt b o e) hb];exact e
 ·have keep:∀d q,H d=some (eT d q)->H' d=some (eT d q):=fun d q e=>by
   rw[old d (lt d _ e) (fun z=>by subst z;rw[hP] at e;cases e)];exact e
  by_cases hb:b=P
  ·subst hb
   rw[hP] at e;cases e;refine⟨_,eP,fun t=>⟨?_,fun p v hv=>?_⟩⟩
   ·rw[Sx]
    exact TriplesOk_snoc _ _ _ _ t.1
   ·rw[Sx,yh _ t.1] at hv
    cases hl:Ow p ps.toList with
    | some u=>
     rw[hl] at hv;cases hv;obtain⟨d,d1,d2⟩:=t.2 p _ hl;exact⟨d,d1,keep d _ d2⟩
    | none=>
     rw[hl] at hv;obtain⟨e1,e2,e3⟩:=yg hv;subst e1;exact⟨c',rfl,by rw[e2,e3,hq];exact ec⟩
  ·refine⟨qs,by rw[old b (lt b _ e) hb];exact e,fun t=>⟨t.1,fun p v hv=>?_⟩⟩
   obtain⟨d,d1,d2⟩:=t.2 p v hv;exact⟨d,d1,keep d _ d2⟩
def Bn (X:Cx):Prop:=∃bm o,X.mg "__builtins__"=some (.ref bm)/\bm≠NR/\bm≠mainGlobals/\X.base.get? bm=some o/\o.cls=.type "module"/\o.dict=some NR/\o.data=.plain
theorem Hl{P:Addr}{ps:Array M9}(I:L2.Inv X pins σ H s)(hP:H P=some (.tbl ps))(hbn:Bn X):mainGlobals≠P/\s.heap.BuiltinsAt X.mg P:=by
 have nb:∀b o,X.base.get? b=some o->b≠P:=fun b o e z=>by subst z;have:=(I.bs b o e).2;rw[hP] at this;cases this
 obtain⟨bm,ob,b1,b2,b3,b4,b5,b6,b7⟩:=hbn;refine⟨?_,bm,ob,b1,b2,b3,nb _ _ b4,I.bk _ _ b4,b5,b6,b7⟩;obtain⟨o,es,ep,e,_⟩:=I.mod.glob;exact nb _ o e
theorem Gh{params:Arguments}{body:Expr}{scope:Scope}{pos:Nt}{c P:Addr}{ps:Array M9}{Q:M9->MD->Prop}{E:M9->MD->Prop}(I:L2.Inv X pins σ H s)(hP:H P=some (.tbl ps))(tk:TOk H ps)(hcode:X.env.code=.ref c)
  (CH:Pk X.base c P) (hbn:Bn X)
  (hdef:defaultsOf params X.env=([],[])) (hq:TW.qual pos.line pos.col=X.env.qual++"<lambda>") (hfree:∀y∈scope.names,y.2=.free->∃c,X.env.cells.lookup y.1=some c)
  (h:∀f c' pm ct H' s',L2.Inv X pins σ H' s'->Same H H'->H' f=some (FnAt f (R8 "<lambda>" (X.env.qual++"<lambda>") params body scope (dI X.env.cells scope.names []) pm c' ct))->H' c'=some (eT c' (X.env.qual++"<lambda>"))->Q (.ref f) s') :
  Mf (Ms X.prog X.w) X.A (NJ (.Lambda params body scope pos) X.env) Q E s:=by
 have gP:s.heap.get? P=some (O2 ps):=I.hok P _ hP;have hg:s.heap.Ns mainGlobals X.mg:=I.mod.glob.keeps I.bk;obtain⟨hgP,hB⟩:=Hl I hP hbn;refine PySem.W.kla_eval hdef ?_;cases hf:Ow pos ps.toList with
 | some cv=>
  obtain⟨c',rfl,hc'⟩:=tk.2 pos cv hf;rw[hq] at hc';refine PySem.W.kla_makeFunctionHit (mg:=X.mg) (bx hfree) I.ok.glob hg hcode (CH.keeps I.bk) gP tk.1 hf hB fun ctv h' t' hk hsz=>?_;obtain⟨H',I',sm,e1,e2⟩:=AZ (t':=t') (F:=R8 "<lambda>" (X.env.qual++"<lambda>") params body scope (dI X.env.cells scope.names []) ((X.mg "__name__").getD .none) c' ctv) I hk hsz rfl hc';exact h _ c' _ ctv H' _ I' sm e1 e2
 | none=>
  refine PySem.W.kla_makeFunction (mg:=X.mg) (bx hfree) I.ok.glob hg hcode (CH.keeps I.bk) gP tk.1 hf hgP hB fun c' ctv h' t' hx hge hlt hrec htb=>?_;obtain⟨H',I',sm,e1,e2⟩:=AY (t':=t') (F:=R8 "<lambda>" (X.env.qual++"<lambda>") params body scope (dI X.env.cells scope.names []) ((X.mg "__name__").getD .none) c' ctv) I hP hq hx hge hlt hrec htb rfl;exact h _ c' _ ctv H' _ I' sm e1 e2
theorem Hb{name:Str}{params:Arguments}{body:List Stmt}{scope:Scope}{pos:Nt}{c P:Addr}{ps:Array M9}{Q:Flow->MD->Prop}{E:M9->MD->Prop}(I:L2.Inv X pins σ H s)(hP:H P=some (.tbl ps))(tk:TOk H ps)(hcode:X.env.code=.ref c)
  (CH:Pk X.base c P) (hbn:Bn X) (hd0:params.defaults=[]) (hk0:params.kw_defaults=[]) (ha:annTrees params none X.env=[])
  (hq:TW.qual pos.line pos.col=QW X.env name name) (hfree:∀y∈scope.names,y.2=.free->∃c,X.env.cells.lookup y.1=some c)
  (h:∀f c' doc pm ct H' s',L2.Inv X pins σ H' s'->Same H H'->H' f=some (FnAt f (RU name (QW X.env name name) params body scope (dI X.env.cells scope.names []) doc pm c' ct))->H' c'=some (eT c' (QW X.env name name))->
   Mf (Ms X.prog X.w) X.A (TJ X.env name (.ref f)) (fun _ s''=>Q .next s'') E s') :
  Mf (Ms X.prog X.w) X.A (exec (.FunctionDef name params body [] none [] scope none name pos) X.env) Q E s:=by
 have gP:s.heap.get? P=some (O2 ps):=I.hok P _ hP;have hg:s.heap.Ns mainGlobals X.mg:=I.mod.glob.keeps I.bk;obtain⟨hgP,hB⟩:=Hl I hP hbn;refine PySem.W.nestDef_K hd0 hk0 ha ?_;cases hf:Ow pos ps.toList with
 | some cv=>
  obtain⟨c',rfl,hc'⟩:=tk.2 pos cv hf;rw[hq] at hc';refine PySem.W.makeFunction_hit (mg:=X.mg) (bx hfree) I.ok.glob hg hcode (CH.keeps I.bk) gP tk.1 hf hB fun ctv doc h' t' hk hsz=>?_;obtain⟨H',I',sm,e1,e2⟩:=AZ (t':=t') (F:=RU name (QW X.env name name) params body scope (dI X.env.cells scope.names []) doc ((X.mg "__name__").getD .none) c' ctv) I hk hsz rfl hc';exact h _ c' doc _ ctv H' _ I' sm e1 e2
 | none=>
  refine PySem.W.makeFunction_K (mg:=X.mg) (bx hfree) I.ok.glob hg hcode (CH.keeps I.bk) gP tk.1 hf hgP hB fun c' ctv doc h' t' hx hge hlt hrec htb=>?_;obtain⟨H',I',sm,e1,e2⟩:=AY (t':=t') (F:=RU name (QW X.env name name) params body scope (dI X.env.cells scope.names []) doc ((X.mg "__name__").getD .none) c' ctv) I hP hq hx hge hlt hrec htb rfl;exact h _ c' doc _ ctv H' _ I' sm e1 e2
end
end PU
namespace PU
open PySem PySem.Spec PyProof.Rows L2 PySem.SeqAt
variable[TW]
structure LScope(ps fr ls:List Str)(sc:Scope):Prop where
 kind:sc.kind=.function
 co:sc.isCoroutine=false
 gen:sc.isGenerator=false
 nocell:∀x∈sc.names,x.2≠.cell
 par:∀x∈ps,sc.names.lookup x=some .local
 fre:∀x,sc.names.lookup x=some .free->x∈fr
 frk:∀x∈fr,sc.names.lookup x=some .free
 nd:(ps++fr++ls).Nodup
def cxL(P:Md)(w:Ml)(K:M8)(mg:Str->Option M9)(base:Heap)(N:List Str)(qual:Str)(scope:Scope)(f:Addr)(cd:M9)(cl:List (Str×Addr))(A:Mt)(outer:List RB)(s:MD)(H:Hp):Cx where
 prog:=P
 w:=w
 K:=K
 mg:=mg
 base:=base
 A:=A.deeper (P1 qual scope s.heap.objs.size f cd cl)
 N:=N
 s₀:=s
 H₀:=H
 env:=P1 qual scope s.heap.objs.size f cd cl
 outer:=outer
 stack:=P1 qual scope s.heap.objs.size f cd cl::outer
 ex:=[]
 calm:=true
 fn:=fun _=>false
 pn:=[]
 xe:=fun _ _=>False
theorem pV{cl:List (Str×Addr)}(nd:(cl.map (·.1)).Nodup):∀{i:Nat}{x:Str}{c:Addr},cl[i]?=some (x,c)->cl.lookup x=some c:=by
 induction cl with
 | nil=>intro i x c h;simp at h
 | cons p r ih=>
  intro i x c h;obtain⟨y,d⟩:=p;rw[MC,Mu] at nd;cases i with
  | zero=>simp at h;obtain⟨rfl,rfl⟩:=h;simp[Sw]
  | succ i=>
   have h:r[i]?=some (x,c):=by simpa using h
   have hne:(x == y)=false:=by
    rw[beq_eq_false_iff_ne];rintro rfl;exact nd.1 (MF.mpr ⟨_,Mk h,rfl⟩)
   rw[Mx,hne];exact ih nd.2 h
theorem Gc{cl:List (Str×Addr)}{x:Str}{c:Addr}(h:cl.lookup x=some c):∃i:Nat,cl[i]?=some (x,c):=by
 have:=Mw h;obtain⟨i,hi,e⟩:=OE this;exact⟨i,by rw[ME hi,e]⟩
theorem wZ{x y:Str}{c:Addr}:∀{cl:List (Str×Addr)},(cl.map (·.2)).Nodup->(x,c)∈cl->(y,c)∈cl->x=y
 | [],_,h,_=>nomatch h
 | (z,d)::r,nd,h1,h2=>by
  rw[MC,Mu] at nd;rcases MP.mp h1 with e1 | m1
  ·rcases MP.mp h2 with e2 | m2
   ·cases e1;cases e2;rfl
   ·cases e1
    exact(nd.1 (MF.mpr ⟨_,m2,rfl⟩)).elim
  ·rcases MP.mp h2 with e2 | m2
   ·cases e2
    exact(nd.1 (MF.mpr ⟨_,m1,rfl⟩)).elim
   ·exact wZ nd.2 m1 m2
theorem GK{cl:List (Str×Addr)}(nd:(cl.map (·.2)).Nodup){x y:Str}{c:Addr}(h1:cl.lookup x=some c)(h2:cl.lookup y=some c):x=y:=
 wZ nd (Mw h1) (Mw h2)
theorem uy{cl:List (Str×M9)}(nd:(cl.map (·.1)).Nodup):∀{i:Nat}{x:Str}{c:M9},cl[i]?=some (x,c)->cl.lookup x=some c:=by
 induction cl with
 | nil=>intro i x c h;simp at h
 | cons p r ih=>
  intro i x c h;obtain⟨y,d⟩:=p;rw[MC,Mu] at nd;cases i with
  | zero=>simp at h;obtain⟨rfl,rfl⟩:=h;simp[Sw]
  | succ i=>
   have h:r[i]?=some (x,c):=by simpa using h
   have hne:(x == y)=false:=by
    rw[beq_eq_false_iff_ne];rintro rfl;exact nd.1 (MF.mpr ⟨_,Mk h,rfl⟩)
   rw[Mx,hne];exact ih nd.2 h
theorem tY{ps:List Str}{us:List M9}(nd:ps.Nodup)(hl:us.length=ps.length){i:Nat}{x:Str}{u:M9}(h1:ps[i]?=some x)(h2:us[i]?=some u):(ps.zip us).reverse.lookup x=some u:=by
 have hm:(x,u)∈ps.zip us:=by
  refine Mk (i:=i) ?_;rw[Rx];exact⟨h1,h2⟩
 have hn:((ps.zip us).map (·.1)).Nodup:=by
  rw[PY (by omega)];exact nd
 have hr:((ps.zip us).reverse.map (·.1)).Nodup:=by rw[List.map_reverse];exact List.pairwise_reverse.mpr (List.Pairwise.imp (fun h=>Oc h) hn)
 obtain⟨j,hj,e⟩:=OE (List.mem_reverse.mpr hm);exact uy hr (by rw[ME hj,e])
section
variable{P : Md}{w : Ml}{K : M8}{mg : Str → Option M9}{base : Heap}{ps fr ls : List Str}{qual : Str}{scope : Scope}{f : Addr}{cd : M9}{cl : List (Str×Addr)}{A : Mt}{outer : List RB}{s : MD}{H : Hp}{l : List (Addr×Obj)}
theorem wF{us:List M9}{vs xs:List V}{h':Heap}{t':Nat}(S:LScope ps fr ls scope)(hd:A.handled=none)(e0:Env0 P w K mg base A outer s H)(hl:∀c o,l.lookup c=some o->H c=some (.frz o (.own 0)))
  (hcl:cl.map (·.1)=fr) (nd:(cl.map (·.2)).Nodup) (hxs:xs.length=cl.length) (hx:∀(i:Nat)(x:Str)(c:Addr),cl[i]?=some (x,c)->∃v o u,xs[i]?=some v/\l.lookup c=some o/\o.data=.cell (some u)/\RelV v u)
  (r:Vals vs us) (hv:vs.length=ps.length) (ns:h'.Ns s.heap.objs.size (fun x=>(ps.zip us).reverse.lookup x)) (hk:∀b o,s.heap.get? b=some o->h'.get? b=some o) :
  L2.Inv (cxL P w K mg base (ps++fr++ls) qual scope f cd cl A outer s (drC H l)) [] ((vs++xs).map some++Mv ls.length none) (drC H l) { s with heap:=h',toks:=t' }:=by
 have noA:∀b:Addr,b ∉ ([]:List Addr):=fun b z=>nomatch z;have ndf:(cl.map (·.1)).Nodup:=by rw[hcl];exact(NY.mp (NY.mp S.nd).1).2.1
 have ndp:ps.Nodup:=(NY.mp (NY.mp S.nd).1).1
 have Sb:∀x c,cl.lookup x=some c->∃(i:Nat)(v:V)(o:Obj)(u:M9),cl[i]?=some (x,c)/\xs[i]?=some v/\l.lookup c=some o/\o.data=.cell (some u)/\RelV v u/\s.heap.get? c=some o:=fun x c h=>by
  obtain⟨i,e⟩:=Gc h;obtain⟨v,o,u,e1,e2,e3,e4⟩:=hx i x c e;exact⟨i,v,o,u,e,e1,e2,e3,e4,(e0.hok c _ (hl c o e2)).1⟩
 have drn:∀b,H b=none->drC H l b=none:=fun b n=>by
  cases q:l.lookup b with
  | none=>rw[ba q];exact n
  | some o=>exact mx q
 have hok:HOk P w (drC H l) s.heap:=fun b o e=>by
  cases q:l.lookup b with
  | some u=>rw[mx q] at e;cases e
  | none=>
   rw[ba q] at e
   have out:∀{c:Addr}{o:HO},H c=some o->(∀q,o≠.frz q (.own 0))->l.lookup c=none:=fun {c o} e n=>by
    cases q:l.lookup c with
    | none=>rfl
    | some u=>rw[hl c u q] at e;cases e;exact absurd rfl (n u)
   exact(e0.hok b o e).stay (fun _ _ _ z=>z) (fun c z=>by rw[ba (out z fun _ h=>by cases h)];exact z) fun c xs z=>by rw[ba (out z fun _ h=>by cases h)];exact z
 refine⟨⟨e0.mod,S.kind,rfl,rfl,Ma _,fun y z c h1 h2=>GK nd h1 h2,fun y hy=>?_,fun y c h _=>(by cases h),fun _=>hd,SL e0.frames,.inr ⟨rfl,rfl⟩,fun b z=>absurd z (noA b),fun b o e=>⟨(e0.bs b o e).1,drn b (e0.bs b o e).2⟩,e0.bsz,fun b _ _=>noA b,fun b z=>absurd z (noA b),e0.funs,fun b hb=>drn b (e0.frf b hb)⟩,
  rfl,e0.bare,Un.kept hk,⟨_,ns,fun i y v h1 h2 h3=>?_⟩,fun y c h=>?_,drn _ (e0.hok.fresh (Ma _)),fun y c h=>?_,fun p hp=>absurd (show p∈([]:List (Addr×Obj)) from hp) (by simp),hok.kept hk,?_⟩
 ·have hy:scope.names.lookup y=some .cell\/scope.names.lookup y=some .free:=hy
  rcases hy with hy | hy
  ·exact absurd rfl (S.nocell _ (Mw hy))
  ·have:=S.fre y hy
   rw[← hcl] at this;obtain⟨p,hp,e⟩:=MF.mp this;obtain⟨i,hi,e2⟩:=OE hp;obtain⟨a,b⟩:=p;cases e;exact⟨b,pV ndf (by rw[ME hi,e2])⟩
 ·have h1:(ps++fr++ls)[i]?=some y:=h1
  have hlf:fr.length=cl.length:=by rw[← hcl,MG]
  have hi:i<(vs++xs).length:=by
   refine Nat.lt_of_not_le fun hge=>?_;rw[Mm (by rw[MG];exact hge)] at h2;have:=(Qm.mp (Mk h2)).2;cases this
  rw[ML (by rw[MG];exact hi),MM] at h2;rw[ML (by rw[Mi] at hi ⊢;omega)] at h1;obtain⟨v',h2,e⟩:=MR.mp h2;cases e
  by_cases hi:i<ps.length
  ·rw[ML hi] at h1
   rw[ML (by omega)] at h2;obtain⟨u,hu,rv⟩:=r.get h2;exact⟨u,rv,.inl ⟨S.par y (Mk h1),tY ndp (by rw[← r.length];exact hv) h1 hu⟩⟩
  ·rw[Mm (by omega)] at h1
   rw[Mm (by omega),hv] at h2;have hf:=S.frk y (Mk h1);rw[← hcl,MM] at h1;obtain⟨p,g1,e⟩:=MR.mp h1;obtain⟨a,c⟩:=p;cases e;obtain⟨v2,o,u,e1,e2,e3,e4⟩:=hx _ _ _ g1;rw[h2] at e1;cases e1;exact⟨u,e4,.inr ⟨.inr hf,c,pV ndf g1,o,hk _ _ (e0.hok c _ (hl c o e2)).1,e3⟩⟩
 ·obtain⟨i,v,o,u,_,_,_,e3,_,e5⟩:=Sb y c h
  exact⟨_,o,hk _ _ e5,e3⟩
 ·obtain⟨i,v,o,u,_,_,e2,_,_,_⟩:=Sb y c h
  exact mx e2
 ·show _=(ps++fr++ls).length
  rw[Mi,MG,Mi,Mi,Mi,hv,hxs,← hcl,MG,OV]
theorem wG{v:V}{H1:Hp}{u:M9}{s':MD}{p:PV}{pins:List (Addr×Obj)}{N:List Str}{σ':L2.St}{Q:VK}(e0:Env0 P w K mg base A outer s H)(hl:∀c o,l.lookup c=some o->H c=some (.frz o (.own 0)))
  (J:L2.Inv (cxL P w K mg base N qual scope f cd cl A outer s (drC H l)) pins σ' H1 s') (rv:RelV v u) (sm:Same (drC H l) H1) (rp:Rep K H1 p v) (hQ:∀v H',Same H H'->Rep K H' p v->Q v H'):CE outer P w H s Q u s':=by
 have out:∀{b:Addr}{o:HO},H b=some o->(∀q,o≠.frz q (.own 0))->l.lookup b=none:=fun {b o} e n=>by
  cases q:l.lookup b with
  | none=>rfl
  | some u=>rw[hl b u q] at e;cases e;exact absurd rfl (n u)
 have outn:∀{b:Addr},H b=none->l.lookup b=none:=fun {b} n=>by
  cases q:l.lookup b with
  | none=>rfl
  | some u=>rw[hl b u q] at n;cases n
 have drn:∀{b:Addr},H b=none->drC H l b=none:=fun {b} n=>by rw[ba (outn n)];exact n
 have tok:∀{qs:Array M9},TOk H qs->TOk (drC H l) qs:=fun t=>⟨t.1,fun pos v h=>let ⟨c,f1,f2⟩:=t.2 pos v h;⟨c,f1,by rw[ba (out f2 fun _ h=>by cases h)];exact f2⟩⟩;have un:Un (frs outer) [] (drC H l) H1 s.heap s'.heap:=J.base
 have n1:∀{c:Addr}{o:Obj},l.lookup c=some o->H1 c=none/\s'.heap.get? c=some o:=fun {c o} q=>by
  have g:=(e0.hok c _ (hl c o q)).1;refine⟨un.free c o g (mx q) (by simp),un.keep c o g (mx q) (fun z=>?_) (by simp)⟩;have:=e0.frf c z;rw[hl c o q] at this;cases this
 have out1:∀{b:Addr}{o:HO},H1 b=some o->l.lookup b=none:=fun {b o} e=>by
  cases q:l.lookup b with
  | none=>rfl
  | some u=>rw[(n1 q).1] at e;cases e
 refine⟨v,trC H1 l,J.os,J.bare,⟨fun b o e n hb hx=>un.keep b o e (drn n) hb hx,fun b o e n hb hx=>un.slot b o e (drn n) hb hx,fun b o e n hx=>by rw[aW (outn n)];exact un.free b o e (drn n) hx,un.there,fun b ys e=>?_,fun b o u e=>?_,fun b qs e=>?_⟩,fun b o e=>?_,rv,hQ v _ ⟨fun b o e n=>?_,fun b qs e=>?_⟩ (rp.same (.of fun b o e=>by rw[aW (out1 e)];exact e))⟩
 ·have q:=out e fun _ h=>by cases h
  rw[aW q];exact un.tups b ys (by rw[ba q];exact e)
 ·cases q:l.lookup b with
  | some o'=>rw[hl b o' q] at e;cases e;exact l8 q
  | none=>rw[aW q];exact un.frzs b o u (by rw[ba q];exact e)
 ·have q:=out e fun _ h=>by cases h
  rw[aW q];exact un.tbls b qs (by rw[ba q];exact e)
 ·cases q:l.lookup b with
  | some o'=>
   rw[l8 q] at e;cases e;exact⟨(n1 q).2,o',(n1 q).2⟩
  | none=>
   rw[aW q] at e;exact(J.hok b o e).stay (fun _ _ _ z=>z) (fun c z=>by rw[aW (out1 z)];exact z) fun c xs z=>by rw[aW (out1 z)];exact z
 ·cases q:l.lookup b with
  | some o'=>rw[hl b o' q] at e;cases e;exact l8 q
  | none=>rw[aW q];exact sm.at_ b o (by rw[ba q];exact e) n
 ·have q:=out e fun _ h=>by cases h
  obtain⟨p1,e1,k1⟩:=sm.tb b qs (by rw[ba q];exact e);refine⟨p1,by rw[aW q];exact e1,fun t=>?_⟩;have t1:=k1 (tok t);exact⟨t1.1,fun pos v h=>let ⟨c,f1,f2⟩:=t1.2 pos v h;⟨c,f1,by rw[aW (out1 f2)];exact f2⟩⟩
theorem zG{vs xs:List V}{qs cs:List PV}(n:Nat)(hl:∀c o,l.lookup c=some o->H c=some (.frz o (.own 0)))(rq:aH K H qs vs)(rc:aH K H cs xs)(nq:aN qs=true)(nc:aN cs=true)(tb:uT H) :
  View K (drC H l) ((vs++xs).map some++Mv n none) ((qs++cs).map .val++Mv n .no):=by
 have out:∀{b:Addr}{o:HO},H b=some o->(∀q,o≠.frz q (.own 0))->l.lookup b=none:=fun {b o} e n=>by
  cases q:l.lookup b with
  | none=>rfl
  | some u=>rw[hl b u q] at e;cases e;exact absurd rfl (n u)
 have pl:∀b u,H b=some u->GH u=true->drC H l b=some u:=fun b u e h=>by rw[ba (out e (oN h))];exact e
 have tok:∀{qs:Array M9},TOk H qs->TOk (drC H l) qs:=fun t=>⟨t.1,fun pos v h=>let ⟨c,f1,f2⟩:=t.2 pos v h;⟨c,f1,by rw[ba (out f2 fun _ h=>by cases h)];exact f2⟩⟩;have rr:aH K (drC H l) (qs++cs) (vs++xs):=aH.append (aH.pl pl qs nq rq) (aH.pl pl cs nc rc);have hlen:=rr.length;refine⟨fun i z ez=>?_,fun P hP=>?_⟩
 ·by_cases hi:i<(qs++cs).length
  ·rw[ML (by rw[MG];exact hi),MM] at ez
   obtain⟨q,eq,e2⟩:=MR.mp ez;cases e2;obtain⟨v,ev,rp⟩:=rr.get eq;exact⟨v,by rw[ML (by rw[MG,← hlen];exact hi),MM,ev];rfl,rp⟩
  ·rw[Mm (by rw[MG];omega)] at ez
   rw[(Qm.mp (Mk ez)).2];exact trivial
 ·obtain⟨qs',e1,t⟩:=tb P hP
  exact⟨qs',by rw[ba (out e1 fun _ h=>by cases h)];exact e1,tok t⟩
def rX(n:Nat)(g:PSt->R Fl):PSt->R PV:=fun ρ=>match g (ρ++Mv n .no) with
 | .ok (.ret p)=>.ok p
 | .er x=>.er x
 | _=>.no
def iC(C:Cn)(n:Nat)(fe:PSt->R PV):FuncBody->Prop
 | .expr b=>n=0/\EV C b fe
 | .stmts b=>∃g,SVs C b g/\fe=rX n g
theorem wD{k:Nat}{L:Lam}{pm:M9×M9}{ct:M9}{c:Addr}{us:List M9}{vs xs:List V}{qs cs:List PV}{p:PV}{fe:PSt->R PV}{Q:VK}{E:XK}(S:LScope ps fr ls L.scope)(hr:Room (k+1) A)(e0:Env0 P w K mg base A outer s H)
  (hf:H f=some (FnAt f (jh L cl pm c ct))) (hc:H c=some (eT c L.qual)) (hl:∀c o,l.lookup c=some o->H c=some (.frz o (.own 0)))
  (hcl:cl.map (·.1)=fr) (nd:(cl.map (·.2)).Nodup) (hxs:xs.length=cl.length) (hx:∀(i:Nat)(x:Str)(c:Addr),cl[i]?=some (x,c)->∃v o u,xs[i]?=some v/\l.lookup c=some o/\o.data=.cell (some u)/\RelV v u)
  (hb:Rg (rz L cl pm (.ref c) ct) ⟨us,[]⟩=pure (ps.zip us))
  (hbody:iC ⟨cxL P w K mg base (ps++fr++ls) L.qual L.scope f (.ref c) cl A outer s (drC H l),fun _ _=>False⟩ ls.length fe L.body)
  (r:Vals vs us) (hv:vs.length=ps.length) (rq:aH K H qs vs) (rc:aH K H cs xs) (nq:aN qs=true) (nc:aN cs=true) (tb:uT H) (e:fe ((qs++cs).map .val)=.ok p)
  (hQ:∀v H',Same H H'->Rep K H' p v->Q v H') :
  QI (Ms P w) A (.call (.ref f) ⟨us,[]⟩) (CR CX0 outer P w H s Q E) s:=by
 have lim:s.heap.NoLimit:=e0.mod.nolimit.keeps fun b o e=>(e0.bs b o e).1;have vw:=zG (H:=H) ls.length hl rq rc nq nc tb;cases hB:L.body with
 | expr body=>
  rw[hB] at hbody;obtain⟨n0,hbody⟩:=hbody;refine PySem.W.kla_callFunE (fd:=rz L cl pm (.ref c) ct) (body:=body) (by have:=hr.dp;omega) (e0.hok f _ hf).1 rfl S.co S.gen hB (e0.hok c _ hc).1 ?_;rw[hb];refine MK (wpAny_newFunctionEnv S.nocell (fun y hy=>S.par _ (Oy hy).1) (fun h₁ hns hsb=>⟨lim.fresh _ hsb,?_⟩) S.kind);have hk:∀b o,s.heap.get? b=some o->h₁.get? b=some o:=fun b o e=>hsb.extBut b o (Mp (MY e)) (MJ _ e);have I:=wF (ls:=ls) (qual:=L.qual) (f:=f) (cd:=.ref c) (t':=s.toks+(ps.zip us).length) S hr.hd e0 hl hcl nd hxs hx r hv hns hk;show QI _ _ (.expr body (P1 L.qual L.scope s.heap.objs.size f (.ref c) cl)) _ _;rw[n0] at vw;refine PySem.W.kla_codeExpr (O1 (hbody [] _ _ _ (fun v H1=>Same (drC H l) H1/\Rep K H1 p v) I ⟨_,by rw[n0];exact vw,by simp only[List.replicate_zero,NH];rw[e];exact fun v H' s' r'=>⟨s',r'⟩⟩) (fun u s' hq=>?_) fun _ _ h=>MI h);obtain⟨v,H1,J,rv,sm,rp⟩:=hq;exact wG e0 hl J rv sm rp hQ
 | stmts body=>
  rw[hB] at hbody;obtain⟨g,hbody,rfl⟩:=hbody;refine codeAny_call_def (fd:=rz L cl pm (.ref c) ct) (body:=body) (binds:=ps.zip us) (by have:=hr.dp;omega) (e0.hok f _ hf).1 rfl lim (e0.hok c _ hc).1 hB (.of_eq hb) S.nocell (fun y hy=>S.par _ (Oy hy).1) (fun h₁ hns hk=>?_) S.co S.gen S.kind;have I:=wF (ls:=ls) (qual:=L.qual) (f:=f) (cd:=.ref c) (t':=s.toks+(ps.zip us).length) S hr.hd e0 hl hcl nd hxs hx r hv hns hk;show Mf _ (A.deeper (P1 L.qual L.scope s.heap.objs.size f (.ref c) cl)) (execs body (P1 L.qual L.scope s.heap.objs.size f (.ref c) cl)) _ _ _
  have eg:g ((qs++cs).map .val++Mv ls.length .no)=.ok (.ret p):=by
   unfold rX at e;split at e
   ·rename_i q hq;cases e;exact hq
   ·cases e
   ·cases e
  have S0:StOk K (drC H l,drC H l) (drC H l) ((vs++xs).map some++Mv ls.length none) ((qs++cs).map .val++Mv ls.length .no):=by
   have nown:∀(i:Nat)(z:Sl),((qs++cs).map Sl.val++Mv ls.length .no)[i]?=some z->z=.no\/∃q,z=.val q:=fun i z ez=>by
    have:=Mk ez;rcases Mz.mp this with m | m
    ·obtain⟨q,_,rfl⟩:=MF.mp m;exact .inr ⟨q,rfl⟩
    ·exact .inl (Qm.mp m).2
   refine⟨?_,Same.refl _,Kp.refl _,vw,fun i p a e=>?_,fun i j p q a e=>?_,fun i ps a e=>?_⟩
   ·have h1:=rq.length
    have h2:=rc.length;simp only[Mi,MG,OV];omega
   ·rcases nown _ _ e with z | ⟨q,z⟩ <;> cases z
   ·rcases nown _ _ e with z | ⟨q,z⟩ <;> cases z
   ·rcases nown _ _ e with z | ⟨q,z⟩ <;> cases z
  refine O1 (hbody [] _ _ _ { nx:=fun _ _=>False,rt:=fun v H1=>Same (drC H l) H1/\Rep K H1 p v } I ⟨_,_,S0,by rw[eg];exact fun v H' s' r'=>⟨s',r'⟩⟩) (fun fl s' hq=>?_) fun _ _ h=>MI h;cases fl with
  | ret u=>
   obtain⟨v,σ',H1,J,rv,sm,rp⟩:=hq;exact wG e0 hl J rv sm rp hQ
  | next=>obtain⟨_,_,_,hq⟩:=hq;exact MI hq
  | brk=>obtain⟨_,_,_,hq⟩:=hq;exact MI hq
  | cont=>obtain⟨_,_,_,hq⟩:=hq;exact MI hq
end
end PU
namespace PU
open PySem PySem.Spec PyProof.Rows L2 PySem.SeqAt
variable[TW]
theorem k8{H:Hp}:∀{cl:List (Str×Addr)}{xs:List V},fD H cl xs->xs.length=cl.length/\∃l:List (Addr×Obj),(∀c o,l.lookup c=some o->H c=some (.frz o (.own 0)))/\
  ∀(i:Nat)(x:Str)(c:Addr),cl[i]?=some (x,c)->∃v o u,xs[i]?=some v/\l.lookup c=some o/\o.data=.cell (some u)/\RelV v u
 | [],xs,h=>by cases h;exact⟨rfl,[],fun c o h=>(by cases h),fun i x c h=>(by simp at h)⟩
 | p::cl,_,⟨x,r,o,u,e,h,d,v,t⟩=>by
  subst e;obtain⟨hl,l,h1,h2⟩:=k8 t
  have look:∀c o',((p.2,o)::l).lookup c=some o'->H c=some (.frz o' (.own 0)):=fun c o' e=>by
   rw[Mx] at e;cases hb:(c == p.2) with
   | true=>rw[hb] at e;cases e;rw[Oz hb];exact h
   | false=>rw[hb] at e;exact h1 c o' e
  refine⟨by simp[hl],(p.2,o)::l,look,fun i y c e=>?_⟩;cases i with
  | zero=>
   simp at e;subst e;exact⟨x,o,u,rfl,by simp[Sw],d,v⟩
  | succ i=>
   obtain⟨v',o',u',e1,e2,e3,e4⟩:=h2 i y c (by simpa using e);refine⟨v',o',u',by simpa using e1,?_,e3,e4⟩;rw[Mx];cases hb:(c == p.2) with
   | false=>exact e2
   | true=>
    have:=h1 c o' e2;rw[Oz hb,h] at this;cases this;rfl
structure LamB(P:Md)(w:Ml)(K:M8)(mg:Str->Option M9)(base:Heap)(k:Nat)(L:Lam)(ps ls:List Str)(fe:PSt->R PV):Prop where
 sc:LScope ps L.kept ls L.scope
 bd:∀(cl:List (Str×Addr))(pm:M9×M9)(ct:M9)(c:Addr)(us:List M9),us.length=ps.length->Rg (rz L cl pm (.ref c) ct) ⟨us,[]⟩=pure (ps.zip us)
 ev:∀(f c:Addr)(cl:List (Str×Addr))(A:Mt)(outer:List RB)(s:MD)(H:Hp),Room k (A.deeper (P1 L.qual L.scope s.heap.objs.size f (.ref c) cl))->
  iC ⟨cxL P w K mg base (ps++L.kept++ls) L.qual L.scope f (.ref c) cl A outer s H,fun _ _=>False⟩ ls.length fe L.body
def Hr(P:Md)(w:Ml)(K:M8)(mg:Str->Option M9)(base:Heap)(k:Nat)(app:Lam->List PV->List PV->Option PV):Prop:=
 ∀L qs cs p,app L qs cs=some p->∃ps ls fe,LamB P w K mg base k L ps ls fe/\qs.length=ps.length/\fe ((qs++cs).map .val)=.ok p
def kH(i:Nat)(fs:PSt->R (List PV))(app:Lam->List PV->List PV->Option PV):PSt->R PV:=fun ρ=>match ρ[i]? with
 | some (.val (.fn L cs))=>fs ρ >>= fun qs=>if aN qs=true/\aN cs=true then R.ofO (app L qs cs) else .no
 | _=>.no
theorem oU{C:Cn}{x:Str}{e:Expr}{es:List Expr}{fs:PSt->R (List PV)}{app:Lam->List PV->List PV->Option PV}{k:Nat}{p pos:Nt}(i:Nat)(T:Hr C.X.prog C.X.w C.X.K C.X.mg C.X.base k app){kr:Nat}(hr:Room kr C.X.A)(ha:EA C (e::es) fs)
  (hN:C.X.N[i]?=some x:=by rfl) (hvis:Vis C.X.env.scope x:=by first | exact .inl rfl | exact .inr (.inl rfl) | exact .inr (.inr rfl)) (hdb:(x == ("__debug__":Str))=false:=by decide) (hcd:(x == ("__classdict__":Str))=false:=by decide)
  (he:MZ (e::es) C.X.env=(false,NJ e C.X.env)::MZ es C.X.env:=by exact bP rfl) (hpl:(OJ pos (MZ es C.X.env)).any (·.1)=false:=by exact i5 rfl) (hk:k+1<=kr:=by decide) :
  EV C (.Call (.Name x p) (e::es) [] pos) (kH i fs app):=by
 replace hr:=hr.mono hk;intro pins s σ H Q I ⟨ρ,vw,q⟩;unfold kH at q;split at q
 ·rename_i L cs e1
  obtain⟨v,ev,f,c,cl,pm,ct,xs,rfl,hf,hc,hk,nd,ca,rc⟩:=vw i _ e1;refine OW (thn (fG hN hvis hdb hcd pins s σ H (fun v' H'=>v'=.ref f/\H'=H) I ⟨_,ev,rfl,rfl⟩) fun u s1 ⟨v',H',I1,ru,e2,e3⟩=>?_);subst e2 e3;cases (show u=Ni f from ru);have fnAt:∀{H2:Hp}{s2:MD},L2.Inv C.X pins σ H2 s2->Same H' H2->PySem.W.FnAt f s2.heap:=fun {H2 s2} I2 sm=>⟨_,_,_,_,(I2.hok f _ (sm _ _ hf)).1⟩
  refine Se (fnAt I1 (Same.refl _)) (thn (ha pos pins s1 σ H' (fun vs H2=>∃qs z,aH C.X.K H2 qs vs/\Same H' H2/\aN qs=true/\aN cs=true/\app L qs cs=some z/\∀v H3,Same H' H3->Rep C.X.K H3 z v->Q v H3) I1
   ⟨ρ,vw,q.bind.imp fun qs _ k1 vs H2 sm2 r2=>?_⟩) fun us s2 ⟨vs,H2,I2,r,qs,z,r2,sm2,n1,n2,ea,k2⟩=>⟨fnAt I2 sm2,?_⟩) he hpl
  ·split at k1
   ·rename_i hn
    obtain⟨z,ez,k3⟩:=k1.ofO;exact⟨qs,z,r2,sm2,hn.1,hn.2,ez,fun v H3 s3 r3=>k3 v H3 s3 r3⟩
   ·exact MI k1
  ·obtain⟨ps,ls,fe,B,hl,ef⟩:=T L qs cs z ea
   have ca2:=fD.kp sm2.kp ca;obtain⟨hxl,l,l1,l2⟩:=k8 ca2;have hus:us.length=ps.length:=by rw[← r.length,← r2.length];exact hl
   refine SY (Pw (wD (l:=l) (E:=E0) (Q:=Q) B.sc hr I2.env0 (sm2 _ _ hf) (sm2 _ _ hc) l1 hk nd hxl l2 (B.bd cl pm ct c us hus) (B.ev f c cl C.X.A C.X.stack s2 (drC H2 l) (hr.deeper _)) r (by rw[← r2.length];exact hl) r2 (rc.same sm2) n1 n2 (sm2.tabs vw.tb) ef
    fun v H3 s3 r3=>k2 v H3 (sm2.trans s3) r3) fun r' s' hq=>?_)
   cases r' with
   | error e=>exact MI hq
   | ok fl=>
    cases fl with
    | ret u=>exact I2.after hq
    | next=>exact MI hq
    | brk=>exact MI hq
    | cont=>exact MI hq
 ·exact MI q
end PU
namespace PU
open PySem PySem.Spec PyProof.Rows L2 PySem.SeqAt
variable[TW]
def mi(l:List (Str×OO)):List Str:=(l.filter fun y=>y.2 == .free).map (·.1)
theorem oW{cells:List (Str×Addr)}:∀{l:List (Str×OO)}{acc:List (Str×Addr)},(∀y∈l,y.2=.free->∃c,cells.lookup y.1=some c)->(dI cells l acc).map (·.1)=(mi l).reverse++acc.map (·.1)
 | [],acc,_=>rfl
 | (n,k)::r,acc,h=>by
  unfold dI;have hr:∀y∈r,y.2=.free->∃c,cells.lookup y.1=some c:=fun y hy=>h y (Me _ hy)
  by_cases hk:(k == NA)=true
  ·rw[if_pos hk]
   obtain⟨c,hc⟩:=h (n,k) Mh (Oz hk);have hc:cells.lookup n=some c:=hc;rw[hc];dsimp only;rw[oW hr];unfold mi;rw[List.filter_cons,if_pos hk];simp
  ·rw[if_neg hk,oW hr]
   unfold mi;rw[List.filter_cons,if_neg hk]
theorem ju{cells:List (Str×Addr)}{p:Str×Addr}:∀{l:List (Str×OO)}{acc:List (Str×Addr)},p∈dI cells l acc->cells.lookup p.1=some p.2\/p∈acc
 | [],acc,h=>.inr h
 | (n,k)::r,acc,h=>by
  unfold dI at h;split at h
  ·split at h
   ·rename_i c hc
    rcases ju h with z | z
    ·exact .inl z
    ·rcases MP.mp z with z | z
     ·subst z;exact .inl hc
     ·exact .inr z
   ·exact ju h
  ·exact ju h
theorem AG{cells:List (Str×Addr)}(inj:∀x y c,cells.lookup x=some c->cells.lookup y=some c->x=y):∀{l:List (Str×Addr)},(∀p∈l,cells.lookup p.1=some p.2)->(l.map (·.1)).Nodup->(l.map (·.2)).Nodup
 | [],_,_=>Rm
 | p::r,h,nd=>by
  rw[MC,Mu] at nd ⊢;refine⟨fun m=>nd.1 ?_,AG inj (fun q hq=>h q (Me _ hq)) nd.2⟩;obtain⟨q,hq,e⟩:=MF.mp m;have h1:=h p Mh;have h2:=h q (Me _ hq);have e:q.2=p.2:=e;rw[e] at h2;exact MF.mpr ⟨q,hq,inj _ _ _ h2 h1⟩
def rW(ρ:PSt):List Nat->R (List PV)
 | []=>.ok []
 | i::r=>match ρ[i]? with
  | some (.val p)=>rW ρ r >>= fun ps=>.ok (p::ps)
  | _=>.no
def As(X:Cx)(H:Hp)(σ:L2.St):PV->V->Prop
 | .fn L cs,v=>∃f c pm ct xs,v=.ref f/\H f=some (FnAt f (jh L (dI X.env.cells L.scope.names []) pm c ct))/\H c=some (eT c L.qual)/\
   (dI X.env.cells L.scope.names []).map (·.1)=L.kept/\((dI X.env.cells L.scope.names []).map (·.2)).Nodup/\xs.length=L.kept.length/\aH X.K H cs xs/\
   ∀(j:Nat)(y:Str),L.kept[j]?=some y->∃(i:Nat)(v:V),X.N[i]?=some y/\σ[i]?=some (some v)/\xs[j]?=some v/\X.env.scope.names.lookup y=some .cell
 | p,v=>Rep X.K H p v/\noFn p=true
def Ar(X:Cx)(H:Hp)(σ:L2.St):List PV->List V->Prop
 | [],xs=>xs=[]
 | p::ps,xs=>∃x r,xs=x::r/\As X H σ p x/\Ar X H σ ps r
theorem As.same{X:Cx}{H H':Hp}{σ:L2.St}{p:PV}{v:V}(h:As X H σ p v)(s:Same H H'):As X H' σ p v:=by
 cases p with
 | fn L cs=>
  obtain⟨f,c,pm,ct,xs,e,h1,h2,h3,h4,h5,h6,h7⟩:=h;exact⟨f,c,pm,ct,xs,e,s _ _ h1,s _ _ h2,h3,h4,h5,h6.same s,h7⟩
 | _=>exact⟨Rep.same h.1 s,h.2⟩
abbrev Ph:=L2.St->Hp->Prop
def Ph.Ok(Φ:Ph):Prop:=∀σ H H',Φ σ H->Same H H'->Φ σ H'
def tru:Ph:=fun _ _=>True
theorem cB:tru.Ok:=fun _ _ _ h _=>h
def tL(C:Cn)(Φ:Ph)(f:PSt->R (List PV)):TA:=fun σ H Q=>∃ρ,View C.X.K H σ ρ/\Φ σ H/\RQ C H (f ρ) fun ps=>∀vs H',Same H H'->Ar C.X H' σ ps vs->Q vs H'
def ELF(C:Cn)(Φ:Ph)(es:List Expr)(f:PSt->R (List PV)):Prop:=PA C.X es (tL C Φ f)
abbrev EL(C:Cn)(es:List Expr)(f:PSt->R (List PV)):Prop:=ELF C tru es f
def tVF(C:Cn)(Φ:Ph)(f:PSt->R PV):TE:=fun σ H Q=>Φ σ H/\tV C f σ H Q
def EVF(C:Cn)(Φ:Ph)(e:Expr)(f:PSt->R PV):Prop:=PE C.X e (tVF C Φ f)
def tNF(C:Cn)(Φ:Ph)(f:PSt->R PV):TE:=fun σ H Q=>Φ σ H/\tN C f σ H Q
def ENF(C:Cn)(Φ:Ph)(e:Expr)(f:PSt->R PV):Prop:=PE C.X e (tNF C Φ f)
theorem ENF.tru{C:Cn}{e:Expr}{f:PSt->R PV}(h:ENF C tru e f):EN C e f:=fun pins s σ H Q I q=>h pins s σ H Q I ⟨trivial,q⟩
theorem ENF.v{C:Cn}{Φ:Ph}{e:Expr}{f:PSt->R PV}(h:ENF C Φ e f):EVF C Φ e f:=by
 intro pins s σ H Q I ⟨ph,ρ,vw,q⟩;cases hf:f ρ with
 | ok p=>
  rw[hf] at q;refine thn (h pins s σ H (fun v H'=>∃a,v=.ref a/\Same H H'/\H a=none/\cA C.X.K H' a p) I ⟨ph,ρ,vw,by rw[hf];exact fun a H' sm n w=>⟨a,rfl,sm,n,w⟩⟩) fun u s' ⟨v,H',I',rv,a,ev,sm,na,w⟩=>?_;obtain⟨H2,I2,rp,oth⟩:=I'.frz w;subst ev;exact⟨.ref a,H2,I2,rv,q _ H2 (sm.but na (fun u h=>(w.nt u h).1) oth) rp⟩
 | er x=>
  rw[hf] at q;exact h pins s σ H Q I ⟨ph,ρ,vw,by rw[hf];exact q⟩
 | no=>
  rw[hf] at q;exact MI q
theorem EVF.of{C:Cn}{Φ:Ph}{e:Expr}{f:PSt->R PV}(h:EV C e f):EVF C Φ e f:=fun pins s σ H Q I q=>h pins s σ H Q I q.2
def qE(L:Lam)(idx:List Nat)(fs:PSt->R (List PV)):PSt->R (List PV):=fun ρ=>rW ρ idx >>= fun cs=>fs ρ >>= fun ps=>.ok (.fn L cs::ps)
def yF(f:PSt->R PV)(fs:PSt->R (List PV)):PSt->R (List PV):=fun ρ=>f ρ >>= fun p=>if noFn p=true then fs ρ >>= fun ps=>.ok (p::ps) else .no
theorem qy{K:M8}{H:Hp}{σ:L2.St}{ρ:PSt}(vw:View K H σ ρ):∀{idx:List Nat}{cs:List PV},rW ρ idx=.ok cs->∃xs,aH K H cs xs/\xs.length=idx.length/\∀(j i:Nat),idx[j]?=some i->∃v,σ[i]?=some (some v)/\xs[j]?=some v
 | [],cs,e=>by cases e;exact⟨[],rfl,rfl,fun j i h=>(by simp at h)⟩
 | i::r,cs,e=>by
  unfold rW at e;split at e
  ·rename_i p hp
   cases hc:rW ρ r with
   | ok ps=>
    rw[hc] at e;cases e;obtain⟨xs,h1,h2,h3⟩:=qy vw hc;obtain⟨v,ev,rp⟩:=vw i _ hp;refine⟨v::xs,⟨v,xs,rfl,rp,h1⟩,by simp[h2],fun j k hj=>?_⟩;cases j with
    | zero=>simp at hj;subst hj;exact⟨v,ev,rfl⟩
    | succ j=>simpa using h3 j k (by simpa using hj)
   | er x=>rw[hc] at e;cases e
   | no=>rw[hc] at e;cases e
  ·cases e
theorem kY{ρ:PSt}:∀(idx:List Nat)(x:PX),rW ρ idx≠.er x
 | [],x,e=>by cases e
 | i::r,x,e=>by
  unfold rW at e;split at e
  ·cases hc:rW ρ r with
   | ok ps=>rw[hc] at e;cases e
   | er y=>exact kY r y hc
   | no=>rw[hc] at e;cases e
  ·cases e
structure LamC(C:Cn)(L:Lam)(b:Expr)(idx:List Nat)(pos:Nt)(c P:Addr):Prop where
 bd:L.body=.expr b
 nm:L.name="<lambda>"
 qual:L.qual=C.X.env.qual++"<lambda>"
 tq:TW.qual pos.line pos.col=L.qual
 code:C.X.env.code=.ref c
 hd:Pk C.X.base c P
 tab:P∈TW.tabs
 bn:Bn C.X
 df:defaultsOf L.args C.X.env=([],[])
 free:∀y∈L.scope.names,y.2=.free->C.X.env.scope.names.lookup y.1=some .cell
 kept:(mi L.scope.names).reverse=L.kept
 nd:L.kept.Nodup
 ix:idx.map (fun i=>C.X.N[i]?)=L.kept.map some
theorem qV{C:Cn}{L:Lam}{idx:List Nat}{pins:List (Addr×Obj)}{s:MD}{σ:L2.St}{H:Hp}{ρ:PSt}{cs:List PV}{f c:Addr}{pm:M9×M9}{ct:M9}(inj:∀x y c,C.X.env.cells.lookup x=some c->C.X.env.cells.lookup y=some c->x=y)(hasC:∀y,C.X.env.scope.names.lookup y=some .cell->∃c,C.X.env.cells.lookup y=some c)(vw:View C.X.K H σ ρ)(ec:rW ρ idx=.ok cs)
  (free:∀y∈L.scope.names,y.2=.free->C.X.env.scope.names.lookup y.1=some .cell) (kept:(mi L.scope.names).reverse=L.kept) (ndk:L.kept.Nodup) (ix:idx.map (fun i=>C.X.N[i]?)=L.kept.map some)
  (hf:H f=some (FnAt f (jh L (dI C.X.env.cells L.scope.names []) pm c ct))) (hc:H c=some (eT c L.qual)):As C.X H σ (.fn L cs) (.ref f):=by
 have has:∀y∈L.scope.names,y.2=.free->∃c,C.X.env.cells.lookup y.1=some c:=fun y hy hk=>hasC y.1 (free y hy hk);obtain⟨xs,x1,x2,x3⟩:=qy vw ec;have hm:(dI C.X.env.cells L.scope.names []).map (·.1)=L.kept:=by rw[oW has,O7,NH];exact kept
 have hlen:idx.length=L.kept.length:=by have:=congrArg O8 ix;simpa using this
 refine⟨f,c,pm,ct,xs,rfl,hf,hc,hm,AG inj (fun p hp=>?_) (by rw[hm];exact ndk),by rw[x2];exact hlen,x1,fun j y hy=>?_⟩
 ·rcases ju hp with z | z
  ·exact z
  ·exact nomatch z
 ·have hj:j<idx.length:=by rw[hlen];exact(MB.mp hy).1
  have e1:idx[j]?=some idx[j]:=ME hj;have e2:=congrArg (fun l=>l[j]?) ix;simp only[MM,e1,hy,QF] at e2;obtain⟨v,ev,xv⟩:=x3 j _ e1;refine⟨idx[j],v,by simpa using e2,ev,xv,?_⟩;have hmem:=Mk hy;rw[← kept,List.mem_reverse] at hmem;unfold mi at hmem;obtain⟨z,hz,ez⟩:=MF.mp hmem;obtain⟨hz1,hz2⟩:=Nj.mp hz;have:=free z hz1 (Oz hz2);rw[ez] at this;exact this
def L6(C:Cn)(L:Lam)(idx:List Nat):TE:=fun σ H Q=>∃ρ cs,View C.X.K H σ ρ/\rW ρ idx=.ok cs/\∀v H',Same H H'->As C.X H' σ (.fn L cs) v->Q v H'
theorem FH{C:Cn}{L:Lam}{b:Expr}{idx:List Nat}{pos:Nt}{c P:Addr}(h:LamC C L b idx pos c P):PE C.X (.Lambda L.args b L.scope pos) (L6 C L idx):=by
 intro pins s σ H Q I ⟨ρ,cs,vw,ec,q⟩;obtain⟨ps,eP,tk⟩:=vw.tb P h.tab;have has:∀y∈L.scope.names,y.2=.free->∃c,C.X.env.cells.lookup y.1=some c:=fun y hy hk=>I.ok.has y.1 (.inl (h.free y hy hk));refine Gh (c:=c) (P:=P) I eP tk h.code h.hd h.bn h.df (h.tq.trans h.qual) has fun f c' pm ct H' s' I' sm hf hc=>?_;rw[← h.qual] at hf hc
 have hf:H' f=some (FnAt f (jh L (dI C.X.env.cells L.scope.names []) (.none,pm) c' ct)):=by
  rw[hf];unfold jh rz;rw[h.bd,h.nm]
 exact⟨.ref f,H',I',rfl,q _ H' sm (qV (pins:=pins) (s:=s') I.ok.inj (fun y hy=>I.ok.has y (.inl hy)) (vw.same sm) ec h.free h.kept h.nd h.ix hf hc)⟩
def FnS(X:Cx)(i:Nat)(L:Lam):Ph:=fun σ H=>∃f c pm ct,σ[i]?=some (some (.ref f))/\H f=some (FnAt f (jh L (dI X.env.cells L.scope.names []) pm c ct))/\H c=some (eT c L.qual)
theorem FnS.ok{X:Cx}{i:Nat}{L:Lam}:(FnS X i L).Ok:=fun _ _ _ ⟨f,c,pm,ct,e,h1,h2⟩ s=>⟨f,c,pm,ct,e,s _ _ h1,s _ _ h2⟩
structure FnC(C:Cn)(L:Lam)(idx:List Nat):Prop where
 free:∀y∈L.scope.names,y.2=.free->C.X.env.scope.names.lookup y.1=some .cell
 kept:(mi L.scope.names).reverse=L.kept
 nd:L.kept.Nodup
 ix:idx.map (fun i=>C.X.N[i]?)=L.kept.map some
section
variable{C : Cn}{e : Expr}{es : List Expr}{f : PSt → R PV}{fs : PSt → R (List PV)}
theorem By{Φ:Ph}:ELF C Φ [] aM:=fun pos pins s σ H Q I ⟨_,_,_,q⟩=>gI pos pins s σ H Q I (q [] H (Same.refl H) rfl)
theorem Bx{Φ:Ph}(ha:EV C e f)(hr:ELF C Φ es fs)(ok:Φ.Ok:=by first | exact cB | assumption)(hs:MZ (e::es) C.X.env=(false,NJ e C.X.env)::MZ es C.X.env:=by exact bP rfl):ELF C Φ (e::es) (yF f fs):=by
 intro pos pins s σ H Q I ⟨ρ,vw,ph,q⟩;refine c5 ha hr hs pos pins s σ H Q I ⟨ρ,vw,q.bind.imp fun p _ k v H1 s1 r1=>?_⟩;split at k
 ·rename_i hn
  refine⟨ρ,vw.same s1,ok _ _ _ ph s1,(k.bind.same s1).imp fun ps _ k2 vs H2 s2 r2=>k2 (v::vs) H2 (s1.trans s2) ⟨v,vs,rfl,?_,r2⟩⟩;cases p with
  | fn L cs=>cases hn
  | _=>exact⟨r1.same s2,hn⟩
 ·exact MI k
theorem Bz{Φ:Ph}{L:Lam}{b:Expr}{idx:List Nat}{lp:Nt}{c P:Addr}(h:LamC C L b idx lp c P)(hr:ELF C Φ es fs)(ok:Φ.Ok:=by first | exact cB | assumption)(hs:MZ (.Lambda L.args b L.scope lp::es) C.X.env=(false,NJ (.Lambda L.args b L.scope lp) C.X.env)::MZ es C.X.env:=by exact bP rfl) :
  ELF C Φ (.Lambda L.args b L.scope lp::es) (qE L idx fs):=by
 intro pos pins s σ H Q I ⟨ρ,vw,ph,q⟩;unfold qE at q;cases hc:rW ρ idx with
 | ok cs=>
  rw[hc] at q;have q:RQ C H (fs ρ >>= fun ps=>R.ok (.fn L cs::ps)) _:=q;refine c5 (FH h) hr hs pos pins s σ H Q I ⟨ρ,cs,vw,hc,fun v H1 s1 r1=>⟨ρ,vw.same s1,ok _ _ _ ph s1,(q.bind.same s1).imp fun ps _ k2 vs H2 s2 r2=>k2 (v::vs) H2 (s1.trans s2) ⟨v,vs,rfl,r1.same s2,r2⟩⟩⟩
 | er x=>
  exact absurd hc (kY idx x)
 | no=>rw[hc] at q;exact MI q
theorem H8{Φ:Ph}{L:Lam}{idx:List Nat}{x:Str}{p:Nt}(i:Nat)(hF:∀σ H,Φ σ H->FnS C.X i L σ H)(h:FnC C L idx)(hr:ELF C Φ es fs)(ok:Φ.Ok:=by first | exact cB | assumption)
  (hN:C.X.N[i]?=some x:=by rfl) (hvis:Vis C.X.env.scope x:=by first | exact .inl rfl | exact .inr (.inl rfl) | exact .inr (.inr rfl)) (hdb:(x == ("__debug__":Str))=false:=by decide) (hcd:(x == ("__classdict__":Str))=false:=by decide)
  (hs:MZ (.Name x p::es) C.X.env=(false,NJ (.Name x p) C.X.env)::MZ es C.X.env:=by exact bP rfl):ELF C Φ (.Name x p::es) (qE L idx fs):=by
 intro pos pins s σ H Q I ⟨ρ,vw,ph,q⟩;unfold qE at q;cases hc:rW ρ idx with
 | ok cs=>
  rw[hc] at q;have q:RQ C H (fs ρ >>= fun ps=>R.ok (.fn L cs::ps)) _:=q;obtain⟨f,c,pm,ct,ev,h1,h2⟩:=hF σ H ph;have pr:As C.X H σ (.fn L cs) (.ref f):=qV (pins:=pins) (s:=s) I.ok.inj (fun y hy=>I.ok.has y (.inl hy)) vw hc h.free h.kept h.nd h.ix h1 h2;refine c5 (fG hN hvis hdb hcd) hr hs pos pins s σ H Q I ⟨_,ev,ρ,vw,ph,q.bind.imp fun ps _ k2 vs H2 s2 r2=>k2 (.ref f::vs) H2 s2 ⟨.ref f,vs,rfl,pr.same s2,r2⟩⟩
 | er x=>
  exact absurd hc (kY idx x)
 | no=>rw[hc] at q;exact MI q
end
def iw(X:Cx)(h:Heap)(ys:List Str):List (Addr×Obj):=ys.filterMap fun y=>(X.env.cells.lookup y).map fun c=>(c,(h.get? c).getD default)
theorem fM{X:Cx}{h:Heap}{c:Addr}{o:Obj}:∀{ys:List Str},(iw X h ys).lookup c=some o->o=(h.get? c).getD default/\∃y,X.env.cells.lookup y=some c
 | [],e=>by cases e
 | y::r,e=>by
  unfold iw at e;rw[OF] at e;cases hy:X.env.cells.lookup y with
  | none=>rw[hy] at e;exact fM (ys:=r) e
  | some d=>
   rw[hy] at e;simp only[QF] at e;rw[Mx] at e;cases hb:(c == d) with
   | true=>rw[hb] at e;cases e;have:=Oz hb;subst this;exact⟨rfl,y,hy⟩
   | false=>rw[hb] at e;exact fM (ys:=r) e
theorem oX{X:Cx}{h:Heap}{c:Addr}{y:Str}(hy:X.env.cells.lookup y=some c):∀{ys:List Str},y∈ys->(iw X h ys).lookup c=some ((h.get? c).getD default)
 | [],m=>nomatch m
 | z::r,m=>by
  unfold iw;rw[OF];cases hz:X.env.cells.lookup z with
  | none=>
   rcases MP.mp m with e | m
   ·subst e;rw[hy] at hz;cases hz
   ·exact oX hy m
  | some d=>
   simp only[QF];rw[Mx];cases hb:(c == d) with
   | true=>have:=Oz hb;subst this;rfl
   | false=>
    rcases MP.mp m with e | m
    ·subst e;rw[hy] at hz;cases hz;simp at hb
    ·exact oX hy m
section
variable{X : Cx}{pins : List (Addr×Obj)}{σ : L2.St}{H : Hp}{s : MD}
theorem xX(I:L2.Inv X pins σ H s)(hfn:∀y,X.fn y=true)(ys:List Str):Cls X H s (iw X s.heap ys):=by
 have at_:∀c o,(iw X s.heap ys).lookup c=some o->s.heap.get? c=some o:=fun c o e=>by
  obtain⟨e1,y,e2⟩:=fM e;obtain⟨v,o',g,_⟩:=I.cell y c e2;rw[e1,g];rfl
 have big:∀c o,(iw X s.heap ys).lookup c=some o->X.s₀.heap.objs.size<=c:=fun c o e=>by
  obtain⟨_,y,e2⟩:=fM e;exact I.ok.cab y c (hfn y) e2
 refine⟨at_,fun c o e=>?_,fun c o e=>?_,fun c o e hs=>?_⟩
 ·obtain⟨_,y,e2⟩:=fM e
  exact I.freeC y c e2
 ·exact Ss (NB I.ok.bsz (big c o e))
 ·obtain⟨_,y,e2⟩:=fM e
  rcases MP.mp (I.stkSub c hs) with z | z
  ·obtain⟨v,o',g,d⟩:=I.cell y c e2
   obtain⟨m,⟨o2,es,ep,g2,d2,_⟩,_⟩:=I.loc;rw[← z,g] at g2;cases g2;rw[d] at d2;cases d2
  ·obtain⟨_,o2,g2,_⟩:=I.ok.funs.mem z
   exact absurd (MY g2) (Nat.not_lt_of_le (big c o e))
theorem sG{p:PV}{v:V}(I:L2.Inv X pins σ H s)(hfn:∀y,X.fn y=true)(h:As X H σ p v):Rep X.K (trC H (iw X s.heap (X.env.scope.names.map (·.1)))) p v:=by
 have hc:=xX I hfn (X.env.scope.names.map (·.1));have ext:Same H (trC H (iw X s.heap (X.env.scope.names.map (·.1)))):=.of fun b o e=>by rw[aW (hc.out e)];exact e
 cases p with
 | fn L cs=>
  obtain⟨f,c,pm,ct,xs,e,h1,h2,h3,h4,h5,h6,h7⟩:=h;refine⟨f,c,_,pm,ct,xs,e,ext _ _ h1,ext _ _ h2,h3,h4,?_,h6.same ext⟩
  have gen:∀(cl:List (Str×Addr))(zs:List V),zs.length=cl.length->(∀p∈cl,X.env.cells.lookup p.1=some p.2)->(∀(j:Nat)(y:Str),(cl.map (·.1))[j]?=some y->∃(i:Nat)(v:V),X.N[i]?=some y/\σ[i]?=some (some v)/\zs[j]?=some v/\X.env.scope.names.lookup y=some .cell)->
    fD (trC H (iw X s.heap (X.env.scope.names.map (·.1)))) cl zs:=by
   intro cl
   induction cl with
   | nil=>intro zs hl _ _;exact N5 hl
   | cons p r ih=>
    intro zs hl hm hj;cases zs with
    | nil=>cases hl
    | cons z zs=>
     obtain⟨i,v,n1,n2,n3,n4⟩:=hj 0 p.1 (by simp);simp at n3;subst n3;obtain⟨m,hn,hloc⟩:=I.loc;obtain⟨u,ru,lk⟩:=hloc i p.1 z n1 n2 (.inr (.inl n4));have hp:=hm p Mh;rcases lk with⟨k1,_⟩|⟨_,c',c1,o,c2,c3⟩
     ·have k1:X.env.scope.names.lookup p.1=some .local:=k1
      rw[n4] at k1;cases k1
     ·rw[hp] at c1
      cases c1;refine⟨z,zs,o,u,rfl,l8 ?_,c3,ru,ih zs (by simpa using hl) (fun q hq=>hm q (Me _ hq)) fun j y hy=>?_⟩
      ·rw[oX hp (MF.mpr ⟨_,Mw n4,rfl⟩),c2];rfl
      ·obtain⟨i,v,a1,a2,a3,a4⟩:=hj (j+1) y (by simpa using hy)
       exact⟨i,v,a1,a2,by simpa using a3,a4⟩
  refine gen _ xs (by rw[h5,← h3,MG]) (fun p hp=>?_) fun j y hy=>h7 j y (by rw[← h3];exact hy);rcases ju hp with z | z
  ·exact z
  ·exact nomatch z
 | _=>exact Rep.same h.1 ext
theorem nu(I:L2.Inv X pins σ H s)(hfn:∀y,X.fn y=true):∀{ps:List PV}{vs:List V},Ar X H σ ps vs->aH X.K (trC H (iw X s.heap (X.env.scope.names.map (·.1)))) ps vs
 | [],_,h=>h
 | p::ps,_,⟨x,r,e,h1,h2⟩=>⟨x,r,e,sG I hfn h1,nu I hfn h2⟩
end
def kz(fs:PSt->R (List PV))(F:List PV->Option PV):PSt->R PV:=fun ρ=>fs ρ >>= fun qs=>R.ofO (F qs) >>= fun z=>if noFn z=true then .ok z else .no
theorem cA.pl{K:M8}{H H':Hp}{a:Addr}{z:PV}(k:∀b u,H b=some u->(∀q,u≠.frz q (.own 0))->H' b=some u)(n:noFn z=true)(h:cA K H a z):cA K H' a z:=by
 have k2:∀b u,H b=some u->GH u=true->H' b=some u:=fun b u e h=>k b u e (oN h);cases z with
 | lst ps=>obtain⟨xs,w,r⟩:=h;exact⟨xs,k _ _ w (fun _ h=>by cases h),aH.pl k2 ps n r⟩
 | dct ks ps=>obtain⟨xs,w,e,r⟩:=h;exact⟨xs,k _ _ w (fun _ h=>by cases h),e,aH.pl k2 ps n r⟩
 | dtt ks ps=>obtain⟨xs,w,e,r⟩:=h;exact⟨xs,k _ _ w (fun _ h=>by cases h),e,aH.pl k2 ps n r⟩
 | _=>exact h
theorem qt{C:Cn}{Φ:Ph}{e:Expr}{es:List Expr}{fs:PSt->R (List PV)}{x:Str}{k:Nat}{F:List PV->Option PV}{p pos:Nt}(G:PFN C.X.prog C.X.w C.X.K C.X.mg C.X.base k x F){kr:Nat}(hr:Room kr C.X.A)(ha:ELF C Φ (e::es) fs)
  (hdb:(x == ("__debug__":Str))=false:=by decide) (he:MZ (e::es) C.X.env=(false,NJ e C.X.env)::MZ es C.X.env:=by exact bP rfl) (hpl:(OJ pos (MZ es C.X.env)).any (·.1)=false:=by exact i5 rfl) (hk:k<=kr:=by decide) (hg:Gl C.X x:=by exact rfl) (hfn:∀y,C.X.fn y=true:=by exact fun _=>rfl) :
  ENF C Φ (.Call (.Name x p) (e::es) [] pos) (kz fs F):=by
 replace hr:=hr.mono hk;obtain⟨f,fd,ps,a,b,c,d,l⟩:=G.ex;intro pins s σ H Q I ⟨ph,ρ,vw,q⟩;refine OW (rj I hg b ?_ hdb)
 refine Sd (h₀:=C.X.base) I.ok.mod.kin c (thn (ha pos pins s σ H (fun vs H1=>∃qs z,Ar C.X H1 σ qs vs/\Same H H1/\F qs=some z/\noFn z=true/\∀a H',Same H H'->H a=none->cA C.X.K H' a z->Q (.ref a) H') I
  ⟨ρ,vw,ph,q.bind.imp fun qs _ k1 vs H1 s1 r1=>?_⟩) fun us s1 ⟨vs,H1,I1,r,qs,z,r1,sm,ez,nz,k2⟩=>⟨I1.kIn,?_⟩) he hpl
 ·obtain⟨z,ez,k3⟩:=k1.bind.ofO
  split at k3
  ·rename_i hn
   exact⟨qs,z,r1,s1,ez,hn,fun v H' s' n' r'=>k3 v H' s' n' r'⟩
  ·exact MI k3
 ·have hc:=xX I1 hfn (C.X.env.scope.names.map (·.1))
  have rr:=nu I1 hfn r1;have hl:=l qs z ez;have hv:vs.length=ps.length:=by rw[← rr.length];exact hl
  have ext:Same H1 (trC H1 (iw C.X s1.heap (C.X.env.scope.names.map (·.1)))):=.of fun b o e=>by rw[aW (hc.out e)];exact e
  have hu:(us++[]).length=ps.length:=by rw[NH,← r.length];exact hv
  have hb:=d s1 us I1.kIn hu;rw[NH] at hb
  refine SY (Pw (a.run C.X.A C.X.stack s1 _ ⟨us,[]⟩ us vs (fun v H'=>∃a,v=.ref a/\Same (trC H1 (iw C.X s1.heap (C.X.env.scope.names.map (·.1)))) H'/\trC H1 (iw C.X s1.heap (C.X.env.scope.names.map (·.1))) a=none/\cA C.X.K H' a z) E0 hr (GY I1 hc) hb r
   ⟨hv,ext.tabs (sm.tabs vw.tb),qs,z,rr,ez,fun a H' s' n' r'=>⟨a,rfl,s',n',r'⟩⟩) fun r' s' hq=>?_)
  cases r' with
  | error e=>exact MI hq
  | ok fl=>
   cases fl with
   | ret u=>
    obtain⟨v,H',os,bare,un,hok,rv,a,ea,sm2,na,nw⟩:=hq;subst ea;refine BL I1 hc ⟨.ref a,H',os,bare,un,hok,rv,fun un=>k2 a _ (sm.trans (Fi hc un sm2)) (sm.free (ext.free na)) (cA.pl (fun b u e h=>?_) nz nw)⟩;rw[ba (pO un e h)];exact e
   | next=>exact MI hq
   | brk=>exact MI hq
   | cont=>exact MI hq
theorem Ae{C:Cn}{e:Expr}{es:List Expr}{fs:PSt->R (List PV)}{x:Str}{k:Nat}{F:List PV->Option PV}{p pos:Nt}(G:PFN C.X.prog C.X.w C.X.K C.X.mg C.X.base k x F){kr:Nat}(hr:Room kr C.X.A)(ha:EL C (e::es) fs)
  (hdb:(x == ("__debug__":Str))=false:=by decide) (he:MZ (e::es) C.X.env=(false,NJ e C.X.env)::MZ es C.X.env:=by exact bP rfl) (hpl:(OJ pos (MZ es C.X.env)).any (·.1)=false:=by exact i5 rfl) (hk:k<=kr:=by decide) (hg:Gl C.X x:=by exact rfl) (hfn:∀y,C.X.fn y=true:=by exact fun _=>rfl) :
  EN C (.Call (.Name x p) (e::es) [] pos) (kz fs F):=(qt G hr ha hdb he hpl hk hg hfn).tru
end PU
section
namespace L2
open PySem PySem.Spec PyProof.Rows
theorem wC{P:Md}{w:Ml}{K:M8}{mg mb:Str->Option M9}{CX:CXT}{k:Nat}{fa a:Addr}{fd:FuncData}{x:Str}{sp:Sp}{s₁:MD}{vs:List M9}{ns:List Int}
  (KX:K.In s₁.heap) (hns:s₁.heap.Ns mainGlobals mg) (hb:s₁.heap.Ns NR mb) (hbb:∀x:Str,x≠"__name__"->mb x=OX x) (hlim:s₁.heap.NoLimit) (hg:s₁.gens=#[]) (ts:List Addr) (hts:∀P∈ts,s₁.heap.get? P=some (O2 #[])) (htc:∀P∈ts,∃c,Pk s₁.heap c P) (htk:∀P∈ts,K.lookup P=none)
  (hbn:∃bm o,mg "__builtins__"=some (.ref bm)/\bm≠NR/\bm≠mainGlobals/\s₁.heap.get? bm=some o/\o.cls=.type "module"/\o.dict=some NR/\o.data=.plain)
  (ha:s₁.heap.get? a=some { cls:=.type "list",data:=.seq vs.toArray }) (hi:Te vs ns) (hl:ns.length<=sizeLine) (hr:Room k Re)
  (F:∀base:Heap,K.In base->base.Ns mainGlobals mg->(∃bm o,mg "__builtins__"=some (.ref bm)/\bm≠NR/\bm≠mainGlobals/\base.get? bm=some o/\o.cls=.type "module"/\o.dict=some NR/\o.data=.plain)->FnOk P w K mg base CX k fa fd [x] sp) (hbind:∀(s:MD) (u:M9),SK s fd ⟨[u],[]⟩ [(x,u)])
  (hsp:∀H:Hp,(∀P∈ts,H P=some (.tbl #[]))->PU.SqF K H a (ns.map V.int)->sp [.ref a] H (fun v _=>v=.bl true) fun _ _ _=>False)
  (hCX:∀H e s',CX [] H s₁ (fun _ _ _=>False) e s'->False) :
  QI (Ms P w) Re (.call (.ref fa) ⟨[.ref a],[]⟩) (fun r s'=>r=.ok (.ret (.bool true))/\OldK s₁.heap s'.heap/\s'.os=s₁.os/\QZ s'.gens) s₁:=by
 have rv:=pk hi;have lenV:=hi.length
 have core:∀H:Hp,(∀b,H b=none\/(∃ob xs,H b=some (.frz ob (.lst xs)))\/(b∈ts/\H b=some (.tbl #[])))->PU.SqF K H a (ns.map V.int)->HOk P w H s₁.heap->(∀b,H b≠none->b=a\/b∈ts)->(∀P∈ts,H P=some (.tbl #[]))->(H a≠none->K.lookup a=none)->
   QI (Ms P w) Re (.call (.ref fa) ⟨[.ref a],[]⟩) (fun r s'=>r=.ok (.ret (.bool true))/\OldK s₁.heap s'.heap/\s'.os=s₁.os/\QZ s'.gens) s₁:=by
  intro H hO hS hok hA hT hK;have base_of:∀{b:Addr}{o:Obj},s₁.heap.get? b=some o->H b=none->(zR s₁.heap H).get? b=some o:=fun e n=>zQ e n
  have noA:∀{b:Addr}{o:Obj}{es:Array DictEntry}{ep:Nat},s₁.heap.get? b=some o->o.data=.dict es ep->H b=none:=fun {b o es ep} e d=>by
   cases q:H b with
   | none=>rfl
   | some u=>
    rcases hA b (by rw[q];simp) with e' | e'
    ·subst e'
     rw[ha] at e;cases e;have d':Data.seq vs.toArray _=Data.dict es ep:=d;cases d'
    ·rw[hts b e'] at e;cases e
     cases d
  have nsK:∀{b:Addr}{m:Str->Option M9},s₁.heap.Ns b m->(zR s₁.heap H).Ns b m:=fun {b m} ⟨o,es,ep,e,d,r⟩=>⟨o,es,ep,base_of e (noA e d),d,r⟩
  have hKb:K.In (zR s₁.heap H):=fun b o e=>base_of (KX b o e) (by
   cases q:H b with
   | none=>rfl
   | some u=>
    rcases hA b (by rw[q];simp) with e' | e'
    ·subst e'
     rw[hK (by rw[q];simp)] at e;cases e
    ·rw[htk b e'] at e;cases e)
  obtain⟨bm,ob,b1,b2,b3,b4,b5,b6,b7⟩:=hbn
  have hbm:H bm=none:=by
   cases q:H bm with
   | none=>rfl
   | some u=>
    rcases hA bm (by rw[q];simp) with e' | e'
    ·rw[e',ha] at b4;cases b4;cases b7
    ·rw[hts bm e'] at b4;cases b4;cases b5
  have hM:Mod K mg (zR s₁.heap H):=⟨hKb,nsK hns,⟨mb,nsK hb,hbb⟩,let ⟨mc,h1,h2⟩:=hlim;⟨mc,nsK h1,h2⟩⟩;have e0:Env0 P w K mg (zR s₁.heap H) Re [] s₁ H:=⟨rfl,hM,fun b o e=>CF e,Sk (x4 _ _),trivial,fun b hb=>absurd (show b∈([]:List Addr) from hb) (by simp),hok,.of_eq hg⟩;refine Pw ((F _ hKb (nsK hns) ⟨bm,ob,b1,b2,b3,base_of b4 hbm,b5,b6,b7⟩).run Re [] s₁ H ⟨[.ref a],[]⟩ [.ref a] [.ref a] _ _ hr e0 (hbind s₁ (.ref a)) (.cons rfl .nil) (hsp H hT hS)) fun r s' h=>?_;cases r with
  | error e=>exact(hCX H e s' h).elim
  | ok fl=>
   cases fl with
   | next=>exact MI h
   | brk=>exact MI h
   | cont=>exact MI h
   | ret u=>
    obtain⟨v,H',os,bare,un,hok',r',q⟩:=h;have q':v=.bl true:=q;subst q';obtain rfl:u=Value.bool true:=r';refine⟨rfl,⟨fun b o e=>?_,fun b o e=>un.there b o e (by simp)⟩,os,bare⟩;cases q:H b with
    | none=>exact .inl (un.keep b o e q (by intro z;exact absurd (show b∈([]:List Addr) from z) (by simp)) (by simp))
    | some u=>
     rcases hO b with z | ⟨ob,xs,z⟩|⟨hb,z⟩
     ·rw[q] at z;cases z
     ·have z2:=un.frzs b ob _ z
      obtain⟨e1,_⟩:=hok b _ z;obtain⟨e2,_⟩:=hok' b _ z2;rw[e] at e1;cases e1;exact .inl e2
     ·obtain⟨more,z2⟩:=un.tbls b _ z
      have e2:s'.heap.get? b=some (O2 (#[]++more)):=hok' b _ z2;have e1:=hts b hb;obtain⟨c,hc⟩:=htc b hb;have tc:=(hc.tab e1).isCodeTable;rw[e] at e1;cases e1;exact .inr (.inl ⟨tc,rfl,#[],more,rfl,e2⟩)
 have nta:∀P∈ts,P≠a:=fun P hP z=>by rw[z] at hP;have:=hts a hP;rw[ha] at this;cases this
 cases hk:K.lookup a with
 | some o=>
  have e:=KX a o hk;rw[ha] at e;cases e;refine core (fun b=>if b∈ts then some (.tbl #[]) else none) (fun b=>?_) (.inr ⟨vs,_,hk,by rw[MG];exact hl,rv⟩) (fun b u z=>?_) (fun b z=>?_) (fun P hP=>if_pos hP) fun z=>absurd (if_neg fun h=>nta a h rfl) z
  ·by_cases hb:b∈ts
   ·exact .inr (.inr ⟨hb,if_pos hb⟩)
   ·exact .inl (if_neg hb)
  ·by_cases hb:b∈ts
   ·have z':=(if_pos hb).symm.trans z
    cases z';exact hts b hb
   ·have z':=(if_neg hb).symm.trans z
    cases z'
  ·by_cases hb:b∈ts
   ·exact .inr hb
   ·exact absurd (if_neg hb) z
 | none=>
  refine core (fun b=>if b=a then some (.frz { cls:=.type "list",data:=.seq vs.toArray } (.lst (ns.map V.int))) else if b∈ts then some (.tbl #[]) else none) (fun b=>?_) (.inl ⟨{ cls:=.type "list",data:=.seq vs.toArray },if_pos rfl⟩) (fun b u z=>?_) (fun b z=>?_) (fun P hP=>by
   show (if P=a then _ else if P∈ts then _ else _)=_;rw[if_neg (nta P hP),if_pos hP]) fun _=>hk
  ·by_cases hb:b=a
   ·exact .inr (.inl ⟨_,_,if_pos hb⟩)
   ·by_cases hb2:b∈ts
    ·exact .inr (.inr ⟨hb2,(if_neg hb).trans (if_pos hb2)⟩)
    ·exact .inl ((if_neg hb).trans (if_neg hb2))
  ·by_cases hb:b=a
   ·have z':=(if_pos hb).symm.trans z
    cases z';subst hb;exact⟨ha,by rw[MG];exact hl,vs,_,rv,ha⟩
   ·by_cases hb2:b∈ts
    ·have z':=((if_neg hb).trans (if_pos hb2)).symm.trans z
     cases z';exact hts b hb2
    ·have z':=((if_neg hb).trans (if_neg hb2)).symm.trans z
     cases z'
  ·by_cases hb:b=a
   ·exact .inl hb
   ·by_cases hb2:b∈ts
    ·exact .inr hb2
    ·exact absurd ((if_neg hb).trans (if_neg hb2)) z
theorem walk_ofT{l:R9}{n k:Nat}{q:Md}{loose:List Str}{XP:(Str->Option M9)->Heap->Prop}{YP:Ml->Heap->Prop}{d:DefRec}{K:Params->M8}{CX:Ml->CXT}{sp:Ml->Sp}{x:Str}
  (hn:l.most=some n) (hn2:n<=sizeLine) (hdf:d.params.defaults=[]) (hr:Room k Re) (ts:List Addr)
  (hY:∀(w:Ml)(h:Heap),YP w h->(K w.params).In h) (hT:∀(w:Ml)(h:Heap),YP w h->∀P∈ts,h.get? P=some (O2 #[])) (hC:∀(w:Ml),∀P∈ts,∃c,Ob (K w.params) c P=true) (hL:∀(w:Ml),∀P∈ts,(K w.params).lookup P=none)
  (F:∀(w:Ml)(mg:Str->Option M9)(fa:Addr)(h:Heap),(K w.params).In h->h.Ns mainGlobals mg->mg d.name=some (.ref fa)->
   ∃fd:FuncData,(∀(s:MD)(u:M9),SK s fd ⟨[u],[]⟩ [(x,u)])/\
    ∀base:Heap,(K w.params).In base->base.Ns mainGlobals mg->(∃bm o,mg "__builtins__"=some (.ref bm)/\bm≠NR/\bm≠mainGlobals/\base.get? bm=some o/\o.cls=.type "module"/\o.dict=some NR/\o.data=.plain)->
     FnOk l.prog w (K w.params) mg base (CX w) k fa fd [x] (sp w))
  (hsp:∀(w:Ml)(H:Hp)(a:Addr)(ns:List Int),ns.length<=n->(∀P∈ts,H P=some (.tbl #[]))->PU.SqF (K w.params) H a (ns.map V.int)->sp w [.ref a] H (fun v _=>v=.bl true) fun _ _ _=>False)
  (hCX:∀(w:Ml)(H:Hp)(s:MD)(e:M9)(s':MD),CX w [] H s (fun _ _ _=>False) e s'->False) :
  PySem.W.WalkO q loose XP YP l.row.toRowW d [] (fun f vs=>T3 f vs):=by
 refine Att.attach_call hn hdf fun w s₀ s₁ mg mb fa o pm cd doc a vs ns G Y ho hd hcd hmg hobj hints hlen hg=>?_;have KX:=hY w _ Y;obtain⟨fd,hb,hF⟩:=F w mg fa _ KX G.T.g hmg;obtain⟨bm,ob,b1,b2,b3,b4,b5,b6⟩:=G.T.bmain
 have hbG:bm≠mainGlobals:=fun q=>by
  obtain⟨o,es,ep,e,hd,_⟩:=G.T.g;rw[q,e] at b3;cases b3;rw[hd] at b6;cases b6
 exact wC KX G.T.g G.T.b G.T.builtins G.T.nolimit hg ts (hT w _ Y) (fun P hP=>let ⟨c,hc⟩:=hC w P hP;⟨c,Of KX hc⟩) (hL w) ⟨bm,ob,b1,b2,hbG,b3,b4,b5,b6⟩ hobj hints (NB hlen hn2) hr hF hb (fun H hT hS=>hsp w H a ns hlen hT hS) fun H e s'=>hCX w H s₁ e s'
end L2
namespace PU
theorem IA[TW]{H:L2.Hp}{ts:List PySem.Addr}(e:TW.tabs=ts)(h:∀P∈ts,H P=some (.tbl #[])):uT H:=fun P hP=>⟨#[],h P (e▸hP),trivial,fun pos v h=>by cases h⟩
end PU
end
namespace PU
section
variable{g g' : PSt → R Fl}{t : PSt → R Bool}{f fk fv : PSt → R PV}{i : Nat}
theorem nG(ρ:PSt)(p:PV):dm ρ≠.ok (.ret p):=fun h=>by cases h
theorem ya(ρ:PSt)(p:PV):Hk ρ≠.ok (.ret p):=fun h=>by cases h
theorem gz(h1:∀ρ p,g ρ≠.ok (.ret p))(h2:∀ρ p,g' ρ≠.ok (.ret p))(ρ:PSt)(p:PV):aQ g g' ρ≠.ok (.ret p):=by
 unfold aQ;intro e;cases h:g ρ with
 | ok fl=>
  rw[h,R.ok_bind] at e;cases fl with
  | next ρ2=>exact h2 ρ2 p e
  | brk ρ2=>cases e
  | cont ρ2=>cases e
  | ret q=>exact h1 ρ q h
 | er x=>rw[h] at e;cases e
 | no=>rw[h] at e;cases e
theorem t7(h1:∀ρ p,g ρ≠.ok (.ret p))(h2:∀ρ p,g' ρ≠.ok (.ret p))(ρ:PSt)(p:PV):ifF t g g' ρ≠.ok (.ret p):=by
 unfold ifF;intro e;cases h:t ρ with
 | ok b=>
  rw[h,R.ok_bind] at e;cases b with
  | true=>rw[if_pos rfl] at e;exact h1 ρ p e
  | false=>rw[if_neg MO] at e;exact h2 ρ p e
 | er x=>rw[h] at e;cases e
 | no=>rw[h] at e;cases e
theorem yC{n:Nat}(hg:∀ρ p,g ρ≠.ok (.ret p))(ρ:PSt)(p:PV):whS n t g ρ≠.ok (.ret p):=by
 unfold whS
 induction n generalizing ρ with
 | zero=>intro e;cases e
 | succ n ih=>
  intro e;unfold whF at e;cases h:t ρ with
  | ok b=>
   rw[h,R.ok_bind] at e;cases b with
   | true=>
    rw[if_pos rfl] at e;cases h2:g ρ with
    | ok fl=>
     rw[h2,R.ok_bind] at e;cases fl with
     | next ρ2=>exact ih ρ2 e
     | cont ρ2=>exact ih ρ2 e
     | brk ρ2=>cases e
     | ret q=>exact hg ρ q h2
    | er x=>rw[h2] at e;cases e
    | no=>rw[h2] at e;cases e
   | false=>rw[if_neg MO] at e;cases e
  | er x=>rw[h] at e;cases e
  | no=>rw[h] at e;cases e
theorem yd(i:Nat)(f:PSt->R PV)(ρ:PSt)(p:PV):DX i f ρ≠.ok (.ret p):=by
 unfold DX;intro h;split at h
 ·cases hf:f ρ with
  | ok q=>
   rw[hf,R.ok_bind] at h;split at h <;> cases h
  | er x=>rw[hf] at h;cases h
  | no=>rw[hf] at h;cases h
 ·cases h
theorem uk(i:Nat)(fk fv:PSt->R PV)(ρ:PSt)(p:PV):mK i fk fv ρ≠.ok (.ret p):=by
 unfold mK;intro h;split at h
 ·cases hf:fv ρ with
  | ok q=>
   rw[hf,R.ok_bind] at h;cases hk:fk ρ with
   | ok kp=>
    rw[hk,R.ok_bind] at h;cases ht:l9 kp with
    | some k=>
     rw[ht,R.ofO_some,R.ok_bind] at h;split at h <;> cases h
    | none=>rw[ht] at h;cases h
   | er x=>rw[hk] at h;cases h
   | no=>rw[hk] at h;cases h
  | er x=>rw[hf] at h;cases h
  | no=>rw[hf] at h;cases h
 ·cases h
end
end PU
namespace PU
open PySem PySem.Spec PyProof.Rows L2 PySem.SeqAt
section
variable{P : Md}{w : Ml}{K : M8}{mg : Str → Option M9}{base : Heap}
theorem Fun.okC{x qual:Str}{st:Stmt}{f:Addr}{fd:FuncData}{N ps:List Str}{k:Nat}{sp:Sp}(F:Fun K x qual st f fd)(S:FnScope N ps (ai st))(len:∀vs H Q E,sp vs H Q E->vs.length=ps.length)
  (hbody:∀(cdv:M9),cdv=fd.code->∀(A:Mt)(outer:List RB)(s:MD)(H:Hp)(vs:List V)(Q:VK)(E:XK),Room k (A.deeper (PB qual (ai st) s.heap.objs.size f cdv))->sp vs H Q E->
   ∃t,PSs (BD CX0 P w K mg base N qual (ai st) f cdv A outer s H E).nox (bh st) t/\t { nx:=fun _ H'=>Q .non H',rt:=Q } (L2.start N vs) H):FnOk P w K mg base CX0 (k+1) f fd ps sp:=by
 obtain⟨oc,od,kV,doc,pm,an,cdv,ct,osl,rfl,lk,hcd⟩:=F.ex;refine GR lk hcd S len fun A outer s H vs Q E hr hsp=>?_;obtain⟨t,h,q⟩:=hbody cdv rfl A outer s H vs Q E hr hsp;exact⟨t,h.nox,q⟩
variable[TW]
theorem zm{x qual:Str}{st:Stmt}{f:Addr}{fd:FuncData}{N ps:List Str}{k:Nat}{g:PSt->R Fl}(F:Fun K x qual st f fd)(S:FnScope N ps (ai st))(hm:mg x=some (.ref f))(hb:Binds K fd ps [])
  (hbody:∀(cdv:M9),cdv=fd.code->∀(A:Mt)(outer:List RB)(s:MD)(H:Hp)(E:XK),Room k (A.deeper (PB qual (ai st) s.heap.objs.size f cdv))->SVN (DQ P w K mg base N qual (ai st) f cdv A outer s H E) (bh st) g)
  (hr:∀ρ,(∃p,g ρ=.ok (.ret p))\/∀fl,g ρ≠.ok fl) :
  PFN P w K mg base (k+1) x (eI ps.length N.length g):=by
 refine⟨f,fd,ps,Fun.okC F S (fun vs H Q E h=>h.1) (fun cdv hcdv A outer s H vs Q E hr' h=>?_),hm,F.kp,hb,fun qs p h=>?_⟩
 ·obtain⟨hl,tb,qs,p,r,e0,k⟩:=h
  refine⟨_,hbody cdv hcdv A outer s H E hr',start N.length qs,(H,H),iY tb r,?_⟩;unfold eI at e0;rw[if_pos (by rw[r.length];exact hl)] at e0;rcases hr (start N.length qs) with⟨q,hq⟩ | hq
  ·rw[hq] at e0 ⊢
   cases e0;exact fun a H' s' n' w'=>k a H' s' n' w'
  ·cases hg:g (start N.length qs) with
   | ok fl=>exact absurd hg (hq fl)
   | er x=>rw[hg] at e0;cases e0
   | no=>rw[hg] at e0;cases e0
 ·unfold eI at h
  split at h
  ·rename_i hl;exact hl
  ·cases h
end
def Bb(n:Nat)(fe:PSt->R PV)(qs cs:List PV):Option PV:=if qs.length=n then (match fe ((qs++cs).map .val) with
 | .ok p=>some p
 | _=>none) else none
theorem oI{n:Nat}{fe:PSt->R PV}{qs cs:List PV}{p:PV}(h:Bb n fe qs cs=some p):qs.length=n/\fe ((qs++cs).map .val)=.ok p:=by
 unfold Bb at h;split at h
 ·rename_i hl
  refine⟨hl,?_⟩;split at h
  ·rename_i q hq;cases h;exact hq
  ·cases h
 ·cases h
def D8(q:Str)(kept:List Str)(sc:Scope):Expr->Lam
 | .Lambda a b s _=>⟨q,a,.expr b,s,kept,"<lambda>"⟩
 | e=>⟨q,⟨[],[],none,[],[],none,[]⟩,.expr e,sc,kept,"<lambda>"⟩
def DG(q:Str)(kept:List Str)(sc:Scope):Stmt->Lam
 | .FunctionDef n a b _ _ _ s _ _ _=>⟨q,a,.stmts b,s,kept,n⟩
 | _=>⟨q,⟨[],[],none,[],[],none,[]⟩,.stmts [],sc,kept,q⟩
def tP(p:Nt):Stmt->Nt
 | .FunctionDef _ _ _ _ _ _ _ _ _ p=>p
 | _=>p
def AM(j:Nat)(e0:Expr):Stmt->Expr
 | .Return (some (.Call _ as _ _)) _=>as.getD j e0
 | _=>e0
def Bc(p:Nt):Expr->Nt
 | .Lambda _ _ _ p=>p
 | _=>p
theorem LScope.of{ps fr ls:List Str}{sc:Scope}(kind:sc.kind=.function)(co:sc.isCoroutine=false)(gen:sc.isGenerator=false)(nocell:∀x∈sc.names,x.2≠.cell)(par:∀x∈ps,sc.names.lookup x=some .local)
  (fre:∀y∈sc.names,y.2=.free->y.1∈fr) (frk:∀x∈fr,sc.names.lookup x=some .free) (nd:(ps++fr++ls).Nodup):LScope ps fr ls sc:=
 ⟨kind,co,gen,nocell,par,fun x h=>fre _ (Mw h) rfl,frk,nd⟩
end PU
namespace PU
open PySem PySem.Spec PyProof.Rows L2 PySem.SeqAt
section
variable{P : Md}{w : Ml}{K : M8}{mg : Str → Option M9}{base : Heap}
variable[TW]
theorem Cw{x qual:Str}{st:Stmt}{f:Addr}{fd:FuncData}{N ps:List Str}{k:Nat}{g:PSt->R Fl}(F:Fun K x qual st f fd)(S:FnScope N ps (ai st))(hm:mg x=some (.ref f))(hb:Binds K fd ps [])
  (hbody:∀(cdv:M9),cdv=fd.code->∀(A:Mt)(outer:List RB)(s:MD)(H:Hp)(E:XK),Room k (A.deeper (PB qual (ai st) s.heap.objs.size f cdv))->SVs (DQ P w K mg base N qual (ai st) f cdv A outer s H E) (bh st) g) :
  PF P w K mg base (k+1) x (eI ps.length N.length g):=by
 refine⟨f,fd,ps,Fun.okC F S (fun vs H Q E h=>h.1) (fun cdv hcdv A outer s H vs Q E hr h=>?_),hm,F.kp,hb,fun qs p h=>?_⟩
 ·obtain⟨hl,tb,qs,p,r,e,k⟩:=h
  refine⟨_,hbody cdv hcdv A outer s H E hr,start N.length qs,(H,H),iY tb r,?_⟩;unfold eI at e;rw[if_pos (by rw[r.length];exact hl)] at e;cases hg:g (start N.length qs) with
  | ok fl=>
   rw[hg] at e;cases fl with
   | next ρ=>cases e;exact fun σ H' S'=>k .non H' S'.same rfl
   | ret q=>cases e;exact fun v H' s' r'=>k v H' s' r'
   | brk ρ=>cases e
   | cont ρ=>cases e
  | er x=>rw[hg] at e;cases e
  | no=>rw[hg] at e;cases e
 ·unfold eI at h
  split at h
  ·rename_i hl;exact hl
  ·cases h
end
section
variable[TW]
variable{C : Cn}{elt tg iter : Expr}{ifs : List Expr}{scope : Scope}{pos : Nt}{N' : List Str}{nt : Nat}{idx : List Nat}{fi : PSt → R (List PV)}{h : Tgt}{t : PSt → R Bool}{fe : PSt → R PV}
theorem RQ.comp{H:Hp}{ρ:PSt}{m:PV->Prop}(q:RQ C H (gw fi h t fe nt idx ρ) m):RQ C H (fi ρ) fun ps=>∃qs,cG h t fe (cb nt idx ρ) ps=.ok qs/\qs.length<=sizeLine/\m (.lst qs):=by
 unfold gw at q;refine q.bind.imp fun ps _ k=>?_;cases hc:cG h t fe (cb nt idx ρ) ps with
 | ok qs=>
  rw[hc] at k;have k:RQ C H (gr qs >>= fun qs=>R.ok (.lst qs)) m:=k;unfold gr at k
  by_cases hz:qs.length<=16777216
  ·rw[if_pos hz] at k
   exact⟨qs,rfl,by rw[N7];exact hz,k⟩
  ·rw[if_neg hz] at k
   exact MI k
 | er x=>rw[hc] at k;exact MI k
 | no=>rw[hc] at k;exact MI k
theorem Cq(i:Nat){x:Str}{px:Nt}{spos:Nt}(hN:C.X.N.Nodup)(O:CompOk C.X.N C.X.env.scope scope N' nt idx)(hi:EI C tg iter fi)
  (hg:∀cl L s H fp,TCt (dW C N' scope cl L s H fp) tg h) (he:∀cl L s H fp,EV (dW C N' scope cl L s H fp) elt fe)
  (hsw:PH (.ListComp elt [⟨tg,iter,ifs,0⟩] scope pos) (some (.Name x px)) spos.line C.X.env=pure true:=by rfl)
  (hs:∀x,Pb iter C.X.env x=pure x:=by intro _;rfl)
  (hf:C.X.fn x=true\/C.X.env.scope.names.lookup x=some .local:=by first | exact .inl rfl | exact .inr rfl | assumption) (hc:C.X.calm=true:=by rfl) (hlow:E8 nt h:=by repeat' (first | exact ri | exact oF (by decide) | apply rh | apply oG)) (ht:∀cl L s H fp,ETs (dW C N' scope cl L s H fp) ifs t:=by exact fun _ _ _ _ _=>rQ) (hi':C.X.N[i]?=some x:=by rfl) (hx:Loc C.X.env.scope x:=by first | exact .inl rfl | exact .inr rfl) :
  PS C.X (.Assign [.Name x px] (.ListComp elt [⟨tg,iter,ifs,0⟩] scope pos) spos) (II (tV C (gw fi h t fe nt idx)) (zV i)):=by
 intro pins s σ H D I ⟨ρ,vw,q⟩;rw[exec_Assign_Name_used _ _ _ _ hsw];refine MA (Sy (MA ?_));show Mf _ C.X.A (do let _<- comprehension (.ListComp elt [⟨tg,iter,ifs,0⟩] scope pos) scope C.X.env _ (newList []) false (NJ iter C.X.env) (some (Qr (.Name x px) C.X.env))) _ _ s
 refine MA (O1 (QL (use:=some (Qr (.Name x px) C.X.env)) (Q:=fun _ s'=>SP C.X pins D .next s') rfl hs (bx fun y hy hk=>I.ok.has y.1 (O.free y hy hk)) O.kind O.names ?_)
  (fun _ s' hq=>MK (MK hq)) fun _ _ e=>e)
 refine thn (hi pins s σ H (fun J H'=>∃ps qs,Same H H'/\ItP C.X.K J H' ps/\cG h t fe (cb nt idx ρ) ps=.ok qs/\qs.length<=sizeLine/\∀v H'',Same H H''->Rep C.X.K H'' (.lst qs) v->D.nx (σ.set i (some v)) H'') I
  ⟨ρ,vw,q.comp.imp fun ps _ k J H' s' ip=>?_⟩) fun v s1 h1=>thn h1 fun itv s2 h2=>?_
 ·obtain⟨qs,e1,z,k⟩:=k
  exact⟨ps,qs,s',ip,e1,z,fun v H'' s'' r=>k v H'' s'' r⟩
 ·obtain⟨it,fp,tn,J,H2,e,I2,T,st2,f2,ps,qs,sm,ip,e1,hz,k⟩:=h2
  subst e;refine mC O hc hg hlow ht he I2 T st2 f2 (vw.same sm) ip e1 hz fun Da L σ' H' s' xs I' sm' nD hD rp hL=>?_;obtain⟨m,⟨o,es,ep,ho,hrest⟩,_⟩:=id I'.loc;have IB:=mD I2 f2 I';have nL:L≠C.X.env.locals:=OP (MW I2.lt hL)
  have nC:∀x c,C.X.env.cells.lookup x=some c->c≠L:=fun x c ec z=>by
   obtain⟨v,qc⟩:=I2.cell x c ec;have z:c=L:=z;exact Nb _ (MW (z▸qc.lt) hL)
  have nP:∀p∈C.X.pn++pins,p.1≠L:=fun p hp z=>by
   have z:p.1=L:=z;exact Nb _ (MW (z▸MY (I2.pin p hp).1) hL)
  have IP:L2.Inv C.X (pins++[(L,o)]) σ H' s':=IB.pins_of fun p hp=>by
   rcases Mz.mp hp with z | z
   ·exact IB.pin p (My _ z)
   ·have:p=(L,o):=by simpa using z
    subst this;exact⟨ho,I'.free,nL,I2.nofs hL,fun v z=>by rw[hrest.1] at z;cases z⟩
  obtain⟨H3,I3,rp3,oth⟩:=L2.Inv.frz (a:=Da) (p:=.lst qs) IP ⟨xs,hD,rp⟩;refine thn (ov hN hi' hx hf (pins++[(L,o)]) s' σ H3 (.ref Da) (.ref Da) (fun σ4 H4=>σ4=σ.set i (some (.ref Da))/\H4=H3) I3 rfl ⟨rfl,rfl⟩) fun _ s4 ⟨σ4,H4,I4,e4,e5⟩=>?_;have hp:=I4.pin (L,o) (by simp);have IU:L2.Inv C.X pins σ4 H4 s4:=I4.unpinned;refine⟨m,⟨o,es,ep,hp.1,hrest⟩,fun h' sb=>⟨σ4,H4,mB IU hp.2.1 nL (NB I2.sz hL) nC nP sb,?_⟩⟩;subst e4 e5;exact k _ _ ((sm.trans sm').but (sm.free nD) (fun u h=>by rw[hD] at h;cases h;rfl) oth) rp3
end
variable[TW]
def tSF(C:Cn)(Φ:Ph)(g:PSt->R Fl):TS:=fun D σ H=>Φ σ H/\tS C g D σ H
def SVF(C:Cn)(Φ:Ph)(st:List Stmt)(g:PSt->R Fl):Prop:=PSs C.X st (tSF C Φ g)
def tBF(C:Cn)(Φ:Ph)(t:PSt->R Bool):TT:=fun σ H Q=>Φ σ H/\tBl C t σ H Q
def ETF(C:Cn)(Φ:Ph)(e:Expr)(t:PSt->R Bool):Prop:=PT C.X e (tBF C Φ t)
def BB(i:Nat)(g:PSt->R Fl):PSt->R Fl:=fun ρ=>match ρ[i]? with
 | some .no=>g ρ
 | _=>.no
def nX(L:Lam)(idx:List Nat)(fs:PSt->R (List PV))(app:Lam->List PV->List PV->Option PV):PSt->R PV:=fun ρ=>rW ρ idx >>= fun cs=>fs ρ >>= fun qs=>
 if aN qs=true/\aN cs=true then R.ofO (app L qs cs) >>= fun z=>if noFn z=true then .ok z else .no else .no
theorem SVF.tru{C:Cn}{sts:List Stmt}{g:PSt->R Fl}(h:SVF C tru sts g):SVs C sts g:=fun pins s σ H D I q=>h pins s σ H D I ⟨trivial,q⟩
section
variable{C : Cn}{Φ Ψ : Ph}{e : Expr}{es : List Expr}{f : PSt → R PV}{fs : PSt → R (List PV)}{g : PSt → R Fl}{rest : List Stmt}{pos : Nt}
theorem xu(ha:EVF C Φ e f)(he:∀whole,isTrue e C.X.env whole=(do let v<- whole;standAt e.pos;holding [v] (truthy v)):=by intro _;rfl)(hw:C.X.w=TW.w:=by rfl):ETF C Φ e (dS f):=by
 intro pins s σ H Q I ⟨ph,ρ,vw,q⟩;refine isTrue_plain (thn (ha pins s σ H (fun v H'=>∃p b,bp C.X.K H' p v/\vm p=some b/\Q b H') I ⟨ph,ρ,vw,q.bind.imp fun p _ k v H' s' r=>?_⟩) fun v s1 ⟨x,H1,I1,r1,q1⟩=>vk hw pins s1 σ H1 x v Q I1 r1 q1) (he _);obtain⟨b,eb,k⟩:=k.ofO;exact⟨p,b,r.o,eb,k H' s'⟩
theorem BY(he:EVF C Φ e f):SVF C Φ [.Return (some e) pos] (cu f):=by
 intro pins s σ H D I ⟨ph,ρ,B,S,h⟩;exact lD (pH he) pins s σ H D I ⟨ph,ρ,S.vw,(h.bind S.same).imp fun p _ k v H' s' r=>k v H' (S.same.trans s') r⟩
theorem o5(i:Nat){x:Str}{pos':Nt}(hN:C.X.N.Nodup)(ok:Φ.Ok)(hk:∀σ H v,Φ σ H->Φ (σ.set i v) H)(he:EVF C Φ e f)(hr:SVF C Φ rest g)(hs:PH e (some (.Name x pos')) pos.line C.X.env=pure false:=by rfl)
  (hf:C.X.fn x=true\/C.X.env.scope.names.lookup x=some .local:=by first | exact .inl rfl | exact .inr rfl | assumption) (hi:C.X.N[i]?=some x:=by rfl) (hx:Loc C.X.env.scope x:=by first | exact .inl rfl | exact .inr rfl) :
  SVF C Φ (.Assign [.Name x pos'] e pos::rest) (aQ (cy i f) g):=by
 intro pins s σ H D I ⟨ph,ρ,B,S,h⟩;refine i7 (vJ hN hi hx he hs hf) hr pins s σ H D I ⟨ph,ρ,S.vw,?_⟩;unfold aQ cy at h;cases hg:f ρ with
 | ok p=>rw[hg] at h;exact fun v H' s' r=>⟨hk _ _ _ (ok _ _ _ ph s'),ρ.set i (.val p),B,(S.grow s').setV r,h⟩
 | er x=>rw[hg] at h;exact fun H' s'=>h H' (S.same.trans s')
 | no=>rw[hg] at h;exact h
theorem vp{c e1:Expr}{t:PSt->R Bool}{f1:PSt->R PV}{p1:Nt}(ok:Φ.Ok)(hc:ETF C Φ c t)(h1:EVF C Φ e1 f1)(hr:SVF C Φ rest g):SVF C Φ (.If c [.Return (some e1) p1] [] pos::rest) (aQ (ifF t (cu f1) dm) g):=by
 intro pins s σ H D I ⟨ph,ρ,B,S,h⟩;refine i7 (Cp hc (lD (pH h1)) qU) hr pins s σ H D I ⟨ph,ρ,S.vw,?_⟩;unfold aQ ifF at h;cases hg:t ρ with
 | ok b=>
  rw[hg] at h;intro H' s';cases b with
  | true=>
   refine(if_pos rfl).mpr ⟨ok _ _ _ ph s',ρ,S.vw.same s',?_⟩;have h:RS C B D (cu f1 ρ >>= fun fl=>_):=h;unfold cu at h;cases hf:f1 ρ with
   | ok p=>rw[hf] at h;exact fun v H2 s2 r=>h v H2 ((S.same.trans s').trans s2) r
   | er x=>rw[hf] at h;exact fun H2 s2=>h H2 ((S.same.trans s').trans s2)
   | no=>rw[hf] at h;exact h
  | false=>exact(if_neg (by decide)).mpr ⟨ok _ _ _ ph s',ρ,B,S.grow s',h⟩
 | er x=>rw[hg] at h;exact fun H' s'=>h H' (S.same.trans s')
 | no=>rw[hg] at h;exact h
theorem F9{st:Stmt}(i:Nat)(ok:Φ.Ok)(hk:∀σ H v,Φ σ H->Φ (σ.set i v) H)(hp:PS C.X st (II (tV C f) (zV i)))(hr:SVF C Φ rest g):SVF C Φ (st::rest) (aQ (cy i f) g):=by
 intro pins s σ H D I ⟨ph,ρ,B,S,h⟩;refine i7 hp hr pins s σ H D I ⟨ρ,S.vw,?_⟩;unfold aQ cy at h;cases hg:f ρ with
 | ok p=>rw[hg] at h;exact fun v H' s' r=>⟨hk _ _ _ (ok _ _ _ ph s'),ρ.set i (.val p),B,(S.grow s').setV r,h⟩
 | er x=>rw[hg] at h;exact fun H' s'=>h H' (S.same.trans s')
 | no=>rw[hg] at h;exact h
structure DefC(C:Cn)(L:Lam)(b:List Stmt)(pos:Nt)(c P:Addr):Prop where
 bd:L.body=.stmts b
 qual:L.qual=QW C.X.env L.name L.name
 tq:TW.qual pos.line pos.col=L.qual
 code:C.X.env.code=.ref c
 hd:Pk C.X.base c P
 tab:P∈TW.tabs
 bn:Bn C.X
 d0:L.args.defaults=[]
 k0:L.args.kw_defaults=[]
 an:annTrees L.args none C.X.env=[]
 free:∀y∈L.scope.names,y.2=.free->C.X.env.scope.names.lookup y.1=some .cell
theorem vq{L:Lam}{b:List Stmt}{c P:Addr}(i:Nat)(hN:C.X.N.Nodup)(ok:Φ.Ok)(hk:∀σ H v,Φ σ H->Φ (σ.set i v) H)(d:DefC C L b pos c P)(hr:SVF C (fun σ H=>Φ σ H/\FnS C.X i L σ H) rest g)
  (hf:C.X.fn L.name=true\/C.X.env.scope.names.lookup L.name=some .local:=by first | exact .inl rfl | exact .inr rfl | assumption) (hi:C.X.N[i]?=some L.name:=by rfl) (hx:Loc C.X.env.scope L.name:=by first | exact .inl rfl | exact .inr rfl) :
  SVF C Φ (.FunctionDef L.name L.args b [] none [] L.scope none L.name pos::rest) (BB i g):=by
 intro pins s σ H D I ⟨ph,ρ,B,S,h⟩;unfold BB at h;split at h
 ·rename_i e0
  have p1:PS C.X (.FunctionDef L.name L.args b [] none [] L.scope none L.name pos) (fun D σ' H'=>σ'=σ/\H'=H/\∀v H1,Same H H1->FnS C.X i L (σ.set i (some v)) H1->D.nx (σ.set i (some v)) H1):=by
   intro pins' s' σ' H' D' J ⟨e1,e2,q⟩;subst σ' H';obtain⟨ps,eP,tk⟩:=S.vw.tb P d.tab;have has:∀y∈L.scope.names,y.2=.free->∃c,C.X.env.cells.lookup y.1=some c:=fun y hy hk=>J.ok.has y.1 (.inl (d.free y hy hk));refine Hb (c:=c) (P:=P) J eP tk d.code d.hd d.bn d.d0 d.k0 d.an (d.tq.trans d.qual) has fun f c' doc pm ct H1 s1 I1 sm hf' hc'=>?_;rw[← d.qual] at hf' hc'
   have hf':H1 f=some (FnAt f (jh L (dI C.X.env.cells L.scope.names []) (doc,pm) c' ct)):=by
    rw[hf'];unfold jh rz;rw[d.bd]
   refine kM I1 hN hi hx (v:=.ref f) rfl (fun s2 I2=>⟨_,H1,I2,q _ H1 sm ⟨f,c',(doc,pm),ct,?_,hf',hc'⟩⟩) hf;rw[QK (by rw[← S.len];exact(MB.mp e0).1)]
  refine i7 p1 hr pins s σ H D I ⟨rfl,rfl,fun v H1 sm fn=>⟨⟨hk _ _ _ (ok _ _ _ ph sm),fn⟩,ρ,B,?_,h⟩⟩;have S1:=S.grow sm;have ne:∀(j:Nat)(z:Sl),ρ[j]?=some z->z≠.no->j≠i:=fun j z ez n q=>by subst q;rw[e0] at ez;cases ez;exact n rfl
  have gs:∀j,j≠i->(σ.set i (some v))[j]?=σ[j]?:=fun j n=>Pf (Oc n);refine⟨by rw[List.length_set];exact S1.len,S1.same,S1.kp,⟨fun j z ez=>?_,S1.vw.tb⟩,fun j p a e1 e2=>?_,fun j k p q a e1 e2 e3 e4=>?_,S1.pinned⟩
  ·by_cases n:j=i
   ·subst n
    rw[e0] at ez;cases ez;exact trivial
   ·rw[gs j n]
    exact S1.vw j z ez
  ·rw[gs j (ne j _ e1 (by simp))] at e2
   exact S1.fresh j p a e1 e2
  ·rw[gs j (ne j _ e1 (by simp))] at e3
   rw[gs k (ne k _ e2 (by simp))] at e4;exact S1.apart j k p q a e1 e2 e3 e4
 ·exact MI h
theorem uI{L:Lam}{idx:List Nat}{app:Lam->List PV->List PV->Option PV}{k:Nat}{x:Str}{p pos:Nt}(i:Nat)(T:Hr C.X.prog C.X.w C.X.K C.X.mg C.X.base k app){kr:Nat}(hr:Room kr C.X.A)(hF:∀σ H,Φ σ H->FnS C.X i L σ H)(fc:FnC C L idx)(ha:EA C (e::es) fs)
  (hN:C.X.N[i]?=some x:=by rfl) (hvis:Vis C.X.env.scope x:=by first | exact .inl rfl | exact .inr (.inl rfl) | exact .inr (.inr rfl)) (hdb:(x == ("__debug__":Str))=false:=by decide) (hcd:(x == ("__classdict__":Str))=false:=by decide)
  (he:MZ (e::es) C.X.env=(false,NJ e C.X.env)::MZ es C.X.env:=by exact bP rfl) (hpl:(OJ pos (MZ es C.X.env)).any (·.1)=false:=by exact i5 rfl) (hk:k+1<=kr:=by decide) (hfn:∀y,C.X.fn y=true:=by exact fun _=>rfl) :
  EVF C Φ (.Call (.Name x p) (e::es) [] pos) (nX L idx fs app):=by
 replace hr:=hr.mono hk;intro pins s σ H Q I ⟨ph,ρ,vw,q⟩;unfold nX at q;cases hc:rW ρ idx with
 | er x=>exact absurd hc (kY idx x)
 | no=>rw[hc] at q;exact MI q
 | ok cs=>
  rw[hc] at q;obtain⟨f,c,pm,ct,ev,hf0,hc0⟩:=hF σ H ph;refine OW (thn (fG hN hvis hdb hcd pins s σ H (fun v' H'=>v'=.ref f/\H'=H) I ⟨_,ev,rfl,rfl⟩) fun u s1 ⟨v',H',I1,ru,e2,e3⟩=>?_);subst e2 e3;cases (show u=Ni f from ru);have fnAt:∀{H2:Hp}{s2:MD},L2.Inv C.X pins σ H2 s2->Same H' H2->PySem.W.FnAt f s2.heap:=fun {H2 s2} I2 sm=>⟨_,_,_,_,(I2.hok f _ (sm _ _ hf0)).1⟩;have q:RQ C H' (fs ρ >>= fun qs=>if aN qs=true/\aN cs=true then R.ofO (app L qs cs) >>= fun z=>if noFn z=true then .ok z else .no else .no) _:=q
  refine Se (fnAt I1 (Same.refl _)) (thn (ha pos pins s1 σ H' (fun vs H2=>∃qs z,aH C.X.K H2 qs vs/\Same H' H2/\aN qs=true/\aN cs=true/\app L qs cs=some z/\noFn z=true/\∀v H3,Same H' H3->Rep C.X.K H3 z v->Q v H3) I1
   ⟨ρ,vw,q.bind.imp fun qs _ k1 vs H2 sm2 r2=>?_⟩) fun us s2 ⟨vs,H2,I2,r,qs,z,r2,sm2,n1,n2,ea,nz,k2⟩=>⟨fnAt I2 sm2,?_⟩) he hpl
  ·split at k1
   ·rename_i hn
    obtain⟨z,ez,k3⟩:=k1.bind.ofO;split at k3
    ·rename_i nz
     exact⟨qs,z,r2,sm2,hn.1,hn.2,ez,nz,fun v H3 s3 r3=>k3 v H3 s3 r3⟩
    ·exact MI k3
   ·exact MI k1
  ·obtain⟨ps,ls,fe,B,hl,ef⟩:=T L qs cs z ea
   have pr:As C.X H2 σ (.fn L cs) (.ref f):=qV (pins:=pins) (s:=s2) I2.ok.inj (fun y hy=>I2.ok.has y (.inl hy)) (vw.same sm2) hc fc.free fc.kept fc.nd fc.ix (sm2 _ _ hf0) (sm2 _ _ hc0);have rep:=sG I2 hfn pr;have cl:=xX I2 hfn (C.X.env.scope.names.map (·.1));have ext:Same H2 (trC H2 (iw C.X s2.heap (C.X.env.scope.names.map (·.1)))):=.of fun b o e=>by rw[aW (cl.out e)];exact e
   obtain⟨f',c',cl',pm',ct',xs,e1,hf1,hc1,hk1,nd1,ca,rc⟩:=rep;cases e1;obtain⟨hxl,l,l1,l2⟩:=k8 ca;have hus:us.length=ps.length:=by rw[← r.length,← r2.length];exact hl
   refine SY (Pw (wD (l:=l) (E:=E0) (Q:=fun v H3=>Same (trC H2 (iw C.X s2.heap (C.X.env.scope.names.map (·.1)))) H3/\Rep C.X.K H3 z v) B.sc hr (GY I2 cl) hf1 hc1 l1 hk1 nd1 hxl l2 (B.bd cl' pm' ct' c' us hus) (B.ev f c' cl' C.X.A C.X.stack s2 _ (hr.deeper _)) r (by rw[← r2.length];exact hl) (r2.same ext) rc n1 n2 (ext.tabs (sm2.tabs vw.tb)) ef
    fun v H3 s3 r3=>⟨s3,r3⟩) fun r' s' hq=>?_)
   cases r' with
   | error e=>exact MI hq
   | ok fl=>
    cases fl with
    | ret u=>
     obtain⟨v,H3,os,bare,un,hok,rv,sm3,rp⟩:=hq;refine BL I2 cl ⟨v,H3,os,bare,un,hok,rv,fun un=>k2 v _ (sm2.trans (Fi cl un sm3)) (Rep.pl (fun b u e h=>?_) z nz rp)⟩;rw[ba (pO un e (oN h))];exact e
    | next=>exact MI hq
    | brk=>exact MI hq
    | cont=>exact MI hq
end
theorem iC.st{C:Cn}{n:Nat}{B:FuncBody}{b:List Stmt}{g:PSt->R Fl}(h:B=.stmts b)(hs:SVs C b g):iC C n (rX n g) B:=by
 subst h;exact⟨g,hs,rfl⟩
theorem iC.ex{C:Cn}{B:FuncBody}{b:Expr}{fe:PSt->R PV}(h:B=.expr b)(hs:EV C b fe):iC C 0 fe B:=by
 subst h;exact⟨rfl,hs⟩
structure NdL(l:List Str):Prop where
 nd:l.Nodup
theorem FnS.set{X:Cx}{i j:Nat}{L:Lam}(h:j≠i):∀σ H v,FnS X i L σ H->FnS X i L (σ.set j v) H:=fun σ H v ⟨f,c,pm,ct,e,r⟩=>⟨f,c,pm,ct,by rw[Pf h];exact e,r⟩
theorem Ph.and_ok{Φ Ψ:Ph}(a:Φ.Ok)(b:Ψ.Ok):Ph.Ok (fun σ H=>Φ σ H/\Ψ σ H):=fun σ H H' h s=>⟨a σ H H' h.1 s,b σ H H' h.2 s⟩
end PU
namespace PU
open PySem PySem.Spec PyProof.Rows L2 PySem.SeqAt
def IZ:V->List V->Hp->VK->Prop:=fun x vs H Q=>∃a kvs k v,x=.ref a/\vs=[kV k,v]/\H a=some (.dK kvs)/\kvs.length<sizeLine/\
 ((∃w,jB kvs k=some w/\Q w H)\/(jB kvs k=none/\Q v (upd H a (.dK (putK kvs k v)))))
theorem D3 {X:Cx}:MtM X "dict.setdefault" IZ:=by
 intro pins s σ H x vs v us Q I rx rv h;obtain⟨a,kvs,k,y,rfl,rfl,hH,hl,q⟩:=h;cases rx;obtain⟨u1,u2,rfl,r1,r2⟩:=Vals.two rv;obtain⟨z,hd,ws,rel,dd⟩:=DE I.hok hH;have hz:ws.length<=sizeLine:=by rw[← rel.length];exact z
 refine Rf OL dd.typeIs Qx (Qt _ _ _) (PySem.kt_meets_setdefault (aw X.prog X.w) a (lW r1) hd u2) ⟨ws,dd,hz,fun v' hv'=>?_,fun hn h' dd' hs=>?_⟩
 ·rcases q with⟨w,ew,q⟩|⟨en,_⟩
  ·obtain⟨w',hw',rw'⟩:=mQ.some_of (v:=w) (o:=Nh ws k) (by rw[← ew];exact rel.val k)
   rw[hv'] at hw';cases hw';exact⟨w,H,I.tok _,rw',q⟩
  ·have:Nh ws k=none:=mQ.none_of (by rw[← en];exact rel.val k)
   rw[this] at hv';cases hv'
 ·rcases q with⟨w,ew,_⟩|⟨en,q⟩
  ·obtain⟨w',hw',_⟩:=mQ.some_of (v:=w) (o:=Nh ws k) (by rw[← ew];exact rel.val k)
   rw[hn] at hw';cases hw'
  ·have hl2:(putK kvs k y).length<=sizeLine:=by have:=dv kvs k y;omega
   have he:∃q,h'.get? a=some q:=let ⟨q,_,_,hq,_⟩:=dd';⟨q,hq⟩
   exact⟨y,_,k7 I (by rw[hH];exact P0) hs he (xG hl2 hd (rel.put k r2) dd'),r2,q⟩
variable[TW]
end PU
namespace PU
open PySem PySem.Spec PyProof.Rows L2 PySem.SeqAt
variable[TW]
abbrev jP(js:List Int):PV:=.lst (js.map PV.int)
end PU
namespace PU
open PySem PySem.Spec PyProof.Rows L2
theorem fsc{N ps:List Str}{sc:Scope}(a:sc.kind=.function:=by rfl)(b:sc.isCoroutine=false:=by rfl)(c:sc.isGenerator=false:=by rfl)(d:N.Nodup:=by decide +kernel)(e:N.take ps.length=ps:=by rfl)
  (f:∀x∈ps,sc.names.lookup x=some .local\/sc.names.lookup x=some .cell:=by decide +kernel) (g:∀y∈sc.names,y.2≠.free:=by decide +kernel):FnScope N ps sc:=⟨a,b,c,d,e,f,g⟩
theorem cok{N ps NX N':List Str}{S scX scope:Scope}{nt:Nat}{idx:List Nat}(_:FnScope N ps S)(e1:NX=N:=by rfl)(e2:scX=S:=by rfl)(a:scope.kind=.function:=by rfl)(b:∀y∈scope.names,y.2≠.cell:=by decide +kernel)
  (c:∀y∈scope.names,y.2=.local->scope.names.lookup y.1=some .local:=by decide +kernel) (d:∀y∈scope.names,y.2=.free->S.names.lookup y.1=some .cell\/S.names.lookup y.1=some .free:=by decide +kernel) (e:N'.length=nt+idx.length:=by rfl)
  (f:(idx.zip (N'.drop nt)).all (fun p=>decide (N[p.1]?=some p.2) && decide (scope.names.lookup p.2=some .free))=true:=by decide +kernel):CompOk NX scX scope N' nt idx:=by
 subst e1 e2;exact⟨a,b,c,d,e,f⟩
def Has(K:M8)(n:Str)(st:Stmt):Prop:=∃(f:Addr)(oc kV dc pm cd ct:M9)(od an:Option Addr)(sl:Array (Option M9)),NK K mainGlobals n=some (some (.ref f))/\
 K.lookup f=some ⟨oc,od,.func (NZ n n (dP st) (bh st) (ai st) .none kV dc pm an cd ct),sl⟩/\OC K cd n=true/\Np K (.ref f)=true
theorem Has.of{K:M8}{n:Str}{st:Stmt}{f:Addr}{oc kV dc pm cd ct:M9}{od an:Option Addr}{sl:Array (Option M9)}(a:NK K mainGlobals n=some (some (.ref f)))
  (l:K.lookup f=some ⟨oc,od,.func (NZ n n (dP st) (bh st) (ai st) .none kV dc pm an cd ct),sl⟩) (c:OC K cd n=true) (k:Np K (.ref f)=true):Has K n st:=⟨_,_,_,_,_,_,_,_,_,_,a,l,c,k⟩
def Hs(K:M8)(mg:Str->Option M9)(n:Str)(st:Stmt):Prop:=∃f fd,Fun K n n st f fd/\mg n=some (.ref f)
theorem Has.fn{K:M8}{n:Str}{st:Stmt}{h:Heap}{mg:Str->Option M9}(x:Has K n st)(X:K.In h)(G:h.Ns mainGlobals mg):Hs K mg n st:=by
 obtain⟨f,_,_,_,_,_,_,_,_,_,a,l,c,k⟩:=x;exact⟨f,_,tm l c k,PJ X G a⟩
variable[TW]
section
variable{C : Cn}{pos : Nt}
theorem ax(i:Nat){x:Str}(hN:C.X.N[i]?=some x:=by rfl)(hv:Vis C.X.env.scope x:=by first | exact .inl rfl | exact .inr (.inl rfl) | exact .inr (.inr rfl))
  (hd:(x == ("__debug__":Str))=false:=by decide) (hcd:(x == ("__classdict__":Str))=false:=by decide):EO C (.Name x pos) (ah i):=(az i hN hv hd hcd).o
theorem aj{i j}:EO C (.Constant (.int i) j pos) (kI i):=aY.o
theorem dq{i j}:EO C (.Constant (.str i) j pos) (kS i):=aX.o
theorem vo{C:Cn}{N':List Str}{scope:Scope}{cl}{L}{s}{H}{fp}(i:Nat){x:Str}(hi:N'[i]?=some x:=by rfl)(hx:Loc (dW C N' scope cl L s H fp).X.env.scope x:=by first | exact .inl rfl | exact .inr rfl)(hN:N'.Nodup:=by decide +kernel)
  (hf:(dW C N' scope cl L s H fp).X.fn x=true\/(dW C N' scope cl L s H fp).X.env.scope.names.lookup x=some .local:=by first | exact .inl rfl | exact .inr rfl | assumption):TCt (dW C N' scope cl L s H fp) (.Name x pos) (av i):=BV i hN hi hx hf
end
section
variable{P : Md}{w : Ml}{K : M8}{mg : Str → Option M9}{base : Heap}{x : Str}{st : Stmt}{N ps : List Str}{k : Nat}{g : PSt → R Fl}
theorem ja(h:Hs K mg x st)(S:FnScope N ps (ai st))
  (hbody:∀(f:Addr)(cdv:M9)(A:Mt)(outer:List RB)(s:MD)(H:Hp)(E:XK),Room k (A.deeper (PB x (ai st) s.heap.objs.size f cdv))->SVs (DQ P w K mg base N x (ai st) f cdv A outer s H E) (bh st) g)
  (hb:∀(kV doc pm:M9)(an:Option Addr)(cdv ct:M9)(us:List M9),us.length=ps.length->Rg (NZ x x (dP st) (bh st) (ai st) .none kV doc pm an cdv ct) ⟨us,[]⟩=pure (ps.zip us):=by
   intro _ _ _ _ _ _ us hl;repeat' (first | (exfalso;simp only[O8] at hl;omega) | (rcases us with _ | ⟨_,us⟩) | rfl)) :
  PF P w K mg base (k+1) x (eI ps.length N.length g):=by
 obtain⟨f,fd,F,hm⟩:=h;exact J8 F S hm (F.binds hb) (hbody f)
theorem FB(h:Hs K mg x st)(S:FnScope N ps (ai st))
  (hbody:∀(f:Addr)(cdv:M9)(A:Mt)(outer:List RB)(s:MD)(H:Hp)(E:XK),Room k (A.deeper (PB x (ai st) s.heap.objs.size f cdv))->SVN (DQ P w K mg base N x (ai st) f cdv A outer s H E) (bh st) g)
  (hb:∀(kV doc pm:M9)(an:Option Addr)(cdv ct:M9)(us:List M9),us.length=ps.length->Rg (NZ x x (dP st) (bh st) (ai st) .none kV doc pm an cdv ct) ⟨us,[]⟩=pure (ps.zip us):=by
   intro _ _ _ _ _ _ us hl;repeat' (first | (exfalso;simp only[O8] at hl;omega) | (rcases us with _ | ⟨_,us⟩) | rfl)) :
  PFN P w K mg base (k+1) x (runN ps.length N.length g):=by
 obtain⟨f,fd,F,hm⟩:=h;exact Cv F S hm (F.binds hb) (hbody f)
end
end PU
namespace PU
open PySem PySem.Spec PyProof.Rows L2 HT
theorem iL{prog:Md}{w:Ml}{A:Mt}{E:M9->MD->Prop}{s:MD}{t sl:Addr}{items:Array M9}{vl vu:M9}{lo hi:Option Int}{Q:M9->MD->Prop}(ht:IsTup s.heap t items)(hs:s.heap.IsSliceOf sl vl vu .none)(pl:Qs vl lo)(pu:Qs vu hi)
  (hw:sIx items.size 0 lo=0/\sIx items.size items.size hi=items.size)
  (h:Q (.ref t) s):Mf (Ms prog w) A (Qw (.ref t) (.ref sl)) Q E s:=by
 obtain⟨os,hos,hcs,hds⟩:=id hs;have hTs:s.TypeIs (.ref sl) "slice":=⟨os,hos,hcs⟩;unfold Qw
 try with_reducible refine O5 ?_
 first | refine MA (MK ?_) | skip
 refine MA (wpAny_sequenceKey ht.typeIs (by decide) ?_)
 refine MA (QR (name:=MH "__getitem__") ht.typeIs NO
  (QP NO ht.typeIs entry_tuple_getitem ?_ (args_tuple_getitem _ _)))
 show Mf _ _ (PP (.ref t) >>= _) _ _ s;refine MA (tupleItemsOf_ ht ?_);refine MA (PZ hTs ?_);rw[if_pos (by decide)];refine MA (gn hs pl pu ?_)
 have hyes:((((sIx items.size 0 lo:Nat):Int) == 0 && (1:Int) == 1 && (sIx items.size items.size hi-sIx items.size 0 lo) == items.size)=true):=by
  rw[hw.1,hw.2];simp
 show Mf _ _ (if (((sIx items.size 0 lo:Nat):Int) == 0 && (1:Int) == 1 && (sIx items.size items.size hi-sIx items.size 0 lo) == items.size)=true then _ else _) _ _ s;rw[if_pos hyes];unfold Builtin.Tuple.tupleIsExact;refine MA (MA (PZ ht.typeIs (MK ?_)));rw[if_pos (by decide)];refine MA (Q1 ?_)
 first
  | exact MK ⟨_,rfl,MK h⟩
  | exact MA (MK (MK ⟨_,rfl,MK h⟩))
  | exact MK (MK ⟨_,rfl,MK h⟩)
variable[TW]
def I8:PV->Option Int->Option Int->Option PV
 | .tup ps,lo,hi=>some (.tup (qG ps lo hi))
 | _,_,_=>none
def so(f:PSt->R PV)(l h:PSt->R (Option Int)):PSt->R PV:=fun ρ=>f ρ >>= fun p=>l ρ >>= fun lo=>h ρ >>= fun hi=>R.ofO (I8 p lo hi)
def IX(K:M8):V->Option Int->Option Int->Hp->VK->Prop:=fun v lo hi H Q=>∃p z,bp K H p v/\I8 p lo hi=some z/\∀w H',Same H H'->Rep K H' z w->Q w H'
theorem Lc{X:Cx}:SlR X (IX X.K):=by
 intro pins s σ H x v vl vu lo hi sl Q I rx hs pl pu ⟨p,z,rp,ez,k⟩;cases p with
 | tup ps=>
  cases ez;obtain⟨a,xs,rfl,g,rr⟩:=bp.tup_inv rp
  by_cases hw:HT.sIx ps.length 0 lo=0/\HT.sIx ps.length ps.length hi=ps.length
  ·cases rx
   obtain⟨its,r,ht,hz⟩:=I.tuple g;have hlen:its.toArray.size=ps.length:=by rw[Mj,rr.length];exact r.length.symm
   refine⟨"tuple",_,NO.lookup,ht.typeIs,?_⟩;refine iL ht hs pl pu (by rw[hlen];exact hw) ⟨.ref a,H,I,rfl,k _ H (Same.refl H) ?_⟩
   have e:qG ps lo hi=ps:=by
    unfold qG;rw[hw.1,hw.2];simp
   rw[e];exact rp
  ·exact AH pins s σ H _ v vl vu lo hi sl Q I rx hs pl pu ⟨a,xs,rfl,g,by rw[← rr.length];exact hw,fun b hb=>k _ _ (Same.new hb) ⟨b,_,rfl,ay,(oV rr lo hi).same (Same.new hb)⟩⟩
 | _=>cases ez
theorem xt{C:Cn}{e:Expr}{f:PSt->R PV}{lo hi:Option Expr}{l h:PSt->R (Option Int)}{pos p2:Nt}(ha:EO C e f)(hl:EOI C lo l)(hh:EOI C hi h):EV C (.Subscript e (.Slice lo hi none p2) pos) (so f l h):=by
 intro pins s σ H Q I ⟨ρ,vw,q⟩;refine ow Lc ha hl hh pins s σ H Q I ⟨ρ,vw,q.bind.imp fun p _ k v H1 s1 r1=>⟨ρ,vw.same s1,(k.bind.same s1).imp fun o1 _ k2 H2 s2=>⟨ρ,(vw.same s1).same s2,(k2.bind.same (s1.trans s2)).imp fun o2 _ k3 H3 s3=>?_⟩⟩⟩;obtain⟨z,ez,k4⟩:=k3.ofO;exact⟨p,z,(r1.same s2).same s3,ez,fun w H4 s4 r4=>k4 w H4 (((s1.trans s2).trans s3).trans s4) r4⟩
end PU
namespace PU
open PySem PySem.Spec PyProof.Rows L2 PySem.SeqAt
section
variable{prog : Md}{w : Ml}{K : Type}[DecidableEq K]{knd : Sg prog w K}{A : Mt}{E : M9 → MD → Prop}{s : MD}
theorem lg{d a:Addr}{xs:List (K×Addr×M9)}{k:K}{v:M9}{Q:M9->MD->Prop}(hu:knd.room A)(hkey:knd.is s.heap k a)(hm:s.heap.DictOfH knd d xs)(hsz:xs.length<=sizeLine)
  (h1:∀p,QJ xs k=some p->Q p.2 { s with toks:=s.toks+knd.draws k })
  (h2:QJ xs k=none->∀h',h'.DictOfH knd d (storedH xs k a v)->OM d s.heap h'->Q v { s with heap:=h',toks:=s.toks+knd.draws k }) :
  Mf (Ms prog w) A (Sa d (.ref a) v) Q E s:=by
 obtain⟨o,es,ep,ho,hc,hd,he,his,hn⟩:=hm;unfold Sa
 try with_reducible refine O5 ?_
 refine MA (knd.pyHash hu hkey (MA (wpAny_dictFind_heap (s:={ s with toks:=s.toks+knd.draws k }) hu hkey ho hd he his hn (fun hno=>?_) fun j p hj=>?_)))
 ·have ha:=atKey_none_of_get hno
  have hnot:k ∉ xs.map (·.1):=not_mem_keys_of_get hno;refine MA (Q1 (MA (wpAny_updateDictKeys (hz:=by have e:=size_of_entries he;omega) (s:={ s with toks:=s.toks+knd.draws k }) ho hd (MK (h2 ha _ ⟨_,_,ep+1,PL _ ho (Obj.isFreed_of_dict (T7 hd _)),hc.mapDictKeys _,T7 hd _,?_,?_,?_⟩ (Q6 ..))))))
  ·rw[storedH_new ha]
   simp[he,entryOfKey]
  ·rw[storedH_new ha]
   intro x hx;rcases Mz.mp hx with hx | hx
   ·exact knd.keeps (his x hx) ho hd (Q6 ..)
   ·cases MQ.mp hx
    exact knd.keeps hkey ho hd (Q6 ..)
  ·rw[storedH_new ha,Mc,NY]
   exact⟨hn,by simp,fun x hx y hy e=>by cases MQ.mp (show y∈[k] from hy);exact hnot (e▸hx)⟩
 ·refine MA (Og (s:={ s with toks:=s.toks+knd.draws k }) ho hd ?_)
  rw[entry_at he j,hj];exact MA (Q1 (MK (h1 p (atKey_of_get hn hj))))
theorem jT(knd:Sg prog w K)(d a:Addr)(hd:(d == N6)=false)(dflt:M9) :
  MeetsIn prog w (Qy.«dict.setdefault» ⟨[.ref d,.ref a,dflt],[]⟩) (fun A R s=>knd.room A.in1/\∃k xs,knd.is s.heap k a/\s.heap.DictOfH knd d xs/\xs.length<=sizeLine/\
   (∀p,QJ xs k=some p->R (.ok (.ret p.2)) { s with toks:=s.toks+knd.draws k })/\
   (QJ xs k=none->∀h',h'.DictOfH knd d (storedH xs k a dflt)->OM d s.heap h'->R (.ok (.ret dflt)) { s with heap:=h',toks:=s.toks+knd.draws k })):=
 .of_wp fun A R s ⟨hu,k,xs,hkey,hm,hz,h1,h2⟩=>by
  unfold Qy.«dict.setdefault»;refine MA ?_;unfold Builtin.Dict.keyAndDefault;refine MA (Qf hm.typeIs ?_);show Mf _ _ (pure (d,Ni a,some dflt)) _ _ s;refine MK ?_;show Mf _ _ (if (d == N6)=true then _ else (Sa d (.ref a) dflt >>= _)) _ _ s;rw[if_neg (by rw[hd];exact MO)];exact MA (lg hu hkey hm hz (fun p hp=>MK ⟨p.2,rfl,h1 p hp⟩) fun hn h' hm' hs'=>MK ⟨dflt,rfl,h2 hn h' hm' hs'⟩)
end
def vy(i:Nat)(fk fv:PSt->R PV):PSt->R Fl:=fun ρ=>match ρ[i]? with
 | some (.own (.dtt ks ps))=>fk ρ >>= fun kp=>fv ρ >>= fun p=>R.ofO (l9 kp) >>= fun k=>if ks.length<16777216 then .ok (.next (if (ks.any fun j=>decide (j=k))=true then ρ else ρ.set i (.own (uW ks ps k p)))) else .no
 | _=>.no
def IY:V->List V->Hp->VK->Prop:=fun x vs H Q=>∃a b kvs k v,x=.ref a/\vs=[.ref b,v]/\H a=some (.dT kvs)/\fg H b k/\kvs.length<sizeLine/\
 ((∃w,jB kvs k=some w/\Q w H)\/(jB kvs k=none/\Q v (upd H a (.dT (putK kvs k v)))))
theorem D4 {X:Cx} (hu:X.A.units+64<cLine):MtM X "dict.setdefault" IY:=by
 intro pins s σ H x vs v us Q I rx rv h;obtain⟨a,b,kvs,k,y,rfl,rfl,hH,hb,hl,q⟩:=h;cases rx;obtain⟨u1,u2,rfl,r1,r2⟩:=Vals.two rv;cases r1;obtain⟨z,hd,ws,rel,dd⟩:=DC I.hok hH;have hz:ws.length<=sizeLine:=by rw[← N3 rel];exact z
 refine Rf OL dd.typeIs Qx (Qt _ _ _) (jT (gc X.prog X.w) a b hd u2) ⟨jc (by omega),k,ws,key_of I.hok hb,dd,hz,fun p hp=>?_,fun hn h' dd' hs=>?_⟩
 ·rcases q with⟨w,ew,q⟩|⟨en,_⟩
  ·obtain⟨w',hw',rw'⟩:=mQ.some_of (v:=w) (o:=(QJ ws k).map (·.2)) (by rw[← ew];exact rel.val k)
   rw[hp] at hw';cases hw';exact⟨w,H,I.tok _,rw',q⟩
  ·have:(QJ ws k).map (·.2)=none:=mQ.none_of (by rw[← en];exact rel.val k)
   rw[hp] at this;cases this
 ·rcases q with⟨w,ew,_⟩|⟨en,q⟩
  ·obtain⟨w',hw',_⟩:=mQ.some_of (v:=w) (o:=(QJ ws k).map (·.2)) (by rw[← ew];exact rel.val k)
   rw[hn] at hw';cases hw'
  ·have hl2:(putK kvs k y).length<=sizeLine:=by have:=dv kvs k y;omega
   obtain⟨q',es,ep,hq,h2,h3,h4,_,h5⟩:=dd';refine⟨y,upd H a (.dT (putK kvs k y)),k7 (ob:=.dT (putK kvs k y)) I (by rw[hH];exact P0) hs ⟨q',hq⟩ ⟨hl2,hd,_,(rel.put k hb r2).keeps fun c ys ec=>?_,q',es,ep,hq,h2,h3,h4,h5⟩,r2,q⟩;rw[aB (CZ ec hH (fun z=>nomatch z))];exact ec
variable[TW]
theorem BZ{C:Cn}{pos apos cpos:Nt}{ke e:Expr}{fk fv:PSt->R PV}(i:Nat){x:Str}{np:Nt}(hu:C.X.A.units+64<cLine)(hk:EV C ke fk)(he:EV C e fv)(hN:C.X.N[i]?=some x:=by rfl)(hv:Vis C.X.env.scope x:=by first | exact .inl rfl | exact .inr (.inl rfl) | exact .inr (.inr rfl))
  (hs:MZ [ke,e] C.X.env=[(false,NJ ke C.X.env),(false,NJ e C.X.env)]:=by rfl) (hs2:MZ [e] C.X.env=[(false,NJ e C.X.env)]:=by exact c6 rfl)
  (hb:Od (.Name x np) "setdefault" C.X.env (NJ (.Name x np) C.X.env)=NJ (.Name x np) C.X.env:=by rfl) (hline:(apos.endLine == cpos.line)=true:=by rfl)
  (hd:(x == ("__debug__":Str))=false:=by decide) (hcd:(x == ("__classdict__":Str))=false:=by decide):SV C (.Expr (.Call (.Attribute (.Name x np) "setdefault" apos) [ke,e] [] cpos) pos) (vy i fk fv):=by
 intro pins s σ H D I ⟨ρ,B,S,q⟩;unfold vy at q;split at q
 ·rename_i ks ps e1
  obtain⟨a,e2,kvs,hx,ek,rr⟩:=S.vw i _ e1;refine vK (zw Px OL RA (D4 hu) (fG hN hv hd hcd) (c5 hk (c5 he gI hs2) (by rw[hs,hs2])) hb (by rw[hs];rfl) hline (by rw[hs,hs2]) (by rw[hs2];rfl)) (by rfl) pins s σ H D I ?_;refine⟨_,e2,.inr (.inr (.inl ⟨rfl,.inr ⟨kvs,hx⟩⟩)),ρ,S.vw,(RS.bind q S.same).imp fun kp _ q1 y H1 s1 r1=>⟨ρ,S.vw.same s1,(q1.bind (S.same.trans s1)).imp fun p _ q2 v H2 s2 r2=>?_⟩⟩;obtain⟨k,e3,q3⟩:=RS.ofO q2
  by_cases hl:ks.length<16777216
  ·rw[if_pos hl] at q3
   obtain⟨b,rfl,hb'⟩:=iT e3 (r1.same s2).o;subst ek;have hx2:H2 a=some (.dT kvs):=s2 _ _ (s1 _ _ hx);refine⟨a,b,kvs,k,v,rfl,rfl,hx2,hb',by rw[N7];simpa using hl,?_⟩;have hany:((kvs.map (·.1)).any fun j=>decide (j=k))=(jB kvs k).isSome:=sd.symm;cases ev:jB kvs k with
   | some w=>
    rw[ev] at hany;have hany:((kvs.map (·.1)).any fun j=>decide (j=k))=true:=hany;rw[if_pos hany] at q3;exact .inl ⟨w,rfl,q3 σ H2 ((S.grow s1).grow s2)⟩
   | none=>
    rw[ev] at hany;have hany:((kvs.map (·.1)).any fun j=>decide (j=k))=false:=hany;rw[if_neg (by rw[hany];exact MO)] at q3;refine .inr ⟨rfl,?_⟩;have kp:Kp H2 (upd H2 a (.dT (putK kvs k v))):=Kp.upd hx2 rfl;refine q3 σ _ (((S.grow s1).grow s2).turn e1 e2 (fun b hb=>aB hb) ⟨a,rfl,?_⟩);exact sF (aH.kp kp _ ((rr.same s1).same s2)) (Rep.kp kp _ r2) ay
  ·rw[if_neg hl] at q3
   exact MI q3
 ·exact MI q
omit [TW] in
theorem ux{prog:Md}{w:Ml}{K:Type}[DecidableEq K](knd:Sg prog w K)(d:Addr)(hd:(d == N6)=false) :
  MeetsIn prog w (Qy.«dict.__len__» ⟨[.ref d],[]⟩) (fun _ R s=>∃xs,s.heap.DictOfH knd d xs/\R (.ok (.ret (.int xs.length s.toks))) { s with toks:=s.toks+1 }):=
 .of_wp fun A R s ⟨xs,hm,h⟩=>by
  obtain⟨o,es,ep,ho,hc,hdt,he,his,hn⟩:=hm;have hz:=size_of_entries he;show Mf _ _ (dictSize d >>= _) _ _ s;unfold dictSize;refine MA (MA (Og ho hdt (MK ?_)));show Mf _ _ (Builtin.Dict.pendingCount d >>= _) _ _ s;refine MA (wpAny_pendingCount_other hd (wpAny_ret_mkInt ?_));rw[hz];have e:((xs.length:Nat):Int)+((0:Nat):Int)=(xs.length:Int):=by omega
  rw[e];exact h
omit [TW] in
theorem wA{prog:Md}{w:Ml}{K:Type}[DecidableEq K]{knd:Sg prog w K}{A:Mt}{E:M9->MD->Prop}{s:MD}{d:Addr}{xs:List (K×Addr×M9)}{Q:M9->MD->Prop}(hd:(d == N6)=false)(hm:s.heap.DictOfH knd d xs)(hz:(xs.length:Int)<2 ^ 63)
  (h:Q (.int xs.length (s.toks+1)) { s with toks:=s.toks+1+1 }):Mf (Ms prog w) A (call (.builtin "len") [.ref d]) Q E s:=by
 refine Calls.call_function_entry kind_len plain_len entry_len (args_len1 _) ?_;unfold Qy.«len»;refine MA (m:=oneArg "len" _) (MK ?_)
 refine MA (m:=callSpecial? (.ref d) (MH "__len__")) (QR (name:=MH "__len__") hm.typeIs QE
  (Rf QE hm.typeIs PySem.F.entry_dict_len (PySem.F.args_dict_len_1 _) (ux knd d hd) ⟨xs,hm,?_⟩))
 show Mf _ _ _ _ _ { s with toks:=s.toks+1 };refine MA (O5 (MK ?_));refine MA (wpAny_letGo ?_);show Mf _ _ (if ((xs.length:Nat):Int)<0 then _ else _) _ _ _;rw[if_neg (by omega)];show Mf _ _ (if ((xs.length:Nat):Int) ≥ 2 ^ 63 then _ else _) _ _ _;rw[if_neg (by omega)];exact MA (wpAny_mkInt (MK ⟨_,rfl,h⟩))
def uD:PV->Option PV
 | .dtt ks _=>some (.int ks.length)
 | _=>none
theorem DV {X:Cx}:iy X (.builtin "len") (r1 X.K uD):=by
 intro pins s σ H xs us Q I r ⟨v,p,z,e1,rp,ez,k⟩;subst e1;cases p with
 | dtt ks ps=>
  cases ez;obtain⟨a,kvs,rfl,g,e1,rr⟩:=rp;obtain⟨u,rfl,ru⟩:=vals1 r;cases ru;obtain⟨hz,hS,ws,rel,dd⟩:=uJ I.hok g;have hlen:kvs.length=ws.length:=N3 rel;have hs:=N7;subst e1;rw[MG,hlen] at k;exact wA hS dd (by omega) ⟨.int ws.length,H,I.tok _,⟨_,rfl⟩,k _ H (Same.refl H) rfl⟩
 | _=>cases ez
end PU
namespace PU
open PySem PySem.Spec PyProof.Rows L2 PySem.SeqAt
def neK(f2:PSt->R PV)(g:PSt->R Fl)(w:PV)(ρ:PSt):R Fl:=f2 ρ >>= fun q=>R.ofO (gNe w q) >>= fun z=>(match z with
 | .bl true=>g ρ
 | .bl false=>.ok (.next ρ)
 | _=>.no)
def ko(i:Nat)(fk fv f2:PSt->R PV)(g:PSt->R Fl):PSt->R Fl:=fun ρ=>match ρ[i]? with
 | some (.own (.dct ks ps))=>fk ρ >>= fun kp=>fv ρ >>= fun p=>R.ofO (eV kp) >>= fun k=>if ks.length<16777216 then (match bM ks ps k with
  | some w=>neK f2 g w ρ
  | none=>neK f2 g p (ρ.set i (.own (iJ ks ps k p)))) else .no
 | _=>.no
variable[TW]
theorem sk{C:Cn}{pos apos cpos tpos:Nt}{ke e e2:Expr}{body:List Stmt}{fk fv f2:PSt->R PV}{g:PSt->R Fl}(i:Nat){x:Str}{np:Nt}(hu:C.X.A.units+64<cLine)(hk:EV C ke fk)(he:EV C e fv)(h2:EO C e2 f2)(hb':SVs C body g)(hN:C.X.N[i]?=some x:=by rfl)(hv:Vis C.X.env.scope x:=by first | exact .inl rfl | exact .inr (.inl rfl) | exact .inr (.inr rfl))
  (hs:MZ [ke,e] C.X.env=[(false,NJ ke C.X.env),(false,NJ e C.X.env)]:=by rfl) (hs2:MZ [e] C.X.env=[(false,NJ e C.X.env)]:=by exact c6 rfl)
  (hb:Od (.Name x np) "setdefault" C.X.env (NJ (.Name x np) C.X.env)=NJ (.Name x np) C.X.env:=by rfl) (hline:(apos.endLine == cpos.line)=true:=by rfl)
  (hd:(x == ("__debug__":Str))=false:=by decide) (hcd:(x == ("__classdict__":Str))=false:=by decide):SV C (.If (.Compare (.Call (.Attribute (.Name x np) "setdefault" apos) [ke,e] [] cpos) [.NotEq] [e2] tpos) body [] pos) (ko i fk fv f2 g):=by
 intro pins s σ H D I ⟨ρ,B,S,q⟩;unfold ko at q;split at q
 ·rename_i ks ps e1
  obtain⟨a,e2',kvs,hx,ek,rr⟩:=S.vw i _ e1;refine Cp (vI (FQ hu) (zw Px OL RA D3 (fG hN hv hd hcd) (c5 hk (c5 he gI hs2) (by rw[hs,hs2])) hb (by rw[hs];rfl) hline (by rw[hs,hs2]) (by rw[hs2];rfl)) h2 (wb _)) hb' qU pins s σ H D I ?_;refine⟨_,e2',.inr (.inr (.inl ⟨rfl,.inl ⟨kvs,hx⟩⟩)),ρ,S.vw,(RS.bind q S.same).imp fun kp _ q1 y H1 s1 r1=>⟨ρ,S.vw.same s1,(q1.bind (S.same.trans s1)).imp fun p _ q2 v H2 s2 r2=>?_⟩⟩;obtain⟨k,e3,q3⟩:=RS.ofO q2
  have fin:∀(w:PV)(v:V)(ρ':PSt)(H':Hp),StOk C.X.K B H' σ ρ'->Rep C.X.K H' w v->RS C B D (neK f2 g w ρ')->(∃ρ,View C.X.K H' σ ρ/\RQ C H' (f2 ρ) fun p=>∀u H2,Same H' H2->bp C.X.K H2 p u->rP C.X.K gNe v u H2 fun z H3=>∃k,z=.bl k/\(if k=true then (∃ρ B,StOk C.X.K B H3 σ ρ/\RS C B D (g ρ)) else D.nx σ H3)):=by
   intro w v ρ' H' S' rw' q';refine⟨ρ',S'.vw,(RS.bind q' S'.same).imp fun p2 _ q4 u H3 s3 r3=>?_⟩;obtain⟨z,ez,q5⟩:=RS.ofO q4;obtain⟨b,rfl⟩:=oO _ _ _ ez;refine⟨w,p2,.bl b,(rw'.same s3).o,r3,ez,fun z' H4 s4 r4=>?_⟩;cases (show z'=.bl b from r4);refine⟨b,rfl,?_⟩;cases b with
   | true=>exact Dh ⟨ρ',B,(S'.grow s3).grow s4,q5⟩
   | false=>exact Di (q5 σ H4 ((S'.grow s3).grow s4))
  by_cases hl:ks.length<16777216
  ·rw[if_pos hl] at q3
   have hy:=dC e3 r1.o;subst hy;have hx2:H2 a=some (.dK kvs):=s2 _ _ (s1 _ _ hx);refine⟨a,kvs,k,v,rfl,rfl,hx2,by rw[N7,← MG (f:=(·.1)),ek];exact hl,?_⟩;cases el:bM ks ps k with
   | some w=>
    rw[el] at q3;obtain⟨wv,ev,rw'⟩:=gM ek ((rr.same s1).same s2) el;exact .inl ⟨wv,ev,fin w wv ρ H2 ((S.grow s1).grow s2) rw' q3⟩
   | none=>
    rw[el] at q3;have en:=jU ek ((rr.same s1).same s2) el;subst ek;have kp:Kp H2 (upd H2 a (.dK (putK kvs k v))):=Kp.upd hx2 rfl;exact .inr ⟨en,fin p v (ρ.set i (.own (iJ (kvs.map (·.1)) ps k p))) (upd H2 a (.dK (putK kvs k v))) (((S.grow s1).grow s2).turn e1 e2' (fun b hb=>aB hb) ⟨a,rfl,eJ (aH.kp kp _ ((rr.same s1).same s2)) (Rep.kp kp _ r2) ay⟩) (Rep.kp kp _ r2) q3⟩
  ·rw[if_neg hl] at q3
   exact MI q3
 ·exact MI q
end PU
namespace PU
open PySem PySem.Spec PyProof.Rows L2 PySem.SeqAt
def uY:List Int->Int
 | []=>0
 | [x]=>x
 | x::r=>max x (uY r)
theorem oE:∀l:List Int,l≠[]->uY l∈l
 | [],h=>absurd rfl h
 | [x],_=>by simp[uY]
 | x::y::r,_=>by
  have ih:=oE (y::r) (by simp);show max x (uY (y::r))∈_;rcases Int.le_total x (uY (y::r)) with h | h
  ·rw[Int.max_eq_right h];exact Me _ ih
  ·rw[Int.max_eq_left h];exact Mh
theorem rf:∀(l:List Int)(a:Int),a∈l->a<=uY l
 | [],a,h=>nomatch h
 | [x],a,h=>by rw[MQ.mp h];exact Int.le_refl _
 | x::y::r,a,h=>by
  show a<=max x (uY (y::r));rcases MP.mp h with e | h
  ·rw[e];exact Int.le_max_left _ _
  ·exact Int.le_trans (rf (y::r) a h) (Int.le_max_right _ _)
def rJ:PV->Option PV
 | .lst ps=>(qd ps).bind fun l=>if l=[] then none else some (.int (uY l))
 | _=>none
variable[TW]
theorem t5{K:M8}{H:Hp}:∀{ps:List PV}{xs:List V}{us:List M9}{l:List Int},qd ps=some l->aH K H ps xs->Vals xs us->∃qs:List (Int×Tok),us=qs.map (fun p=>Ry p.1 p.2)/\qs.map (·.1)=l
 | [],_,_,_,e,r,rv=>by cases e;cases r;cases rv;exact⟨[],rfl,rfl⟩
 | p::ps,_,_,_,e,⟨x,t,ex,h1,h2⟩,rv=>by
  subst ex;cases p with
  | int y=>
   obtain⟨r,er,ez⟩:=MR.mp (show (qd ps).map (y::·)=some _ from e);subst ez;cases (show x=.int y from h1);cases rv with
   | cons a b=>
    obtain⟨t,rfl⟩:=a;obtain⟨qs,e1,e2⟩:=t5 er h2 b;exact⟨(y,t)::qs,by rw[e1];rfl,by rw[← e2];rfl⟩
  | _=>cases e
theorem Hg {X:Cx} (hc:X.calm=true:=by rfl):iy X (.builtin "max") (r1 X.K rJ):=by
 intro pins s σ H xs us Q I r ⟨v,p,z,e1,rp,ez,k⟩;subst e1;unfold rJ at ez;split at ez
 ·rename_i ps
  obtain⟨l,el,ez⟩:=MU.mp ez;split at ez
  ·cases ez
  ·rename_i hne
   cases ez;obtain⟨a,zs,rfl,g,rr⟩:=bp.lst_inv rp;obtain⟨u,rfl,ru⟩:=vals1 r;cases ru;obtain⟨_,its,n,rv,eg⟩:=g.is I;obtain⟨qs,e1,e2⟩:=t5 el rr rv;have hl:s.heap.IsList a (intItems qs.toArray):=⟨_,eg,rfl,n,by rw[e1];simp[intItems]⟩
   have hsz:0<qs.toArray.size:=by
    rw[Mj];rcases Nat.eq_zero_or_pos qs.length with z | z
    ·rw[N5 z] at e2
     exact absurd e2.symm hne
    ·exact z
   refine max_intList (I.ok.hd hc) hl hsz fun w h' tk hv hk=>?_;obtain⟨t,rfl⟩:=intItems_at hv;obtain⟨b1,b2⟩:=argBest_gt (numAt qs.toArray) (qs.toArray.size-1);have nl:∀j,numAt qs.toArray j=l.getD j 0:=fun j=>by rw[numAt_eq,← e2]
   have ln:qs.toArray.size=l.length:=by rw[Mj,← e2,MG]
   generalize argBest (fun i j=>decide (numAt qs.toArray i > numAt qs.toArray j)) (qs.toArray.size-1)=m at b1 b2
   have em:numAt qs.toArray m=uY l:=by
    refine Int.le_antisymm (rf l _ ?_) ?_
    ·rw[nl,MS,ME (by omega)]
     exact N0 _
    ·obtain⟨j,hj,e⟩:=OE (oE l hne)
     have:=b2 j (by omega);rw[nl j,MS,ME hj] at this;simp only[Option.getD_some] at this;rw[e] at this;exact this
   exact⟨.int (uY l),H,I.kept (t':=tk) hk,⟨t,by rw[em]⟩,k _ H (Same.refl H) rfl⟩
 ·cases ez
end PU
namespace BF
def fJ:List Nat->List Nat->Bool
 | x::xs,y::ys=>if x=y then fJ xs ys else decide (x<y)
 | _,_=>false
def lt(a b:List Nat):Prop:=a.length<b.length\/(a.length=b.length/\fJ a b=true)
theorem pZ:∀{a b c:List Nat},fJ a b=true->fJ b c=true->fJ a c=true
 | [],_,_,h,_=>by simp[fJ] at h
 | x::xs,[],_,h,_=>by simp[fJ] at h
 | x::xs,y::ys,[],_,h=>by simp[fJ] at h
 | x::xs,y::ys,z::zs,h1,h2=>by
  simp only[fJ] at h1 h2 ⊢
  by_cases e1:x=y
  ·subst e1
   rw[if_pos rfl] at h1
   by_cases e2:x=z
   ·subst e2
    rw[if_pos rfl] at h2 ⊢;exact pZ h1 h2
   ·rw[if_neg e2] at h2 ⊢
    exact h2
  ·rw[if_neg e1] at h1
   by_cases e2:y=z
   ·subst e2
    rw[if_neg e1];exact h1
   ·rw[if_neg e2] at h2
    simp at h1 h2;rw[if_neg (by omega)];simp;omega
theorem lt_trans{a b c:List Nat}(h1:lt a b)(h2:lt b c):lt a c:=by
 unfold lt at *;rcases h1 with h1 | ⟨h1,e1⟩ <;> rcases h2 with h2 | ⟨h2,e2⟩
 ·exact .inl (by omega)
 ·exact .inl (by omega)
 ·exact .inl (by omega)
 ·exact .inr ⟨by omega,pZ e1 e2⟩
theorem sZ(i j:Nat)(h:i<j):∀r:List Nat,fJ (r++[i]) (r++[j])=true
 | []=>by simp[fJ,h];omega
 | x::r=>by
  show (if x=x then _ else _)=true;rw[if_pos rfl];exact sZ i j h r
theorem rg(r:List Nat)(i j:Nat)(h:i<j):lt (r++[i]) (r++[j]):=.inr ⟨by simp,sZ i j h r⟩
theorem sY(i j:Nat):∀a b:List Nat,a.length=b.length->fJ a b=true->fJ (a++[i]) (b++[j])=true
 | [],_,_,h=>by simp[fJ] at h
 | x::xs,[],h,_=>by simp at h
 | x::xs,y::ys,hl,h=>by
  simp only[fJ,OI] at h ⊢
  by_cases e:x=y
  ·rw[if_pos e] at h ⊢
   exact sY i j xs ys (by simpa using hl) h
  ·rw[if_neg e] at h ⊢
   exact h
theorem lS{a b:List Nat}(i j:Nat)(h:lt a b):lt (a++[i]) (b++[j]):=by
 rcases h with h | ⟨h,e⟩
 ·exact .inl (by simp;omega)
 ·exact .inr ⟨by simp[h],sY i j a b h e⟩
theorem wg{S:Type}[DecidableEq S]:∀(l U:List S),l.Nodup->(∀x∈l,x∈U)->l.length<=U.length
 | [],_,_,_=>Nu _
 | x::l,U,nd,h=>by
  have nd':=Mu.mp nd;have hx:x∈U:=h x (by simp)
  have:=wg l (U.erase x) nd'.2 fun y hy=>by
   have hne:y≠x:=fun e=>nd'.1 (e▸hy);exact(List.mem_erase_of_ne hne).mpr (h y (by simp[hy]))
  rw[S9 hx] at this;have:=SU hx;simp;omega
section
variable{S : Type}[DecidableEq S](lead : S → Nat → S)
abbrev Row(S:Type):=S×List Nat
def inn(near:Row S)(found:List (Row S))(i:Nat):List (Row S):=if lead near.1 i∈found.map (·.1) then found else found++[(lead near.1 i,near.2++[i])]
def sweep(near:Row S)(found:List (Row S)):List (Row S):=(MX 13).foldl (inn lead near) found
def bfs:Nat->Nat->List (Row S)->List (Row S)
 | 0,_,found=>found
 | n+1,d,found=>match found[d]? with
  | some near=>bfs n (d+1) (sweep lead near found)
  | none=>found
def run(s0:S)(row:List Nat):S:=row.foldl lead s0
variable(s0 : S)
structure Inv(found:List (Row S)):Prop where
 h0:∃tl,found=(s0,[])::tl
 nd:(found.map (·.1)).Nodup
 srt:found.Pairwise fun a b=>lt a.2 b.2
 run:∀p∈found,run lead s0 p.2=p.1
 rng:∀p∈found,∀i∈p.2,i<13
 len:∀(j:Nat)(p:Row S),found[j]?=some p->p.2.length<=j
def Cl(found:List (Row S))(p:Row S)(i:Nat):Prop:=∃q∈found,q.1=lead p.1 i/\(q.2=p.2++[i]\/lt q.2 (p.2++[i]))
theorem wX(near:Row S)(found:List (Row S))(i:Nat):∃tl,inn lead near found i=found++tl:=by
 unfold inn
 split
 ·exact⟨[],by simp⟩
 ·exact⟨_,rfl⟩
theorem Cl.mono{found tl:List (Row S)}{p:Row S}{i:Nat}(h:Cl lead found p i):Cl lead (found++tl) p i:=by
 obtain⟨q,hq,h1,h2⟩:=h;exact⟨q,by simp[hq],h1,h2⟩
theorem wY{found:List (Row S)}{d:Nat}{near:Row S}{i:Nat}(hi:i<13)(I:Inv lead s0 found)(hd:found[d]?=some near)(top:∀p∈found,lt p.2 (near.2++[i])) :
  Inv lead s0 (inn lead near found i)/\(inn lead near found i)[d]?=some near/\(∀p∈inn lead near found i,lt p.2 (near.2++[i+1]))/\Cl lead (inn lead near found i) near i:=by
 have hdl:d<found.length:=(MB.mp hd).1;have nm:near∈found:=Mk hd;have up:∀p∈found,lt p.2 (near.2++[i+1]):=fun p hp=>lt_trans (top p hp) (rg near.2 i (i+1) (by omega));unfold inn
 split
 ·rename_i hm
  obtain⟨q,hq,e⟩:=MF.mp hm;exact⟨I,hd,up,q,hq,e,.inr (top q hq)⟩
 ·rename_i hm
  refine⟨⟨?_,?_,?_,?_,?_,?_⟩,?_,?_,?_⟩
  ·obtain⟨tl,e⟩:=I.h0
   exact⟨tl++[(lead near.1 i,near.2++[i])],by rw[e];rfl⟩
  ·rw[Mc,NY]
   refine⟨I.nd,by simp,fun a ha b hb e=>?_⟩;simp at hb;subst hb e;exact hm ha
  ·rw[List.pairwise_append]
   refine⟨I.srt,by simp,fun a ha b hb=>?_⟩;rw[MQ.mp hb];exact top a ha
  ·intro p hp
   rcases Mz.mp hp with hp | hp
   ·exact I.run p hp
   ·rw[MQ.mp hp]
    show BF.run lead s0 (near.2++[i])=lead near.1 i;have:=I.run near nm;unfold BF.run at this ⊢;rw[OZ,this];rfl
  ·intro p hp j hj
   rcases Mz.mp hp with hp | hp
   ·exact I.rng p hp j hj
   ·rw[MQ.mp hp] at hj
    rcases Mz.mp hj with hj | hj
    ·exact I.rng near nm j hj
    ·rw[MQ.mp hj];exact hi
  ·intro j p hp
   rw[List.getElem?_append] at hp;split at hp
   ·exact I.len j p hp
   ·rename_i hj
    have e:=MQ.mp (Mk hp);subst e;have:=I.len d near hd;simp;omega
  ·rw[ML hdl];exact hd
  ·intro p hp
   rcases Mz.mp hp with hp | hp
   ·exact up p hp
   ·rw[MQ.mp hp]
    exact rg near.2 i (i+1) (by omega)
  ·exact⟨(lead near.1 i,near.2++[i]),by simp,rfl,.inl rfl⟩
theorem o4{found:List (Row S)}{d:Nat}{near:Row S}(I:Inv lead s0 found)(hd:found[d]?=some near)(top:∀p∈found,lt p.2 (near.2++[0])):∀n,n<=13->
  ∃tl,(MX n).foldl (inn lead near) found=found++tl/\Inv lead s0 (found++tl)/\(∀p∈found++tl,lt p.2 (near.2++[n]))/\∀i<n,Cl lead (found++tl) near i
 | 0,_=>⟨[],by simp,by simpa using I,by simpa using top,fun i h=>absurd h (by omega)⟩
 | n+1,hn=>by
  obtain⟨tl,e,I1,t1,c1⟩:=o4 I hd top n (by omega);have hdl:d<found.length:=(MB.mp hd).1;have hd1:(found++tl)[d]?=some near:=by rw[ML hdl];exact hd
  obtain⟨I2,hd2,t2,c2⟩:=wY lead s0 (i:=n) (by omega) I1 hd1 t1;obtain⟨tl2,e2⟩:=wX lead near (found++tl) n;refine⟨tl++tl2,?_,?_,?_,?_⟩
  ·rw[OS,OZ,e]
   show inn lead near (found++tl) n=_;rw[e2,NQ]
  ·rw[← NQ,← e2];exact I2
  ·rw[← NQ,← e2];exact t2
  ·intro i hi
   rw[← NQ];rcases OA i n with h | h
   ·exact(c1 i h).mono lead
   ·have:i=n:=by omega
    subst this;rw[← e2];exact c2
theorem BJ(U:List S)(hU:∀found,Inv lead s0 found->∀p∈found,p.1∈U):∀(n d:Nat)(found:List (Row S)),Inv lead s0 found->U.length<d+n->
  (∀(j:Nat)(p:Row S),j<d->found[j]?=some p->∀i<13,Cl lead found p i)->(∀near,found[d]?=some near->∀p∈found,lt p.2 (near.2++[0]))->
  Inv lead s0 (bfs lead n d found)/\(∃tl,bfs lead n d found=found++tl)/\∀p∈bfs lead n d found,∀i<13,Cl lead (bfs lead n d found) p i
 | 0,d,found,I,hn,c,top=>by
  refine⟨I,⟨[],by simp[bfs]⟩,fun p hp i hi=>?_⟩;have hp:p∈found:=hp;obtain⟨j,hj⟩:=O9 hp;have hj':=(MB.mp hj).1
  have:=wg (found.map (·.1)) U I.nd fun x hx=>by
   obtain⟨q,hq,e⟩:=MF.mp hx;exact e▸hU found I q hq
  simp at this;exact c j p (by omega) hj i hi
 | n+1,d,found,I,hn,c,top=>by
  unfold bfs
  split
  ·rename_i near hd
   have hdl:d<found.length:=(MB.mp hd).1;obtain⟨tl,e,I1,t1,c1⟩:=o4 lead s0 I hd (top near hd) 13 (by omega);have e:sweep lead near found=found++tl:=e;rw[e]
   obtain⟨J1,⟨tl2,J2⟩,J3⟩:=BJ U hU n (d+1) (found++tl) I1 (by omega) (fun j p hj hp i hi=>by
    rcases OA j d with h | h
    ·rw[ML (by omega)] at hp
     exact(c j p h hp i hi).mono lead
    ·have hjd:j=d:=by omega
     subst hjd;rw[ML hdl,hd] at hp;cases hp;exact c1 i hi) (fun near' hd' p hp=>by
    have h1:lt near.2 near'.2:=by
     have hs:=Oq.mp I1.srt;obtain⟨q1,q2⟩:=MB.mp hd';have hd1:(found++tl)[d]?=some near:=by rw[ML hdl];exact hd
     obtain⟨q3,q4⟩:=MB.mp hd1;have:=hs d (d+1) q3 q1 (by omega);rw[q2,q4] at this;exact this
    have h2:=t1 p hp;exact lt_trans h2 (lS 13 0 h1))
   exact⟨J1,⟨tl++tl2,by rw[J2,NQ]⟩,J3⟩
  ·rename_i hd
   refine⟨I,⟨[],by simp⟩,fun p hp i hi=>?_⟩;obtain⟨j,hj⟩:=O9 hp;have hj':=(MB.mp hj).1;have:=Pu.mp hd;exact c j p (by omega) hj i hi
theorem sweep_keep{found:List (Row S)}{d:Nat}{near:Row S}(I:Inv lead s0 found)(hd:found[d]?=some near)(top:∀p∈found,lt p.2 (near.2++[0])) :
  Inv lead s0 (sweep lead near found)/\(∃tl,sweep lead near found=found++tl)/\∀near',(sweep lead near found)[d+1]?=some near'->∀p∈sweep lead near found,lt p.2 (near'.2++[0]):=by
 have hdl:d<found.length:=(MB.mp hd).1;obtain⟨tl,e,I1,t1,c1⟩:=o4 lead s0 I hd top 13 (by omega);have e:sweep lead near found=found++tl:=e;rw[e];refine⟨I1,⟨tl,rfl⟩,fun near' hd' p hp=>?_⟩
 have h1:lt near.2 near'.2:=by
  have hs:=Oq.mp I1.srt;obtain⟨q1,q2⟩:=MB.mp hd';have hd1:(found++tl)[d]?=some near:=by rw[ML hdl];exact hd
  obtain⟨q3,q4⟩:=MB.mp hd1;have:=hs d (d+1) q3 q1 (by omega);rw[q2,q4] at this;exact this
 exact lt_trans (t1 p hp) (lS 13 0 h1)
theorem inv_len(U:List S)(hU:∀found,Inv lead s0 found->∀p∈found,p.1∈U){found:List (Row S)}(I:Inv lead s0 found):found.length<=U.length:=by
 have:=wg (found.map (·.1)) U I.nd fun x hx=>by
  obtain⟨q,hq,e⟩:=MF.mp hx;exact e▸hU found I q hq
 simpa using this
theorem inv_P(P:S->Prop)(h0:P s0)(hs:∀s,P s->∀i<13,P (lead s i)):∀found,Inv lead s0 found->∀p∈found,P p.1:=by
 have hr:∀(row:List Nat)(s:S),P s->(∀i∈row,i<13)->P (run lead s row):=by
  intro row
  induction row with
  | nil=>intro s h _;exact h
  | cons i row ih=>intro s h hi;exact ih _ (hs s h i (hi i (by simp))) fun j hj=>hi j (by simp[hj])
 intro found I p hp;rw[← I.run p hp];exact hr p.2 s0 h0 (I.rng p hp)
theorem inv_0:Inv lead s0 [(s0,[])]:=by
 refine⟨⟨[],rfl⟩,by simp,by simp,by simp[run],by simp,fun j p h=>?_⟩;have:=MQ.mp (Mk h);subst this;simp
theorem top_0(near:Row S)(h:[((s0,[]):Row S)][0]?=some near):∀p∈[((s0,[]):Row S)],lt p.2 (near.2++[0]):=fun p hp=>by
 have e1:=MQ.mp (Mk h);have e2:=MQ.mp hp;subst e1 e2;exact .inl (by simp)
theorem bfs_all(U:List S)(n:Nat)(hn:U.length<n)(hU:∀found,Inv lead s0 found->∀p∈found,p.1∈U) :
  Inv lead s0 (bfs lead n 0 [(s0,[])])/\∀p∈bfs lead n 0 [(s0,[])],∀i<13,Cl lead (bfs lead n 0 [(s0,[])]) p i:=by
 obtain⟨J1,_,J3⟩:=BJ lead s0 U hU n 0 [(s0,[])] (inv_0 lead s0) (by omega) (fun j p h=>absurd h (by omega)) (fun near h=>top_0 s0 near h);exact⟨J1,J3⟩
end
end BF
namespace BF
theorem wy:∀a:List Nat,fJ a a=false
 | []=>rfl
 | x::a=>by
  show (if x=x then fJ a a else _)=false;rw[if_pos rfl,wy a]
theorem B6{a:List Nat}(h:lt a a):False:=by
 rcases h with h | ⟨_,h⟩
 ·omega
 ·rw[wy] at h;cases h
theorem wo{a b:List Nat}(h:lt a b)(k:lt b a):False:=B6 (lt_trans h k)
theorem Gf{q:List Nat}(h:lt q []):False:=by
 rcases h with h | ⟨h,e⟩
 ·simp at h
 ·cases q with
  | nil=>simp[fJ] at e
  | cons x q=>simp at h
section
variable{S : Type}[DecidableEq S](lead : S → Nat → S)(s0 : S)(last : S → Bool)
def NL(found:List (Row S)):Prop:=∀p∈found,last p.1=false
def Whole(found:List (Row S)):Prop:=NL last found/\∀p∈found,∀i<13,Cl lead found p i
def Stops(init:List (Row S))(fin:Row S):Prop:=last fin.1=true/\NL last init/\∀p∈init,∀i<13,lt (p.2++[i]) fin.2->Cl lead init p i
structure Res(found:List (Row S)):Prop where
 inv:Inv lead s0 found
 res:Whole lead last found\/∃init fin,found=init++[fin]/\Stops lead last init fin
structure Mid(found:List (Row S))(d k:Nat)(near:Row S):Prop where
 inv:Inv lead s0 found
 at_:found[d]?=some near
 nl:NL last found
 top:∀p∈found,lt p.2 (near.2++[k])
 old:∀(j:Nat)(p:Row S),j<d->found[j]?=some p->∀i<13,Cl lead found p i
 cl:∀i<k,Cl lead found near i
structure Out(found:List (Row S))(d:Nat):Prop where
 inv:Inv lead s0 found
 nl:NL last found
 top:∀near,found[d]?=some near->∀p∈found,lt p.2 (near.2++[0])
 old:∀(j:Nat)(p:Row S),j<d->found[j]?=some p->∀i<13,Cl lead found p i
variable{lead s0 last}
theorem Out.mid{found:List (Row S)}{d:Nat}{near:Row S}(h:Out lead s0 last found d)(e:found[d]?=some near):Mid lead s0 last found d 0 near:=⟨h.inv,e,h.nl,h.top near e,h.old,fun i hi=>absurd hi (by omega)⟩
theorem Mid.go{found:List (Row S)}{d k:Nat}{near:Row S}(h:Mid lead s0 last found d k near)(hk:k<13)(hn:last (lead near.1 k)=false):Mid lead s0 last (inn lead near found k) d (k+1) near:=by
 obtain⟨a,b,c,e⟩:=wY lead s0 hk h.inv h.at_ h.top;obtain⟨tl,et⟩:=wX lead near found k;have hdl:d<found.length:=(MB.mp h.at_).1;refine⟨a,b,fun p hp=>?_,c,fun j p hj hp i hi=>?_,fun i hi=>?_⟩
 ·unfold inn at hp
  split at hp
  ·exact h.nl p hp
  ·rcases Mz.mp hp with z | z
   ·exact h.nl p z
   ·rw[MQ.mp z];exact hn
 ·rw[et] at hp ⊢
  rw[ML (by omega)] at hp;exact(h.old j p hj hp i hi).mono lead
 ·rcases OA i k with z | z
  ·rw[et];exact(h.cl i z).mono lead
  ·have:i=k:=by omega
   subst this;exact e
theorem Mid.out{found:List (Row S)}{d:Nat}{near:Row S}(h:Mid lead s0 last found d 13 near):Out lead s0 last found (d+1):=by
 refine⟨h.inv,h.nl,fun near' e p hp=>?_,fun j p hj hp i hi=>?_⟩
 ·have h1:lt near.2 near'.2:=by
   have hs:=Oq.mp h.inv.srt;obtain⟨q1,q2⟩:=MB.mp e;obtain⟨q3,q4⟩:=MB.mp h.at_;have:=hs d (d+1) q3 q1 (by omega);rw[q2,q4] at this;exact this
  exact lt_trans (h.top p hp) (lS 13 0 h1)
 ·rcases OA j d with z | z
  ·exact h.old j p z hp i hi
  ·have:j=d:=by omega
   subst this;rw[h.at_] at hp;cases hp;exact h.cl i hi
theorem Mid.stop{found:List (Row S)}{d k:Nat}{near:Row S}(h:Mid lead s0 last found d k near)(hk:k<13)(hm:lead near.1 k ∉ found.map (·.1))(hn:last (lead near.1 k)=true):Res lead s0 last (found++[(lead near.1 k,near.2++[k])]):=by
 obtain⟨a,_,_,_⟩:=wY lead s0 hk h.inv h.at_ h.top;unfold inn at a;rw[if_neg hm] at a;refine⟨a,.inr ⟨found,_,rfl,hn,h.nl,fun p hp i hi hl=>?_⟩⟩;obtain⟨j,hj⟩:=O9 hp;rcases Nat.lt_trichotomy j d with z | z | z
 ·exact h.old j p z hj i hi
 ·subst z
  rw[h.at_] at hj;cases hj;rcases OA i k with y | y
  ·exact h.cl i y
  ·rcases Nat.eq_or_lt_of_le y with y | y
   ·subst y;exact(B6 hl).elim
   ·exact(wo hl (rg near.2 k i y)).elim
 ·have h1:lt near.2 p.2:=by
   have hs:=Oq.mp h.inv.srt;obtain⟨q1,q2⟩:=MB.mp hj;obtain⟨q3,q4⟩:=MB.mp h.at_;have:=hs d j q3 q1 z;rw[q2,q4] at this;exact this
  exact(wo hl (lS k i h1)).elim
theorem Out.done{found:List (Row S)}{d:Nat}(h:Out lead s0 last found d)(e:found.length<=d):Res lead s0 last found:=
 ⟨h.inv,.inl ⟨h.nl,fun p hp i hi=>by
  obtain⟨j,hj⟩:=O9 hp;exact h.old j p (by have:=(MB.mp hj).1;omega) hj i hi⟩⟩
theorem out_0(h:last s0=false):Out lead s0 last [(s0,[])] 0:=⟨inv_0 lead s0,fun p hp=>by rw[MQ.mp hp];exact h,fun near e=>top_0 s0 near e,fun j p hj=>absurd hj (by omega)⟩
theorem res_0(h:last s0=true):Res lead s0 last [(s0,[])]:=⟨inv_0 lead s0,.inr ⟨[],(s0,[]),rfl,h,(fun p hp=>absurd hp (by simp)),fun p hp=>absurd hp (by simp)⟩⟩
theorem sx(q:List Nat)(i:Nat):run lead s0 (q++[i])=lead (run lead s0 q) i:=by
 unfold run;rw[OZ];rfl
theorem whole_rows{found:List (Row S)}(I:Inv lead s0 found)(h:Whole lead last found)(q:List Nat)(hq:∀i∈q,i<13):last (run lead s0 q)=false:=by
 have go:∀n (q:List Nat),q.length=n->(∀i∈q,i<13)->∃p∈found,p.1=run lead s0 q:=by
  intro n
  induction n with
  | zero=>
   intro q hl _;have:q=[]:=N5 hl;subst this;obtain⟨tl,e⟩:=I.h0;exact⟨(s0,[]),by rw[e];simp,rfl⟩
  | succ n ih=>
   intro q hl hi;have hne:q≠[]:=fun z=>by rw[z] at hl;simp at hl
   obtain⟨q',i,rfl⟩:∃q' i,q=q'++[i]:=⟨q.dropLast,q.getLast hne,(Ny hne).symm⟩;obtain⟨p,hp,e⟩:=ih q' (by simpa using hl) fun j hj=>hi j (by simp[hj]);obtain⟨p',hp',e',_⟩:=h.2 p hp i (hi i (by simp));exact⟨p',hp',by rw[sx,← e];exact e'⟩
 obtain⟨p,hp,e⟩:=go _ q rfl hq;rw[← e];exact h.1 p hp
theorem stops_rows{init:List (Row S)}{fin:Row S}(I:Inv lead s0 (init++[fin]))(h:Stops lead last init fin)(q:List Nat)(hq:∀i∈q,i<13)(hl:lt q fin.2):last (run lead s0 q)=false:=by
 have go:∀n (q:List Nat),q.length=n->(∀i∈q,i<13)->lt q fin.2->∃p∈init,p.1=run lead s0 q/\(p.2=q\/lt p.2 q):=by
  intro n
  induction n with
  | zero=>
   intro q hl _ hlt;have:q=[]:=N5 hl;subst this;obtain⟨tl,e⟩:=I.h0;cases init with
   | nil=>
    have e:[fin]=(s0,[])::tl:=e;injection e with e1 e2;rw[e1] at hlt;exact(Gf hlt).elim
   | cons p init=>
    have e:p::(init++[fin])=(s0,[])::tl:=e;injection e with e1 e2;exact⟨p,by simp,by rw[e1];rfl,by rw[e1];exact .inl rfl⟩
  | succ n ih=>
   intro q hl hi hlt;have hne:q≠[]:=fun z=>by rw[z] at hl;simp at hl
   obtain⟨q',i,rfl⟩:∃q' i,q=q'++[i]:=⟨q.dropLast,q.getLast hne,(Ny hne).symm⟩;have l1:lt q' (q'++[i]):=.inl (by simp);obtain⟨p,hp,e,o⟩:=ih q' (by simpa using hl) (fun j hj=>hi j (by simp[hj])) (lt_trans l1 hlt)
   have le:p.2++[i]=q'++[i]\/lt (p.2++[i]) (q'++[i]):=by
    rcases o with o | o
    ·exact .inl (by rw[o])
    ·exact .inr (lS i i o)
   have l2:lt (p.2++[i]) fin.2:=by
    rcases le with z | z
    ·rw[z];exact hlt
    ·exact lt_trans z hlt
   obtain⟨p',hp',e',o'⟩:=h.2.2 p hp i (hi i (by simp)) l2;refine⟨p',hp',by rw[sx,← e];exact e',?_⟩;rcases o' with o' | o' <;> rcases le with z | z
   ·exact .inl (o'.trans z)
   ·exact .inr (by rw[o'];exact z)
   ·exact .inr (by rw[← z];exact o')
   ·exact .inr (lt_trans o' z)
 obtain⟨p,hp,e,_⟩:=go _ q rfl hq hl;rw[← e];exact h.2.1 p hp
end
end BF
section
namespace PU
open PySem L2
theorem aC{m n:Nat}{g:PSt->R Fl}{ps:List PV}{p:PV}(hl:ps.length=m)(h:g (PU.start n ps)=.ok (.ret p)):eI m n g ps=some p:=by
 unfold eI;rw[if_pos hl,h]
theorem An{α:Type}{xs:List α}{i:Int}(d:α)(h0:0<=i)(h1:i<xs.length):atI xs i=some (xs.getD i.toNat d):=by
 have h2:i.toNat<xs.length:=by omega
 exact hZ (n:=i.toNat) (by omega) (by simp[h2])
def mkS(l:List Nat):Str:=⟨l.toArray⟩
theorem lP(a b:List Nat):mkS a++mkS b=mkS (a++b):=by
 show Str.mk (a.toArray++b.toArray)=_;simp[mkS]
@[simp] theorem fw(a:List Nat):(mkS a).length=a.length:=by simp[mkS,Str.length]
@[simp] theorem gK(a:List Nat):(mkS a).cps.toList=a:=by simp[mkS]
theorem r9(c:Nat):(⟨#[c]⟩:Str)=mkS [c]:=rfl
theorem gj:("":Str)=mkS []:=by decide +kernel
theorem zN(l:List Nat)(z:Int)(h0:0<=z)(h1:z<l.length)(hl:l.length<=16777216):gIx (.str (mkS l)) (.int z)=some (.str ⟨#[l.getD z.toNat 0]⟩):=
 yI (by simpa using hl) (by rw[gK];exact An 0 h0 h1)
theorem iq(x:List Nat)(c:Nat)(hx:x.length<=1000):gx (.str (mkS x)) (.str ⟨#[c]⟩)=some (.str (mkS (x++[c]))):=by
 rw[r9,l5 (by simp;omega),lP]
theorem uR(xs:List Str):kA (xs.map .str)=some xs:=by
 induction xs with
 | nil=>rfl
 | cons x r ih=>simp[kA,ih]
theorem EH{s:Str}{xs:List Str}(h:(xs.map (·.length)).sum+xs.length * s.length<=16777216):xc (.str s) (.lst (xs.map .str))=some (.str (QX s xs)):=by
 show (kA (xs.map PV.str)).bind (fun ys=>if (ys.map (·.length)).sum+ys.length * s.length<=16777216 then some (PV.str (Txt.join s ys)) else none)=_;rw[uR,Q0,if_pos h,zM]
end PU
namespace MT
open PySem L2 PU
inductive Room where
 | menu (text:Str) (keys:List (Str×Str)) (wrong waits:Int×Str)
 | names (text:Str) (words:List (Str×Str)) (wrong waits:Int×Str)
 | hours (spans:List (Int×Int×Str)) (last:Str)
 | hand (text:Str)
 | fin (text:Str)
structure House where
 first:Str
 letters:List (Str×Str)
 rooms:List (Str×Room)
def pv2(p:Str×Str):PV:=.tup [.str p.1,.str p.2]
def pvI(p:Int×Str):PV:=.tup [.int p.1,.str p.2]
def pv3(p:Int×Int×Str):PV:=.tup [.int p.1,.int p.2.1,.str p.2.2]
def Room.pv:Room->PV
 | .menu t ks wr wa=>.tup [.str "menu",.str t,.tup (ks.map pv2),pvI wr,pvI wa]
 | .names t ks wr wa=>.tup [.str "names",.str t,.tup (ks.map pv2),pvI wr,pvI wa]
 | .hours sp l=>.tup [.str "hours",.tup (sp.map pv3),.str l]
 | .hand t=>.tup [.str "hand",.str t]
 | .fin t=>.tup [.str "end",.str t]
def aD(rs:List (Str×Room)):PV:=.dct (rs.map fun r=>.inr r.1) (rs.map fun r=>r.2.pv)
def House.pv (h:House):PV:=.dct [.inr "first",.inr "letters",.inr "rooms"] [.str h.first,.lst (h.letters.map pv2),aD h.rooms]
def num(i:Int):Str:=toString i
abbrev sp:Str:=" "
def Ba(kind name:Str)(wr wa:Int×Str)(t:Str):Str:=kind++(sp++(name++(sp++(num wr.1++(sp++(wr.2++(sp++(num wa.1++(sp++(wa.2++(sp++t)))))))))))
def Ec(a b c:Str):Str:=a++(sp++(b++(sp++c)))
def Ld(a b c d:Str):Str:=a++(sp++(b++(sp++(c++(sp++d)))))
def z7(name:Str):Room->List Str
 | .menu t ks wr wa=>Ba "menu" name wr wa t::ks.map fun k=>Ec "key" k.1 k.2
 | .names t ks wr wa=>Ba "names" name wr wa t::ks.map fun k=>Ec "name" k.1 k.2
 | .hours sp l=>Ec "hours" name l::sp.map fun s=>Ld "from" (num s.1) (num s.2.1) s.2.2
 | .hand t=>[Ec "hand" name t]
 | .fin t=>[Ec "end" name t]
def House.rows (h:House):List Str:=("first"++(sp++h.first):Str)::(h.letters.map (fun l=>Ec "letters" l.1 l.2)++h.rooms.flatMap fun r=>z7 r.1 r.2)
def House.text (h:House):Str:=QX "\n" h.rows
end MT
end
namespace PU
open PySem L2
def chZ(fc:PSt->R PV)(g':PV->PV->Option PV)(ρ:PSt)(q:PV):PV->R PV
 | .bl true=>jz (opP g' q) (fc ρ)
 | .bl false=>.ok (.bl false)
 | _=>.no
def chQ(fc:PSt->R PV)(g g':PV->PV->Option PV)(ρ:PSt)(p q:PV):R PV:=jz (chZ fc g' ρ q) (R.ofO (g p q))
@[simp] theorem JA(fc:PSt->R PV)(g':PV->PV->Option PV)(ρ:PSt)(q:PV):chZ fc g' ρ q (.bl true)=jz (opP g' q) (fc ρ):=by unfold chZ;exact Mn _
@[simp] theorem Ly(fc:PSt->R PV)(g':PV->PV->Option PV)(ρ:PSt)(q:PV):chZ fc g' ρ q (.bl false)=.ok (.bl false):=by unfold chZ;exact Mn _
@[simp] theorem JB(fc:PSt->R PV)(g g':PV->PV->Option PV)(ρ:PSt)(p q:PV):chQ fc g g' ρ p q=jz (chZ fc g' ρ q) (R.ofO (g p q)):=by unfold chQ;exact Mn _
@[simp] theorem HJ{fa fb fc:PSt->R PV}{g g':PV->PV->Option PV}{ρ:PSt}:tT fa fb fc g g' ρ=nZ (chQ fc g g' ρ) (fa ρ) (fb ρ):=by
 unfold tT;cases fa ρ with
 | ok p=>
  cases fb ρ with
  | ok q=>
   simp only[R.ok_bind,wN,JB];cases g p q with
   | none=>rfl
   | some z=>
    simp only[R.ofO_some,R.ok_bind,lV];cases z with
    | bl b=>
     cases b with
     | true=>
      rw[JA];cases fc ρ <;> rfl
     | false=>rfl
    | _=>rfl
  | _=>rfl
 | _=>cases fb ρ <;> rfl
theorem kx{α:Type}{enc:α->PV}{h:Tgt}{t:PSt->R Bool}{fe:PSt->R PV}{ρ:PSt}(P:α->Bool)(F:α->PV):∀(xs:List α),
  (∀x∈xs,∃ρ1,h (enc x) ρ=some ρ1/\t ρ1=.ok (P x)/\(P x=true->fe ρ1=.ok (F x)))->cG h t fe ρ (xs.map enc)=.ok ((xs.filter P).map F)
 | [],_=>rfl
 | x::xs,hs=>by
  obtain⟨ρ1,e1,e2,e3⟩:=hs x (Mh ..);have ih:=kx P F xs fun y hy=>hs y (Me _ hy);rw[MC];unfold cG;rw[e1];simp only[R.ofO_some,R.ok_bind,e2];cases hp:P x with
  | true=>
   rw[if_pos rfl,e3 hp,QB hp,MC];simp only[R.ok_bind,ih]
  | false=>
   rw[if_neg MO,QC (by rw[hp];exact MO)];exact ih
theorem jm{α:Type}{enc:α->PV}{h:Tgt}{g:PSt->R Fl}(P:α->Bool)(F:α->PV)(I:PSt->Prop)
  (hs:∀(x:α)(ρ:PSt),I ρ->∃ρ1,h (enc x) ρ=some ρ1/\(P x=true->g ρ1=.ok (.ret (F x)))/\(P x=false->∃ρ2,g ρ1=.ok (.next ρ2)/\I ρ2)) :
  ∀(xs:List α)(ρ:PSt),I ρ->(∀x,xs.find? P=some x->gT h g (xs.map enc) ρ=.ok (.ret (F x)))/\(xs.find? P=none->∃ρ',gT h g (xs.map enc) ρ=.ok (.next ρ')/\I ρ')
 | [],ρ,h0=>⟨fun x e=>(by cases e),fun _=>⟨ρ,rfl,h0⟩⟩
 | x::xs,ρ,h0=>by
  obtain⟨ρ1,e1,e2,e3⟩:=hs x ρ h0;cases hp:P x with
  | true=>
   rw[SW hp];refine⟨fun y e=>?_,fun e=>by cases e⟩;cases e;rw[MC];unfold gT;rw[e1];simp only[R.ofO_some,R.ok_bind,e2 hp]
  | false=>
   obtain⟨ρ2,e4,i2⟩:=e3 hp;obtain⟨k1,k2⟩:=jm P F I hs xs ρ2 i2;rw[P8 (by rw[hp];exact MO)]
   have e5:gT h g ((x::xs).map enc) ρ=gT h g (xs.map enc) ρ2:=by
    rw[MC]
    conv=>lhs;unfold gT
    rw[e1];simp only[R.ofO_some,R.ok_bind,e4]
   rw[e5];exact⟨k1,k2⟩
@[simp] theorem Ic{n:Nat}{t:PSt->R Bool}{g:PSt->R Fl}{ρ:PSt}:whS n t g ρ=whF t g n ρ:=by unfold whS;exact Mn _
end PU
namespace WO
open PySem L2 PU MT
def sg(c:Nat):PV:=.str ⟨#[c]⟩
theorem yV(l:List Nat):gy (mkS l)=l.map sg:=by unfold gy sg;rw[gK]
theorem it_mk(l:List Nat):fK (.str (mkS l))=some (l.map sg):=by rw[← yV];unfold fK;exact Mn _
theorem in_one(c:Nat)(l:List Nat):gIn (sg c) (.str (mkS l))=some (.bl (decide (c∈l))):=by
 show some (PV.bl (inS ⟨#[c]⟩ (mkS l)))=_;have e:=PySem.StrLaws.found_one (mkS l) c;rw[gK] at e;unfold inS;rw[e]
def keyPv(o:Option Nat):PV:=match o with
 | some k=>sg k
 | none=>.non
def codePv(o:Option (List Nat)):PV:=match o with
 | some c=>.str (mkS c)
 | none=>.non
abbrev Lts:=List (Nat×List Nat)
def ltPv(ls:Lts):PV:=.lst (ls.map fun l=>.tup [sg l.1,.str (mkS l.2)])
def keyL(ls:Lts)(c:Nat):Option Nat:=(ls.find? fun l=>decide (c∈l.2)).map (·.1)
def codeL(ls:Lts)(x:List Nat):Option (List Nat):=if x.all (fun c=>(keyL ls c).isSome)=true then some (x.map fun c=>(keyL ls c).getD 0) else none
theorem wQ:∀l:List Nat,QX "" (l.map fun c=>(⟨#[c]⟩:Str))=mkS l
 | []=>by rw[← gj];rfl
 | [a]=>rfl
 | a::b::r=>by
  have ih:=wQ (b::r);have e:QX "" (((a::b::r:List Nat)).map fun c=>(⟨#[c]⟩:Str))=(⟨#[a]⟩:Str)++""++QX "" ((b::r).map fun c=>(⟨#[c]⟩:Str)):=rfl;rw[e,ih,r9,gj,lP,lP];rfl
theorem joinV (l:List Nat) (h:l.length<=1000):xc (.str "") (.lst (l.map sg))=some (.str (mkS l)):=by
 have e:l.map sg=(l.map fun c=>(⟨#[c]⟩:Str)).map PV.str:=by rw[MV];rfl
 rw[e,EH,wQ];rw[MV];have:(List.map ((fun x=>x.length) ∘ fun c=>({ cps:=#[c] }:Str)) l)=l.map fun _=>1:=rfl;rw[this];have:("":Str).length=0:=by decide +kernel
 have h2:∀l:List Nat,(l.map fun _=>1).sum=l.length:=fun l=>by
  induction l with
  | nil=>rfl
  | cons a r ih=>simp only[MC,List.sum_cons,ih,Mr];omega
 rw[h2,this];omega
theorem mH(ls:Lts)(x:List Nat):(x.map fun c=>keyPv (keyL ls c)).all pb=true:=by
 rw[Om];intro p hp;obtain⟨c,_,rfl⟩:=MF.mp hp;cases keyL ls c <;> rfl
theorem none_in(ls:Lts)(x:List Nat):gIn .non (.lst (x.map fun c=>keyPv (keyL ls c)))=some (.bl (!x.all fun c=>(keyL ls c).isSome)):=by
 have e:gIn .non (.lst (x.map fun c=>keyPv (keyL ls c)))=if pb .non=true/\(x.map fun c=>keyPv (keyL ls c)).all pb=true then some (.bl (inV (scV .non) ((x.map fun c=>keyPv (keyL ls c)).map scV))) else none:=rfl
 rw[e,if_pos ⟨rfl,mH ls x⟩]
 congr 2
 clear e
 induction x with
 | nil=>rfl
 | cons c r ih=>
  simp only[MC,OB,Bool.not_and,inV,Ng];rw[← ih];unfold inV;cases keyL ls c <;> simp[keyPv,sg,scV,eqV]
theorem in_list_comp{α:Type}{enc:α->PV}{h:Tgt}{fe:PSt->R PV}{ρ:PSt}(F:α->PV)(xs:List α)
  (hs:∀x∈xs,∃ρ1,h (enc x) ρ=some ρ1/\fe ρ1=.ok (F x)):cG h mI fe ρ (xs.map enc)=.ok (xs.map F):=by
 have e:=kx (t:=mI) (fun _=>true) F xs fun x hx=>by
  obtain⟨ρ1,a,b⟩:=hs x hx;exact⟨ρ1,a,Ay,fun _=>b⟩
 rw[List.filter_eq_self.mpr (fun _ _=>rfl)] at e;exact e
end WO
section
namespace PU
open PySem
theorem xm{α β:Type}{f:α->List β}{b:Nat}:∀{l:List α},(∀x∈l,(f x).length<=b)->(l.flatMap f).length<=l.length * b
 | [],_=>by simp
 | a::l,h=>by
  have:=xm (l:=l) fun x hx=>h x (Me _ hx);have h1:=h a (Mh ..);simp only[Pz,Mi,Mr,Nat.succ_mul];omega
end PU
namespace FA
open PySem L2 PU MT
@[simp] theorem zc:(MH "menu"=MH "names")=False:=by decide +kernel
@[simp] theorem zd:(MH "menu"=MH "hours")=False:=by decide +kernel
@[simp] theorem AO:(MH "menu"=MH "hand")=False:=by decide +kernel
@[simp] theorem Cg:(MH "menu"=MH "end")=False:=by decide +kernel
@[simp] theorem za:(MH "names"=MH "menu")=False:=by decide +kernel
@[simp] theorem yp:(MH "names"=MH "hours")=False:=by decide +kernel
@[simp] theorem zb:(MH "names"=MH "hand")=False:=by decide +kernel
@[simp] theorem AN:(MH "names"=MH "end")=False:=by decide +kernel
@[simp] theorem ze:(MH "hours"=MH "menu")=False:=by decide +kernel
@[simp] theorem yq:(MH "hours"=MH "names")=False:=by decide +kernel
@[simp] theorem AQ:(MH "hand"=MH "menu")=False:=by decide +kernel
@[simp] theorem zf:(MH "hand"=MH "names")=False:=by decide +kernel
@[simp] theorem zg:(MH "hand"=MH "hours")=False:=by decide +kernel
@[simp] theorem Ci:(MH "hand"=MH "end")=False:=by decide +kernel
@[simp] theorem Cj:(MH "end"=MH "menu")=False:=by decide +kernel
@[simp] theorem AR:(MH "end"=MH "names")=False:=by decide +kernel
@[simp] theorem AS:(MH "end"=MH "hours")=False:=by decide +kernel
@[simp] theorem Ck:(MH "end"=MH "hand")=False:=by decide +kernel
@[simp] theorem uV:(MH "first"=MH "letters")=False:=by decide +kernel
@[simp] theorem yr:(MH "first"=MH "rooms")=False:=by decide +kernel
@[simp] theorem uU:(MH "letters"=MH "rooms")=False:=by decide +kernel
def holds(hour:Int)(s:Int×Int×Str):Bool:=decide (s.1<=hour) && decide (hour<s.2.1)
def handOf(spans:List (Int×Int×Str))(last:Str)(hour:Int):Str:=match spans.find? (holds hour) with
 | some s=>s.2.2
 | none=>last
abbrev Rooms:=List (Str×Room)
def lookR(rs:Rooms)(n:Str):Option Room:=(rs.find? fun r=>decide (r.1=n)).map (·.2)
def names(rs:Rooms):List Str:=rs.map (·.1)
theorem nH(n:Str):∀rs:Rooms,bM (rs.map fun r=>.inr r.1) (rs.map fun r=>r.2.pv) (.inr n)=(lookR rs n).map Room.pv
 | []=>rfl
 | r::rs=>by
  have ih:=nH n rs;unfold lookR at ih ⊢
  by_cases h:r.1=n
  ·simp[h]
  ·simp only[MC,mV]
   rw[if_neg (by simpa using h),P8 (by simpa using h)];exact ih
theorem ix_rooms(rs:Rooms)(n:Str):gIx (aD rs) (.str n)=(lookR rs n).map Room.pv:=nH n rs
theorem look_some(rs:Rooms)(n:Str)(h:n∈names rs):∃r,lookR rs n=some r:=by
 unfold lookR;cases e:rs.find? fun r=>decide (r.1=n) with
 | some r=>exact⟨_,rfl⟩
 | none=>
  obtain⟨r,hr,e2⟩:=MF.mp h;exact absurd (TV.mp e r hr) (by simpa using e2)
theorem keys_rooms(rs:Rooms):fK (aD rs)=some ((names rs).map .str):=by
 have e:fK (aD rs)=some ((rs.map fun r=>(Nv r.1:Key)).map zL):=rfl;rw[e,MV];unfold names;rw[MV];rfl
end FA
end
namespace FA
open PySem L2 PU MT
theorem cut_from{α:Type}(xs:List α)(i:Nat)(h:i<xs.length):qG xs (some ((i:Int)+1)) none=xs.drop (i+1):=by
 unfold qG HT.sIx;simp;have e1:¬ ((i:Int)+1<0):=by omega
 have e2:((i:Int)+1).toNat=i+1:=by omega
 try simp[e1,e2]
 try rw[Nat.min_eq_left (by omega)]
 try exact SN (by simp)
end FA
namespace MT
open PySem L2 PU
mutual
def flat:PV->Bool
 | .tup ps=>xl ps
 | .lst ps=>xl ps
 | .dct _ _=>false
 | .dtt _ _=>false
 | .fn _ _=>false
 | _=>true
def xl:List PV->Bool
 | []=>true
 | p::ps=>flat p && xl ps
end
mutual
theorem zo:∀(p:PV),flat p=true->bU p p=some true
 | .non,_=>by simp[bU]
 | .bl _,_=>by simp[bU]
 | .int _,_=>by simp[bU]
 | .str _,_=>by simp[bU]
 | .tup ps,h=>by
  simp only[bU];exact lI ps (by simpa [flat] using h)
 | .lst ps,h=>by
  simp only[bU];exact lI ps (by simpa [flat] using h)
 | .dct _ _,h=>by simp[flat] at h
 | .dtt _ _,h=>by simp[flat] at h
 | .fn _ _,h=>by simp[flat] at h
theorem lI:∀(ps:List PV),xl ps=true->cz ps ps=some true
 | [],_=>by simp[cz]
 | p::ps,h=>by
  simp only[xl,ND] at h;simp only[cz,zo p h.1,lI ps h.2,Q0,Bool.and_self]
end
def J4(rs:List (Str×Room))(k:Str)(r:Room):List (Str×Room):=if k∈rs.map (·.1) then rs.map (fun x=>if x.1=k then (x.1,r) else x) else rs++[(k,r)]
theorem Co(rs:List (Str×Room))(k:Str)(r:Room):iJ (rs.map fun r=>.inr r.1) (rs.map fun r=>r.2.pv) (.inr k) r.pv=aD (J4 rs k r):=by
 unfold iJ J4
 by_cases h:k∈rs.map (·.1)
 ·rw[if_pos h,if_pos (by
   obtain⟨x,hx,e⟩:=MF.mp h;rw[Ol];exact⟨.inr x.1,MF.mpr ⟨x,hx,rfl⟩,by simp[e]⟩)]
  have e1:(rs.map fun x=>if x.1=k then (x.1,r) else x).map (fun r=>(Nv r.1:Key))=rs.map fun r=>.inr r.1:=by
   rw[MV];apply Os;intro x _;simp only[PC]
   split <;> rfl
  have e2:kD (rs.map fun r=>.inr r.1) (rs.map fun r=>r.2.pv) (.inr k) r.pv=(rs.map fun x=>if x.1=k then (x.1,r) else x).map fun r=>r.2.pv:=by
   unfold kD;clear h e1
   induction rs with
   | nil=>rfl
   | cons x rs ih=>
    simp only[MC,NU,ih,Pq]
    congr 1
    split <;> rfl
  unfold aD;rw[e1,e2]
 ·rw[if_neg h,if_neg (by
   rw[Ol];rintro⟨j,hj,e⟩;obtain⟨x,hx,rfl⟩:=MF.mp hj;exact h (MF.mpr ⟨x,hx,by simpa using e⟩))]
  unfold aD;simp
end MT
namespace NM
open PySem L2 PU MT
def c24:List Nat:=[97,99,100,101,102,103,104,105,106,108,109,110,111,112,113,114,115,116,117,118,119,120,121,122]
def G4(n:Int):Nat:=(1+n % 8).toNat
def Ln(n:Int):Int:=n / 8 % (1+n % 8)
def G5(n:Int)(t k:Nat):Nat:=c24.getD ((n / ((k:Int)+2)+(t:Int) * (if (k:Int)=Ln n then 1 else 0)) % 24).toNat 0
def CP(n:Int)(t i:Nat):List Nat:=(MX i).map (G5 n t)
def nm(n:Int)(t:Nat):Str:=mkS (CP n t (G4 n))
theorem LG(ss:List Str)(i:Nat)(hi:i<ss.length):atI (ss.map PV.str) (i:Int)=some (.str ss[i]):=hZ rfl (by
 rw[MM,ME hi];rfl)
def comeGo(rs:FA.Rooms)(hour:Int):Nat->Str->Option Str
 | 0,_=>none
 | n+1,x=>match FA.lookR rs x with
  | some (.hours sp l)=>comeGo rs hour n (FA.handOf sp l hour)
  | some _=>some x
  | none=>none
theorem wu(rs:FA.Rooms)(n:Str)(r:Room)(h:FA.lookR rs n=some r):(n,r)∈rs:=by
 unfold FA.lookR at h;cases e:rs.find? fun r=>decide (r.1=n) with
 | none=>rw[e] at h;cases h
 | some q=>
  rw[e] at h;cases h;have h1:=Rb e;have h1:q.1=n:=by simpa using h1
  subst h1;exact NF e
end NM
section
namespace PU
open PySem L2
def IK(p:PV)(lh:Option Int×Option Int):R PV:=R.ofO (zU p lh.1 lh.2)
@[simp] theorem Ls(p:PV)(a b:Option Int):IK p (a,b)=R.ofO (zU p a b):=by unfold IK;exact Mn _
@[simp] theorem Hy{f:PSt->R PV}{l h:PSt->R (Option Int)}{ρ:PSt}:kh f l h ρ=nZ IK (f ρ) (nZ uq (l ρ) (h ρ)):=by unfold kh;cases f ρ <;> cases l ρ <;> cases h ρ <;> rfl
theorem BS{x:Str}(lo hi:Option Int)(h:x.length<=16777216):zU (.str x) lo hi=some (.str (Nf x lo hi)):=if_pos h
@[simp] theorem Ey(ps:List PV)(lo hi:Option Int):zU (.lst ps) lo hi=some (.lst (qG ps lo hi)):=rfl
end PU
namespace NM
open PySem L2 PU MT
theorem oZ(ls:List Int)(k:Nat)(hk:k<ls.length):atI (ls.map PV.int) (k:Int)=some (.int ls[k]):=hZ rfl (by rw[MM,ME hk];rfl)
theorem cut_1{α:Type}(xs:List α)(h:0<xs.length):qG xs (some 1) none=xs.drop 1:=FA.cut_from xs 0 h
end NM
end
section
namespace PU
open PySem L2 MT
def Em:PV->PV->R (List PV)
 | .lst ps,.lst qs=>if (ps.all gv || qs.all gv)=true then .ok ((p9 ps qs).map .tup) else .no
 | _,_=>.no
@[simp] theorem Bj(ps qs:List PV)(h:(ps.all gv || qs.all gv)=true):Em (.lst ps) (.lst qs)=.ok ((p9 ps qs).map .tup):=by unfold Em;exact if_pos h
@[simp] theorem qk{α:Type}(f:α->Str)(l:List α):(l.map fun x=>PV.str (f x)).all gv=true:=by induction l <;> simp_all [gv]
@[simp] theorem JY{f g:PSt->R PV}{ρ:PSt}:E9 f g ρ=nZ Em (f ρ) (g ρ):=by
 unfold E9;cases f ρ with
 | ok p=>
  cases g ρ with
  | ok q=>rw[R.ok_bind,R.ok_bind,wN];cases p <;> cases q <;> rfl
  | er x=>rfl
  | no=>rfl
 | er x=>rfl
 | no=>rfl
def HZ(fe fd:PSt->R PV)(g:PV->PV->PV->Option PV)(ρ:PSt)(p:PV):R PV:=if Dl p=true then nZ (fun q y=>R.ofO (g p q y)) (fe ρ) (fd ρ) else .no
@[simp] theorem Ku(fe fd:PSt->R PV)(g:PV->PV->PV->Option PV)(ρ:PSt)(ks:List Key)(ps:List PV):HZ fe fd g ρ (.dct ks ps)=nZ (fun q y=>R.ofO (g (.dct ks ps) q y)) (fe ρ) (fd ρ):=by unfold HZ;exact if_pos rfl
@[simp] theorem HD{fo fe fd:PSt->R PV}{g:PV->PV->PV->Option PV}{ρ:PSt}:sV fo fe fd g ρ=jz (HZ fe fd g ρ) (fo ρ):=by
 unfold sV;cases fo ρ with
 | ok p=>
  rw[R.ok_bind,lV];unfold HZ
  split
  ·cases fe ρ with
   | ok q=>cases fd ρ <;> rfl
   | er x=>rfl
   | no=>rfl
  ·rfl
 | er x=>rfl
 | no=>rfl
theorem o8(l:List Nat)(n:Nat):Nf (mkS l) none (some (n:Int))=mkS (l.take n):=by
 have main:∀m:Nat,m<=l.length->Nf (mkS l) none (some (m:Int))=mkS (l.take m):=fun m hm=>by
  have e:=PySem.StrLaws.sliceText_to (x:=mkS l) (j:=m) ⟨by omega,by rw[gK];omega⟩;have e2:Nf (mkS l) none (some (m:Int))=PySem.StrLaws.sliceText (mkS l) none (some (m:Int)):=rfl;rw[e2,e,gK];have:((m:Int)-0).toNat=m:=by omega
  rw[this];rfl
 by_cases h:n<=l.length
 ·exact main n h
 ·have e:Nf (mkS l) none (some (n:Int))=Nf (mkS l) none (some (l.length:Int)):=by
   have e1:PQ none (some (n:Int)) 1 (mkS l).length=PQ none (some (l.length:Int)) 1 (mkS l).length:=by
    rw[fw];unfold PQ;have a:¬ ((n:Int)<0):=by omega
    have b:¬ ((l.length:Int)<0):=by omega
    have c:max (0:Int) (min (n:Int) (l.length:Int))=max 0 (min (l.length:Int) (l.length:Int)):=by omega
    simp only[a,b,if_false,c,show (1:Int) > 0 from by decide,if_true]
   unfold Nf;rw[e1]
  rw[e,main l.length (Ma _),Q8,SN (by omega)]
end PU
namespace BG
open PySem L2 PU MT
abbrev W:=List Nat
def pre(p c:W):Bool:=p.isPrefixOf c
theorem jL{p c:W}:pre p c=true ↔ p <+: c:=List.isPrefixOf_iff_prefix
def many(cs:List W)(p:W):Nat:=(cs.filter (pre p)).length
def own(cs:List W)(c:W):W:=match (MX (c.length-1)).find? (fun i=>decide (many cs (c.take (i+1))=1)) with
 | some i=>c.take (i+1)
 | none=>c
def Code(c:W):Prop:=∃x:W,c=x++[35]/\35 ∉ x
theorem Ai{c d:W}(hc:Code c)(hd:Code d)(h:c <+: d):c=d:=by
 obtain⟨x,rfl,hx⟩:=hc;obtain⟨y,rfl,hy⟩:=hd;obtain⟨t,e⟩:=h;cases ht:t.reverse with
 | nil=>
  have:t=[]:=by simpa using ht
  rw[this,NH] at e;exact e
 | cons a r=>
  exfalso
  have e1:t=r.reverse++[a]:=by
   have:=congrArg List.reverse ht;simpa using this
  rw[e1,← NQ] at e;have e2:=List.append_inj' e rfl;exact hy (by rw[← e2.1];simp)
theorem oy(cs:List W)(c:W):own cs c <+: c:=by
 unfold own
 split
 ·exact Oh _ _
 ·exact Q9 _
theorem AW(cs:List W)(c:W)(h:c≠[]):own cs c≠[]:=by
 unfold own
 split
 ·intro e
  cases c with
  | nil=>exact h rfl
  | cons a r=>simp at e
 ·exact h
theorem vV{cs:List W}(hcs:∀c∈cs,Code c){c d:W}(hc:c∈cs)(hd:d∈cs)(h:own cs c <+: d):c=d:=by
 unfold own at h;split at h
 ·rename_i i e
  have h1:many cs (c.take (i+1))=1:=by simpa using Rb e
  unfold many at h1;have m1:c∈cs.filter (pre (c.take (i+1))):=Nj.mpr ⟨hc,jL.mpr (Oh _ _)⟩;have m2:d∈cs.filter (pre (c.take (i+1))):=Nj.mpr ⟨hd,jL.mpr h⟩;generalize cs.filter (pre (c.take (i+1)))=l at h1 m1 m2
  match l,h1,m1,m2 with
  | [a],_,m1,m2=>rw[MQ.mp m1,MQ.mp m2]
 ·exact Ai (hcs c hc) (hcs d hd) h
theorem Cr{p q r:W}(hp:p <+: r)(hq:q <+: r):p <+: q\/q <+: p:=by
 rcases Nat.le_total p.length q.length with h | h
 ·exact .inl (RH hp hq h)
 ·exact .inr (RH hq hp h)
theorem vW{cs:List W}(hcs:∀c∈cs,Code c){c d r:W}(hc:c∈cs)(hd:d∈cs)(h1:own cs c <+: r)(h2:own cs d <+: r):c=d:=by
 rcases Cr h1 h2 with h | h
 ·exact vV hcs hc hd (Q5 h (oy cs d))
 ·exact(vV hcs hd hc (Q5 h (oy cs c))).symm
def uX(c:W):List W:=(MX c.length).map fun i=>c.take (i+1)
theorem xQ{l:List W}{p:W}(nd:l.Nodup)(h:p∈l):l.count p=1:=by
 induction l with
 | nil=>cases h
 | cons a r ih=>
  rw[Mu] at nd
  by_cases e:a=p
  ·subst e
   rw[List.count_cons_self,Qq.mpr nd.1]
  ·rw[List.count_cons_of_ne e]
   exact ih nd.2 ((MP.mp h).resolve_left fun z=>e z.symm)
theorem uM(c p:W):(uX c).count p=if p≠[]/\p <+: c then 1 else 0:=by
 have nd:(uX c).Nodup:=by
  unfold uX List.Nodup;rw[Th];refine Qv (R:=fun a b=>a<b) (fun {a b} ha hb hab e=>?_) SQ;rw[NT] at ha hb;have:=congrArg O8 e;rw[Oj,Oj] at this;omega
 by_cases h:p≠[]/\p <+: c
 ·rw[if_pos h]
  refine xQ nd ?_;unfold uX;refine MF.mpr ⟨p.length-1,NT.mpr ?_,?_⟩
  ·have:=h.2.length_le
   have:p.length≠0:=fun e=>h.1 (P5.mp e);omega
  ·have:p.length≠0:=fun e=>h.1 (P5.mp e)
   rw[show p.length-1+1=p.length by omega];exact(P4.mp h.2).symm
 ·rw[if_neg h]
  refine Qq.mpr fun hm=>h ?_;unfold uX at hm;obtain⟨i,hi,rfl⟩:=MF.mp hm;rw[NT] at hi;refine⟨fun e=>?_,Oh _ _⟩;have:=congrArg O8 e;rw[Oj,OT] at this;omega
theorem xR(cs:List W)(p:W)(hp:p≠[]):(cs.flatMap uX).count p=many cs p:=by
 induction cs with
 | nil=>rfl
 | cons c r ih=>
  rw[Pz,Tj,ih,uM];unfold many
  by_cases h:p <+: c
  ·rw[if_pos ⟨hp,h⟩,QB (jL.mpr h),Mr]
   omega
  ·rw[if_neg fun z=>h z.2,QC fun z=>h (jL.mp z)]
   omega
structure Cnt(L:List W)(ks:List Key)(ps:List PV):Prop where
 len:ks.length=ps.length
 le:ks.length<=L.length
 at_:∀p:W,bM ks ps (.inr (mkS p))=if L.count p=0 then none else some (.int (L.count p))
theorem mkS_inj{a b:W}(h:mkS a=mkS b):a=b:=by
 have:=congrArg (fun s:Str=>s.cps.toList) h;simpa using this
theorem look_put(ks:List Key)(ps:List PV)(k:Key)(v:PV)(hl:ks.length=ps.length):∃ks' ps',iJ ks ps k v=.dct ks' ps'/\ks'.length=ps'.length/\ks'.length<=ks.length+1/\∀j,bM ks' ps' j=if k=j then some v else bM ks ps j:=by
 unfold iJ
 by_cases hk:(ks.any fun j=>decide (j=k))=true
 ·rw[if_pos hk]
  refine⟨ks,kD ks ps k v,rfl,by simp[kD,hl],by omega,fun j=>?_⟩
  induction ks generalizing ps with
  | nil=>simp at hk
  | cons a ks ih=>
   cases ps with
   | nil=>simp at hl
   | cons b ps=>
    have hl':ks.length=ps.length:=by simpa using hl
    have e:kD (a::ks) (b::ps) k v=(if a=k then v else b)::kD ks ps k v:=rfl;rw[e];simp only[mV]
    by_cases haj:a=j
    ·rw[if_pos haj,if_pos haj]
     by_cases hkj:k=j
     ·rw[if_pos (haj.trans hkj.symm),if_pos hkj]
     ·rw[if_neg fun z=>hkj (z.symm.trans haj),if_neg hkj]
    ·rw[if_neg haj,if_neg haj]
     by_cases hk2:(ks.any fun j=>decide (j=k))=true
     ·exact ih ps hl' hk2
     ·have hak:a=k:=by
       rw[Ng] at hk;simp only[QN,decide_eq_true_eq] at hk;exact hk.resolve_right hk2
      have hkj:¬ k=j:=fun z=>haj (hak.trans z);rw[if_neg hkj]
      have:kD ks ps k v=ps:=by
       clear ih hk e hl
       induction ks generalizing ps with
       | nil=>cases ps with
        | nil=>rfl
        | cons=>simp at hl'
       | cons c ks ih=>
        cases ps with
        | nil=>simp at hl'
        | cons d ps=>
         have e:kD (c::ks) (d::ps) k v=(if c=k then v else d)::kD ks ps k v:=rfl;rw[Ng] at hk2;simp only[QN,decide_eq_true_eq,not_or] at hk2;rw[e,if_neg hk2.1,ih ps (by simpa using hl') hk2.2]
      rw[this]
 ·rw[if_neg hk]
  refine⟨ks++[k],ps++[v],rfl,by simp[hl],by simp,fun j=>?_⟩
  induction ks generalizing ps with
  | nil=>
   cases ps with
   | nil=>simp[bM]
   | cons=>simp at hl
  | cons a ks ih=>
   cases ps with
   | nil=>simp at hl
   | cons b ps=>
    rw[Ng] at hk;simp only[QN,decide_eq_true_eq,not_or] at hk;simp only[OI,mV]
    by_cases haj:a=j
    ·rw[if_pos haj,if_pos haj,if_neg fun z=>hk.1 (haj.trans z.symm)]
    ·rw[if_neg haj,if_neg haj]
     exact ih ps (by simpa using hl) hk.2
theorem DO{L:List W}{ks:List Key}{ps:List PV}(c:Cnt L ks ps)(p:W):∃ks' ps',iJ ks ps (.inr (mkS p)) (.int ((L.count p:Int)+1))=.dct ks' ps'/\Cnt (L++[p]) ks' ps':=by
 obtain⟨ks',ps',e,h1,h2,h3⟩:=look_put ks ps (.inr (mkS p)) (.int ((L.count p:Int)+1)) c.len;refine⟨ks',ps',e,h1,by rw[Mi,O4];have:=c.le;omega,fun q=>?_⟩;rw[h3,Tj]
 by_cases hq:p=q
 ·subst hq
  rw[if_pos rfl,List.count_singleton_self,if_neg (by omega)]
  congr 2
 ·rw[if_neg fun z=>hq (mkS_inj (Ov z)),c.at_ q]
  have:List.count q [p]=0:=Qq.mpr (by simp;exact fun z=>hq z.symm);rw[this,Nat.add_zero]
theorem DP{L:List W}{ks:List Key}{ps:List PV}(c:Cnt L ks ps)(p:W):uE (.dct ks ps) (.str (mkS p)) (.int 0)=some (.int (L.count p)):=by
 show some ((bM ks ps (.inr (mkS p))).getD (.int 0))=_;rw[c.at_ p]
 split
 ·rename_i h
  rw[h];rfl
 ·rfl
end BG
end
namespace NW
open PySem L2 PU MT BG
def kC(p:W)(o:Option PV)(x:W×Str):Option PV:=if x.1=p then some (.str x.2) else if p≠[]/\p <+: x.1 then some .non else o
def BM(bs:List (W×Str))(p:W):Option PV:=bs.foldl (kC p) none
def yy(p:W)(x:W×Str):Bool:=decide (p≠[]) && pre p x.1
theorem ig{p:W}{x:W×Str}:yy p x=true ↔ p≠[]/\p <+: x.1:=by simp[yy,jL]
theorem iQ(p:W)(hp:p≠[]):∀(bs:List (W×Str))(o:Option PV),bs.foldl (kC p) o=match (bs.filter (yy p)).getLast? with
  | none=>o
  | some x=>if x.1=p then some (.str x.2) else some .non
 | [],o=>rfl
 | x::bs,o=>by
  rw[OU,iQ p hp bs]
  by_cases h:yy p x=true
  ·rw[QB h]
   have h':=(ig.mp h)
   have e:kC p o x=if x.1=p then some (.str x.2) else some .non:=by
    unfold kC;rw[if_pos h']
   cases hl:bs.filter (yy p) with
   | nil=>simp only[List.getLast?_nil,List.getLast?_singleton];exact e
   | cons a r=>
    rw[List.getLast?_cons_cons];cases hg:(a::r).getLast? with
    | none=>simp at hg
    | some y=>rfl
  ·rw[QC h]
   have h':¬ (p≠[]/\p <+: x.1):=fun z=>h (ig.mpr z)
   have e:kC p o x=o:=by
    unfold kC;rw[if_neg h',if_neg fun e=>h' ⟨hp,by rw[e];exact Q9 _⟩]
   rw[e]
section
variable{bs : List (W×Str)}(hne : ∀x ∈ bs, x.1 ≠ [])(hpf : ∀x ∈ bs, ∀y ∈ bs, x.1 <+: y.1 → x = y)
include hne hpf
theorem yE{x:W×Str}(hx:x∈bs):BM bs x.1=some (.str x.2):=by
 unfold BM;rw[iQ x.1 (hne x hx)];have m:x∈bs.filter (yy x.1):=Nj.mpr ⟨hx,ig.mpr ⟨hne x hx,Q9 _⟩⟩;cases e:(bs.filter (yy x.1)).getLast? with
 | none=>rw[Rw.mp e] at m;cases m
 | some y=>
  have my:=Nj.mp (Sv e);have:=hpf x hx y my.1 (ig.mp my.2).2;subst this;simp
theorem yD{x:W×Str}(hx:x∈bs){p:W}(hp:p≠[])(h1:p <+: x.1)(h2:p≠x.1):BM bs p=some .non:=by
 unfold BM;rw[iQ p hp];have m:x∈bs.filter (yy p):=Nj.mpr ⟨hx,ig.mpr ⟨hp,h1⟩⟩;cases e:(bs.filter (yy p)).getLast? with
 | none=>rw[Rw.mp e] at m;cases m
 | some y=>
  have my:=Nj.mp (Sv e)
  have h3:¬ y.1=p:=fun z=>by
   have:y=x:=hpf y my.1 x hx (by rw[z];exact h1);exact h2 (by rw[← z,this])
  simp only[if_neg h3]
omit hpf in
theorem va{p:W}(h:∀x∈bs,p≠[]->¬ p <+: x.1):BM bs p=none:=by
 unfold BM
 by_cases hp:p=[]
 ·subst hp
  have:∀(l:List (W×Str)),(∀x∈l,x.1≠[])->l.foldl (kC []) none=none:=by
   intro l
   induction l with
   | nil=>intro _;rfl
   | cons x l ih=>
    intro hl;rw[OU]
    have e:kC [] none x=none:=by
     unfold kC;rw[if_neg (hl x Mh),if_neg (by simp)]
    rw[e];exact ih fun y hy=>hl y (Me _ hy)
  exact this bs hne
 ·rw[iQ p hp]
  have:bs.filter (yy p)=[]:=List.filter_eq_nil_iff.mpr fun x hx z=>h x hx hp (ig.mp z).2;rw[this];rfl
end
structure Tells(ks:List Key)(ps:List PV)(F:W->Option PV):Prop where
 len:ks.length=ps.length
 at_:∀p,bM ks ps (.inr (mkS p))=F p
 nf:∀x∈ps,noFn x=true
theorem gJ:∀ps:List PV,aN ps=true ↔ ∀p∈ps,noFn p=true
 | []=>by simp[aN]
 | p::ps=>by
  have e:aN (p::ps)=(noFn p && aN ps):=by simp[aN]
  rw[e,ND,gJ ps];constructor
  ·rintro⟨h1,h2⟩ q hq
   rcases MP.mp hq with rfl | hq
   ·exact h1
   ·exact h2 q hq
  ·intro h
   exact⟨h p (by simp),fun q hq=>h q (by simp[hq])⟩
theorem v5{k:Key}{v x:PV}:∀(ks:List Key)(ps:List PV),x∈ks.zipWith (fun j q=>if j=k then v else q) ps->x∈ps\/x=v
 | [],_,h=>by simp at h
 | _::_,[],h=>by simp at h
 | j::ks,p::ps,h=>by
  rw[NU] at h;rcases MP.mp h with h | h
  ·by_cases e:j=k
   ·rw[if_pos e] at h;exact .inr h
   ·rw[if_neg e] at h;exact .inl (by simp[h])
  ·rcases v5 ks ps h with h | h
   ·exact .inl (by simp[h])
   ·exact .inr h
theorem vG{ks ks':List Key}{ps ps':List PV}{k:Key}{v:PV}(e:iJ ks ps k v=.dct ks' ps'){x:PV}(hx:x∈ps'):x∈ps\/x=v:=by
 unfold iJ at e;split at e
 ·injection e with e1 e2
  subst e2;exact v5 ks ps hx
 ·injection e with e1 e2
  subst e2;simpa using hx
theorem Tells.put{ks:List Key}{ps:List PV}{F:W->Option PV}(h:Tells ks ps F)(p0:W)(v:PV)(hv:noFn v=true):∃ks' ps',iJ ks ps (.inr (mkS p0)) v=.dct ks' ps'/\ks'.length<=ks.length+1/\Tells ks' ps' (fun p=>if p0=p then some v else F p):=by
 obtain⟨ks',ps',e,h1,h2,h3⟩:=look_put ks ps (.inr (mkS p0)) v h.len;refine⟨ks',ps',e,h2,h1,fun p=>?_,fun x hx=>(vG e hx).elim (h.nf x) fun z=>z▸hv⟩;rw[h3,h.at_]
 by_cases hp:p0=p
 ·rw[if_pos hp,if_pos (by rw[hp])]
 ·rw[if_neg hp,if_neg fun z=>hp (mkS_inj (Ov z))]
theorem sX{k:Key}:∀(ks:List Key)(ps:List PV),ks.length=ps.length->(ks.any fun j=>decide (j=k))=(bM ks ps k).isSome
 | [],[],_=>rfl
 | [],_::_,h=>by simp at h
 | _::_,[],h=>by simp at h
 | j::ks,p::ps,h=>by
  rw[mV,Ng]
  by_cases e:j=k
  ·simp[e]
  ·rw[if_neg e,sX ks ps (by simpa using h)]
   simp[e]
theorem Tells.notIn{ks:List Key}{ps:List PV}{F:W->Option PV}(h:Tells ks ps F)(p:W):iA (.str (mkS p)) (.dct ks ps)=some (.bl (!(F p).isSome)):=by
 have e:iA (.str (mkS p)) (.dct ks ps)=some (.bl (!(ks.any fun j=>decide (j=.inr (mkS p))))):=rfl;rw[e,sX ks ps h.len,h.at_]
theorem Tells.ix{ks:List Key}{ps:List PV}{F:W->Option PV}(h:Tells ks ps F)(p:W):gIx (.dct ks ps) (.str (mkS p))=F p:=h.at_ p
def AD(wt:List (W×Str)):PV:=.tup (wt.map fun p=>.tup [.str (mkS p.1),.str p.2])
def wtD(wt:List (W×Str)):PV:=.dct (wt.map fun p=>.inr (mkS p.1)) (wt.map fun p=>.str p.2)
theorem pM:∀wt:List (W×Str),km (wt.map fun p=>PV.tup [.str (mkS p.1),.str p.2])=some (wt.map fun p=>(.inr (mkS p.1),.str p.2))
 | []=>rfl
 | p::wt=>by
  rw[MC,MC];unfold km;rw[pM wt];rfl
theorem eJ{ks:List Key}{ps:List PV}{k:Key}{v:PV}(h:k ∉ ks):iJ ks ps k v=.dct (ks++[k]) (ps++[v]):=by
 unfold iJ;rw[if_neg]
 ·simpa using h
theorem xj:∀(wt:List (W×Str))(ks:List Key)(ps:List PV),((wt.map (·.1)).Nodup)->(∀p∈wt,(.inr (mkS p.1):Key) ∉ ks)->(wt.map fun p=>((.inr (mkS p.1):Key),PV.str p.2)).foldl Aq (.dct ks ps)=.dct (ks++wt.map fun p=>.inr (mkS p.1)) (ps++wt.map fun p=>.str p.2)
 | [],ks,ps,_,_=>by simp
 | p::wt,ks,ps,nd,hk=>by
  rw[MC,OU];have e:Aq (.dct ks ps) (.inr (mkS p.1),.str p.2)=.dct (ks++[.inr (mkS p.1)]) (ps++[.str p.2]):=eJ (hk p Mh);rw[e,xj wt _ _ (Mu.mp nd).2]
  ·simp
  ·intro q hq z
   rcases Mz.mp z with z | z
   ·exact hk q (Me _ hq) z
   ·have z:=Ov (MQ.mp z)
    have z:=mkS_inj z;exact(Mu.mp nd).1 (MF.mpr ⟨q,hq,z⟩)
theorem xH(wt:List (W×Str))(hl:wt.length<=1000)(nd:(wt.map (·.1)).Nodup):qg (AD wt)=some (wtD wt):=by
 have e:qg (AD wt)=if (wt.map fun p=>PV.tup [.str (mkS p.1),.str p.2]).length<=1000 then (km (wt.map fun p=>PV.tup [.str (mkS p.1),.str p.2])).map gL else none:=rfl
 rw[e,if_pos (by simpa using hl),pM];show some (gL _)=_;have m:∀l,gL l=l.foldl Aq (.dct [] []):=fun l=>rfl;rw[m,xj wt [] [] nd (by simp)];simp[wtD]
theorem D7(wt:List (W×Str)):xb (wtD wt)=some (.lst (wt.map fun p=>.str (mkS p.1))):=by
 show some (PV.lst ((wt.map fun p=>(.inr (mkS p.1):Key)).map zL))=_;rw[MV];rfl
theorem yP(wt:List (W×Str))(nd:(wt.map (·.1)).Nodup){p:W×Str}(hp:p∈wt):bM (wt.map fun p=>.inr (mkS p.1)) (wt.map fun p=>.str p.2) (.inr (mkS p.1))=some (.str p.2):=by
 induction wt with
 | nil=>cases hp
 | cons q wt ih=>
  rw[MC,MC,mV];rcases MP.mp hp with rfl | h
  ·rw[if_pos rfl]
  ·have nd':=Mu.mp nd
   rw[if_neg fun z=>nd'.1 (MF.mpr ⟨p,h,(mkS_inj (Ov z)).symm⟩)];exact ih nd'.2 h
theorem qe{α β:Type}(f:α->β):∀(l:List α),(l.map f).Nodup->∀x∈l,∀y∈l,f x=f y->x=y
 | [],_,x,hx,_,_,_=>by cases hx
 | a::l,nd,x,hx,y,hy,e=>by
  rw[MC,Mu] at nd;rcases MP.mp hx with h1 | h1
  ·rcases MP.mp hy with h2 | h2
   ·rw[h1,h2]
   ·exact absurd (MF.mpr ⟨y,h2,by rw[← e,h1]⟩) nd.1
  ·rcases MP.mp hy with h2 | h2
   ·exact absurd (MF.mpr ⟨x,h1,by rw[e,h2]⟩) nd.1
   ·exact qe f l nd.2 x h1 y h2 e
end NW
namespace PU
open PySem L2
theorem sy{m n:Nat}{g:PSt->R Fl}{ps:List PV}{p:PV}(hl:ps.length=m)(h:g (PU.start n ps)=.ok (.ret p)):runN m n g ps=some p:=by
 unfold runN;rw[if_pos hl,h]
@[simp] theorem Ig(p:PV)(ρ:PSt):AL 0 (.own p::ρ)=.ok (.ret p):=by unfold AL;exact Mn _
@[simp] theorem Ie(i:Nat)(l:Sl)(ρ:PSt):AL (i+1) (l::ρ)=AL i ρ:=by unfold AL;rw[Mg]
end PU
namespace K43
open PySem L2 PU
noncomputable section
abbrev eD:Addr:=173
abbrev fO:Addr:=139
def gZ:Stmt:=(bh (Mb.main.body.getD 34 (.Pass ⟨0,0,0,0⟩))).getD 2 (.Pass ⟨0,0,0,0⟩)
def gY:Stmt:=(bh (Mb.main.body.getD 34 (.Pass ⟨0,0,0,0⟩))).getD 3 (.Pass ⟨0,0,0,0⟩)
abbrev PTS:List Addr:=[eD,fO]
abbrev tw (w:Ml):TW:={ w:=w,tabs:=PTS,qual:=fun l _=>if l=(tP ⟨0,0,0,0⟩ gY).line then "compare.<locals>.is_apart" else if l=(tP ⟨0,0,0,0⟩ gZ).line then "compare.<locals>.lead" else "places.<locals>.<lambda>" }
theorem mX{w:Ml}:eD∈@TW.tabs (tw w):=.head _
theorem pz{w:Ml}:fO∈@TW.tabs (tw w):=.tail _ (.head _)
def c_CODE_END:PV:=(.str "#")
def c_HEARD:PV:=(.dct [(.inr "menu"),(.inr "names"),(.inr "hand"),(.inr "end")] [(.str "asked"),(.str "asked"),(.str "hand"),(.str "end")])
def c_SIGNS:PV:=(.str "0123456789*#w")
def c_WAIT:PV:=(.str "w")
def eS:PSt->R Fl:=(aQ (qH 2 (ar (ah 3) (kI 5040) eU)) (cy 3 (ar (ah 3) (kI 5040) Ds)))
def eR:PSt->R Fl:=(aQ (cy 3 (ar (ar (ar (ar (ah 3) (ah 4) gx) (kI 1) gx) (kI 48271) xa) (kI 2147483647) eU)) (qH 2 (ar (ar (ah 3) (kI 69621) xa) (kI 2147483629) eU)))
def dY:PSt->R Fl:=(aQ (lJ 2 (sW aM)) (aQ (cy 3 (ar (ah 0) (kI 2) Ds)) (aQ (ifF (dS (ar (ar (ah 0) (kI 2) eU) (kI 1) gEq)) (aQ (kG (Cb (ah 1)) (av 4) eS) (rK 2 (cu (ah 2)))) dm) (aQ (cy 3 (ar (ah 3) (kI 2147483647) eU)) (aQ (kG (Cb (ar (ah 1) (kI 1) gx)) (av 4) eR) (cu (mZ (kE 2) (kJ (kI 1)) gq)))))))
def b9:List PV->Option PV:=eI 2 5 dY
def dZ:PSt->R Fl:=(aQ (ifF (dS (ar (ah 1) (un1 (ah 0) qF) gLt)) (cu (ar (ah 0) (ah 1) gIx)) dm) (cu (kI 0)))
def aA:List PV->Option PV:=eI 2 2 dZ
def tj:PSt->R Fl:=(aQ (ifF (E2 (dS (ar (ah 1) (kI 0) gEq)) (dS (ah 2))) (cu (ar (ah 0) (kI 5) gIx)) dm) (aQ (ifF (E2 (dS (ar (ah 1) (kI 3) gEq)) (dS (ah 2))) (cu (ar (ah 0) (kI 6) gIx)) dm) (cu (ar (ar (mZ (ah 0) gq (kJ (kI 5))) (sW (ae (kS "back") aM)) gx) (ah 1) gIx))))
def bV:List PV->Option PV:=eI 3 3 tj
def cQ:PSt->R Fl:=(ifF (dS (ar (ar (ar (ah 1) (ah 4) gIx) (kI 4) eU) (kI 0) gEq)) (aQ (cy 6 (Ho (ah 2) (ar (ar (ar (ar (ah 1) (ah 4) gIx) (kI 4) Ds) (kI 2) eU) (kI 0) gEq))) (qH 3 (fP (ae (ah 5) (ae (aE (ae (ah 0) (ae (ar (ar (ah 1) (ar (ah 4) (kI 12) gx) gIx) (kI 6) eU) (ae (ah 6) aM))) bV) aM))))) dm)
def jW:PSt->R Fl:=(aQ (lJ 3 (sW aM)) (aQ (kG (xy (kS "0123456789*#")) (ir 2 (aO (av 4) (aO (av 5) iu))) cQ) (aQ (cy 7 (fP (ae (ar (kI 1) (ar (ar (ah 1) (kI 24) gIx) (kI 2) eU) gx) (ae (aE (ae (ah 0) (ae (ar (ar (ah 1) (kI 25) gIx) (kI 5) eU) (ae (ah 2) aM))) bV) aM)))) (aQ (cy 8 (fP (ae (kI 1) (ae (aE (ae (ah 0) (ae (ar (ar (ah 1) (kI 27) gIx) (kI 5) eU) (ae (Ho (ah 2) (ar (ar (ar (ah 1) (kI 28) gIx) (kI 2) eU) (kI 0) gEq)) aM))) bV) aM)))) (cu (fP (ae (kS "menu") (ae (kS "Hello") (ae (un1 (kE 3) nQ) (ae (ah 7) (ae (ah 8) aM)))))))))))
def fL:List PV->Option PV:=eI 3 9 jW
def iN:PSt->R Fl:=(aQ (cy 3 (aE (ae (aE (ae (ah 0) (ae (kI 1) aM)) aA) (ae (kI 30) aM)) b9)) (aQ (cy 4 (aE (ae (aE (ae (ah 0) (ae (kI 2) aM)) aA) (ae (kI 16) aM)) b9)) (aQ (cy 5 (so (fP (ae (fP (ae (kS "bo") (ae (aE (ae (ah 1) (ae (ar (ar (ah 4) (kI 0) gIx) (kI 5) eU) (ae (ah 2) aM))) bV) aM))) (ae (fP (ae (kS "lee") (ae (ar (ah 1) (ar (ar (ah 4) (kI 1) gIx) (kI 5) eU) gIx) aM))) aM))) gq (kJ (ar (kI 1) (ar (ar (ah 4) (kI 2) gIx) (kI 2) eU) gx)))) (aQ (cy 6 (fP (ae (kS "names") (ae (kS "Spell") (ae (ah 5) (ae (fP (ae (kI 1) (ae (ar (ah 1) (ar (ar (ah 4) (kI 4) gIx) (kI 5) eU) gIx) aM))) (ae (fP (ae (kI 1) (ae (aE (ae (ah 1) (ae (ar (ar (ah 4) (kI 8) gIx) (kI 5) eU) (ae (ah 2) aM))) bV) aM))) aM))))))) (aQ (cy 7 (fP (ae (ar (ar (ah 4) (kI 5) gIx) (kI 24) eU) (ae (kI 24) (ae (aE (ae (ah 1) (ae (ar (sW (ae (kI 0) (ae (kI 1) (ae (kI 3) aM)))) (ar (ar (ah 4) (kI 6) gIx) (kI 3) eU) gIx) (ae (ah 2) aM))) bV) aM))))) (aQ (lJ 8 (xI (qv (ar (ah 1) (kI 0) gIx) (aE (ae (ah 1) (ae (ah 3) (ae (ah 2) aM))) fL) (qv (ar (ah 1) (kI 1) gIx) (ah 6) G6)))) (aQ (qT 8 (ar (ah 1) (kI 2) gIx) (fP (ae (kS "hours") (ae (fP (ae (ah 7) aM)) (ae (ar (ah 1) (ar (sW (ae (kI 0) (ae (kI 1) (ae (kI 4) aM)))) (ar (ar (ah 4) (kI 9) gIx) (kI 3) eU) gIx) gIx) aM))))) (aQ (qT 8 (ar (ah 1) (kI 3) gIx) (fP (ae (kS "hand") (ae (kS "Ann") aM)))) (aQ (qT 8 (ar (ah 1) (kI 4) gIx) (fP (ae (kS "end") (ae (kS "Bye") aM)))) (aQ (ifF (dS (ah 2)) (aQ (qT 8 (ar (ah 1) (kI 5) gIx) (aE (ae (ah 1) (ae (ah 3) (ae (kB false) aM))) fL)) (qT 8 (ar (ah 1) (kI 6) gIx) (fP (ae (kS "hand") (ae (kS "Ann") aM))))) dm) (aQ (cy 9 (sW (ae (fP (ae (kS "3") (ae (kS "def") aM))) (ae (fP (ae (kS "4") (ae (kS "abc") aM))) (ae (fP (ae (kS "5") (ae (kS "jkl") aM))) (ae (fP (ae (kS "6") (ae (kS "mno") aM))) aM)))))) (rK 8 (cu (xI (qv (kS "first") (aE (ae (ah 1) (ae (ar (ar (ah 4) (kI 10) gIx) (kI 5) eU) (ae (ah 2) aM))) bV) (qv (kS "letters") (ah 9) (qv (kS "rooms") (ah 8) G6)))))))))))))))))
def eO:List PV->Option PV:=eI 3 10 iN
def fN:PSt->R Fl:=(ifF (dS (tT (ah 2) (ah 1) (ah 3) gLe gLt)) (cu (ah 4)) dm)
def kT:PSt->R Fl:=(aQ (kG (itF (ar (ah 0) (kI 1) gIx)) (ir 3 (aO (av 2) (aO (av 3) (aO (av 4) iu)))) fN) (cu (ar (ah 0) (kI 2) gIx)))
def kW:List PV->Option PV:=eI 2 5 kT
def gm:PSt->R Fl:=(cy 3 (aE (ae (ar (ar (ah 0) (kS "rooms") gIx) (ah 3) gIx) (ae (ah 1) aM)) kW))
def m7:PSt->R Fl:=(aQ (cy 3 (ah 2)) (aQ (whS 300 (dS (ar (ar (ar (ar (ah 0) (kS "rooms") gIx) (ah 3) gIx) (kI 0) gIx) (kS "hours") gEq)) gm) (cu (ah 3))))
def jo:List PV->Option PV:=eI 3 4 m7
def ma:PSt->R Fl:=(cu (fP (ae (aE (ae (ah 0) (ae (ah 1) (ae (ah 2) aM))) jo) (ae (ah 3) (ae (kI 0) (ae (kI 0) (ae (kS "") aM)))))))
def bX:List PV->Option PV:=eI 4 4 ma
def rH:PSt->R Fl:=(cu (aE (ae (ah 0) (ae (ah 1) (ae (ar (ah 0) (kS "first") gIx) (ae (kS "") aM)))) bX))
def c9:List PV->Option PV:=eI 2 2 rH
def dB:PSt->R Fl:=(aQ (cy 3 (ar (ar (ar (ah 0) (kS "rooms") gIx) (ar (ah 2) (kI 0) gIx) gIx) (kI 3) gIx)) (aQ (cy 4 (ar (ar (ah 2) (kI 2) gIx) (kI 1) gx)) (aQ (ifF (dS (ar (ah 4) (ar (ah 3) (kI 0) gIx) gEq)) (cu (aE (ae (ah 0) (ae (ah 1) (ae (ar (ah 3) (kI 1) gIx) (ae (ar (ah 2) (kI 0) gIx) aM)))) bX)) dm) (cu (fP (ae (ar (ah 2) (kI 0) gIx) (ae (ar (ah 2) (kI 1) gIx) (ae (ah 4) (ae (ar (ah 2) (kI 3) gIx) (ae (kS "") aM))))))))))
def bL:List PV->Option PV:=eI 3 5 dB
def gi:PSt->R Fl:=(aQ (cy 5 (ar (ar (ah 3) (kI 4) gIx) (ah 4) gx)) (aQ (ifF (dS (ar (ah 5) (ah 2) iA)) (cu (aE (ae (ah 0) (ae (ah 1) (ae (ah 3) aM))) bL)) dm) (aQ (cy 6 (ifV (dS (ar (ar (ah 2) (ah 5) gIx) (kS "back") gEq)) (ar (ah 3) (kI 1) gIx) (ar (ah 2) (ah 5) gIx))) (aQ (ifF (dS (ar (ah 6) kN zW)) (cu (fP (ae (ar (ah 3) (kI 0) gIx) (ae (ar (ah 3) (kI 1) gIx) (ae (ar (ah 3) (kI 2) gIx) (ae (ar (ah 3) (kI 3) gIx) (ae (ah 5) aM))))))) dm) (aQ (ifF (dS (ar (ah 6) (kS "") gEq)) (cu (aE (ae (ah 0) (ae (ah 1) (ae (ah 3) aM))) bL)) dm) (cu (aE (ae (ah 0) (ae (ah 1) (ae (ah 6) (ae (ar (ah 3) (kI 0) gIx) aM)))) bX)))))))
def e8:List PV->Option PV:=eI 5 7 gi
def jj:PSt->R Fl:=(aQ (cy 3 (ar (ar (ar (ah 0) (kS "rooms") gIx) (ar (ah 2) (kI 0) gIx) gIx) (kI 4) gIx)) (aQ (cy 4 (ar (ar (ah 2) (kI 3) gIx) (kI 1) gx)) (aQ (ifF (dS (ar (ah 4) (ar (ah 3) (kI 0) gIx) gEq)) (cu (aE (ae (ah 0) (ae (ah 1) (ae (ar (ah 3) (kI 1) gIx) (ae (ar (ah 2) (kI 0) gIx) aM)))) bX)) dm) (cu (fP (ae (ar (ah 2) (kI 0) gIx) (ae (ar (ah 2) (kI 1) gIx) (ae (ar (ah 2) (kI 2) gIx) (ae (ah 4) (ae (kS "") aM))))))))))
def jq:List PV->Option PV:=eI 3 5 jj
def f7:PSt->R Fl:=(aQ (cy 5 (ar (ar (ar (ah 0) (kS "rooms") gIx) (ar (ah 3) (kI 0) gIx) gIx) (kI 0) gIx)) (aQ (ifF (orB (dS (ar (ah 5) (kS "hand") gEq)) (dS (ar (ah 5) (kS "end") gEq))) (cu (ah 3)) dm) (aQ (ifF (dS (ar (ah 4) (kP c_WAIT) gEq)) (cu (aE (ae (ah 0) (ae (ah 1) (ae (ah 3) aM))) jq)) dm) (cu (aE (ae (ah 0) (ae (ah 1) (ae (ah 2) (ae (ah 3) (ae (ah 4) aM))))) e8)))))
def bG:List PV->Option PV:=eI 5 6 f7
def jX:PSt->R Fl:=(aQ (cy 2 (ar (ar (ah 0) (kS "rooms") gIx) (ar (ah 1) (kI 0) gIx) gIx)) (cu (fP (ae (ar (kP c_HEARD) (ar (ah 2) (kI 0) gIx) gIx) (ae (ar (ah 2) (kI 1) gIx) aM)))))
def dO:List PV->Option PV:=eI 2 3 jX
def mS:Expr:=AM 1 (.Constant .none 0 ⟨0,0,0,0⟩) ((bh (Mb.main.body.getD 26 (.Pass ⟨0,0,0,0⟩))).getD 1 (.Pass ⟨0,0,0,0⟩))
def bR:Lam:=D8 "places.<locals>.<lambda>" ["ways","hour","H"] (ai (Mb.main.body.getD 26 (.Pass ⟨0,0,0,0⟩))) mS
def ij:PSt->R PV:=(aE (ae (ah 4) (ae (ah 3) (ae (ar (ah 2) (ar (ah 0) (kI 0) gIx) gIx) (ae (ah 0) (ae (ah 1) aM))))) bG)
def mR:Expr:=AM 2 (.Constant .none 0 ⟨0,0,0,0⟩) ((bh (Mb.main.body.getD 26 (.Pass ⟨0,0,0,0⟩))).getD 1 (.Pass ⟨0,0,0,0⟩))
def bD:Lam:=D8 "places.<locals>.<lambda>" [] (ai (Mb.main.body.getD 26 (.Pass ⟨0,0,0,0⟩))) mR
def nV:PSt->R PV:=(kB false)
def aU:Lam:=DG "compare.<locals>.lead" ["ways","others","hour","H","G"] (ai (Mb.main.body.getD 34 (.Pass ⟨0,0,0,0⟩))) gZ
def gR:PSt->R Fl:=(aQ (cy 7 (aE (ae (ah 5) (ae (ah 4) (ae (ar (ah 2) (ar (ar (ah 0) (kI 0) gIx) (kI 0) gIx) gIx) (ae (ar (ah 0) (kI 0) gIx) (ae (ah 1) aM))))) bG)) (cu (fP (ae (ah 7) (ae (aE (ae (ah 6) (ae (ah 4) (ae (ar (ah 3) (ar (ar (ah 0) (kI 1) gIx) (kI 0) gIx) gIx) (ae (ar (ah 0) (kI 1) gIx) (ae (ah 1) aM))))) bG) aM)))))
def ku:PSt->R PV:=rX 1 gR
def aI:Lam:=DG "compare.<locals>.is_apart" ["H","G"] (ai (Mb.main.body.getD 34 (.Pass ⟨0,0,0,0⟩))) gY
def gQ:PSt->R Fl:=(cu (ar (aE (ae (ah 1) (ae (ar (ah 0) (kI 0) gIx) aM)) dO) (aE (ae (ah 2) (ae (ar (ah 0) (kI 1) gIx) aM)) dO) gNe))
def kq:PSt->R PV:=rX 0 gQ
open Classical in
noncomputable def appL(L:Lam)(qs cs:List PV):Option PV:=if L=bR then Bb 2 ij qs cs else if L=bD then Bb 1 nV qs cs else if L=aU then Bb 2 ku qs cs else if L=aI then Bb 1 kq qs cs else none
def bO:PSt->R Fl:=(qT 1 (kh (ah 2) gq (kJ (ah 3))) (ar (sV (kE 1) (kh (ah 2) gq (kJ (ah 3))) (kI 0) uE) (kI 1) gx))
def bN:PSt->R Fl:=(kG (Ee (kI 1) (ar (un1 (ah 2) qF) (kI 1) gx)) (av 3) bO)
def d3:PSt->R Fl:=(aQ (lJ 1 newD) (aQ (kG (itF (ah 0)) (av 2) bN) (rK 1 (cu (ah 1)))))
def bI:List PV->Option PV:=eI 1 4 d3
def ik:PSt->R Fl:=(ifF (dS (ar (ah 1) (ah 3) gIn)) (cu (ah 2)) dm)
def kR:PSt->R Fl:=(aQ (kG (itF (ah 0)) (ir 2 (aO (av 2) (aO (av 3) iu))) ik) (cu kN))
def kU:List PV->Option PV:=eI 2 4 kR
def iP:PSt->R PV:=(aE (ae (ah 1) (ae (ah 0) aM)) kU)
def m8:PSt->R Fl:=(aQ (cy 2 (gw (itF (ah 1)) (av 0) mI iP 1 [0])) (cu (ifV (dS (ar kN (ah 2) gIn)) kN (zE (kS "") (ah 2) xc))))
def gU:List PV->Option PV:=eI 2 3 m8
def cq:PSt->R Fl:=(ifF (dS (ar (ar (ah 1) (kh (ah 0) gq (kJ (ah 2))) gIx) (kI 1) gEq)) (cu (kh (ah 0) gq (kJ (ah 2)))) dm)
def cZ:PSt->R Fl:=(aQ (kG (Ee (kI 1) (un1 (ah 0) qF)) (av 2) cq) (cu (ah 0)))
def d7:List PV->Option PV:=eI 2 3 cZ
def fB:PSt->R PV:=(ar (aE (ae (ah 1) (ae (ah 0) aM)) gU) (kP c_CODE_END) gx)
def fA:PSt->R PV:=(fP (ae (ah 0) (ae (aE (ae (ah 1) (ae (ah 2) aM)) d7) aM)))
def gS:PSt->R Fl:=(aQ (cy 2 (gw (itF (ah 1)) (av 0) mI fB 1 [0])) (aQ (cy 3 (aE (ae (ah 2) aM) bI)) (cu (gw (E9 (ah 1) (ah 2)) (ir 2 (aO (av 0) (aO (av 1) iu))) mI fA 2 [3]))))
def dH:List PV->Option PV:=eI 2 4 gS
def cI:PSt->R Fl:=(qT 2 (kh (ah 4) gq (kJ (ah 5))) kN)
def cH:PSt->R Fl:=(aQ (kG (Ee (kI 1) (un1 (ah 4) qF)) (av 5) cI) (qT 2 (ah 4) (ar (ah 1) (ah 3) gIx)))
def gN:PSt->R Fl:=(aQ (lJ 2 newD) (aQ (kG (itF (aE (ae (ah 0) (ae (un1 (ah 1) xb) aM)) dH)) (ir 2 (aO (av 3) (aO (av 4) iu))) cH) (rK 2 (cu (ah 2)))))
def ff:List PV->Option PV:=eI 2 6 gN
def dw:PSt->R Fl:=(aQ (cy 2 (ar (ar (ah 0) (kS "rooms") gIx) (ah 1) gIx)) (aQ (ifF (dS (ar (ar (ah 2) (kI 0) gIx) (kS "menu") gEq)) (cu (un1 (ar (ah 2) (kI 2) gIx) qg)) dm) (aQ (ifF (dS (ar (ar (ah 2) (kI 0) gIx) (kS "names") gEq)) (cu (aE (ae (ar (ah 0) (kS "letters") gIx) (ae (un1 (ar (ah 2) (kI 2) gIx) qg) aM)) ff)) dm) (cu newD))))
def aJ:List PV->Option PV:=eI 2 3 dw
def fC:PSt->R Fl:=(qT 1 (ah 2) (aE (ae (ah 0) (ae (ah 2) aM)) aJ))
def gO:PSt->R Fl:=(aQ (lJ 1 newD) (aQ (kG (itF (ar (ah 0) (kS "rooms") gIx)) (av 2) fC) (rK 1 (cu (ah 1)))))
def aV:List PV->Option PV:=eI 1 3 gO
def aS:PSt->R Fl:=(aQ (cy 8 (kH 1 (ae (ar (ah 6) (kI 0) gIx) (ae (ah 7) aM)) appL)) (ifF (dS (ar (ah 8) (kE 3) jY)) (aQ (mK 3 (ah 8) (kB true)) (aQ (qH 4 (fP (ae (ah 8) (ae (ar (ar (ah 6) (kI 1) gIx) (ah 7) gx) aM)))) (ifF (dS (kH 2 (ae (ah 8) aM) appL)) Hk dm))) dm))
def aR:PSt->R Fl:=(aQ (cy 6 (ar (kE 4) (ah 5) gIx)) (aQ (DX 5 (kI 1)) (kG (itF (kP c_SIGNS)) (av 7) aS)))
def f9:PSt->R Fl:=(aQ (lJ 3 (uK (ah 0) (kB true))) (aQ (lJ 4 (sW (ae (fP (ae (ah 0) (ae (kS "") aM))) aM))) (aQ (cy 5 (kI 0)) (aQ (whS 10500000 (E2 (dS (ar (ah 5) (un1 (kE 4) qF) gLt)) (FY (dS (kH 2 (ae (ar (ar (kE 4) (un1 (kI 1) pd) gIx) (kI 0) gIx) aM) appL)))) aR) (AL 4)))))
def bH:List PV->Option PV:=runN 3 9 f9
def gk:PSt->R PV:=(fP (ae (ar (ah 0) (kI 0) gIx) (ae (ar (ah 0) (kI 1) gIx) (ae (ah 1) aM))))
def ji:PSt->R Fl:=(aQ (cy 3 (aE (ae (ah 0) aM) aV)) (aQ (cy 4 (aE (ae (ah 1) aM) aV)) (BB 5 (BB 6 (aQ (cy 7 (kz (yF (fP (ae (aE (ae (ah 0) (ae (ah 2) aM)) c9) (ae (aE (ae (ah 1) (ae (ah 2) aM)) c9) aM))) (qE aU [3,4,2,0,1] (qE aI [0,1] aM))) bH)) (aQ (cy 8 (gw (itF (ah 7)) (ir 2 (aO (av 0) (aO (av 1) iu))) mI gk 2 [])) (aQ (cy 9 (ar (ah 7) (un1 (kI 1) pd) gIx)) (aQ (ifF (dS (nX aI [0,1] (ae (ar (ah 9) (kI 0) gIx) aM) appL)) (cu (fP (ae (kS "apart") (ae (ar (ah 9) (kI 1) gIx) (ae (mZ (ah 8) gq (kJ (un1 (kI 1) pd))) aM))))) dm) (cu (fP (ae (kS "alike") (ae (ah 8) aM))))))))))))
def dG:List PV->Option PV:=eI 3 10 ji
def oQ:PSt->R Fl:=(aQ (cy 2 (aE (ae (ah 0) aM) aV)) (cu (kz (yF (aE (ae (ah 0) (ae (ah 1) aM)) c9) (qE bR [2,1,0] (qE bD [] aM))) bH)))
def e6:List PV->Option PV:=eI 2 3 oQ
def hJ:PSt->R Fl:=(vy 1 (ah 2) (un1 (kE 1) uD))
def gX:PSt->R PV:=(ar (ah 1) (ah 0) nR)
def jV:PSt->R Fl:=(aQ (lJ 1 CW) (aQ (kG (itF (ah 0)) (av 2) hJ) (rK 1 (cu (gw (itF (ah 0)) (av 0) mI gX 1 [1])))))
def cO:List PV->Option PV:=eI 1 3 jV
def dy:PSt->R PV:=(ar (ah 1) (ah 0) gIx)
def dA:PSt->R Fl:=(qH 2 (fP (ae (ah 3) (ae (un1 (gw (itF (ah 4)) (av 0) mI dy 1 [0]) nQ) aM))))
def eM:PSt->R Fl:=(aQ (lJ 2 (sW aM)) (aQ (kG (E9 (ah 0) (ah 1)) (ir 2 (aO (av 3) (aO (av 4) iu))) dA) (rK 2 (cu (aE (ae (ah 2) aM) cO)))))
def bw:List PV->Option PV:=eI 2 5 eM
def e9:PSt->R PV:=(aE (ae (ah 2) (ae (ah 0) aM)) dO)
def dj:PSt->R Fl:=(aQ (qH 3 (ah 4)) (cy 4 (aE (ae (ah 4) (ae (ah 2) aM)) bw)))
def iO:PSt->R Fl:=(aQ (lJ 3 (sW (ae (aE (ae (gw (itF (ah 1)) (ir 2 (aO (av 0) (aO (av 1) iu))) mI e9 2 [0]) aM) cO) aM))) (aQ (cy 4 (aE (ae (ar (kE 3) (un1 (kI 1) pd) gIx) (ae (ah 2) aM)) bw)) (aQ (whS 20000 (dS (ar (ah 4) (ar (kE 3) (un1 (kI 1) pd) gIx) gNe)) dj) (rK 3 (cu (ah 3))))))
def eQ:List PV->Option PV:=eI 3 5 iO
def di:PSt->R Fl:=(mK 4 (ar (ah 6) (kI 0) gIx) (ah 5))
def dh:PSt->R PV:=(ar (ah 1) (aE (ae (ah 2) (ae (ah 3) (ae (ar (ah 5) (ar (ah 4) (kI 0) gIx) gIx) (ae (ah 4) (ae (ah 0) aM))))) bG) nR)
def cg:PSt->R Fl:=(rK 4 (qH 7 (gw (itF (kP c_SIGNS)) (av 0) mI dh 1 [4,0,1,8,3])))
def gh:PSt->R Fl:=(aQ (cy 3 (aE (ae (ah 0) aM) aV)) (aQ (lJ 4 CW) (aQ (kG (xy (ah 2)) (ir 2 (aO (av 5) (aO (av 6) iu))) di) (aQ (lJ 7 (sW aM)) (aQ (kG (itF (ah 2)) (ir 2 (aO (av 8) (aO (av 9) iu))) cg) (rK 7 (cu (ah 7))))))))
def da:List PV->Option PV:=eI 3 10 gh
def m9:PSt->R Fl:=(aQ (cy 2 (aE (ae (ah 0) (ae (ah 1) aM)) e6)) (cu (ar (aE (ae (ah 0) (ae (ah 2) (ae (aE (ae (ah 0) (ae (ah 1) (ae (ah 2) aM))) da) aM))) eQ) (un1 (kI 1) pd) gIx)))
def de:List PV->Option PV:=eI 2 3 m9
def dQ:PSt->R Fl:=(mK 2 (ar (ah 3) (kI 0) gIx) (ah 4))
def fz:PSt->R Fl:=(aQ (lJ 2 CW) (aQ (kG (E9 (aE (ae (ah 0) (ae (ah 1) aM)) e6) (aE (ae (ah 0) (ae (ah 1) aM)) de)) (ir 2 (aO (av 3) (aO (av 4) iu))) dQ) (rK 2 (cu (ah 2)))))
def cF:List PV->Option PV:=eI 2 5 fz
def eA:PSt->R Fl:=(cy 7 (ar (ah 7) (ar (ah 1) (ar (ar (ar (ah 2) (ah 8) gIx) (ar (ar (kI 3) (ah 6) xa) (un1 (ar (ah 8) (ah 4) gEq) I9) xa) gx) (kI 20) eU) gIx) gx))
def eo:PSt->R Fl:=(aQ (cy 7 (kS "")) (aQ (kG (Cb (ah 3)) (av 8) eA) (qH 5 (ah 7))))
def iM:PSt->R Fl:=(aQ (cy 1 (kS "bcdfghjlmnpqrstvwxyz")) (aQ (cy 2 (aE (ae (ah 0) (ae (kI 10) aM)) b9)) (aQ (cy 3 (ar (kI 1) (ar (ar (ah 2) (kI 8) gIx) (kI 8) eU) gx)) (aQ (cy 4 (ar (ar (ah 2) (kI 9) gIx) (ah 3) eU)) (aQ (lJ 5 (sW aM)) (aQ (kG (Cb (kI 7)) (av 6) eo) (rK 5 (cu (ah 5)))))))))
def eN:List PV->Option PV:=eI 1 9 iM
def k9:PSt->R Fl:=(aQ (ko 8 (ar (ah 5) (ah 10) nR) (ar (ah 6) (ah 11) nR) (ar (ah 6) (ah 11) nR) (cu (kB false))) (ko 9 (ar (ah 6) (ah 11) nR) (ar (ah 5) (ah 10) nR) (ar (ah 5) (ah 10) nR) (cu (kB false))))
def zT:PSt->R Fl:=(aQ (cy 1 (aE (ae (ah 0) (ae (aE (ae (aE (ae (ah 0) (ae (kI 0) aM)) aA) aM) eN) (ae (kB false) aM))) eO)) (aQ (cy 2 (aE (ae (ah 0) (ae (aE (ae (aE (ae (ah 0) (ae (kI 3) aM)) aA) aM) eN) (ae (kB true) aM))) eO)) (aQ (cy 3 (ar (aE (ae (ah 0) (ae (kI 4) aM)) aA) (kI 24) eU)) (aQ (cy 4 (aE (ae (ah 1) (ae (ah 2) (ae (ah 3) aM))) dG)) (aQ (ifF (dS (ar (ar (ah 4) (kI 0) gIx) (kS "alike") gNe)) (cu (kB false)) dm) (aQ (cy 5 (aE (ae (ah 1) (ae (ah 3) aM)) cF)) (aQ (cy 6 (aE (ae (ah 2) (ae (ah 3) aM)) cF)) (aQ (cy 7 (un1 (aE (ae (ah 1) (ae (ah 3) aM)) de) rJ)) (aQ (ifF (orB (dS (ar (un1 (aE (ae (ah 2) (ae (ah 3) aM)) de) rJ) (ah 7) gNe)) (orB (dS (ar (un1 (ah 5) uD) (ar (ah 7) (kI 1) gx) gLt)) (dS (ar (un1 (ah 6) uD) (ar (ah 7) (kI 1) gx) gLt)))) (cu (kB false)) dm) (aQ (lJ 8 newD) (aQ (lJ 9 newD) (aQ (kG (itF (ar (ah 4) (kI 1) gIx)) (ir 3 (aO (av 10) (aO (av 11) (aO (av 12) iu)))) k9) (cu (ar (un1 (kE 8) qF) (ar (ah 7) (kI 1) gx) gEq))))))))))))))
def xq:List PV->Option PV:=eI 1 13 zT
end
end K43
namespace K43
open PySem L2 PU MT
theorem Ep(ls:WO.Lts)(c:Nat):kU [WO.ltPv ls,WO.sg c]=some (WO.keyPv (WO.keyL ls c)):=by
 refine aC rfl ?_
 obtain⟨k1,k2⟩:=jm (enc:=fun l:Nat×List Nat=>PV.tup [WO.sg l.1,.str (mkS l.2)]) (h:=ir 2 (aO (av 2) (aO (av 3) iu))) (g:=ik) (fun l=>decide (c∈l.2)) (fun l=>WO.sg l.1)
  (I:=fun ρ=>∃a b,ρ=[.val (WO.ltPv ls),.val (WO.sg c),a,b]) (by
   rintro l ρ ⟨a,b,rfl⟩;have e:=WO.in_one c l.2;refine⟨_,rfl,fun hp=>?_,fun hp=>⟨_,?_,.val (WO.sg l.1),.val (.str (mkS l.2)),rfl⟩⟩
   ·rw[hp] at e
    simp[ik,e]
   ·rw[hp] at e
    simp[ik,e]) ls [.val (WO.ltPv ls),.val (WO.sg c),.no,.no] ⟨_,_,rfl⟩
 have ei:fK (WO.ltPv ls)=some (ls.map fun l=>PV.tup [WO.sg l.1,.str (mkS l.2)]):=rfl;cases e:ls.find? (fun l=>decide (c∈l.2)) with
 | some l=>
  have k:=k1 l e;simp[kR,PU.start,ei];rw[k];simp[WO.keyPv,WO.keyL,e]
 | none=>
  obtain⟨ρ',k,a,b,rfl⟩:=k2 e;simp[kR,PU.start,ei];rw[k];simp[WO.keyPv,WO.keyL,e]
theorem BQ(ls:WO.Lts)(x:List Nat)(hx:x.length<=1000):gU [WO.ltPv ls,.str (mkS x)]=some (WO.codePv (WO.codeL ls x)):=by
 refine aC rfl ?_
 have c1:cG (av 0) mI iP [.no,.val (WO.ltPv ls)] (x.map WO.sg)=.ok (x.map fun c=>WO.keyPv (WO.keyL ls c)):=
  WO.in_list_comp (fun c=>WO.keyPv (WO.keyL ls c)) x fun c _=>⟨_,qI _,by simp[iP,Ep]⟩
 have c2:=WO.none_in ls x;have hl:x.length<=16777216:=by omega
 simp[m8,PU.start,WO.it_mk,v9,Mv,c1,hl,c2];cases h:x.all fun c=>(WO.keyL ls c).isSome with
 | false=>simp[WO.codeL,h,WO.codePv]
 | true=>
  have e:(x.map fun c=>WO.keyPv (WO.keyL ls c))=(x.map fun c=>(WO.keyL ls c).getD 0).map WO.sg:=by
   rw[MV];apply Os;intro c hc;have:=Om.mp h c hc;cases h2:WO.keyL ls c with
   | none=>rw[h2] at this;cases this
   | some k=>simp[WO.keyPv,h2]
  have j:=WO.joinV (x.map fun c=>(WO.keyL ls c).getD 0) (by simpa using hx);rw[e];simp[-MV,j,WO.codeL,h,WO.codePv]
open BG
abbrev bst(codes:PV)(ks:List Key)(ps:List PV)(a b:Sl):PSt:=[.val codes,.own (.dct ks ps),a,b]
theorem JW(codes:PV)(L:List W)(ks:List Key)(ps:List PV)(h:Cnt L ks ps)(c:W)(n:Nat)(hc:c.length<=100)(hL:L.length<=10000):∃ks' ps',Cnt (L++[c.take n]) ks' ps'/\
  bO (bst codes ks ps (.val (.str (mkS c))) (.val (.int n)))=.ok (.next (bst codes ks' ps' (.val (.str (mkS c))) (.val (.int n)))):=by
 obtain⟨ks',ps',e,h'⟩:=DO h (c.take n);have e1:=BS (x:=mkS c) none (some (n:Int)) (by rw[fw];omega);rw[o8] at e1;have e2:=DP h (c.take n);have z:ks.length<16777216:=by have:=h.le;omega
 refine⟨ks',ps',h',?_⟩;simp[bO,bst,e1,e2,z,e]
theorem JV(codes:PV)(L:List W)(ks:List Key)(ps:List PV)(h:Cnt L ks ps)(c:W)(b:Sl)(hc:c.length<=100)(hL:L.length<=9000):∃ks' ps' b',Cnt (L++uX c) ks' ps'/\
  bN (bst codes ks ps (.val (.str (mkS c))) b)=.ok (.next (bst codes ks' ps' (.val (.str (mkS c))) b')):=by
 obtain⟨ρ',f1,ks',ps',b',rfl,h'⟩:=forR (n:=c.length) (lo:=1) (h:=av 3) (g:=bO) (ρ:=bst codes ks ps (.val (.str (mkS c))) b)
  (I:=fun i ρ=>∃ks ps b,ρ=bst codes ks ps (.val (.str (mkS c))) b/\Cnt (L++(MX i).map fun j=>c.take (j+1)) ks ps) ⟨ks,ps,b,rfl,by simpa using h⟩ (by
   rintro i ρ hi ⟨ks,ps,b,rfl,h⟩;obtain⟨ks',ps',h',e⟩:=JW codes _ ks ps h c (i+1) hc (by simp;omega);have ei:(1:Int)+(i:Int)=((i+1:Nat):Int):=by omega
   rw[ei];refine⟨_,_,rfl,.inl e,ks',ps',_,rfl,?_⟩;rw[OS,Mc,← NQ];exact h')
 refine⟨ks',ps',b',h',?_⟩;have e1:qF (.str (mkS c))=some (.int c.length):=by rw[kZ (by rw[fw];omega),fw]
 have e2:Ed (.int 1) (.int ((c.length:Int)+1))=.ok (cD 1 c.length):=by rw[vc (by omega) (by omega) (by omega) (by omega)];congr 2;omega
 simp[bN,e1,e2];exact f1
theorem yc(cs:List W)(hn:cs.length<=12)(hc:∀c∈cs,c.length<=20):∃ks ps,Cnt (cs.flatMap uX) ks ps/\bI [.lst (cs.map fun c=>.str (mkS c))]=some (.dct ks ps):=by
 obtain⟨ρ',f1,ks,ps,a,b,rfl,h⟩:=forM (enc:=fun c:W=>PV.str (mkS c)) (xs:=cs) (h:=av 2) (g:=bN) (ρ:=bst (.lst (cs.map fun c=>.str (mkS c))) [] [] .no .no)
  (I:=fun pre ρ=>∃ks ps a b,ρ=bst (.lst (cs.map fun c=>.str (mkS c))) ks ps a b/\Cnt (pre.flatMap uX) ks ps) ⟨[],[],_,_,rfl,⟨rfl,by simp,fun p=>by simp[bM]⟩⟩ (by
   rintro pre c post ρ hx ⟨ks,ps,a,b,rfl,h⟩;have hcm:c∈cs:=by rw[hx];simp
   have hpl:pre.length<=12:=by
    have:=congrArg O8 hx;rw[Mi] at this;omega
   have hfl:=xm (l:=pre) (f:=uX) (b:=20) fun x hxm=>by
    unfold uX;rw[MG,List.length_range];exact hc x (by rw[hx];exact Oe _ hxm)
   obtain⟨ks',ps',b',h',e⟩:=JV (.lst (cs.map fun c=>.str (mkS c))) _ ks ps h c b (by have:=hc c hcm;omega) (by omega);refine⟨_,_,rfl,.inl e,ks',ps',_,_,rfl,?_⟩;rw[List.flatMap_append];simpa using h')
 refine⟨ks,ps,h,aC rfl ?_⟩;simp[d3,PU.start];rw[f1];simp
theorem Hm(cs:List W)(ks:List Key)(ps:List PV)(h:Cnt (cs.flatMap uX) ks ps)(c:W)(hc:c∈cs)(hne:c≠[])(hl:c.length<=100):d7 [.str (mkS c),.dct ks ps]=some (.str (mkS (own cs c))):=by
 refine aC rfl ?_
 have key:∀i:Nat,gIx (.dct ks ps) (.str (mkS (c.take (i+1))))=some (.int (many cs (c.take (i+1)))):=fun i=>by
  have hp:c.take (i+1)≠[]:=fun e=>by
   cases c with
   | nil=>exact hne rfl
   | cons a r=>simp at e
  show bM ks ps (.inr (mkS (c.take (i+1))))=_;rw[h.at_,xR cs _ hp,if_neg];intro e;unfold many at e;have:c∈cs.filter (pre (c.take (i+1))):=Nj.mpr ⟨hc,jL.mpr (Oh _ _)⟩;rw[P5.mp e] at this;cases this
 obtain⟨k1,k2⟩:=jm (enc:=fun i:Nat=>PV.int (1+(i:Nat))) (h:=av 2) (g:=cq) (fun i=>decide (many cs (c.take (i+1))=1)) (fun i=>PV.str (mkS (c.take (i+1))))
  (I:=fun ρ=>∃a,ρ=[.val (.str (mkS c)),.val (.dct ks ps),a]) (by
   rintro i ρ ⟨a,rfl⟩;have e1:=BS (x:=mkS c) none (some ((i+1:Nat):Int)) (by rw[fw];omega);rw[o8] at e1;have ei:(1:Int)+(i:Int)=((i+1:Nat):Int):=by omega
   have e2:=key i;have e2:((eV (.str (mkS (c.take (i+1))))).bind fun k=>bM ks ps k)=some (.int (many cs (c.take (i+1)))):=e2;rw[ei];refine⟨_,rfl,fun hp=>?_,fun hp=>⟨_,?_,.val (.int ((i+1:Nat):Int)),rfl⟩⟩
   ·have hp:many cs (c.take (i+1))=1:=by simpa using hp
    rw[hp] at e2;have e2:bM ks ps (.inr (mkS (c.take (i+1))))=some (.int 1):=e2;have e1:zU (.str (mkS c)) none (some ((i:Int)+1))=some (.str (mkS (c.take (i+1)))):=e1;simp[cq,e1,e2]
   ·have hp:¬ many cs (c.take (i+1))=1:=by simpa using hp
    have hp2:¬ ((many cs (c.take (i+1)):Nat):Int)=1:=by omega
    have e2:bM ks ps (.inr (mkS (c.take (i+1))))=some (.int (many cs (c.take (i+1)))):=e2;have e1:zU (.str (mkS c)) none (some ((i:Int)+1))=some (.str (mkS (c.take (i+1)))):=e1;simp[cq,e1,e2,hp2]) (MX (c.length-1)) [.val (.str (mkS c)),.val (.dct ks ps),.no] ⟨_,rfl⟩
 have e1:qF (.str (mkS c))=some (.int c.length):=by rw[kZ (by rw[fw];omega),fw]
 have e2:Ed (.int 1) (.int (c.length:Int))=.ok ((MX (c.length-1)).map fun i:Nat=>PV.int (1+(i:Nat))):=by rw[vc (by omega) (by omega) (by omega) (by omega),show ((c.length:Int)-1).toNat=c.length-1 by omega];rfl
 unfold own;cases e:(MX (c.length-1)).find? (fun i=>decide (many cs (c.take (i+1))=1)) with
 | some i=>
  have k:=k1 i e;simp only[cZ,PU.start,MC,O7,Mr,OT,Mv,OI,Pi,v8,AB,Az,Ka,En,qJ,lV,Gv,e1,R.ofO_some,wN,e2,Gy,k,wO]
 | none=>
  obtain⟨ρ',k,a,rfl⟩:=k2 e;simp only[cZ,PU.start,MC,O7,Mr,OT,Mv,OI,Pi,v8,AB,Az,Ka,En,qJ,lV,Gv,e1,R.ofO_some,wN,e2,Gy,k,nM,AA,Gw]
def cdW(ls:WO.Lts)(w:W):W:=w.map (fun c=>(WO.keyL ls c).getD 0)
def cdH(ls:WO.Lts)(w:W):W:=cdW ls w++[35]
def told(ls:WO.Lts)(ws:List W)(w:W):PV:=.tup [.str (mkS w),.str (mkS (own (ws.map (cdH ls)) (cdH ls w)))]
theorem Am(ls:WO.Lts)(ws:List W)(hn:ws.length<=12)(hw:∀w∈ws,w.length<=12/\∀c∈w,(WO.keyL ls c).isSome=true):dH [WO.ltPv ls,.lst (ws.map fun w=>.str (mkS w))]=some (.lst (ws.map (told ls ws))):=by
 refine aC rfl ?_;have hash:("#":Str)=mkS [35]:=by decide +kernel
 have c1:cG (av 0) mI fB [.no,.val (WO.ltPv ls)] (ws.map fun w=>.str (mkS w))=.ok (ws.map fun w=>.str (mkS (cdH ls w))):=
  WO.in_list_comp (enc:=fun w:W=>PV.str (mkS w)) (fun w=>.str (mkS (cdH ls w))) ws fun w hwm=>by
   have h:=hw w hwm;have e:=BQ ls w (by omega)
   have e2:WO.codeL ls w=some (cdW ls w):=by
    unfold WO.codeL;rw[if_pos (Om.mpr fun c hc=>h.2 c hc)];rfl
   rw[e2] at e;have e:gU [WO.ltPv ls,.str (mkS w)]=some (.str (mkS (cdW ls w))):=e
   have e3:gx (.str (mkS (cdW ls w))) c_CODE_END=some (.str (mkS (cdH ls w))):=by
    show gx (.str (mkS (cdW ls w))) (.str "#")=_;rw[hash,l5 (by simp[cdW];omega),lP];rfl
   exact⟨_,qI _,by simp[fB,e,e3]⟩
 obtain⟨ks,ps,h,e2⟩:=yc (ws.map (cdH ls)) (by simpa using hn) (fun c hc=>by
  obtain⟨w,hwm,rfl⟩:=MF.mp hc;have:=(hw w hwm).1;simp[cdH,cdW];omega)
 have e2:bI [.lst (ws.map fun w=>.str (mkS (cdH ls w)))]=some (.dct ks ps):=by rw[← e2,MV];rfl
 have ez:∀l:List W,(p9 (l.map fun w=>PV.str (mkS w)) (l.map fun w=>PV.str (mkS (cdH ls w)))).map PV.tup=l.map fun w=>PV.tup [.str (mkS w),.str (mkS (cdH ls w))]:=by
  intro l;unfold p9
  induction l with
  | nil=>rfl
  | cons a r ih=>simp only[MC,NU];rw[ih]
 have c2:cG (ir 2 (aO (av 0) (aO (av 1) iu))) mI fA [.no,.no,.val (.dct ks ps)] (ws.map fun w=>PV.tup [.str (mkS w),.str (mkS (cdH ls w))])=.ok (ws.map (told ls ws)):=
  WO.in_list_comp (enc:=fun w:W=>PV.tup [.str (mkS w),.str (mkS (cdH ls w))]) (told ls ws) ws fun w hwm=>by
   have:=(hw w hwm).1;have e:=Hm (ws.map (cdH ls)) ks ps h (cdH ls w) (MF.mpr ⟨w,hwm,rfl⟩) (by simp[cdH]) (by simp[cdH,cdW];omega);exact⟨[.val (.str (mkS w)),.val (.str (mkS (cdH ls w))),.val (.dct ks ps)],rfl,by simp[fA,e,told]⟩
 have z:ws.length<=16777216:=by omega
 have ei:fK (.lst (ws.map fun w=>PV.str (mkS w)))=some (ws.map fun w=>PV.str (mkS w)):=rfl;have zq:=Bj (ws.map fun w=>PV.str (mkS w)) (ws.map fun w=>PV.str (mkS (cdH ls w))) (by rw[qk];rfl);simp[gS,PU.start,v9,Mv,c1,z,e2,zq];rw[ez,c2];simp[z]
open NW
abbrev yv(L D:PV)(ks:List Key)(ps:List PV)(a b c:Sl):PSt:=[.val L,.val D,.own (.dct ks ps),a,b,c]
theorem Jl(L D:PV)(ks:List Key)(ps:List PV)(F:W->Option PV)(h:Tells ks ps F)(a:Sl)(b:W)(n:Nat)(hb:b.length<=100)(hk:ks.length<=100000):∃ks' ps',Tells ks' ps' (fun p=>if b.take n=p then some .non else F p)/\ks'.length<=ks.length+1/\
  cI (yv L D ks ps a (.val (.str (mkS b))) (.val (.int n)))=.ok (.next (yv L D ks' ps' a (.val (.str (mkS b))) (.val (.int n)))):=by
 obtain⟨ks',ps',e,h1,h2⟩:=h.put (b.take n) .non (by simp[noFn]);have e1:=BS (x:=mkS b) none (some (n:Int)) (by rw[fw];omega);rw[o8] at e1;have z:ks.length<16777216:=by omega
 refine⟨ks',ps',h2,h1,?_⟩;simp[cI,yv,e1,z,e]
theorem Jk(L D:PV)(ks:List Key)(ps:List PV)(F:W->Option PV)(h:Tells ks ps F)(w b:W)(t:Str)(hne:b≠[])(hD:gIx D (.str (mkS w))=some (.str t))(x:Sl)(hb:b.length<=100)(hk:ks.length<=10000):∃ks' ps' x',Tells ks' ps' (fun p=>kC p (F p) (b,t))/\ks'.length<=ks.length+100/\
  cH (yv L D ks ps (.val (.str (mkS w))) (.val (.str (mkS b))) x)=.ok (.next (yv L D ks' ps' (.val (.str (mkS w))) (.val (.str (mkS b))) x')):=by
 have hbl:1<=b.length:=by cases b with | nil=>exact absurd rfl hne | cons _ _=>simp
 obtain⟨ρ',f1,ks1,ps1,x1,rfl,h1,l1⟩:=forR (n:=b.length-1) (lo:=1) (h:=av 5) (g:=cI) (ρ:=yv L D ks ps (.val (.str (mkS w))) (.val (.str (mkS b))) x)
  (I:=fun i ρ=>∃ks1 ps1 x1,ρ=yv L D ks1 ps1 (.val (.str (mkS w))) (.val (.str (mkS b))) x1/\Tells ks1 ps1 (fun p=>if p∈(MX i).map (fun j=>b.take (j+1)) then some .non else F p)/\ks1.length<=ks.length+i)
  ⟨ks,ps,x,rfl,⟨h.len,fun p=>by rw[h.at_,if_neg (by simp)],h.nf⟩,by omega⟩ (by
   rintro i ρ hi ⟨ks1,ps1,x1,rfl,h1,l1⟩;obtain⟨ks2,ps2,h2,l2,e⟩:=Jl L D ks1 ps1 _ h1 (.val (.str (mkS w))) b (i+1) hb (by omega);have ei:(1:Int)+(i:Int)=((i+1:Nat):Int):=by omega
   rw[ei];refine⟨_,_,rfl,.inl e,ks2,ps2,_,rfl,⟨h2.len,fun p=>?_,h2.nf⟩,by omega⟩;rw[h2.at_,OS,Mc]
   by_cases hp:b.take (i+1)=p
   ·rw[if_pos hp,if_pos (My _ (by simp[hp]))]
   ·rw[if_neg hp]
    by_cases hq:p∈(MX i).map (fun j=>b.take (j+1))
    ·rw[if_pos hq,if_pos (Oe _ hq)]
    ·rw[if_neg hq,if_neg]
     intro z;rcases Mz.mp z with z | z
     ·exact hq z
     ·rw[Qo,MQ] at z
      exact hp z.symm)
 obtain⟨ks2,ps2,e2,l2,h2⟩:=h1.put b (.str t) (by simp[noFn]);refine⟨ks2,ps2,x1,⟨h2.len,fun p=>?_,h2.nf⟩,by omega,?_⟩
 ·rw[h2.at_]
  unfold kC
  by_cases hp:b=p
  ·simp only[if_pos hp]
  ·simp only[if_neg hp]
   by_cases hq:p≠[]/\p <+: b
   ·rw[if_pos hq,if_pos]
    have hl:=Nn hq.2
    have h0:1<=p.length:=by
     cases p with
     | nil=>exact absurd rfl hq.1
     | cons _ _=>simp
    have ht:=P4.mp hq.2;have hlt:p.length≠b.length:=fun z=>hp (by rw[z,Q8] at ht;exact ht.symm);exact MF.mpr ⟨p.length-1,NT.mpr (by omega),by rw[show p.length-1+1=p.length by omega];exact ht.symm⟩
   ·rw[if_neg hq,if_neg]
    intro z;obtain⟨j,q2,rfl⟩:=MF.mp z;have q2:=NT.mp q2;refine hq ⟨fun z=>?_,Oh _ _⟩;cases b with
    | nil=>exact hne rfl
    | cons a r=>simp at z
 ·have e1:qF (.str (mkS b))=some (.int b.length):=by rw[kZ (by rw[fw];omega),fw]
  have e3:Ed (.int 1) (.int (b.length:Int))=.ok (cD 1 (b.length-1)):=by rw[vc (by omega) (by omega) (by omega) (by omega)];congr 2;omega
  have z:ks1.length<16777216:=by omega
  have f1:gT (av 5) cI (cD 1 (b.length-1)) [.val L,.val D,.own (.dct ks ps),.val (.str (mkS w)),.val (.str (mkS b)),x]=.ok (.next [.val L,.val D,.own (.dct ks1 ps1),.val (.str (mkS w)),.val (.str (mkS b)),x1]):=f1;simp only[yv];simp[cH,e1,e3,f1,hD,z,e2]
def yA(ls:WO.Lts)(wt:List (W×Str)):List (W×Str):=wt.map fun p=>(own ((wt.map (·.1)).map (cdH ls)) (cdH ls p.1),p.2)
theorem zA(ls:WO.Lts)(wt:List (W×Str))(hn:wt.length<=12)(hw:∀p∈wt,p.1.length<=12/\∀c∈p.1,(WO.keyL ls c).isSome=true)(nd:(wt.map (·.1)).Nodup):∃ks ps,Tells ks ps (BM (yA ls wt))/\ff [WO.ltPv ls,wtD wt]=some (.dct ks ps):=by
 have eb:=Am ls (wt.map (·.1)) (by simpa using hn) (fun w hwm=>by obtain⟨p,hp,rfl⟩:=MF.mp hwm;exact hw p hp);have el:=D7 wt;rw[MV] at eb;have eb:dH [WO.ltPv ls,.lst (wt.map fun p=>.str (mkS p.1))]=some (.lst ((wt.map (·.1)).map (told ls (wt.map (·.1))))):=eb;rw[MV] at eb
 let B:W×Str->W:=fun p=>own ((wt.map (·.1)).map (cdH ls)) (cdH ls p.1)
 have hB:∀p∈wt,B p≠[]/\(B p).length<=100:=fun p hp=>⟨AW _ _ (by simp[cdH]),by
  have h1:=Nn (oy ((wt.map (·.1)).map (cdH ls)) (cdH ls p.1));have h2:=(hw p hp).1;have h3:(cdH ls p.1).length=p.1.length+1:=by simp[cdH,cdW]
  show (own _ _).length<=100;omega⟩
 obtain⟨ρ',f1,ks,ps,a,b,c,rfl,h,l⟩:=forM (enc:=fun p:W×Str=>PV.tup [.str (mkS p.1),.str (mkS (B p))]) (xs:=wt) (h:=ir 2 (aO (av 3) (aO (av 4) iu))) (g:=cH) (ρ:=yv (WO.ltPv ls) (wtD wt) [] [] .no .no .no)
  (I:=fun pre ρ=>∃ks ps a b c,ρ=yv (WO.ltPv ls) (wtD wt) ks ps a b c/\Tells ks ps (fun p=>(pre.map fun q=>(B q,q.2)).foldl (kC p) none)/\ks.length<=pre.length * 100) ⟨[],[],.no,.no,.no,rfl,⟨rfl,fun p=>rfl,by simp⟩,by simp⟩ (by
   rintro pre p post ρ hx ⟨ks,ps,a,b,c,rfl,h,l⟩;have hp:p∈wt:=by rw[hx];simp
   have hpl:pre.length<=12:=by
    have:=congrArg O8 hx;rw[Mi] at this;omega
   have hD:gIx (wtD wt) (.str (mkS p.1))=some (.str p.2):=yP wt nd hp;obtain⟨ks',ps',x',h',l',e⟩:=Jk (WO.ltPv ls) (wtD wt) ks ps _ h p.1 (B p) p.2 (hB p hp).1 hD c (hB p hp).2 (by omega);refine⟨_,_,rfl,.inl e,ks',ps',_,_,_,rfl,⟨h'.len,fun q=>?_,h'.nf⟩,by simp;omega⟩;rw[h'.at_,Mc,OZ];rfl)
 refine⟨ks,ps,h,aC rfl ?_⟩;have ei:fK (.lst (wt.map (told ls (wt.map (·.1)) ∘ fun x=>x.1)))=some (wt.map fun p:W×Str=>PV.tup [.str (mkS p.1),.str (mkS (B p))]):=rfl;have f1:gT (ir 2 (aO (av 3) (aO (av 4) iu))) cH (wt.map fun p:W×Str=>PV.tup [.str (mkS p.1),.str (mkS (B p))]) [.val (WO.ltPv ls),.val (wtD wt),.own (.dct [] []),.no,.no,.no]=.ok (.next [.val (WO.ltPv ls),.val (wtD wt),.own (.dct ks ps),a,b,c]):=f1;generalize (wt.map fun p:W×Str=>PV.tup [.str (mkS p.1),.str (mkS (B p))])=TL at *;generalize PV.lst (wt.map (told ls (wt.map (·.1)) ∘ fun x=>x.1))=TQ at *;generalize PV.lst (wt.map fun p=>.str (mkS p.1))=WL at *;generalize wtD wt=DD at *;generalize WO.ltPv ls=LL at *;simp[gN,PU.start,el,eb,ei,f1]
theorem De{ls:WO.Lts}{c:Nat}(h:(WO.keyL ls c).isSome=true):∃l∈ls,(WO.keyL ls c).getD 0=l.1:=by
 unfold WO.keyL at h ⊢;cases e:ls.find? fun l=>decide (c∈l.2) with
 | none=>rw[e] at h;cases h
 | some l=>exact⟨l,NF e,rfl⟩
theorem Hd{ls:WO.Lts}(hk:∀l∈ls,l.1≠35){w:W}(hw:∀c∈w,(WO.keyL ls c).isSome=true):Code (cdH ls w):=by
 refine⟨cdW ls w,rfl,fun z=>?_⟩;obtain⟨c,hc,e⟩:=MF.mp z;obtain⟨l,hl,e2⟩:=De (hw c hc);exact hk l hl (by rw[← e2,e])
section
variable{ls : WO.Lts}{wt : List (W×Str)}(hk : ∀l ∈ ls, l.1 ≠ 35)(hw : ∀p ∈ wt, ∀c ∈ p.1, (WO.keyL ls c).isSome = true)(nc : (wt.map fun p => cdH ls p.1).Nodup)
omit hk hw nc in
theorem JT:∀x∈yA ls wt,x.1≠[]:=fun x hx=>by
 obtain⟨p,_,rfl⟩:=MF.mp hx;exact AW _ _ (by simp[cdH])
include hk hw nc
theorem DJ:∀c∈(wt.map (·.1)).map (cdH ls),Code c:=fun c hc=>by
 obtain⟨w,hwm,rfl⟩:=MF.mp hc;obtain⟨p,hp,rfl⟩:=MF.mp hwm;exact Hd hk (hw p hp)
omit hk hw in
theorem He{p q:W×Str}(hp:p∈wt)(hq:q∈wt)(e:cdH ls p.1=cdH ls q.1):p=q:=
 qe (fun p:W×Str=>cdH ls p.1) wt nc p hp q hq e
theorem JS:∀x∈yA ls wt,∀y∈yA ls wt,x.1 <+: y.1->x=y:=fun x hx y hy h=>by
 obtain⟨p,hp,rfl⟩:=MF.mp hx;obtain⟨q,hq,rfl⟩:=MF.mp hy;have m:∀{p:W×Str},p∈wt->cdH ls p.1∈(wt.map (·.1)).map (cdH ls):=fun hp=>MF.mpr ⟨_,MF.mpr ⟨_,hp,rfl⟩,rfl⟩;have:=vW (DJ hk hw nc) (m hp) (m hq) h (Q9 _);rw[He nc hp hq this]
end
theorem Dq (H:PV) (rs:FA.Rooms) (hR:gIx H (.str "rooms")=some (aD rs)) (hl:rs.length<=1000) (Dn:Str->PV) (hD:∀n∈FA.names rs,aJ [H,.str n]=some (Dn n)) (hF:∀n∈FA.names rs,noFn (Dn n)=true):∃ks ps,aV [H]=some (.dct ks ps)/\(∀n∈FA.names rs,gIx (.dct ks ps) (.str n)=some (Dn n))/\noFn (.dct ks ps)=true:=by
 have hnl:(FA.names rs).length=rs.length:=by simp[FA.names]
 obtain⟨ρ',f1,ks,ps,a,rfl,h1,h2,h3,h4⟩:=forM (enc:=PV.str) (xs:=FA.names rs) (h:=av 2) (g:=fC) (ρ:=[.val H,.own (.dct [] []),.no])
  (I:=fun pre ρ=>∃ks ps a,ρ=[.val H,.own (.dct ks ps),a]/\ks.length=ps.length/\ks.length<=pre.length/\(∀n∈pre,bM ks ps (.inr n)=some (Dn n))/\∀x∈ps,noFn x=true) ⟨[],[],.no,rfl,rfl,by simp,by simp,by simp⟩ (by
   rintro pre n post ρ hx ⟨ks,ps,a,rfl,h1,h2,h3,h4⟩;have hn:n∈FA.names rs:=by rw[hx];simp
   have hpl:pre.length<=1000:=by
    have:=congrArg O8 hx;rw[Mi] at this;omega
   obtain⟨ks',ps',e,g1,g2,g3⟩:=BG.look_put ks ps (.inr n) (Dn n) h1;have z:ks.length<16777216:=by omega
   have ed:=hD n hn;refine⟨_,[.val H,.own (.dct ks' ps'),.val (.str n)],qI _,.inl ?_,ks',ps',_,rfl,g1,by simp;omega,fun m hm=>?_,fun x hx=>(vG e hx).elim (h4 x) fun z=>z▸hF n hn⟩
   ·simp[fC,ed,z,e]
   ·rw[g3]
    by_cases hmn:n=m
    ·rw[if_pos (by rw[hmn]),hmn]
    ·rw[if_neg fun z=>hmn (Ov z)]
     rcases Mz.mp hm with hm | hm
     ·exact h3 m hm
     ·exact absurd (MQ.mp hm).symm hmn)
 refine⟨ks,ps,aC rfl ?_,h3,by have:=(gJ ps).mpr h4;simpa [noFn] using this⟩;have ei:=FA.keys_rooms rs;generalize (FA.names rs).map PV.str=NL at *;generalize aD rs=RM at *;simp[gO,PU.start,hR,ei,f1]
theorem xp(spans:List (Int×Int×Str))(last:Str)(hour:Int):kW [(Room.hours spans last).pv,.int hour]=some (.str (FA.handOf spans last hour)):=by
 refine aC rfl ?_
 obtain⟨k1,k2⟩:=jm (enc:=pv3) (h:=ir 3 (aO (av 2) (aO (av 3) (aO (av 4) iu)))) (g:=fN) (FA.holds hour) (fun s=>PV.str s.2.2)
  (I:=fun ρ=>∃a b c,ρ=[.val (Room.hours spans last).pv,.val (.int hour),a,b,c]) (by
   rintro s ρ ⟨a,b,c,rfl⟩;refine⟨_,rfl,fun hp=>?_,fun hp=>⟨_,?_,.val (.int s.1),.val (.int s.2.1),.val (.str s.2.2),rfl⟩⟩
   ·unfold FA.holds at hp
    simp only[ND,decide_eq_true_eq] at hp;simp[fN,hp.1,hp.2]
   ·unfold FA.holds at hp
    by_cases h1:s.1<=hour
    ·have h2:¬ hour<s.2.1:=by simpa [h1] using hp
     simp[fN,h1,h2]
    ·simp[fN,h1]) spans [.val (Room.hours spans last).pv,.val (.int hour),.no,.no,.no] ⟨_,_,_,rfl⟩
 unfold FA.handOf;cases e:spans.find? (FA.holds hour) with
 | some s=>
  have k:=k1 s e;simp only[Room.pv] at k ⊢;simp[kT,PU.start];rw[k];rfl
 | none=>
  obtain⟨ρ',k,a,b,c,rfl⟩:=k2 e;simp only[Room.pv] at k ⊢;simp[kT,PU.start];rw[k];simp
theorem xW (H:PV) (rs:FA.Rooms) (hR:gIx H (.str "rooms")=some (aD rs)) (hour:Int) (a:Sl):∀(n N:Nat) (x y:Str),n<=N->NM.comeGo rs hour n x=some y->
  whF (dS (ar (ar (ar (ar (ah 0) (kS "rooms") gIx) (ah 3) gIx) (kI 0) gIx) (kS "hours") gEq)) gm N [.val H,.val (.int hour),a,.val (.str x)]=.ok (.next [.val H,.val (.int hour),a,.val (.str y)])
 | 0,N,x,y,h,e=>by cases e
 | n+1,0,x,y,h,e=>by omega
 | n+1,N+1,x,y,h,e=>by
  have n2:=FA.ix_rooms rs x;unfold NM.comeGo at e;unfold whF;cases hr:FA.lookR rs x with
  | none=>rw[hr] at e;cases e
  | some r=>
   rw[hr] at e n2;have n2:gIx (aD rs) (.str x)=some r.pv:=n2;cases r with
   | hours sp l=>
    have n3:gIx (Room.hours sp l).pv (.int 0)=some (.str "hours"):=rfl;have n4:=xp sp l hour;have ih:=xW H rs hR hour a n N (FA.handOf sp l hour) y (by omega) e;have t:dS (ar (ar (ar (ar (ah 0) (kS "rooms") gIx) (ah 3) gIx) (kI 0) gIx) (kS "hours") gEq) [.val H,.val (.int hour),a,.val (.str x)]=.ok true:=by simp[hR,n2,n3]
    have b:gm [.val H,.val (.int hour),a,.val (.str x)]=.ok (.next [.val H,.val (.int hour),a,.val (.str (FA.handOf sp l hour))]):=by simp[gm,hR,n2,n4]
    simp only[t,R.ok_bind,if_true,b];exact ih
   | menu t ks wr wa=>
    have n3:gIx (Room.menu t ks wr wa).pv (.int 0)=some (.str "menu"):=rfl;have t:dS (ar (ar (ar (ar (ah 0) (kS "rooms") gIx) (ah 3) gIx) (kI 0) gIx) (kS "hours") gEq) [.val H,.val (.int hour),a,.val (.str x)]=.ok false:=by simp[hR,n2,n3]
    cases e;simp only[t,R.ok_bind,NG,if_false]
   | names t ks wr wa=>
    have n3:gIx (Room.names t ks wr wa).pv (.int 0)=some (.str "names"):=rfl;have t:dS (ar (ar (ar (ar (ah 0) (kS "rooms") gIx) (ah 3) gIx) (kI 0) gIx) (kS "hours") gEq) [.val H,.val (.int hour),a,.val (.str x)]=.ok false:=by simp[hR,n2,n3]
    cases e;simp only[t,R.ok_bind,NG,if_false]
   | hand t=>
    have n3:gIx (Room.hand t).pv (.int 0)=some (.str "hand"):=rfl;have t:dS (ar (ar (ar (ar (ah 0) (kS "rooms") gIx) (ah 3) gIx) (kI 0) gIx) (kS "hours") gEq) [.val H,.val (.int hour),a,.val (.str x)]=.ok false:=by simp[hR,n2,n3]
    cases e;simp only[t,R.ok_bind,NG,if_false]
   | fin t=>
    have n3:gIx (Room.fin t).pv (.int 0)=some (.str "end"):=rfl;have t:dS (ar (ar (ar (ar (ah 0) (kS "rooms") gIx) (ah 3) gIx) (kI 0) gIx) (kS "hours") gEq) [.val H,.val (.int hour),a,.val (.str x)]=.ok false:=by simp[hR,n2,n3]
    cases e;simp only[t,R.ok_bind,NG,if_false]
theorem DN (H:PV) (rs:FA.Rooms) (hR:gIx H (.str "rooms")=some (aD rs)) (hour:Int) (n:Nat) (x y:Str) (hn:n<=300) (e:NM.comeGo rs hour n x=some y):jo [H,.int hour,.str x]=some (.str y):=by
 refine aC rfl ?_;have k:=xW H rs hR hour (.val (.str x)) n 300 x y hn e;simp only[m7,PU.start,MC,O7,Mr,OT,Mv,OI,Pi,v8,Eo,BP,qJ,Gw,Ju,nM,List.set_cons_succ,List.set_cons_zero,Ic,k,AA]
theorem DR(ns:List Int)(k:Nat):aA [.lst (ns.map .int),.int k]=some (.int (ns.getD k 0)):=by
 refine aC rfl ?_
 by_cases hk:k<ns.length
 ·have h2:(k:Int)<ns.length:=by omega
  have h3:atI (ns.map PV.int) (k:Int)=some (.int ns[k]):=hZ rfl (by simp[hk]);simp[dZ,PU.start,h2,h3,hk]
 ·have h2:¬ (k:Int)<ns.length:=by omega
  simp[dZ,PU.start,h2,hk]
theorem numbers(cell:Int)(many:Nat)(hm:many<=100):∃ls:List Int,ls.length=many/\(∀x∈ls,0<=x)/\b9 [.int cell,.int many]=some (.lst (ls.map .int)):=by
 by_cases h2:cell % 2=1
 ·obtain⟨ρ',f1,ls,n,a,rfl,h1,h3⟩:=forR (n:=many) (lo:=0) (h:=av 4) (g:=eS) (ρ:=[.val (.int cell),.val (.int many),.own (.lst []),.val (.int (cell / 2)),.no])
   (I:=fun i ρ=>∃(ls:List Int)(n:Int)(a:Sl),ρ=[.val (.int cell),.val (.int many),.own (.lst (ls.map .int)),.val (.int n),a]/\ls.length=i/\∀x∈ls,0<=x) ⟨[],_,_,rfl,rfl,by simp⟩ (by
    rintro i ρ hi ⟨ls,n,a,rfl,h1,h3⟩;have hq:ls.length<16777216:=by omega
    refine⟨_,[.val (.int cell),.val (.int many),.own (.lst ((ls++[n % 5040]).map .int)),.val (.int (n / 5040)),.val (.int (0+(i:Int)))],rfl,.inl ?_,ls++[n % 5040],n / 5040,_,rfl,by simp[h1],fun x hx=>?_⟩
    ·simp (disch:=omega) [eS,iD,yK,hq]
    ·rcases Mz.mp hx with hx | hx
     ·exact h3 x hx
     ·rw[MQ.mp hx];omega)
  refine⟨ls,h1,h3,aC rfl ?_⟩;simp (disch:=omega) [dY,PU.start,iD,yK,h2,yG];rw[f1];simp
 ·obtain⟨ρ',f1,ls,n,a,rfl,h1,h3⟩:=forR (n:=many+1) (lo:=0) (h:=av 4) (g:=eR) (ρ:=[.val (.int cell),.val (.int many),.own (.lst []),.val (.int (cell / 2 % 2147483647)),.no])
   (I:=fun i ρ=>∃(ls:List Int)(n:Int)(a:Sl),ρ=[.val (.int cell),.val (.int many),.own (.lst (ls.map .int)),.val (.int n),a]/\ls.length=i/\∀x∈ls,0<=x) ⟨[],_,_,rfl,rfl,by simp⟩ (by
    rintro i ρ hi ⟨ls,n,a,rfl,h1,h3⟩;have hq:ls.length<16777216:=by omega
    rw[So];have m1:xa (.int (n+(i:Int)+1)) (.int 48271)=some (.int ((n+(i:Int)+1) * 48271)):=yH (.inr (by decide));have m2:∀z:Int,xa (.int z) (.int 69621)=some (.int (z * 69621)):=fun z=>yH (.inr (by decide));refine⟨_,[.val (.int cell),.val (.int many),.own (.lst ((ls++[(n+(i:Int)+1) * 48271 % 2147483647 * 69621 % 2147483629]).map .int)),.val (.int ((n+(i:Int)+1) * 48271 % 2147483647)),.val (.int (i:Int))],rfl,.inl ?_,_,_,_,rfl,by simp[h1],fun x hx=>?_⟩
    ·simp (disch:=omega) [eR,iD,m1,m2,hq]
    ·rcases Mz.mp hx with hx | hx
     ·exact h3 x hx
     ·rw[MQ.mp hx];omega)
  refine⟨ls.drop 1,by simp[h1],fun x hx=>h3 x (List.mem_of_mem_drop hx),aC rfl ?_⟩;have e1:(((many:Int)+1)).toNat=many+1:=by omega
  have e2:=NM.cut_1 (ls.map PV.int) (by rw[MG];omega);simp (disch:=omega) [dY,PU.start,iD,yK,h2,yG,e1];rw[f1];simp[e2]
end K43
namespace K43
open PySem L2 PU MT NM BG NW
def c20:List Nat:=[98,99,100,102,103,104,106,108,109,110,112,113,114,115,116,118,119,120,121,122]
theorem Hi:("bcdfghjlmnpqrstvwxyz":Str)=mkS c20:=by decide +kernel
theorem Ak:∀i:Fin 20,∀j:Fin 20,c20.getD i.1 0=c20.getD j.1 0->i.1=j.1:=by decide +kernel
theorem DW(i j:Nat)(hi:i<20)(hj:j<20)(e:c20.getD i 0=c20.getD j 0):i=j:=Ak ⟨i,hi⟩ ⟨j,hj⟩ e
def sgn(ls:List Int)(at_:Int)(t k:Nat):Nat:=c20.getD ((ls.getD k 0+3 * (t:Int) * (if (k:Int)=at_ then 1 else 0)) % 20).toNat 0
def cds(ls:List Int)(at_:Int)(t i:Nat):List Nat:=(MX i).map (sgn ls at_ t)
abbrev nst(c:Int)(ls:List Int)(size at_:Int)(done:List PV)(a b d:Sl):PSt:=
 [.val (.int c),.val (.str (mkS c20)),.val (.lst (ls.map .int)),.val (.int size),.val (.int at_),.own (.lst done),a,b,d]
theorem zD(c:Int)(ls:List Int)(size at_:Int)(done:List PV)(t k:Nat)(x:List Nat)(hl:ls.length=10)(hk:k<8)(hx:x.length<=100) :
  eA (nst c ls size at_ done (.val (.int t)) (.val (.str (mkS x))) (.val (.int k)))=.ok (.next (nst c ls size at_ done (.val (.int t)) (.val (.str (mkS (x++[sgn ls at_ t k])))) (.val (.int k)))):=by
 have i1:atI (ls.map PV.int) (k:Int)=some (.int (ls.getD k 0)):=by
  rw[oZ ls k (by omega),MS,ME (by omega)];rfl
 have m1:xa (.int 3) (.int t)=some (.int (3 * t)):=yH (.inl (by decide));have hq:(if (k:Int)=at_ then (1:Int) else 0).natAbs<18446744073709551616:=by split <;> decide
 have m2:xa (.int (3 * (t:Int))) (.int (if (k:Int)=at_ then 1 else 0))=some (.int (3 * (t:Int) * (if (k:Int)=at_ then 1 else 0))):=yH (.inr hq);have h3:∀z:Int,gIx (.str (mkS c20)) (.int (z % 20))=some (.str ⟨#[c20.getD (z % 20).toNat 0]⟩):=fun z=>zN c20 (z % 20) (by omega) (by show _<(20:Int);omega) (by decide);have h4:=iq x (sgn ls at_ t k) (by omega);unfold sgn at h4 ⊢;simp (disch:=omega) [-MS,eA,nst,i1,m1,m2,iD,h3,h4]
theorem zC(c:Int)(ls:List Int)(size:Nat)(at_:Int)(done:List PV)(t:Nat)(b d:Sl)(hl:ls.length=10)(hs:size<=8)(hd:done.length<=100):∃d',
  eo (nst c ls size at_ done (.val (.int t)) b d)=.ok (.next (nst c ls size at_ (done++[.str (mkS (cds ls at_ t size))]) (.val (.int t)) (.val (.str (mkS (cds ls at_ t size)))) d')):=by
 obtain⟨ρ',f1,d',rfl⟩:=forR (n:=size) (lo:=0) (h:=av 8) (g:=eA) (ρ:=nst c ls size at_ done (.val (.int t)) (.val (.str (mkS []))) d)
  (I:=fun i ρ=>∃d,ρ=nst c ls size at_ done (.val (.int t)) (.val (.str (mkS (cds ls at_ t i)))) d) ⟨d,rfl⟩ (by
   rintro i ρ hi ⟨d,rfl⟩;have e:=zD c ls size at_ done t i (cds ls at_ t i) hl (by omega) (by simp[cds];omega);have:cds ls at_ t (i+1)=cds ls at_ t i++[sgn ls at_ t i]:=by simp[cds,OS]
   rw[So,this];exact⟨_,_,rfl,.inl e,_,rfl⟩)
 refine⟨d',?_⟩;have hq:done.length<16777216:=by omega
 simp (disch:=omega) [eo,gj,yG];rw[f1];simp[hq]
theorem names (c:Int):∃nms:List Str,nms.length=7/\nms.Nodup/\(∀x∈nms,x≠"back"/\x≠"")/\eN [.int c]=some (.lst (nms.map .str)):=by
 obtain⟨ls,l1,l2,el⟩:=numbers c 10 (by omega);have el:b9 [.int c,.int 10]=some (.lst (ls.map .int)):=el;have i8:atI (ls.map PV.int) 8=some (.int ls[8]):=oZ ls 8 (by omega);have i9:atI (ls.map PV.int) 9=some (.int ls[9]):=oZ ls 9 (by omega);generalize ls[8]=z8 at i8;generalize ls[9]=z9 at i9;obtain⟨size,hsz,h1,h8⟩:∃size:Nat,(1+z8 % 8)=(size:Int)/\1<=size/\size<=8:=⟨(1+z8 % 8).toNat,by omega,by omega,by omega⟩;obtain⟨at_,hat,ha0,ha1⟩:∃at_:Int,z9 % (size:Int)=at_/\0<=at_/\at_<size:=⟨z9 % (size:Int),rfl,Rj _ (by omega),Tn _ (by omega)⟩
 obtain⟨ρ',f1,a,b,d,rfl⟩:=forR (n:=7) (lo:=0) (h:=av 6) (g:=eo) (ρ:=nst c ls size at_ [] .no .no .no)
  (I:=fun i ρ=>∃a b d,ρ=nst c ls size at_ ((MX i).map fun t=>.str (mkS (cds ls at_ t size))) a b d) ⟨_,_,_,rfl⟩ (by
   rintro i ρ hi ⟨a,b,d,rfl⟩;obtain⟨d',e⟩:=zC c ls size at_ ((MX i).map fun t=>.str (mkS (cds ls at_ t size))) i b d l1 h8 (by simp;omega);rw[So,OS,Mc];exact⟨_,_,rfl,.inl e,_,_,_,rfl⟩)
 refine⟨(MX 7).map fun t=>mkS (cds ls at_ t size),by simp,?_,?_,aC rfl ?_⟩
 ·unfold List.Nodup
  rw[Th];refine Qv (R:=fun a b=>a<b) (fun {i j} hi hj hij e=>?_) SQ;rw[NT] at hi hj;have e:=BG.mkS_inj e;have hs:at_.toNat<size:=by omega
  have e2:=congrArg (fun l:List Nat=>l[at_.toNat]?) e;simp only[cds,MM,Ot hs,QF] at e2;have e3:sgn ls at_ i at_.toNat=sgn ls at_ j at_.toNat:=Mq e2;unfold sgn at e3;rw[if_pos (by omega)] at e3;have e4:=DW _ _ (by omega) (by omega) e3;omega
 ·intro x hx
  obtain⟨t,_,rfl⟩:=MF.mp hx;have hb:("back":Str)=mkS [98,97,99,107]:=by decide +kernel
  refine⟨fun e=>?_,fun e=>?_⟩
  ·rw[hb] at e
   have e:=BG.mkS_inj e;have m:97∈cds ls at_ t size:=by rw[e];simp
   obtain⟨k,_,ek⟩:=MF.mp m;have:∀z:Nat,z<20->c20.getD z 0≠97:=by decide +kernel
   exact this _ (by omega) ek
  ·rw[gj] at e
   have e:=BG.mkS_inj e;have:=congrArg O8 e;simp[cds] at this;omega
 ·simp only[nst] at f1
  have hsz0:(0:Int)<size:=by omega
  simp (disch:=omega) [-MV,iM,PU.start,Hi,el,i8,i9,iD,hsz,hat,yG];rw[f1];simp
def enc(w:W):PV:=.str (mkS w)
def W8:List W:=[[98,111],[108,101,101]]
def LSa:WO.Lts:=[(51,[100,101,102]),(52,[97,98,99]),(53,[106,107,108]),(54,[109,110,111])]
class LX where
 ls:WO.Lts
 two:ls=LSa\/ls=LSa
def LS5[LX]:WO.Lts:=LX.ls
theorem pU[LX]:LS5=LSa\/LS5=LSa:=LX.two
theorem Gg[LX]:∀w∈W8,∀c∈w,(WO.keyL LS5 c).isSome=true:=by rcases pU with h | h <;> rw[h] <;> decide +kernel
theorem Js[LX]:(W8.map (cdH LS5)).Nodup:=by rcases pU with h | h <;> rw[h] <;> decide +kernel
theorem Jr[LX]:∀l∈LS5,l.1≠35:=by rcases pU with h | h <;> rw[h] <;> decide +kernel
theorem Iv:W8.Nodup:=by decide +kernel
theorem AE:∀w∈W8,w.length<=4:=by decide +kernel
theorem lpa:PV.lst [.tup [.str "3",.str "def"],.tup [.str "4",.str "abc"],.tup [.str "5",.str "jkl"],.tup [.str "6",.str "mno"]]=WO.ltPv LSa:=by kernel_rfl
def K12:List Nat:=[48,49,50,51,52,53,54,55,56,57,42,35]
def E12:List (Nat×Nat):=[(0,48),(1,49),(2,50),(3,51),(4,52),(5,53),(6,54),(7,55),(8,56),(9,57),(10,42),(11,35)]
def e12(p:Nat×Nat):PV:=.tup [.int p.1,WO.sg p.2]
theorem Ha:rS (.str "0123456789*#")=some (E12.map e12):=by kernel_rfl
theorem JO:E12.map (·.2)=K12:=by decide
theorem H9:∀p∈E12,p.1<12:=by decide
theorem GC:K12.Nodup:=by decide
def pvk(p:Nat×Str):PV:=.tup [WO.sg p.1,.str p.2]
def mk2(p:Nat×Str):Str×Str:=(⟨#[p.1]⟩,p.2)
theorem B3(ks:List (Nat×Str)):(ks.map mk2).map pv2=ks.map pvk:=by rw[MV];rfl
def mw2(p:W×Str):Str×Str:=(mkS p.1,p.2)
theorem G9(wt:List (W×Str)):PV.tup ((wt.map mw2).map pv2)=AD wt:=by rw[MV];rfl
def RW(nms:List Str):Room->Prop
 | .menu _ ks wr wa=>(∃kt:List (Nat×Str),ks=kt.map mk2/\P9 (kt.map (·.1)) K12/\∀k∈kt,k.2="back"\/k.2∈nms)/\wr.2∈nms/\wa.2∈nms/\(1<=wr.1/\wr.1<=2)/\(1<=wa.1/\wa.1<=2)
 | .names _ ws wr wa=>(∃wt:List (W×Str),ws=wt.map mw2/\P9 (wt.map (·.1)) W8/\wt≠[]/\∀p∈wt,p.2∈nms)/\wr.2∈nms/\wa.2∈nms/\(1<=wr.1/\wr.1<=2)/\(1<=wa.1/\wa.1<=2)
 | _=>True
def Fit(nms ord:List Str)(r:Str×Room):Prop:=∃(k:Nat)(hk:k<ord.length),ord[k]=r.1/\(∀sp l,r.2=.hours sp l->l∈ord.drop (k+1)/\∀s∈sp,s.2.2∈ord.drop (k+1))/\RW nms r.2
structure Good(nms ord:List Str)(rs:FA.Rooms):Prop where
 ok:∀r∈rs,Fit nms ord r
 nd:(rs.map (·.1)).Nodup
theorem l6(rs:FA.Rooms):aD rs=.dct (rs.map fun r=>.inr r.1) (rs.map fun r=>r.2.pv):=rfl
theorem xV(nms ord:List Str)(rs:FA.Rooms)(nd:ord.Nodup)(g:Good nms ord rs)(hall:∀x∈ord,x∈FA.names rs)(hour:Int):∀(n k:Nat)(hk:k<ord.length),ord.length-k<=n->∃y r,comeGo rs hour n ord[k]=some y/\FA.lookR rs y=some r/\y∈ord/\∀sp l,r≠.hours sp l
 | 0,k,hk,h=>by omega
 | n+1,k,hk,h=>by
  obtain⟨r,hr⟩:=FA.look_some rs ord[k] (hall _ (N0 hk));obtain⟨k',hk',e,ht,_⟩:=g.ok _ (wu rs _ r hr);have ek:k'=k:=(RT nd).mp e;subst ek;unfold comeGo;rw[hr]
  by_cases hh:∃sp l,r=.hours sp l
  ·obtain⟨sp,l,rfl⟩:=hh
   obtain⟨h1,h2⟩:=ht sp l rfl
   have hin:FA.handOf sp l hour∈ord.drop (k'+1):=by
    unfold FA.handOf;cases e:sp.find? (FA.holds hour) with
    | none=>exact h1
    | some s=>exact h2 s (NF e)
   obtain⟨j,hj,e2⟩:=OE hin;rw[RO] at hj;rw[List.getElem_drop] at e2;dsimp only;rw[← e2];exact xV nms ord rs nd g hall hour n (k'+1+j) (by omega) (by omega)
  ·refine⟨ord[k'],r,?_,hr,N0 _,fun sp l e=>hh ⟨sp,l,e⟩⟩
   cases r with
   | hours sp l=>exact absurd ⟨sp,l,rfl⟩ hh
   | _=>rfl
structure HG[LX](h:House)(nms ord:List Str):Prop where
 nd:ord.Nodup
 ol:ord.length<=20
 g:Good nms ord h.rooms
 all:∀x∈ord,x∈FA.names h.rooms
 nm:∀x∈nms,x∈ord
 mn:∀x∈ord,x∈nms
 nb:∀x∈nms,x≠"back"/\x≠""
 fst:h.first∈nms
 lets:gIx h.pv (.str "letters")=some (WO.ltPv LS5)
 rl:h.rooms.length<=20
 nl:nms.length<=7
def ltS(ls:WO.Lts):List (Str×Str):=ls.map fun l=>(⟨#[l.1]⟩,mkS l.2)
theorem B7(ls:WO.Lts):PV.lst ((ltS ls).map pv2)=WO.ltPv ls:=by
 unfold ltS WO.ltPv;rw[MV];rfl
theorem G8(x y:Int):gNe (.int x) (.int y)=some (.bl (!decide (x=y))):=by
 show (if pb (.int x)=true/\pb (.int y)=true/\C7 (scV (.int x)) (scV (.int y))=true then some (PV.bl (!decide (scV (.int x)=scV (.int y)))) else none)=_;rw[if_pos ⟨rfl,rfl,rfl⟩]
 congr 3
 exact decide_eq_decide.mpr ⟨fun e=>by injection e,fun e=>by rw[e]⟩
def sT(r b:Str)(w v:Int)(t:W):PV:=.tup [.str r,.str b,.int w,.int v,.str (mkS t)]
structure St where
 r:Str
 b:Str
 w:Int
 v:Int
 t:W
deriving DecidableEq
def St.pv(s:St):PV:=sT s.r s.b s.w s.v s.t
section
variable[LX]
def beg(wt:List (W×Str))(w:W):W:=own ((wt.map (·.1)).map (cdH LS5)) (cdH LS5 w)
def TY:Room->W->Prop
 | .menu ..,t=>t=[]
 | .names _ ws _ _,t=>∀wt:List (W×Str),ws=wt.map mw2->(t=[]\/∃p∈wt,t <+: beg wt p.1/\t≠beg wt p.1)
 | _,t=>t=[]
theorem vg(r:Room):TY r []:=by
 cases r with
 | names=>exact fun _ _=>.inl rfl
 | _=>exact rfl
def wrB:Room->Int
 | .menu _ _ wr _=>wr.1
 | .names _ _ wr _=>wr.1
 | _=>2
def waB:Room->Int
 | .menu _ _ _ wa=>wa.1
 | .names _ _ _ wa=>wa.1
 | _=>2
theorem RW.b{nms:List Str}{room:Room}(h:RW nms room):(1<=wrB room/\wrB room<=2)/\1<=waB room/\waB room<=2:=by
 cases room with
 | menu t ks wr wa=>exact⟨h.2.2.2.1,h.2.2.2.2⟩
 | names t ks wr wa=>exact⟨h.2.2.2.1,h.2.2.2.2⟩
 | _=>exact⟨⟨show (1:Int)<=2 by decide,show (2:Int)<=2 by decide⟩,show (1:Int)<=2 by decide,show (2:Int)<=2 by decide⟩
structure OK(h:House)(nms:List Str)(r b:Str)(room:Room)(w v:Int)(t:W):Prop where
 lk:FA.lookR h.rooms r=some room
 nh:∀sp l,room≠.hours sp l
 rn:r∈nms
 bn:b=""\/b∈nms
 tl:t.length<=50
 ty:TY room t
 hw:0<=w/\w<wrB room
 hv:0<=v/\v<waB room
def Ok(h:House)(nms:List Str)(s:St):Prop:=∃room,OK h nms s.r s.b room s.w s.v s.t
def cmS (h:House) (hour:Int) (x:Str):Str:=(comeGo h.rooms hour 20 x).getD ""
def arS(h:House)(hour:Int)(x b:Str):St:=⟨cmS h hour x,b,0,0,[]⟩
def wrS(h:House)(hour:Int)(r b:Str)(w v:Int)(wr:Int×Str):St:=if w+1=wr.1 then arS h hour wr.2 r else ⟨r,b,w+1,v,[]⟩
def waS(h:House)(hour:Int)(r b:Str)(w v:Int)(wa:Int×Str):St:=if v+1=wa.1 then arS h hour wa.2 r else ⟨r,b,w,v+1,[]⟩
def goS(h:House)(hour:Int)(r b:Str)(w v:Int)(wr:Int×Str)(o:Option (Option Str))(t:W):St:=match o with
 | none=>wrS h hour r b w v wr
 | some none=>⟨r,b,w,v,t⟩
 | some (some x)=>if x=MH "back" then (if b=MH "" then wrS h hour r b w v wr else arS h hour b r) else arS h hour x r
section
variable{h : House}{nms ord : List Str}(hg : HG h nms ord)(hour : Int)
include hg
theorem hRo:gIx h.pv (.str "rooms")=some (aD h.rooms):=by simp[House.pv]
theorem uz(r:Str)(room:Room)(lk:FA.lookR h.rooms r=some room):RW nms room:=by
 obtain⟨_,_,_,_,hw⟩:=hg.g.ok _ (wu h.rooms r room lk);exact hw
theorem cm (x:Str) (hx:x∈nms):comeGo h.rooms hour 20 x=some (cmS h hour x)/\∃room,∀b:Str,(b=""\/b∈nms)->OK h nms (cmS h hour x) b room 0 0 []:=by
 obtain⟨k,hk,ek⟩:=OE (hg.nm x hx);obtain⟨y,r,ey,hr,hy,hh⟩:=xV nms ord h.rooms hg.nd hg.g hg.all hour 20 k hk (by have:=hg.ol;omega);rw[ek] at ey;have bb:=(uz hg y r hr).b;have ec:cmS h hour x=y:=by unfold cmS;rw[ey];rfl
 rw[ec];exact⟨ey,r,fun b hb=>⟨hr,hh,hg.mn y hy,hb,by simp,vg r,⟨by omega,by omega⟩,⟨by omega,by omega⟩⟩⟩
theorem arr (x:Str) (hx:x∈nms) (b:Str) (hb:b=""\/b∈nms):Ok h nms (arS h hour x b)/\bX [h.pv,.int hour,.str x,.str b]=some (arS h hour x b).pv:=by
 obtain⟨e,room,ok⟩:=cm hg hour x hx;refine⟨⟨room,ok b hb⟩,?_⟩;have k:=DN h.pv h.rooms (hRo hg) hour 20 x _ (by omega) e;refine aC rfl ?_;have em:=gj
 have u:(arS h hour x b).pv=.tup [.str (cmS h hour x),.str b,.int 0,.int 0,.str ""]:=by
  show sT (cmS h hour x) b 0 0 []=_;unfold sT;rw[← em]
 rw[u];generalize cmS h hour x=y at *;simp[ma,PU.start,k]
theorem wrong(r b:Str)(w v:Int)(t:W)(room:Room)(ok:OK h nms r b room w v t)(wr:Int×Str)(h3:gIx room.pv (.int 3)=some (.tup [.int wr.1,.str wr.2]))(hm:wrB room=wr.1)(hx:wr.2∈nms) :
  Ok h nms (wrS h hour r b w v wr)/\bL [h.pv,.int hour,sT r b w v t]=some (wrS h hour r b w v wr).pv:=by
 have n2:=FA.ix_rooms h.rooms r;rw[ok.lk] at n2;have n2:gIx (aD h.rooms) (.str r)=some room.pv:=n2;have hR:=hRo hg;have em:=gj;unfold wrS
 by_cases hw:w+1=wr.1
 ·rw[if_pos hw]
  obtain⟨ok',e1⟩:=arr hg hour wr.2 hx r (.inr ok.rn);refine⟨ok',aC rfl ?_⟩;unfold sT;generalize (arS h hour wr.2 r).pv=AP at *;generalize mkS t=T at *;generalize room.pv=RP at *;generalize aD h.rooms=RM at *;generalize h.pv=H at *;simp[dB,PU.start,hR,n2,h3,hw,e1]
 ·rw[if_neg hw]
  have hw1:=ok.hw;refine⟨⟨room,ok.lk,ok.nh,ok.rn,ok.bn,by simp,vg room,⟨by show 0<=w+1;omega,by show w+1<wrB room;omega⟩,ok.hv⟩,aC rfl ?_⟩
  have u:St.pv ⟨r,b,w+1,v,[]⟩=.tup [.str r,.str b,.int (w+1),.int v,.str ""]:=by
   show sT r b (w+1) v []=_;unfold sT;rw[← em]
  rw[u];unfold sT;generalize mkS t=T at *;generalize room.pv=RP at *;generalize aD h.rooms=RM at *;generalize h.pv=H at *;simp[dB,PU.start,hR,n2,h3,hw]
theorem wait(r b:Str)(w v:Int)(t:W)(room:Room)(ok:OK h nms r b room w v t)(wa:Int×Str)(h3:gIx room.pv (.int 4)=some (.tup [.int wa.1,.str wa.2]))(hm:waB room=wa.1)(hx:wa.2∈nms) :
  Ok h nms (waS h hour r b w v wa)/\jq [h.pv,.int hour,sT r b w v t]=some (waS h hour r b w v wa).pv:=by
 have n2:=FA.ix_rooms h.rooms r;rw[ok.lk] at n2;have n2:gIx (aD h.rooms) (.str r)=some room.pv:=n2;have hR:=hRo hg;have em:=gj;unfold waS
 by_cases hw:v+1=wa.1
 ·rw[if_pos hw]
  obtain⟨ok',e1⟩:=arr hg hour wa.2 hx r (.inr ok.rn);refine⟨ok',aC rfl ?_⟩;unfold sT;generalize (arS h hour wa.2 r).pv=AP at *;generalize mkS t=T at *;generalize room.pv=RP at *;generalize aD h.rooms=RM at *;generalize h.pv=H at *;simp[jj,PU.start,hR,n2,h3,hw,e1]
 ·rw[if_neg hw]
  have hw1:=ok.hv;refine⟨⟨room,ok.lk,ok.nh,ok.rn,ok.bn,by simp,vg room,ok.hw,⟨by show 0<=v+1;omega,by show v+1<waB room;omega⟩⟩,aC rfl ?_⟩
  have u:St.pv ⟨r,b,w,v+1,[]⟩=.tup [.str r,.str b,.int w,.int (v+1),.str ""]:=by
   show sT r b w (v+1) []=_;unfold sT;rw[← em]
  rw[u];unfold sT;generalize mkS t=T at *;generalize room.pv=RP at *;generalize aD h.rooms=RM at *;generalize h.pv=H at *;simp[jj,PU.start,hR,n2,h3,hw]
end
theorem IL(a b:Nat):gEq (WO.sg a) (WO.sg b)=some (.bl (decide (a=b))):=by
 unfold WO.sg;rw[yJ]
 congr 2
 exact decide_eq_decide.mpr ⟨fun e=>by injection e with e;injection e with e;injection e,fun e=>by rw[e]⟩
theorem KO:PV.str "w"=WO.sg 119:=by kernel_rfl
theorem Kn (c:Nat):gEq (WO.sg c) (.str "w")=some (.bl (decide (c=119))):=by rw[KO,IL]
section
variable{h : House}{nms ord : List Str}(hg : HG h nms ord)(hour : Int)
include hg
structure Goes(h:House)(nms:List Str)(hour:Int)(D:PV)(st:PV)(c:Nat)(s':St):Prop where
 ok:Ok h nms s'
 fo:bG [h.pv,.int hour,D,st,WO.sg c]=some s'.pv
theorem tf (r b:Str) (w v:Int) (t:W) (room:Room) (ok:OK h nms r b room w v t) (c:Nat) (k:Str) (h0:gIx room.pv (.int 0)=some (.str k)) (hk:k="hand"\/k="end") (D:PV):Goes h nms hour D (sT r b w v t) c ⟨r,b,w,v,t⟩:=by
 have n2:=FA.ix_rooms h.rooms r;rw[ok.lk] at n2;have n2:gIx (aD h.rooms) (.str r)=some room.pv:=n2;have hR:=hRo hg;have s0:gIx (sT r b w v t) (.int 0)=some (.str r):=rfl;refine⟨⟨room,ok⟩,aC rfl ?_⟩;show _=PU.R.ok (Fl.ret (sT r b w v t));generalize sT r b w v t=S at *;generalize room.pv=RP at *;generalize aD h.rooms=RM at *;generalize h.pv=H at *;rcases hk with rfl | rfl
 ·simp[f7,PU.start,s0,hR,n2,h0]
 ·simp[f7,PU.start,s0,hR,n2,h0]
theorem Bo (r b:Str) (w v:Int) (t:W) (room:Room) (ok:OK h nms r b room w v t) (k:Str) (h0:gIx room.pv (.int 0)=some (.str k)) (hk:k="menu"\/k="names") (wa:Int×Str) (h4:gIx room.pv (.int 4)=some (.tup [.int wa.1,.str wa.2])) (hm:waB room=wa.1) (hx:wa.2∈nms) (D:PV):Goes h nms hour D (sT r b w v t) 119 (waS h hour r b w v wa):=by
 obtain⟨ok',e1⟩:=wait hg hour r b w v t room ok wa h4 hm hx;have n2:=FA.ix_rooms h.rooms r;rw[ok.lk] at n2;have n2:gIx (aD h.rooms) (.str r)=some room.pv:=n2;have hR:=hRo hg;have s0:gIx (sT r b w v t) (.int 0)=some (.str r):=rfl;have q:=Kn 119;have cw:c_WAIT=.str "w":=rfl;refine⟨ok',aC rfl ?_⟩;generalize sT r b w v t=S at *;generalize (waS h hour r b w v wa).pv=S' at *;generalize room.pv=RP at *;generalize aD h.rooms=RM at *;generalize h.pv=H at *;generalize WO.sg 119=G at *;rcases hk with rfl | rfl
 ·simp[f7,PU.start,s0,hR,n2,h0,cw,q,e1]
 ·simp[f7,PU.start,s0,hR,n2,h0,cw,q,e1]
theorem mj (r b:Str) (w v:Int) (t:W) (room:Room) (ok:OK h nms r b room w v t) (k:Str) (h0:gIx room.pv (.int 0)=some (.str k)) (hk:k="menu"\/k="names") (D X:PV) (c:Nat) (hc:c≠119) (e:e8 [h.pv,.int hour,D,sT r b w v t,WO.sg c]=some X):bG [h.pv,.int hour,D,sT r b w v t,WO.sg c]=some X:=by
 have n2:=FA.ix_rooms h.rooms r;rw[ok.lk] at n2;have n2:gIx (aD h.rooms) (.str r)=some room.pv:=n2;have hR:=hRo hg;have s0:gIx (sT r b w v t) (.int 0)=some (.str r):=rfl;have q:=Kn c;rw[decide_eq_false hc] at q;have cw:c_WAIT=.str "w":=rfl;generalize sT r b w v t=S at *;generalize room.pv=RP at *;generalize aD h.rooms=RM at *;generalize h.pv=H at *;generalize WO.sg c=G at *;refine aC rfl ?_;rcases hk with rfl | rfl
 ·simp[f7,PU.start,s0,hR,n2,h0,cw,q,e]
 ·simp[f7,PU.start,s0,hR,n2,h0,cw,q,e]
end
section
variable{h : House}{nms ord : List Str}(hg : HG h nms ord)(hour : Int)
theorem Bg(r b:Str)(w v:Int)(t:W)(c:Nat)(ht:t.length<=100)(ks:List Key)(ps:List PV)(F:W->Option PV)(T:Tells ks ps F)(hF:F (t++[c])=none)(X:PV)(e:bL [h.pv,.int hour,sT r b w v t]=some X):e8 [h.pv,.int hour,.dct ks ps,sT r b w v t,WO.sg c]=some X:=by
 have ad:gx (.str (mkS t)) (WO.sg c)=some (.str (mkS (t++[c]))):=iq t c (by omega);have ni:=T.notIn (t++[c]);rw[hF] at ni;have ni:iA (.str (mkS (t++[c]))) (.dct ks ps)=some (.bl true):=ni;have s4:gIx (sT r b w v t) (.int 4)=some (.str (mkS t)):=rfl;generalize sT r b w v t=S at *;generalize PV.dct ks ps=D at *;generalize WO.sg c=G at *;generalize mkS (t++[c])=TT at *;generalize h.pv=H at *;refine aC rfl ?_;simp[gi,PU.start,s4,ad,ni,e]
theorem Dd(r b:Str)(w v:Int)(t:W)(c:Nat)(ht:t.length<=100)(ks:List Key)(ps:List PV)(F:W->Option PV)(T:Tells ks ps F)(hF:F (t++[c])=some .non):e8 [h.pv,.int hour,.dct ks ps,sT r b w v t,WO.sg c]=some (sT r b w v (t++[c])):=by
 have ad:gx (.str (mkS t)) (WO.sg c)=some (.str (mkS (t++[c]))):=iq t c (by omega);have ni:=T.notIn (t++[c]);have ix:=T.ix (t++[c]);rw[hF] at ni ix;have ni:iA (.str (mkS (t++[c]))) (.dct ks ps)=some (.bl false):=ni;have s0:gIx (sT r b w v t) (.int 0)=some (.str r):=rfl;have s1:gIx (sT r b w v t) (.int 1)=some (.str b):=rfl;have s2:gIx (sT r b w v t) (.int 2)=some (.int w):=rfl;have s3:gIx (sT r b w v t) (.int 3)=some (.int v):=rfl;have s4:gIx (sT r b w v t) (.int 4)=some (.str (mkS t)):=rfl;have q:gEq .non (.str "back")=some (.bl false):=rfl;have n:zW .non .non=some (.bl true):=rfl;generalize sT r b w v t=S at *;generalize PV.dct ks ps=D at *;generalize WO.sg c=G at *;unfold sT;generalize mkS (t++[c])=TT at *;generalize h.pv=H at *;refine aC rfl ?_;simp[gi,PU.start,s0,s1,s2,s3,s4,ad,ni,ix,q,n]
theorem Bh (r b:Str) (w v:Int) (t:W) (c:Nat) (ht:t.length<=100) (ks:List Key) (ps:List PV) (F:W->Option PV) (T:Tells ks ps F) (x:Str) (hF:F (t++[c])=some (.str x)) (h1:x≠"back") (h2:x≠"") (X:PV) (e:bX [h.pv,.int hour,.str x,.str r]=some X):e8 [h.pv,.int hour,.dct ks ps,sT r b w v t,WO.sg c]=some X:=by
 have ad:gx (.str (mkS t)) (WO.sg c)=some (.str (mkS (t++[c]))):=iq t c (by omega);have ni:=T.notIn (t++[c]);have ix:=T.ix (t++[c]);rw[hF] at ni ix;have ni:iA (.str (mkS (t++[c]))) (.dct ks ps)=some (.bl false):=ni;have s0:gIx (sT r b w v t) (.int 0)=some (.str r):=rfl;have s1:gIx (sT r b w v t) (.int 1)=some (.str b):=rfl;have s4:gIx (sT r b w v t) (.int 4)=some (.str (mkS t)):=rfl;have n:zW (.str x) .non=some (.bl false):=rfl;generalize sT r b w v t=S at *;generalize PV.dct ks ps=D at *;generalize WO.sg c=G at *;generalize mkS (t++[c])=TT at *;generalize h.pv=H at *;refine aC rfl ?_;simp[gi,PU.start,s0,s1,s4,ad,ni,ix,h1,h2,n,e]
theorem zJ (r b:Str) (w v:Int) (t:W) (c:Nat) (ht:t.length<=100) (ks:List Key) (ps:List PV) (F:W->Option PV) (T:Tells ks ps F) (hF:F (t++[c])=some (.str "back")) (h2:b≠"") (X:PV) (e:bX [h.pv,.int hour,.str b,.str r]=some X):e8 [h.pv,.int hour,.dct ks ps,sT r b w v t,WO.sg c]=some X:=by
 have ad:gx (.str (mkS t)) (WO.sg c)=some (.str (mkS (t++[c]))):=iq t c (by omega);have ni:=T.notIn (t++[c]);have ix:=T.ix (t++[c]);rw[hF] at ni ix;have ni:iA (.str (mkS (t++[c]))) (.dct ks ps)=some (.bl false):=ni;have s0:gIx (sT r b w v t) (.int 0)=some (.str r):=rfl;have s1:gIx (sT r b w v t) (.int 1)=some (.str b):=rfl;have s4:gIx (sT r b w v t) (.int 4)=some (.str (mkS t)):=rfl;have n:zW (.str b) .non=some (.bl false):=rfl;generalize sT r b w v t=S at *;generalize PV.dct ks ps=D at *;generalize WO.sg c=G at *;generalize mkS (t++[c])=TT at *;generalize h.pv=H at *;refine aC rfl ?_;simp[gi,PU.start,s0,s1,s4,ad,ni,ix,h2,n,e]
theorem rD (r:Str) (w v:Int) (t:W) (c:Nat) (ht:t.length<=100) (ks:List Key) (ps:List PV) (F:W->Option PV) (T:Tells ks ps F) (hF:F (t++[c])=some (.str "back")) (X:PV) (e:bL [h.pv,.int hour,sT r "" w v t]=some X):e8 [h.pv,.int hour,.dct ks ps,sT r "" w v t,WO.sg c]=some X:=by
 have ad:gx (.str (mkS t)) (WO.sg c)=some (.str (mkS (t++[c]))):=iq t c (by omega);have ni:=T.notIn (t++[c]);have ix:=T.ix (t++[c]);rw[hF] at ni ix;have ni:iA (.str (mkS (t++[c]))) (.dct ks ps)=some (.bl false):=ni;have s0:gIx (sT r "" w v t) (.int 0)=some (.str r):=rfl;have s1:gIx (sT r "" w v t) (.int 1)=some (.str ""):=rfl;have s4:gIx (sT r "" w v t) (.int 4)=some (.str (mkS t)):=rfl;have n:zW (.str "") .non=some (.bl false):=rfl;generalize sT r "" w v t=S at *;generalize PV.dct ks ps=D at *;generalize WO.sg c=G at *;generalize mkS (t++[c])=TT at *;generalize h.pv=H at *;refine aC rfl ?_;simp[gi,PU.start,s0,s1,s4,ad,ni,ix,n,e]
def kw(kt:List (Nat×Str)):List (W×Str):=kt.map fun p=>([p.1],p.2)
def kF(kt:List (Nat×Str))(p:W):Option PV:=((kw kt).find? fun q=>decide (q.1=p)).map fun q=>.str q.2
theorem jF:∀(wt:List (W×Str)),Tells (wt.map fun p=>.inr (mkS p.1)) (wt.map fun p=>.str p.2) fun p=>(wt.find? fun q=>decide (q.1=p)).map fun q=>.str q.2
 | []=>⟨rfl,fun p=>rfl,by simp⟩
 | q::wt=>⟨by simp,fun p=>by
   rw[MC,MC,mV]
   by_cases h:q.1=p
   ·rw[if_pos (by rw[h]),SW (by simpa using h)]
    rfl
   ·rw[if_neg fun z=>h (mkS_inj (Ov z)),P8 (by simpa using h)]
    exact(jF wt).at_ p,fun x hx=>by
   obtain⟨p,_,rfl⟩:=MF.mp hx;simp[noFn]⟩
theorem D9(kt:List (Nat×Str))(c:Nat):kF kt [c]=(kt.find? fun q=>decide (q.1=c)).map fun q=>.str q.2:=by
 unfold kF kw;rw[OH,Option.map_map]
 have:((fun q:W×Str=>decide (q.1=[c])) ∘ fun p:Nat×Str=>([p.1],p.2))=fun q:Nat×Str=>decide (q.1=c):=by
  funext q
  simp
 rw[this];rfl
include hg in
theorem lR(r:Str)(room:Room)(lk:FA.lookR h.rooms r=some room)(t:Str)(kt:List (Nat×Str))(wr wa:Int×Str)(hr:room=.menu t (kt.map mk2) wr wa)(hs:P9 (kt.map (·.1)) K12):aJ [h.pv,.str r]=some (wtD (kw kt)):=by
 have n2:=FA.ix_rooms h.rooms r;rw[lk,hr] at n2;have n2:gIx (aD h.rooms) (.str r)=some (.tup [.str "menu",.str t,.tup ((kt.map mk2).map pv2),.tup [.int wr.1,.str wr.2],.tup [.int wa.1,.str wa.2]]):=n2;have hR:=hRo hg
 have e:PV.tup ((kt.map mk2).map pv2)=AD (kw kt):=by
  rw[B3];unfold AD kw;rw[MV];rfl
 have kl:kt.length<=12:=by
  have h1:=hs.length_le;have h2:K12.length=12:=rfl;rw[MG] at h1;omega
 have d:=xH (kw kt) (by simp[kw];omega) (by
  unfold kw;rw[MV];have nd:=hs.nodup GC;have:(List.map ((fun x:W×Str=>x.1) ∘ fun p:Nat×Str=>([p.1],p.2)) kt)=(kt.map (·.1)).map (fun c=>[c]):=by rw[MV];rfl
  rw[this]
  have inj:∀l:List Nat,l.Nodup->(l.map fun c=>[c]).Nodup:=by
   intro l
   induction l with
   | nil=>intro _;simp
   | cons a l ih=>
    intro h1;rw[Mu] at h1;rw[MC,Mu];refine⟨fun z=>?_,ih h1.2⟩;obtain⟨b,hb,e⟩:=MF.mp z;have:b=a:=by simpa using e
    subst this;exact h1.1 hb
  exact inj _ nd)
 rw[e] at n2;generalize AD (kw kt)=KP at *;generalize wtD (kw kt)=KD at *;generalize aD h.rooms=RM at *;generalize h.pv=H at *;refine aC rfl ?_;simp[dw,PU.start,hR,n2,d]
def mF(ks:List (Str×Str))(c:Nat):Option (Option Str):=(ks.find? fun q=>decide (q.1=(⟨#[c]⟩:Str))).map fun q=>some q.2
theorem Jq(kt:List (Nat×Str))(c:Nat):mF (kt.map mk2) c=(kt.find? fun q=>decide (q.1=c)).map fun q=>some q.2:=by
 unfold mF;rw[OH,Option.map_map]
 have:((fun q:Str×Str=>decide (q.1=(⟨#[c]⟩:Str))) ∘ mk2)=fun q:Nat×Str=>decide (q.1=c):=by
  funext q
  exact decide_eq_decide.mpr ⟨fun e=>by injection e with e;injection e with e;injection e,fun e=>by show (⟨#[q.1]⟩:Str)=_;rw[e]⟩
 rw[this];rfl
include hg in
theorem x5(r b:Str)(w v:Int)(room:Room)(tt:W)(ok:OK h nms r b room w v tt)(t:Str)(ks:List (Str×Str))(wr wa:Int×Str)(hr:room=.menu t ks wr wa)(c:Nat)(hc:c≠119):∃D,aJ [h.pv,.str r]=some D/\Goes h nms hour D (sT r b w v tt) c (goS h hour r b w v wr (mF ks c) [c]):=by
 have hw:=uz hg r room ok.lk;rw[hr] at hw;obtain⟨⟨kt,rfl,hs,ht⟩,hwr,hwa,_,_⟩:=hw;have tt0:tt=[]:=by have:=ok.ty;rw[hr] at this;exact this
 subst tt0;have ew:=lR hg r room ok.lk t kt wr wa hr hs;have TL:=jF (kw kt);have TLf:∀c,((kw kt).find? fun q=>decide (q.1=[c])).map (fun q=>PV.str q.2)=(kt.find? fun q=>decide (q.1=c)).map fun q=>.str q.2:=D9 kt;have h0:gIx room.pv (.int 0)=some (.str "menu"):=by rw[hr];rfl
 have h3:gIx room.pv (.int 3)=some (.tup [.int wr.1,.str wr.2]):=by rw[hr];rfl
 obtain⟨ok1,e1⟩:=wrong hg hour r b w v [] room ok wr h3 (by rw[hr];rfl) hwr;rw[Jq];cases hf:kt.find? fun q=>decide (q.1=c) with
 | none=>
  refine⟨_,ew,ok1,mj hg hour r b w v [] room ok "menu" h0 (.inl rfl) _ _ c hc ?_⟩;exact Bg hour r b w v [] c (by simp) _ _ _ TL (by show ((kw kt).find? fun q=>decide (q.1=[c])).map (fun q=>PV.str q.2)=none;rw[TLf,hf];rfl) _ e1
 | some p=>
  have pm:=NF hf
  have hF:((kw kt).find? fun q=>decide (q.1=[]++[c])).map (fun q=>PV.str q.2)=some (.str p.2):=by
   show ((kw kt).find? fun q=>decide (q.1=[c])).map (fun q=>PV.str q.2)=_;rw[TLf,hf];rfl
  show ∃D,_/\Goes h nms hour D _ c (if p.2=MH "back" then (if b=MH "" then wrS h hour r b w v wr else arS h hour b r) else arS h hour p.2 r)
  by_cases hb:p.2=MH "back"
  ·rw[if_pos hb]
   rw[hb] at hF
   by_cases hbb:b=MH ""
   ·rw[if_pos hbb]
    subst hbb;refine⟨_,ew,ok1,mj hg hour r "" w v [] room ok "menu" h0 (.inl rfl) _ _ c hc ?_⟩;exact rD hour r w v [] c (by simp) _ _ _ TL hF _ e1
   ·rw[if_neg hbb]
    have hbn:b∈nms:=ok.bn.resolve_left hbb;obtain⟨ok2,a1⟩:=arr hg hour b hbn r (.inr ok.rn);refine⟨_,ew,ok2,mj hg hour r b w v [] room ok "menu" h0 (.inl rfl) _ _ c hc ?_⟩;exact zJ hour r b w v [] c (by simp) _ _ _ TL hF hbb _ a1
  ·rw[if_neg hb]
   have hpn:p.2∈nms:=(ht p pm).resolve_left hb;obtain⟨ok2,a1⟩:=arr hg hour p.2 hpn r (.inr ok.rn);refine⟨_,ew,ok2,mj hg hour r b w v [] room ok "menu" h0 (.inl rfl) _ _ c hc ?_⟩;exact Bh hour r b w v [] c (by simp) _ _ _ TL p.2 hF hb (hg.nb p.2 hpn).2 _ a1
end
theorem DS{a:W}(ha:a∈W8):(cdH LS5 a).length<=5/\1<=(cdH LS5 a).length:=by
 have:=AE a ha;simp[cdH,cdW];omega
structure WT(wt:List (W×Str))(nms:List Str):Prop where
 sb:P9 (wt.map (·.1)) W8
 ne:wt≠[]
 tn:∀p∈wt,p.2∈nms
section
variable{wt : List (W×Str)}{nms : List Str}(k : WT wt nms)
include k
theorem WT.w8:∀p∈wt,p.1∈W8:=fun p hp=>k.sb.subset (MF.mpr ⟨p,hp,rfl⟩)
theorem WT.nd:(wt.map (·.1)).Nodup:=k.sb.nodup Iv
theorem WT.len:wt.length<=8:=by
 have h1:=k.sb.length_le;have h2:W8.length<=8:=by decide
 rw[MG] at h1;omega
theorem WT.ok:∀p∈wt,p.1.length<=12/\∀c∈p.1,(WO.keyL LS5 c).isSome=true:=fun p hp=>⟨by have:=AE p.1 (k.w8 p hp);omega,Gg p.1 (k.w8 p hp)⟩
theorem WT.nc:(wt.map fun p=>cdH LS5 p.1).Nodup:=by
 have:((wt.map (·.1)).map (cdH LS5)).Nodup:=(k.sb.map (cdH LS5)).nodup Js;rw[MV] at this;exact this
theorem WT.bs:(∀x∈yA LS5 wt,x.1≠[])/\∀x∈yA LS5 wt,∀y∈yA LS5 wt,x.1 <+: y.1->x=y:=⟨JT,JS Jr (fun p hp=>(k.ok p hp).2) k.nc⟩
theorem WT.mem{p:W×Str}(hp:p∈wt):(beg wt p.1,p.2)∈yA LS5 wt:=MF.mpr ⟨p,hp,rfl⟩
theorem WT.inv{x:W×Str}(hx:x∈yA LS5 wt):∃p∈wt,x=(beg wt p.1,p.2):=by
 obtain⟨p,hp,rfl⟩:=MF.mp hx;exact⟨p,hp,rfl⟩
theorem WT.pre{p:W×Str}(hp:p∈wt):beg wt p.1 <+: cdH LS5 p.1:=by unfold beg;exact oy _ _
theorem WT.bl{p:W×Str}(hp:p∈wt):(beg wt p.1).length<=5:=by
 have h1:=Nn (k.pre hp);have h2:=(DS (k.w8 p hp)).1;omega
end
theorem si(b ty:W):b.take ty.length=ty ↔ ty <+: b:=⟨fun e=>by rw[← e];exact Oh _ _,fun e=>(P4.mp e).symm⟩
def fits(wt:List (W×Str))(ty:W)(q:W×Str):Bool:=decide ((beg wt q.1).take ty.length=ty)
theorem D0:∀(a b:List (W×Str)),a.map mw2=b.map mw2->a=b:=by
 intro a
 induction a with
 | nil=>intro b e;cases b with | nil=>rfl | cons _ _=>cases e
 | cons x a ih=>
  intro b e;cases b with
  | nil=>cases e
  | cons y b=>
   rw[MC,MC] at e;injection e with e1 e2;have e3:x.1=y.1:=mkS_inj (show (mw2 x).1=(mw2 y).1 by rw[e1]);have e4:x.2=y.2:=(show (mw2 x).2=(mw2 y).2 by rw[e1]);rw[ih b e2,Pd e3 e4]
def unw(q:Str×Str):W×Str:=(q.1.cps.toList,q.2)
theorem ve(wt:List (W×Str)):(wt.map mw2).map unw=wt:=by
 rw[MV]
 have:(unw ∘ mw2)=fun q:W×Str=>q:=by
  funext q
  show ((mkS q.1).cps.toList,q.2)=q;unfold mkS;simp
 rw[this];simp
def nF(wt:List (W×Str))(ty:W):Option (Option Str):=(wt.find? (fits wt ty)).map fun p=>if beg wt p.1=ty then some p.2 else none
section
variable{h : House}{nms ord : List Str}(hg : HG h nms ord)(hour : Int)
include hg
theorem Fp (r:Str) (room:Room) (lk:FA.lookR h.rooms r=some room) (t:Str) (wt:List (W×Str)) (wr wa:Int×Str) (hr:room=.names t (wt.map mw2) wr wa):gIx (aD h.rooms) (.str r)=some (.tup [.str "names",.str t,AD wt,.tup [.int wr.1,.str wr.2],.tup [.int wa.1,.str wa.2]]):=by
 have n2:=FA.ix_rooms h.rooms r;rw[lk,hr] at n2;rw[← G9];exact n2
theorem kQ(r:Str)(room:Room)(lk:FA.lookR h.rooms r=some room)(t:Str)(ks:List (Str×Str))(wr wa:Int×Str)(hr:room=.names t ks wr wa):∃wt,ks=wt.map mw2/\WT wt nms/\wr.2∈nms/\wa.2∈nms:=by
 have hw:=uz hg r room lk;rw[hr] at hw;obtain⟨⟨wt,e,hs,hne,ht⟩,hwr,hwa,_,_⟩:=hw;exact⟨wt,e,⟨hs,hne,ht⟩,hwr,hwa⟩
theorem gf(r:Str)(room:Room)(lk:FA.lookR h.rooms r=some room)(t:Str)(wt:List (W×Str))(wr wa:Int×Str)(hr:room=.names t (wt.map mw2) wr wa)(k:WT wt nms):∃ks ps,Tells ks ps (BM (yA LS5 wt))/\aJ [h.pv,.str r]=some (.dct ks ps):=by
 obtain⟨ks,ps,tl,e⟩:=zA LS5 wt (by have:=k.len;omega) k.ok k.nd;have d:=xH wt (by have:=k.len;omega) k.nd;have n2:=Fp hg r room lk t wt wr wa hr;have hR:=hRo hg;have hL:=hg.lets;refine⟨ks,ps,tl,aC rfl ?_⟩;generalize AD wt=WP at *;generalize wtD wt=WD at *;generalize WO.ltPv LS5=LL at *;generalize aD h.rooms=RM at *;generalize h.pv=H at *;simp[dw,PU.start,hR,n2,hL,d,e]
theorem uC(r b:Str)(w v:Int)(room:Room)(tt:W)(ok:OK h nms r b room w v tt)(t:Str)(ks:List (Str×Str))(wr wa:Int×Str)(hr:room=.names t ks wr wa)(c:Nat)(hc:c≠119):∃D,aJ [h.pv,.str r]=some D/\Goes h nms hour D (sT r b w v tt) c (goS h hour r b w v wr (nF (ks.map unw) (tt++[c])) (tt++[c])):=by
 obtain⟨wt,rfl,k,hwr,hwa⟩:=kQ hg r room ok.lk t ks wr wa hr;obtain⟨dk,dp,TL,ew⟩:=gf hg r room ok.lk t wt wr wa hr k;have h0:gIx room.pv (.int 0)=some (.str "names"):=by rw[hr];rfl
 have h3:gIx room.pv (.int 3)=some (.tup [.int wr.1,.str wr.2]):=by rw[hr];rfl
 have tl:=ok.tl;obtain⟨b1,b2⟩:=k.bs;rw[ve];unfold nF;cases hf:wt.find? (fits wt (tt++[c])) with
 | none=>
  obtain⟨ok1,e1⟩:=wrong hg hour r b w v tt room ok wr h3 (by rw[hr];rfl) hwr;refine⟨_,ew,ok1,mj hg hour r b w v tt room ok "names" h0 (.inr rfl) _ _ c hc ?_⟩;refine Bg hour r b w v tt c (by omega) _ _ _ TL ?_ _ e1;refine va b1 fun x hx _ hp=>?_;obtain⟨p,hp2,rfl⟩:=k.inv hx;have:=TV.mp hf p hp2;exact this (decide_eq_true ((si _ _).mpr hp))
 | some p=>
  have pm:=NF hf;have pf:fits wt (tt++[c]) p=true:=Rb hf;have pp:(tt++[c]) <+: beg wt p.1:=(si _ _).mp (of_decide_eq_true pf);show ∃D,_/\Goes h nms hour D _ c (goS h hour r b w v wr (some (if beg wt p.1=tt++[c] then some p.2 else none)) (tt++[c]))
  by_cases hb:beg wt p.1=tt++[c]
  ·rw[if_pos hb]
   have hpn:=k.tn p pm;obtain⟨ok2,a1⟩:=arr hg hour p.2 hpn r (.inr ok.rn);have e:goS h hour r b w v wr (some (some p.2)) (tt++[c])=arS h hour p.2 r:=if_neg (hg.nb p.2 hpn).1;rw[e];refine⟨_,ew,ok2,mj hg hour r b w v tt room ok "names" h0 (.inr rfl) _ _ c hc ?_⟩;refine Bh hour r b w v tt c (by omega) _ _ _ TL p.2 ?_ (hg.nb p.2 hpn).1 (hg.nb p.2 hpn).2 _ a1;rw[← hb];exact yE b1 b2 (k.mem pm)
  ·rw[if_neg hb]
   have bl:=k.bl pm;have ttl:=Nn pp;refine⟨_,ew,⟨room,ok.lk,ok.nh,ok.rn,ok.bn,(by show (tt++[c]).length<=50;omega),?_,ok.hw,ok.hv⟩,mj hg hour r b w v tt room ok "names" h0 (.inr rfl) _ _ c hc ?_⟩
   ·rw[hr]
    intro wt' e';have:=D0 wt wt' e';subst this;exact .inr ⟨p,pm,pp,fun z=>hb z.symm⟩
   ·refine Dd hour r b w v tt c (by omega) _ _ _ TL ?_
    exact yD b1 b2 (k.mem pm) (by simp) pp (fun z=>hb z.symm)
def stp(h:House)(hour:Int)(s:St)(c:Nat):St:=match FA.lookR h.rooms s.r with
 | some (.menu _ ks wr wa)=>if c=119 then waS h hour s.r s.b s.w s.v wa else goS h hour s.r s.b s.w s.v wr (mF ks c) [c]
 | some (.names _ ks wr wa)=>if c=119 then waS h hour s.r s.b s.w s.v wa else goS h hour s.r s.b s.w s.v wr (nF (ks.map unw) (s.t++[c])) (s.t++[c])
 | _=>s
theorem LA(s:St)(room:Room)(ok:OK h nms s.r s.b room s.w s.v s.t)(c:Nat):∃D,aJ [h.pv,.str s.r]=some D/\Goes h nms hour D s.pv c (stp h hour s c):=by
 obtain⟨r,b,w,v,tt⟩:=s;have ok:OK h nms r b room w v tt:=ok;show ∃D,aJ [h.pv,.str r]=some D/\Goes h nms hour D (sT r b w v tt) c _;have n2:=FA.ix_rooms h.rooms r;rw[ok.lk] at n2;have n2:gIx (aD h.rooms) (.str r)=some room.pv:=n2;have hR:=hRo hg
 have plain:∀k:Str,gIx room.pv (.int 0)=some (.str k)->¬ k="menu"->¬ k="names"->aJ [h.pv,.str r]=some (.dct [] []):=fun k h0 h1 h2=>by
  refine aC rfl ?_;generalize room.pv=RP at *;generalize aD h.rooms=RM at *;generalize h.pv=H at *;simp[dw,PU.start,hR,n2,h0,h1,h2]
 unfold stp;rw[ok.lk];cases hroom:room with
 | hours sp l=>exact absurd hroom (ok.nh sp l)
 | menu t ks wr wa=>
  show ∃D,_/\Goes h nms hour D _ c (if c=119 then waS h hour r b w v wa else goS h hour r b w v wr (mF ks c) [c])
  by_cases hc:c=119
  ·rw[if_pos hc]
   subst hc;have hw:=uz hg r room ok.lk;rw[hroom] at hw;obtain⟨⟨kt,rfl,hs,ht⟩,hwr,hwa,_,_⟩:=hw;have ew:=lR hg r room ok.lk t kt wr wa hroom hs;exact⟨_,ew,Bo hg hour r b w v tt room ok "menu" (by rw[hroom];rfl) (.inl rfl) wa (by rw[hroom];rfl) (by rw[hroom];rfl) hwa (wtD (kw kt))⟩
  ·rw[if_neg hc]
   exact x5 hg hour r b w v room tt ok t ks wr wa hroom c hc
 | names t ks wr wa=>
  show ∃D,_/\Goes h nms hour D _ c (if c=119 then waS h hour r b w v wa else goS h hour r b w v wr (nF (ks.map unw) (tt++[c])) (tt++[c]))
  by_cases hc:c=119
  ·rw[if_pos hc]
   subst hc;obtain⟨wt,rfl,k,hwr,hwa⟩:=kQ hg r room ok.lk t ks wr wa hroom;obtain⟨dk,dp,TL,ew⟩:=gf hg r room ok.lk t wt wr wa hroom k;exact⟨_,ew,Bo hg hour r b w v tt room ok "names" (by rw[hroom];rfl) (.inr rfl) wa (by rw[hroom];rfl) (by rw[hroom];rfl) hwa (.dct dk dp)⟩
  ·rw[if_neg hc]
   exact uC hg hour r b w v room tt ok t ks wr wa hroom c hc
 | hand t=>exact⟨_,plain "hand" (by rw[hroom];rfl) (by simp) (by simp),tf hg hour r b w v tt room ok c "hand" (by rw[hroom];rfl) (.inl rfl) _⟩
 | fin t=>exact⟨_,plain "end" (by rw[hroom];rfl) (by simp) (by simp),tf hg hour r b w v tt room ok c "end" (by rw[hroom];rfl) (.inr rfl) _⟩
theorem Ca(n:Str)(room:Room)(lk:FA.lookR h.rooms n=some room):∃D,aJ [h.pv,.str n]=some D/\noFn D=true:=by
 have n2:=FA.ix_rooms h.rooms n;rw[lk] at n2;have n2:gIx (aD h.rooms) (.str n)=some room.pv:=n2;have hR:=hRo hg
 have plain:∀k:Str,gIx room.pv (.int 0)=some (.str k)->¬ k="menu"->¬ k="names"->aJ [h.pv,.str n]=some (.dct [] []):=fun k h0 h1 h2=>by
  refine aC rfl ?_;generalize room.pv=RP at *;generalize aD h.rooms=RM at *;generalize h.pv=H at *;simp[dw,PU.start,hR,n2,h0,h1,h2]
 have z:noFn (.dct [] [])=true:=by simp[noFn,aN]
 cases hroom:room with
 | hours sp l=>exact⟨_,plain "hours" (by rw[hroom];rfl) (by simp) (by simp),z⟩
 | hand t=>exact⟨_,plain "hand" (by rw[hroom];rfl) (by simp) (by simp),z⟩
 | fin t=>exact⟨_,plain "end" (by rw[hroom];rfl) (by simp) (by simp),z⟩
 | menu t ks wr wa=>
  have hw:=uz hg n room lk;rw[hroom] at hw;obtain⟨⟨kt,rfl,hs,ht⟩,hwr,hwa,_,_⟩:=hw;refine⟨_,lR hg n room lk t kt wr wa hroom hs,?_⟩;have:=(gJ _).mpr (jF (kw kt)).nf;simpa [wtD,noFn] using this
 | names t ks wr wa=>
  obtain⟨wt,rfl,k,hwr,hwa⟩:=kQ hg n room lk t ks wr wa hroom;obtain⟨dk,dp,TL,ew⟩:=gf hg n room lk t wt wr wa hroom k;refine⟨_,ew,?_⟩;have:=(gJ _).mpr TL.nf;simpa [noFn] using this
theorem BR:∃WD,aV [h.pv]=some WD/\noFn WD=true/\∀r b room w v tt,OK h nms r b room w v tt->∀D,aJ [h.pv,.str r]=some D->gIx WD (.str r)=some D:=by
 have rx:∀n∈FA.names h.rooms,∃D,aJ [h.pv,.str n]=some D/\noFn D=true:=fun n hn=>by
  obtain⟨room,hr⟩:=FA.look_some h.rooms n hn;exact Ca hg n room hr
 obtain⟨ks,ps,e,g,nf⟩:=Dq h.pv h.rooms (hRo hg) (by have:=hg.rl;omega) (fun n=>(aJ [h.pv,.str n]).getD .non) (fun n hn=>by
  obtain⟨D,e,_⟩:=rx n hn;rw[e];rfl) (fun n hn=>by
  obtain⟨D,e,f⟩:=rx n hn;rw[e];exact f)
 refine⟨_,e,nf,fun r b room w v tt ok D hD=>?_⟩;rw[g r (hg.all r (hg.nm r ok.rn)),hD];rfl
theorem Al:Ok h nms (arS h hour h.first "")/\c9 [h.pv,.int hour]=some (arS h hour h.first "").pv:=by
 obtain⟨ok,e1⟩:=arr hg hour h.first hg.fst "" (.inl rfl);refine⟨ok,aC rfl ?_⟩;have hF:gIx h.pv (.str "first")=some (.str h.first):=by simp[House.pv]
 generalize (arS h hour h.first "").pv=S at *;generalize h.pv=H at *;simp[rH,PU.start,hF,e1]
end
end
def St.key(s:St):bZ:=[.inl (.inr s.r),.inl (.inr s.b),.inl (.inl s.w),.inl (.inl s.v),.inl (.inr (mkS s.t))]
theorem St.tk(s:St):l9 s.pv=some s.key:=rfl
theorem St.kinj{a b:St}(e:a.key=b.key):a=b:=by
 cases a;cases b;simp only[St.key,Nq,Pq,Rc,and_true] at e;obtain⟨h1,h2,h3,h4,h5⟩:=e;have h5:=mkS_inj h5;subst h1 h2 h3 h4 h5;rfl
theorem St.nf(s:St):noFn s.pv=true:=by simp[St.pv,sT,noFn,aN]
def S13:List Nat:=[48,49,50,51,52,53,54,55,56,57,42,35,119]
def cd(i:Nat):Nat:=S13.getD i 0
theorem vB:fK (.str "0123456789*#w")=some ((MX 13).map fun i=>WO.sg (cd i)):=by kernel_rfl
theorem ka(L:List PV)(st:PV):gIx (.lst (L++[st])) (.int (-1))=some st:=by
 show atI (L++[st]) (-1)=some st
 have e:ixN (L++[st]).length (-1)=some L.length:=by
  rw[Mi,O4];unfold ixN;rw[if_neg (by omega)]
  first
   | (rw[if_pos (by omega)];congr 1;omega)
   | (simp;omega)
   | simp
 unfold atI;rw[e];simp
theorem oJ{n:Nat}{fe:PSt->R PV}{qs cs:List PV}{p:PV}(hl:qs.length=n)(h:fe ((qs++cs).map .val)=.ok p):Bb n fe qs cs=some p:=by
 unfold Bb;rw[if_pos hl,h]
theorem jC{i:Nat}{fs:PSt->R (List PV)}{app:Lam->List PV->List PV->Option PV}{ρ:PSt}{L:Lam}{cs qs:List PV}{p:PV}(h:ρ[i]?=some (.val (.fn L cs)))(hq:fs ρ=.ok qs)(n1:aN qs=true)(n2:aN cs=true)(e:app L qs cs=some p):kH i fs app ρ=.ok p:=by
 unfold kH;rw[h];show (fs ρ >>= fun qs=>if aN qs=true/\aN cs=true then R.ofO (app L qs cs) else .no)=_;rw[hq];show (if aN qs=true/\aN cs=true then R.ofO (app L qs cs) else .no)=_;rw[if_pos ⟨n1,n2⟩,e];rfl
theorem eL{α:Type}(f:α->PV)(l:List α)(h:∀x∈l,noFn (f x)=true):aN (l.map f)=true:=(gJ _).mpr fun p hp=>by
 obtain⟨x,hx,rfl⟩:=MF.mp hp;exact h x hx
theorem wd(p:Str×Str):noFn (pv2 p)=true:=by simp[pv2,noFn,aN]
theorem G7(p:Int×Int×Str):noFn (pv3 p)=true:=by simp[pv3,noFn,aN]
theorem CQ(r:Room):noFn r.pv=true:=by
 cases r with
 | menu t ks wr wa=>simp[Room.pv,pvI,noFn,aN,eL pv2 ks fun x _=>wd x]
 | names t ks wr wa=>simp[Room.pv,pvI,noFn,aN,eL pv2 ks fun x _=>wd x]
 | hours sp l=>simp[Room.pv,noFn,aN,eL pv3 sp fun x _=>G7 x]
 | hand t=>simp[Room.pv,noFn,aN]
 | fin t=>simp[Room.pv,noFn,aN]
theorem zB(h:House):noFn h.pv=true:=by
 have h1:=eL pv2 h.letters fun x _=>wd x;have h2:=eL (fun r:Str×Room=>r.2.pv) h.rooms fun x _=>CQ x.2;simp[House.pv,aD,noFn,aN,h1,h2]
theorem ou{ks:List bZ}{ps:List PV}{k:bZ}{v:PV}(h:(ks.any fun j=>decide (j=k))=false):uW ks ps k v=.dtt (ks++[k]) (ps++[v]):=by
 unfold uW;rw[h];rfl
theorem qK{i:Nat}{fk fv:PSt->R PV}{ρ:PSt}{ks:List bZ}{ps:List PV}{p kp:PV}{k:bZ}(h:ρ[i]?=some (.own (.dtt ks ps)))(hv:fv ρ=.ok p)(hk:fk ρ=.ok kp)(ht:l9 kp=some k)(hl:ks.length<16777216):mK i fk fv ρ=.ok (.next (ρ.set i (.own (uW ks ps k p)))):=by
 unfold mK;rw[h];show (fv ρ >>= fun p=>fk ρ >>= fun kp=>R.ofO (l9 kp) >>= fun k=>if ks.length<16777216 then R.ok (Fl.next (ρ.set i (.own (uW ks ps k p)))) else R.no)=_;rw[hv];show (fk ρ >>= fun kp=>R.ofO (l9 kp) >>= fun k=>if ks.length<16777216 then R.ok (Fl.next (ρ.set i (.own (uW ks ps k p)))) else R.no)=_;rw[hk];show (R.ofO (l9 kp) >>= fun k=>if ks.length<16777216 then R.ok (Fl.next (ρ.set i (.own (uW ks ps k p)))) else R.no)=_;rw[ht];exact if_pos hl
section
variable[LX]
def Nx(h:House)(nms:List Str)(hour:Int)(s:St)(i:Nat)(s':St):Prop:=Ok h nms s'/\∃D,aJ [h.pv,.str s.r]=some D/\bG [h.pv,.int hour,D,s.pv,WO.sg (cd i)]=some s'.pv
def lead(h:House)(hour:Int)(s:St)(i:Nat):St:=stp h hour s (cd i)
def TL:List W:=W8.flatMap fun w=>(MX (cdH LS5 w).length).map fun n=>(cdH LS5 w).take n
def univ (nms:List Str):List St:=nms.flatMap fun r=>(MH ""::nms).flatMap fun b=>[(0:Int),1].flatMap fun w=>[(0:Int),1].flatMap fun v=>TL.map fun t=>⟨r,b,w,v,t⟩
theorem q8{α β:Type}(f:α->List β)(n:Nat):∀l:List α,(∀x∈l,(f x).length=n)->(l.flatMap f).length=l.length * n
 | [],_=>by simp
 | x::l,h=>by
  rw[Pz,Mi,h x (by simp),q8 f n l fun y hy=>h y (by simp[hy]),Mr,Nat.add_mul];omega
theorem yN(nms:List Str)(h:nms.length<=7):(univ nms).length<=1848:=by
 have hT:TL.length=7:=by unfold TL;rcases pU with q | q <;> rw[q] <;> decide +kernel
 have e:(univ nms).length=nms.length * ((nms.length+1) * (2 * (2 * 7))):=by
  unfold univ;refine q8 _ _ _ fun r _=>?_;refine(q8 _ (2 * (2 * 7)) _ fun b _=>?_);refine(q8 _ (2 * 7) _ fun w _=>?_);refine(q8 _ 7 _ fun v _=>?_);rw[MG,hT]
 rw[e];have h2:nms.length * ((nms.length+1) * (2 * (2 * 7)))<=7 * ((7+1) * (2 * (2 * 7))):=Rv h (Rv (by omega) (Ma _));omega
section
variable{h : House}{nms ord : List Str}(hg : HG h nms ord)(hour : Int)
include hg
theorem yM(s:St)(hs:Ok h nms s):s∈univ nms:=by
 obtain⟨room,ok⟩:=hs;have bb:=(uz hg s.r room ok.lk).b;have h1:=ok.hw;have h2:=ok.hv
 have ht:s.t∈TL:=by
  have z:([]:W)∈TL:=by unfold TL;rcases pU with q | q <;> rw[q] <;> decide +kernel
  have ty:=ok.ty;cases hroom:room with
  | names t ks wr wa=>
   obtain⟨wt,rfl,k,_,_⟩:=kQ hg s.r room ok.lk t ks wr wa hroom;rw[hroom] at ty;rcases ty wt rfl with e | ⟨p,hp,h1,h2⟩
   ·rw[e];exact z
   ·have pre:=Q5 h1 (k.pre hp)
    have l1:=Nn h1;have l3:=Nn (k.pre hp);have l4:s.t.length≠(beg wt p.1).length:=fun e=>h2 (h1.eq_of_length e);refine Oi.mpr ⟨p.1,k.w8 p hp,MF.mpr ⟨s.t.length,NT.mpr (by omega),?_⟩⟩;exact(P4.mp pre).symm
  | _=>
   rw[hroom] at ty;have ty:s.t=[]:=ty;rw[ty];exact z
 have hw:s.w=0\/s.w=1:=by omega
 have hv:s.v=0\/s.v=1:=by omega
 refine Oi.mpr ⟨s.r,ok.rn,Oi.mpr ⟨s.b,?_,Oi.mpr ⟨s.w,?_,Oi.mpr ⟨s.v,?_,MF.mpr ⟨s.t,ht,rfl⟩⟩⟩⟩⟩
 ·rcases ok.bn with e | e
  ·rw[e];exact Mh
  ·exact Me _ e
 ·rcases hw with e | e <;> simp[e]
 ·rcases hv with e | e <;> simp[e]
theorem wB(s:St)(hs:Ok h nms s)(i:Nat):Nx h nms hour s i (lead h hour s i):=by
 obtain⟨room,ok⟩:=hs;obtain⟨D,e,g⟩:=LA hg hour s room ok (cd i);exact⟨g.ok,D,e,g.fo⟩
end
structure WD(h:House)(nms:List Str)(D:PV):Prop where
 eq:aV [h.pv]=some D
 nf:noFn D=true
 ix:∀s:St,Ok h nms s->∀X,aJ [h.pv,.str s.r]=some X->gIx D (.str s.r)=some X
theorem Iu{h:House}{nms ord:List Str}(hg:HG h nms ord):∃D,WD h nms D:=by
 obtain⟨D,h1,h2,h3⟩:=BR hg;exact⟨D,h1,h2,fun s ⟨room,ok⟩ X hX=>h3 s.r s.b room s.w s.v s.t ok X hX⟩
section
variable{h : House}{nms ord : List Str}(hg : HG h nms ord)(hour : Int){D : PV}(hD : WD h nms D)
include hg hD
theorem LF(s:St)(hs:Ok h nms s)(i:Nat):∃X,gIx D (.str s.r)=some X/\bG [h.pv,.int hour,X,s.pv,WO.sg (cd i)]=some (lead h hour s i).pv:=by
 obtain⟨_,X,e1,e2⟩:=wB hg hour s hs i;exact⟨X,hD.ix s hs X e1,e2⟩
end
end
def kindOf:Room->Str
 | .hand _=>"hand"
 | .fin _=>"end"
 | _=>"asked"
def mW:Room->Str
 | .menu t ..=>t
 | .names t ..=>t
 | .hand t=>t
 | .fin t=>t
 | .hours ..=>""
def hP(h:House)(s:St):Str×Str:=match FA.lookR h.rooms s.r with
 | some room=>(kindOf room,mW room)
 | none=>("","")
def hE(x:Str×Str):PV:=.tup [.str x.1,.str x.2]
structure Mach(H:PV)(hour:Int) where
 ok:St->Prop
 lead:St->Nat->St
 hp:St->Str×Str
 univ:List St
 ways:PV
 s0:St
 nfH:noFn H=true
 nfW:noFn ways=true
 ok0:ok s0
 okl:∀s,ok s->∀i,ok (lead s i)
 eb:c9 [H,.int hour]=some s0.pv
 ew:aV [H]=some ways
 fol:∀s,ok s->∀i,∃X,gIx ways (.str s.r)=some X/\bG [H,.int hour,X,s.pv,WO.sg (cd i)]=some (lead s i).pv
 hrd:∀s,ok s->dO [H,s.pv]=some (hE (hp s))
 mem:∀s,ok s->s∈univ
 ul:univ.length<=1848
section
variable[LX]
section
variable{h : House}{nms ord : List Str}(hg : HG h nms ord)
include hg
theorem heard(r b:Str)(w v:Int)(room:Room)(tt:W)(ok:OK h nms r b room w v tt):dO [h.pv,sT r b w v tt]=some (.tup [.str (kindOf room),.str (mW room)]):=by
 refine aC rfl ?_;have n2:=FA.ix_rooms h.rooms r;rw[ok.lk] at n2;have n2:gIx (aD h.rooms) (.str r)=some room.pv:=n2;have hR:=hRo hg;have g0:gIx (sT r b w v tt) (.int 0)=some (.str r):=rfl;have c:c_HEARD=.dct [.inr "menu",.inr "names",.inr "hand",.inr "end"] [.str "asked",.str "asked",.str "hand",.str "end"]:=rfl;have nh:=ok.nh;generalize sT r b w v tt=S at *;generalize aD h.rooms=RM at *;generalize h.pv=H at *;cases room with
 | hours sp l=>exact absurd rfl (nh sp l)
 | menu t ks wr wa=>
  have n2:gIx RM (.str r)=some (.tup [.str "menu",.str t,.tup (ks.map pv2),.tup [.int wr.1,.str wr.2],.tup [.int wa.1,.str wa.2]]):=n2;simp[jX,PU.start,hR,g0,n2,c,kindOf,mW]
 | names t ks wr wa=>
  have n2:gIx RM (.str r)=some (.tup [.str "names",.str t,.tup (ks.map pv2),.tup [.int wr.1,.str wr.2],.tup [.int wa.1,.str wa.2]]):=n2;simp[jX,PU.start,hR,g0,n2,c,kindOf,mW]
 | hand t=>
  have n2:gIx RM (.str r)=some (.tup [.str "hand",.str t]):=n2;simp[jX,PU.start,hR,g0,n2,c,kindOf,mW]
 | fin t=>
  have n2:gIx RM (.str r)=some (.tup [.str "end",.str t]):=n2;simp[jX,PU.start,hR,g0,n2,c,kindOf,mW]
end
theorem zS{h:House}{nms ord:List Str}(hg:HG h nms ord)(s:St)(hs:Ok h nms s):dO [h.pv,s.pv]=some (hE (hP h s)):=by
 obtain⟨room,ok⟩:=hs;have:=heard hg s.r s.b s.w s.v room s.t ok;unfold hP;rw[ok.lk];exact this
theorem wm {h:House} {nms ord:List Str} (hg:HG h nms ord) (hour:Int):∃M:Mach h.pv hour,M.lead=lead h hour/\M.hp=hP h/\M.s0=arS h hour h.first "":=by
 obtain⟨D,hD⟩:=Iu hg;obtain⟨h0,hb⟩:=Al hg hour;exact⟨⟨Ok h nms,lead h hour,hP h,univ nms,D,_,zB h,hD.nf,h0,fun s hs i=>(wB hg hour s hs i).1,hb,hD.eq,fun s hs i=>LF hg hour hD s hs i,fun s hs=>zS hg s hs,fun s hs=>yM hg s hs,yN nms hg.nl⟩,rfl,rfl,rfl⟩
end
theorem yj(x:List Nat)(c:Nat)(hx:x.length<=16000000):gx (.str (mkS x)) (.str ⟨#[c]⟩)=some (.str (mkS (x++[c]))):=by
 rw[r9,l5 (by simp;omega),lP]
def lC(l:List Nat):Str:=mkS (l.map cd)
theorem vE(r:List Nat)(i:Nat)(h:r.length<=16000000):gx (.str (lC r)) (WO.sg (cd i))=some (.str (lC (r++[i]))):=by
 unfold lC;rw[Mc];exact yj (r.map cd) (cd i) (by simp;omega)
theorem wz{α β:Type}(f:α->List β)(n:Nat):∀l:List α,(∀x∈l,(f x).length=n)->(l.flatMap f).length=l.length * n
 | [],_=>by simp
 | x::l,h=>by
  rw[Pz,Mi,h x (by simp),wz f n l fun y hy=>h y (by simp[hy]),Mr,Nat.add_mul];omega
abbrev P2:=St×St
def p2(s:P2):PV:=.tup [s.1.pv,s.2.pv]
def kf(s:St):List Key:=[.inr s.r,.inr s.b,.inl s.w,.inl s.v,.inr (mkS s.t)]
theorem Bf{a b:St}(e:kf a=kf b):a=b:=by
 cases a;cases b;simp only[kf,Nq,Pq,Rc,and_true] at e;obtain⟨h1,h2,h3,h4,h5⟩:=e;have h5:=mkS_inj h5;subst h1 h2 h3 h4 h5;rfl
def yx(s:P2):bZ:=[.inr (kf s.1),.inr (kf s.2)]
theorem tk2(s:P2):l9 (p2 s)=some (yx s):=rfl
theorem JE{a b:P2}(e:yx a=yx b):a=b:=by
 unfold yx at e;simp only[Nq,Pq,and_true] at e;exact Pd (Bf e.1) (Bf e.2)
theorem ur(s:P2):noFn (p2 s)=true:=by simp[p2,noFn,aN,St.nf]
def b8(p:BF.Row P2):PV:=.tup [p2 p.1,.str (lC p.2)]
def kL(found:List (BF.Row P2)):List bZ:=found.map fun p=>yx p.1
def tL(found:List (BF.Row P2)):List PV:=found.map fun _=>PV.bl true
theorem E1(found:List (BF.Row P2))(s:P2):((kL found).any fun j=>decide (j=yx s))=decide (s∈found.map (·.1)):=by
 rw[Nk];simp only[kL,ON,Ol,PC,decide_eq_true_eq,MF];constructor
 ·rintro⟨p,hp,e⟩
  exact⟨p,hp,JE e⟩
 ·rintro⟨p,hp,e⟩
  exact⟨p,hp,by rw[e]⟩
theorem Lo(a b:Str×Str):gNe (hE a) (hE b)=some (.bl (!decide (a=b)))/\gEq (hE a) (hE b)=some (.bl (decide (a=b))):=by
 have e:cz [PV.str a.1,.str a.2] [PV.str b.1,.str b.2]=some (decide (a=b)):=by
  have:decide (a=b)=(decide (a.1=b.1) && decide (a.2=b.2)):=by
   rw[← Bool.decide_and];exact decide_eq_decide.mpr Prod.ext_iff
  rw[this]
  have qq:∀x y:Str,bU (PV.str x) (.str y)=some (decide (x=y)):=fun x y=>by
   show some (x == y)=_;rw[show (x == y)=decide (x=y) by rw[Nk,beq_iff_eq,decide_eq_true_iff]]
  simp only[cz,qq,Q0,Qi]
 have z:dM [PV.str a.1,.str a.2]<=60:=by simp[yu,dM]
 constructor
 ·have q:gNe (hE a) (hE b)=if dM [PV.str a.1,.str a.2]<=60 then (cz [PV.str a.1,.str a.2] [PV.str b.1,.str b.2]).map fun b=>.bl (!b) else none:=rfl
  rw[q,if_pos z,e];rfl
 ·have q:gEq (hE a) (hE b)=if dM [PV.str a.1,.str a.2]<=60 then (cz [PV.str a.1,.str a.2] [PV.str b.1,.str b.2]).map .bl else none:=rfl
  rw[q,if_pos z,e];rfl
theorem tM(q:Str)(k:List Str)(sc:Scope)(e:Stmt):(DG q k sc e).kept=k:=by
 cases e <;> rfl
theorem yb{n:Nat}{g:PSt->R Fl}{ρ:PSt}{p:PV}(h:g (ρ++Mv n .no)=.ok (.ret p)):rX n g ρ=.ok p:=by
 unfold rX;rw[h]
theorem q9(q:Str)(k:List Str)(sc:Scope)(e:Expr):(D8 q k sc e).kept=k:=by
 cases e <;> rfl
theorem kp1:bR.kept=(["ways","hour","H"]:List Str):=q9 _ _ _ _
theorem kp2:bD.kept=[]:=q9 _ _ _ _
theorem kc1:aU.kept=(["ways","others","hour","H","G"]:List Str):=tM _ _ _ _
theorem kc2:aI.kept=(["H","G"]:List Str):=tM _ _ _ _
theorem Eg{A B:Lam}(h:A.kept≠B.kept):A≠B:=fun e=>h (by rw[e])
theorem LO(S1 S2 G W1 W2 T1 T2 X1 X2 H1 H2:PV)(hour:Int)(r1 r2:Str)(h0:gIx S1 (.int 0)=some (.str r1))(h0':gIx S2 (.int 0)=some (.str r2))(h1:gIx W1 (.str r1)=some X1)(h1':gIx W2 (.str r2)=some X2)(h2:bG [H1,.int hour,X1,S1,G]=some T1)(h2':bG [H2,.int hour,X2,S2,G]=some T2) :
  appL aU [.tup [S1,S2],G] [W1,W2,.int hour,H1,H2]=some (.tup [T1,T2]):=by
 unfold appL;rw[if_neg (Eg (by rw[kc1,kp1];decide)),if_neg (Eg (by rw[kc1,kp2];decide)),if_pos rfl];refine oJ rfl (yb ?_);show gR [.val (.tup [S1,S2]),.val G,.val W1,.val W2,.val (.int hour),.val H1,.val H2,.no]=_;have i0:gIx (.tup [S1,S2]) (.int 0)=some S1:=rfl;have i1:gIx (.tup [S1,S2]) (.int 1)=some S2:=rfl;generalize PV.tup [S1,S2]=SS at *;simp[gR,i0,i1,h0,h0',h1,h1',h2,h2']
theorem LM(S1 S2 H1 H2:PV)(a b:Str×Str)(h1:dO [H1,S1]=some (hE a))(h2:dO [H2,S2]=some (hE b)):appL aI [.tup [S1,S2]] [H1,H2]=some (.bl (!decide (a=b))):=by
 unfold appL;rw[if_neg (Eg (by rw[kc2,kp1];decide)),if_neg (Eg (by rw[kc2,kp2];decide)),if_neg (Eg (by rw[kc2,kc1];decide)),if_pos rfl];refine oJ rfl (yb ?_);show gQ [.val (.tup [S1,S2]),.val H1,.val H2]=_;have i0:gIx (.tup [S1,S2]) (.int 0)=some S1:=rfl;have i1:gIx (.tup [S1,S2]) (.int 1)=some S2:=rfl;have e:=(Lo a b).1;generalize PV.tup [S1,S2]=SS at *;generalize hE a=A at *;generalize hE b=B at *;simp[gQ,i0,i1,h1,h2,e]
theorem GQ(S0 F1 F2:PV)(KS:List bZ)(PS FS:List PV)(d:Int)(NP SG T:PV)(c:Sl)(x x':Str)(k:bZ)(lb:Bool)
  (h1:kH 1 (ae (ar (ah 6) (kI 0) gIx) (ae (ah 7) aM)) appL [.val S0,.val F1,.val F2,.own (.dtt KS PS),.own (.lst FS),.val (.int d),.val NP,.val SG,c]=.ok T)
  (h2:∀KS PS FS,kH 2 (ae (ah 8) aM) appL [.val S0,.val F1,.val F2,.own (.dtt KS PS),.own (.lst FS),.val (.int d),.val NP,.val SG,.val T]=.ok (.bl lb))
  (hk:l9 T=some k) (hx:gIx NP (.int 1)=some (.str x)) (ha:gx (.str x) SG=some (.str x')) (hl:KS.length<16777216) (hf:FS.length<16777216) :
  aS [.val S0,.val F1,.val F2,.own (.dtt KS PS),.own (.lst FS),.val (.int d),.val NP,.val SG,c]=.ok (if (KS.any fun j=>decide (j=k))=true then .next [.val S0,.val F1,.val F2,.own (.dtt KS PS),.own (.lst FS),.val (.int d),.val NP,.val SG,.val T] else if lb=true then .brk [.val S0,.val F1,.val F2,.own (.dtt (KS++[k]) (PS++[.bl true])),.own (.lst (FS++[.tup [T,.str x']])),.val (.int d),.val NP,.val SG,.val T] else .next [.val S0,.val F1,.val F2,.own (.dtt (KS++[k]) (PS++[.bl true])),.own (.lst (FS++[.tup [T,.str x']])),.val (.int d),.val NP,.val SG,.val T]):=by
 have ni:jY T (.dtt KS PS)=some (.bl (!(KS.any fun j=>decide (j=k)))):=by
  show (l9 T).map _=_;rw[hk];rfl
 by_cases hh:(KS.any fun j=>decide (j=k))=true
 ·rw[if_pos hh]
  rw[hh] at ni;simp[aS,h1,ni]
 ·have hh':(KS.any fun j=>decide (j=k))=false:=(On _).mp hh
  rw[if_neg hh];rw[hh'] at ni
  have pt:mK 3 (ah 8) (kB true) [.val S0,.val F1,.val F2,.own (.dtt KS PS),.own (.lst FS),.val (.int d),.val NP,.val SG,.val T]=.ok (.next [.val S0,.val F1,.val F2,.own (.dtt (KS++[k]) (PS++[.bl true])),.own (.lst FS),.val (.int d),.val NP,.val SG,.val T]):=by
   rw[qK (ks:=KS) (ps:=PS) (p:=.bl true) (kp:=T) (k:=k) rfl rfl rfl hk hl,ou hh'];rfl
  have h3:=h2 (KS++[k]) (PS++[.bl true]) (FS++[.tup [T,.str x']]);cases lb with
  | false=>simp[aS,h1,ni,pt,hx,ha,hf,h3]
  | true=>simp[aS,h1,ni,pt,hx,ha,hf,h3]
abbrev mh(S0 F1 F2:PV)(found:List (BF.Row P2))(d:Nat)(a b c:Sl):PSt:=[.val S0,.val F1,.val F2,.own (.dtt (kL found) (tL found)),.own (.lst (found.map b8)),.val (.int d),a,b,c]
section
variable{H G : PV}{hour : Int}(M : Mach H hour)(N : Mach G hour)
abbrev F1:PV:=.fn aU [M.ways,N.ways,.int hour,H,G]
abbrev F2(H G:PV):PV:=.fn aI [H,G]
def bK(s:P2)(i:Nat):P2:=(M.lead s.1 i,N.lead s.2 i)
def cR(s:P2):Bool:=!decide (M.hp s.1=N.hp s.2)
def ok2(s:P2):Prop:=M.ok s.1/\N.ok s.2
def u2:List P2:=M.univ.flatMap fun a=>N.univ.map fun b=>(a,b)
theorem EY:(u2 M N).length<=3415104:=by
 have:(u2 M N).length=M.univ.length * N.univ.length:=by
  unfold u2;exact wz _ _ _ fun a _=>by rw[MG]
 rw[this];exact NB (Rv M.ul N.ul) (by decide)
theorem EX(s:P2)(h:ok2 M N s):s∈u2 M N:=by
 unfold u2;exact Oi.mpr ⟨s.1,M.mem _ h.1,MF.mpr ⟨s.2,N.mem _ h.2,rfl⟩⟩
theorem FV(s:P2)(h:ok2 M N s)(i:Nat):ok2 M N (bK M N s i):=⟨M.okl _ h.1 i,N.okl _ h.2 i⟩
theorem lY(s0:P2)(h0:ok2 M N s0){found:List (BF.Row P2)}(I:BF.Inv (bK M N) s0 found):(∀p∈found,ok2 M N p.1)/\found.length<=3415104:=by
 have a:=BF.inv_P (bK M N) s0 (ok2 M N) h0 fun s hs i _=>FV M N s hs i;refine⟨a found I,?_⟩;have:=BF.inv_len (bK M N) s0 (u2 M N) (fun f J p hp=>EX M N p.1 (a f J p hp)) I;have:=EY M N;omega
theorem JQ(s:P2)(h:ok2 M N s)(i:Nat):appL aU [p2 s,WO.sg (cd i)] [M.ways,N.ways,.int hour,H,G]=some (p2 (bK M N s i)):=by
 obtain⟨X1,a1,b1⟩:=M.fol s.1 h.1 i;obtain⟨X2,a2,b2⟩:=N.fol s.2 h.2 i;exact LO s.1.pv s.2.pv _ _ _ _ _ X1 X2 H G hour s.1.r s.2.r rfl rfl a1 a2 b1 b2
theorem DU(s:P2)(h:ok2 M N s):appL aI [p2 s] [H,G]=some (.bl (cR M N s)):=LM _ _ _ _ _ _ (M.hrd _ h.1) (N.hrd _ h.2)
theorem GP(S0:PV)(found:List (BF.Row P2))(near:BF.Row P2)(hn:ok2 M N near.1)(i d:Nat)(c:Sl)(hl:found.length<16000000)(hr:near.2.length<=16000000) :
  aS (mh S0 (F1 M N) (F2 H G) found d (.val (b8 near)) (.val (WO.sg (cd i))) c)=.ok (if bK M N near.1 i∈found.map (·.1) then .next (mh S0 (F1 M N) (F2 H G) found d (.val (b8 near)) (.val (WO.sg (cd i))) (.val (p2 (bK M N near.1 i))))
   else if cR M N (bK M N near.1 i)=true then .brk (mh S0 (F1 M N) (F2 H G) (found++[(bK M N near.1 i,near.2++[i])]) d (.val (b8 near)) (.val (WO.sg (cd i))) (.val (p2 (bK M N near.1 i))))
   else .next (mh S0 (F1 M N) (F2 H G) (found++[(bK M N near.1 i,near.2++[i])]) d (.val (b8 near)) (.val (WO.sg (cd i))) (.val (p2 (bK M N near.1 i))))):=by
 have n1:aN [p2 near.1,WO.sg (cd i)]=true:=by simp[aN,ur,WO.sg,noFn]
 have n2:aN [M.ways,N.ways,.int hour,H,G]=true:=by simp[aN,M.nfW,N.nfW,M.nfH,N.nfH,noFn]
 have n3:aN [p2 (bK M N near.1 i)]=true:=by simp[aN,ur]
 have n4:aN [H,G]=true:=by simp[aN,M.nfH,N.nfH]
 have B:=GQ S0 (F1 M N) (F2 H G) (kL found) (tL found) (found.map b8) d (b8 near) (WO.sg (cd i)) (p2 (bK M N near.1 i)) c (lC near.2) (lC (near.2++[i])) (yx (bK M N near.1 i)) (cR M N (bK M N near.1 i))
  (jC (L:=aU) (cs:=[M.ways,N.ways,.int hour,H,G]) (qs:=[p2 near.1,WO.sg (cd i)]) rfl rfl n1 n2 (JQ M N near.1 hn i))
  (fun KS PS FS=>jC (L:=aI) (cs:=[H,G]) (qs:=[p2 (bK M N near.1 i)]) rfl rfl n3 n4 (DU M N _ (FV M N _ hn i)))
  (tk2 _) rfl (vE near.2 i hr) (by simp[kL];omega) (by simp;omega)
 rw[E1] at B;refine B.trans ?_
 by_cases hm:bK M N near.1 i∈found.map (·.1)
 ·rw[if_pos hm,if_pos (decide_eq_true hm)]
 ·rw[if_neg hm,if_neg (by simpa using hm)]
  simp only[mh,kL,tL,Mc];rfl
theorem oR(S0:PV)(s0:P2)(h0:ok2 M N s0)(near:BF.Row P2)(d:Nat):∀(m k:Nat)(found:List (BF.Row P2))(b c:Sl),k+m=13->BF.Mid (bK M N) s0 (cR M N) found d k near->∃found' b' c',
  gT (av 7) aS ((QU k m).map fun i=>WO.sg (cd i)) (mh S0 (F1 M N) (F2 H G) found (d+1) (.val (b8 near)) b c)=.ok (.next (mh S0 (F1 M N) (F2 H G) found' (d+1) (.val (b8 near)) b' c'))/\
   (BF.Mid (bK M N) s0 (cR M N) found' d 13 near\/∃init fin,found'=init++[fin]/\cR M N fin.1=true/\BF.Res (bK M N) s0 (cR M N) found')
 | 0,k,found,b,c,hk,I=>⟨found,b,c,rfl,.inl ((show k=13 by omega)▸I)⟩
 | m+1,k,found,b,c,hk,I=>by
  have hn:ok2 M N near.1:=(lY M N s0 h0 I.inv).1 near (Mk I.at_);have hl:=(lY M N s0 h0 I.inv).2;have hd:=(MB.mp I.at_).1;have hr:=I.inv.len d near I.at_;have e1:=GP M N S0 found near hn k (d+1) c (by omega) (by omega);have e0:av 7 (WO.sg (cd k)) (mh S0 (F1 M N) (F2 H G) found (d+1) (.val (b8 near)) b c)=some (mh S0 (F1 M N) (F2 H G) found (d+1) (.val (b8 near)) (.val (WO.sg (cd k))) c):=rfl;rw[RL,MC];unfold gT;rw[e0];simp only[R.ofO_some,R.ok_bind,e1]
  by_cases hm:bK M N near.1 k∈found.map (·.1)
  ·rw[if_pos hm]
   have lf:cR M N (bK M N near.1 k)=false:=by
    obtain⟨q,hq,e⟩:=MF.mp hm;rw[← e];exact I.nl q hq
   have I2:=I.go (by omega) lf;unfold BF.inn at I2;rw[if_pos hm] at I2;exact oR S0 s0 h0 near d m (k+1) found _ _ (by omega) I2
  ·rw[if_neg hm]
   by_cases hb:cR M N (bK M N near.1 k)=true
   ·rw[if_pos hb]
    exact⟨_,_,_,rfl,.inr ⟨found,_,rfl,hb,I.stop (by omega) hm hb⟩⟩
   ·rw[if_neg hb]
    have I2:=I.go (by omega) ((On _).mp hb);unfold BF.inn at I2;rw[if_neg hm] at I2;exact oR S0 s0 h0 near d m (k+1) _ _ _ (by omega) I2
theorem JJ(S0:PV)(s0:P2)(h0:ok2 M N s0)(found:List (BF.Row P2))(near:BF.Row P2)(d:Nat)(hd:found[d]?=some near)(O:BF.Out (bK M N) s0 (cR M N) found d)(a b c:Sl):∃found' b' c',
  aR (mh S0 (F1 M N) (F2 H G) found d a b c)=.ok (.next (mh S0 (F1 M N) (F2 H G) found' (d+1) (.val (b8 near)) b' c'))/\
   ((BF.Out (bK M N) s0 (cR M N) found' (d+1)/\d<found'.length)\/∃init fin,found'=init++[fin]/\cR M N fin.1=true/\BF.Res (bK M N) s0 (cR M N) found'):=by
 obtain⟨found',b',c',e,r⟩:=oR M N S0 s0 h0 near d 13 0 found b c rfl (O.mid hd);refine⟨found',b',c',?_,r.imp (fun r=>⟨r.out,(MB.mp r.at_).1⟩) id⟩;have i0:atI (found.map b8) (d:Int)=some (b8 near):=hZ rfl (by rw[MM,hd];rfl);have es:c_SIGNS=.str "0123456789*#w":=rfl;have it:=vB;have er:QU 0 13=MX 13:=rfl;rw[er] at e;have ag:∀(A1 A2 A3 A4 A5 A6 A7 A8:Sl),DX 5 (kI 1) [A1,A2,A3,A4,A5,.val (.int d),A6,A7,A8]=.ok (.next [A1,A2,A3,A4,A5,.val (.int ((d+1:Nat):Int)),A6,A7,A8]):=fun _ _ _ _ _ _ _ _=>rfl;have e:gT (av 7) aS ((MX 13).map fun i=>WO.sg (cd i)) [.val S0,.val (F1 M N),.val (F2 H G),.own (.dtt (kL found) (tL found)),.own (.lst (found.map b8)),.val (.int ((d+1:Nat):Int)),.val (b8 near),b,c]=_:=e;rw[← e];simp only[mh];generalize F1 M N=G1 at *;generalize F2 H G=G2 at *;generalize found.map b8=FS at *;generalize PV.dtt (kL found) (tL found)=KD at *;generalize b8 near=NP at *;generalize (MX 13).map (fun i=>WO.sg (cd i))=SS at *;simp[aR,i0,ag,es,it]
noncomputable def tst:PSt->R Bool:=(E2 (dS (ar (ah 5) (un1 (kE 4) qF) gLt)) (FY (dS (kH 2 (ae (ar (ar (kE 4) (un1 (kI 1) pd) gIx) (kI 0) gIx) aM) appL))))
theorem Bq(S0 G1:PV)(f':List (BF.Row P2))(p:BF.Row P2)(hp:ok2 M N p.1)(d:Nat)(a b c:Sl):tst (mh S0 G1 (F2 H G) (f'++[p]) d a b c)=.ok (decide (d<(f'++[p]).length) && !cR M N p.1):=by
 by_cases hd:d<(f'++[p]).length
 ·have l:gIx (.lst ((f'++[p]).map b8)) (.int (-1))=some (b8 p):=by
   rw[Mc];exact ka (f'.map b8) (b8 p)
  have ng:pd (.int 1)=some (.int (-1)):=rfl;have g0:gIx (b8 p) (.int 0)=some (p2 p.1):=rfl
  have cv:kH 2 (ae (ar (ar (kE 4) (un1 (kI 1) pd) gIx) (kI 0) gIx) aM) appL (mh S0 G1 (F2 H G) (f'++[p]) d a b c)=.ok (.bl (cR M N p.1)):=by
   refine jC (L:=aI) (cs:=[H,G]) (qs:=[p2 p.1]) rfl ?_ (by simp[aN,ur]) (by simp[aN,M.nfH,N.nfH]) (DU M N _ hp);simp only[mh];generalize (f'++[p]).map b8=FS at *;generalize b8 p=NP at *;simp[ng,l,g0]
  have hd':(d:Int)<((f'++[p]).map b8).length:=by rw[MG];omega
  rw[decide_eq_true hd];simp only[mh] at cv ⊢;generalize (f'++[p]).map b8=FS at *;generalize PV.dtt (kL (f'++[p])) (tL (f'++[p]))=KD at *;simp[tst,hd',cv]
 ·rw[decide_eq_false hd]
  have hd':¬ (d:Int)<(((f'++[p]).map b8).length:Nat):=by rw[MG];omega
  simp only[mh];generalize (f'++[p]).map b8=FS at *;simp[tst,hd']
theorem Br(S0 G1:PV)(f':List (BF.Row P2))(p:BF.Row P2)(hp:ok2 M N p.1)(hl:cR M N p.1=true)(n d:Nat)(a b c:Sl):whF tst aR (n+1) (mh S0 G1 (F2 H G) (f'++[p]) d a b c)=.ok (.next (mh S0 G1 (F2 H G) (f'++[p]) d a b c)):=by
 unfold whF;rw[Bq M N S0 G1 f' p hp d a b c,hl,R.ok_bind];simp
theorem tu(S0:PV)(s0:P2)(h0:ok2 M N s0):∀(n d:Nat)(found:List (BF.Row P2))(a b c:Sl),BF.Out (bK M N) s0 (cR M N) found d->d<=found.length->3415104<d+n->∃found' d' a' b' c',
  whF tst aR (n+1) (mh S0 (F1 M N) (F2 H G) found d a b c)=.ok (.next (mh S0 (F1 M N) (F2 H G) found' d' a' b' c'))/\BF.Res (bK M N) s0 (cR M N) found'
 | n,d,found,a,b,c,O,hd,hn=>by
  obtain⟨k1,k2⟩:=lY M N s0 h0 O.inv;have hne:found≠[]:=by obtain⟨tl,e⟩:=O.inv.h0;rw[e];simp
  obtain⟨f',p,hf⟩:∃f' p,found=f'++[p]:=⟨found.dropLast,found.getLast hne,(Ny hne).symm⟩;have pm:p∈found:=by rw[hf];simp
  have ht:=Bq M N S0 (F1 M N) f' p (k1 p pm) d a b c;rw[← hf,O.nl p pm] at ht;cases e:found[d]? with
  | none=>
   have hge:¬ d<found.length:=by have:=Pu.mp e;omega
   rw[decide_eq_false hge] at ht;refine⟨found,d,a,b,c,?_,O.done (by omega)⟩;unfold whF;rw[ht,R.ok_bind];simp
  | some near=>
   have hdl:d<found.length:=(MB.mp e).1;rw[decide_eq_true hdl] at ht;obtain⟨found1,b',c',eb,r⟩:=JJ M N S0 s0 h0 found near d e O a b c;cases n with
   | zero=>omega
   | succ n=>
    unfold whF;rw[ht,R.ok_bind];simp only[Bool.not_false,Bool.and_self,if_true];rw[eb,R.ok_bind];rcases r with⟨r,hge⟩|⟨init,fin,rfl,hb,r⟩
    ·exact tu S0 s0 h0 n (d+1) found1 _ b' c' r hge (by omega)
    ·exact⟨_,_,_,_,_,Br M N S0 (F1 M N) init fin ((lY M N s0 h0 r.inv).1 fin (by simp)) hb n (d+1) _ b' c',r⟩
termination_by n=>n
end
def jD(p:BF.Row P2):PV:=.tup [p.1.1.pv,p.1.2.pv,.str (lC p.2)]
theorem Af{α:Type}(l:List α)(x:α):qG (l++[x]) none (some (-1))=l:=by
 have e0:HT.sIx (l++[x]).length 0 none=0:=rfl
 have e1:HT.sIx (l++[x]).length (l++[x]).length (some (-1))=l.length:=by
  rw[Mi,O4];unfold HT.sIx
  first
   | (simp;omega)
   | simp
   | (split <;> omega)
 unfold qG;rw[e0,e1];simp
theorem yL{L:Lam}{idx:List Nat}{fs:PSt->R (List PV)}{app:Lam->List PV->List PV->Option PV}{ρ:PSt}{cs qs:List PV}{p:PV}(hc:rW ρ idx=.ok cs)(hq:fs ρ=.ok qs)(n1:aN qs=true)(n2:aN cs=true)(e:app L qs cs=some p)(n3:noFn p=true):nX L idx fs app ρ=.ok p:=by
 unfold nX;rw[hc];show (fs ρ >>= _)=_;rw[hq];show (if aN qs=true/\aN cs=true then _ else _)=_;rw[if_pos ⟨n1,n2⟩,e];show (if noFn p=true then _ else _)=_;rw[if_pos n3]
theorem AC{i:Nat}{g:PSt->R Fl}{ρ:PSt}(h:ρ[i]?=some .no):BB i g ρ=g ρ:=by
 unfold BB;rw[h]
theorem Fo(p:BF.Row P2):noFn (b8 p)=true:=by simp[b8,noFn,aN,ur]
section
variable{H G : PV}{hour : Int}(M : Mach H hour)(N : Mach G hour)
theorem zZ:∃found,BF.Res (bK M N) (M.s0,N.s0) (cR M N) found/\bH [p2 (M.s0,N.s0),F1 M N,F2 H G]=some (.lst (found.map b8)):=by
 have h0:ok2 M N (M.s0,N.s0):=⟨M.ok0,N.ok0⟩
 have r0:b8 ((M.s0,N.s0),[])=.tup [p2 (M.s0,N.s0),.str ""]:=by
  unfold b8 lC;rfl
 obtain⟨found,d',a',b',c',ew,RR0⟩:∃found d' a' b' c',whF tst aR 10500000 (mh (p2 (M.s0,N.s0)) (F1 M N) (F2 H G) [((M.s0,N.s0),[])] 0 .no .no .no)=.ok (.next (mh (p2 (M.s0,N.s0)) (F1 M N) (F2 H G) found d' a' b' c'))/\BF.Res (bK M N) (M.s0,N.s0) (cR M N) found:=by
  cases hl:cR M N (M.s0,N.s0) with
  | true=>exact⟨_,_,_,_,_,Br M N (p2 (M.s0,N.s0)) (F1 M N) [] ((M.s0,N.s0),[]) h0 hl 10499999 0 .no .no .no,BF.res_0 hl⟩
  | false=>exact tu M N (p2 (M.s0,N.s0)) (M.s0,N.s0) h0 10499999 0 [((M.s0,N.s0),[])] .no .no .no (BF.out_0 hl) (by simp) (by decide)
 refine⟨found,RR0,sy rfl ?_⟩;have tk:=tk2 (M.s0,N.s0);have ew:whF tst aR 10500000 [.val (p2 (M.s0,N.s0)),.val (F1 M N),.val (F2 H G),.own (.dtt [yx (M.s0,N.s0)] [.bl true]),.own (.lst [b8 ((M.s0,N.s0),[])]),.val (.int 0),.no,.no,.no]=.ok (.next [.val (p2 (M.s0,N.s0)),.val (F1 M N),.val (F2 H G),.own (.dtt (kL found) (tL found)),.own (.lst (found.map b8)),.val (.int d'),a',b',c']):=ew;rw[r0] at ew
 have dt:uK (ah 0) (kB true) [.val (p2 (M.s0,N.s0)),.val (F1 M N),.val (F2 H G),.no,.no,.no,.no,.no,.no]=.ok (.dtt [yx (M.s0,N.s0)] [.bl true]):=by
  unfold uK;rw[show ah 0 [.val (p2 (M.s0,N.s0)),.val (F1 M N),.val (F2 H G),.no,.no,.no,.no,.no,.no]=.ok (p2 (M.s0,N.s0)) from rfl];simp only[R.ok_bind,Kb,tk,R.ofO_some]
 unfold tst at ew;generalize F1 M N=G1 at *;generalize F2 H G=G2 at *;generalize PV.dtt (kL found) (tL found)=KD at *;generalize PV.dtt [yx (M.s0,N.s0)] [.bl true]=K0 at *;generalize found.map b8=FS at *;generalize p2 (M.s0,N.s0)=S at *;simp[f9,PU.start,dt];rw[ew];simp
theorem uN:∃found,BF.Inv (bK M N) (M.s0,N.s0) found/\((BF.Whole (bK M N) (cR M N) found/\dG [H,G,.int hour]=some (.tup [.str "alike",.lst (found.map jD)])) ∨
  ∃init fin,found=init++[fin]/\BF.Stops (bK M N) (cR M N) init fin/\dG [H,G,.int hour]=some (.tup [.str "apart",.str (lC fin.2),.lst (init.map jD)])):=by
 obtain⟨found,RR0,ef⟩:=zZ M N;have h0:ok2 M N (M.s0,N.s0):=⟨M.ok0,N.ok0⟩;obtain⟨k1,k2⟩:=lY M N _ h0 RR0.inv;refine⟨found,RR0.inv,?_⟩;have hne:found≠[]:=by obtain⟨tl,e⟩:=RR0.inv.h0;rw[e];simp
 obtain⟨f',p,hf⟩:∃f' p,found=f'++[p]:=⟨found.dropLast,found.getLast hne,(Ny hne).symm⟩;have pm:p∈found:=by rw[hf];simp
 have ew1:=M.ew;have ew2:=N.ew;have eb1:=M.eb;have eb2:=N.eb
 have nfl:noFn (.lst (found.map b8))=true:=by
  have:=eL b8 found fun p _=>Fo p;simpa [noFn] using this
 have n0:noFn (p2 (M.s0,N.s0))=true:=ur _
 have fa:∀a5 a6 a7 a8 a9:Sl,kz (yF (fP (ae (aE (ae (ah 0) (ae (ah 2) aM)) c9) (ae (aE (ae (ah 1) (ae (ah 2) aM)) c9) aM))) (qE aU [3,4,2,0,1] (qE aI [0,1] aM))) bH [.val H,.val G,.val (.int hour),.val M.ways,.val N.ways,a5,a6,a7,a8,a9]=.ok (.lst (found.map b8)):=fun a5 a6 a7 a8 a9=>by
  have e1:(yF (fP (ae (aE (ae (ah 0) (ae (ah 2) aM)) c9) (ae (aE (ae (ah 1) (ae (ah 2) aM)) c9) aM))) (qE aU [3,4,2,0,1] (qE aI [0,1] aM))) [.val H,.val G,.val (.int hour),.val M.ways,.val N.ways,a5,a6,a7,a8,a9]=.ok [p2 (M.s0,N.s0),F1 M N,F2 H G]:=by
   unfold yF;rw[show fP (ae (aE (ae (ah 0) (ae (ah 2) aM)) c9) (ae (aE (ae (ah 1) (ae (ah 2) aM)) c9) aM)) [.val H,.val G,.val (.int hour),.val M.ways,.val N.ways,a5,a6,a7,a8,a9]=.ok (p2 (M.s0,N.s0)) by simp[eb1,eb2,p2]];simp only[R.ok_bind,n0,if_true];rfl
  unfold kz;rw[e1];simp only[R.ok_bind,ef,R.ofO_some,nfl,if_true]
 have it:fK (.lst (found.map b8))=some (found.map b8):=rfl
 have cc:cG (ir 2 (aO (av 0) (aO (av 1) iu))) mI gk [.no,.no] (found.map b8)=.ok (found.map jD):=by
  exact WO.in_list_comp (enc:=b8) (h:=ir 2 (aO (av 0) (aO (av 1) iu))) (fe:=gk) (ρ:=[.no,.no]) jD found fun p _=>⟨[.val (p2 p.1),.val (.str (lC p.2))],rfl,by
   have i0:gIx (p2 p.1) (.int 0)=some p.1.1.pv:=rfl;have i1:gIx (p2 p.1) (.int 1)=some p.1.2.pv:=rfl;unfold jD;generalize p2 p.1=Q at *;generalize lC p.2=RR at *;generalize p.1.1.pv=A at *;generalize p.1.2.pv=B at *;simp[gk,i0,i1]⟩
 have z1:(found.map jD).length<=16777216:=by rw[MG];omega
 have la:gIx (.lst (found.map b8)) (.int (-1))=some (b8 p):=by
  rw[hf,Mc];exact ka (f'.map b8) (b8 p)
 have ng:pd (.int 1)=some (.int (-1)):=rfl;have g0:gIx (b8 p) (.int 0)=some (p2 p.1):=rfl;have g1:gIx (b8 p) (.int 1)=some (.str (lC p.2)):=rfl
 have cf:∀a2 a3 a4 a5 a6 a7 a8:Sl,nX aI [0,1] (ae (ar (ah 9) (kI 0) gIx) aM) appL [.val H,.val G,a2,a3,a4,a5,a6,a7,a8,.val (b8 p)]=.ok (.bl (cR M N p.1)):=fun _ _ _ _ _ _ _=>by
  refine yL (cs:=[H,G]) (qs:=[p2 p.1]) rfl ?_ (by simp[aN,ur]) (by simp[aN,M.nfH,N.nfH]) (DU M N _ (k1 p pm)) rfl;generalize b8 p=NP at *;simp[g0]
 have sl:gSl (.lst (found.map jD)) none (some (-1))=some (.lst (f'.map jD)):=by
  show some (PV.lst (qG (found.map jD) none (some (-1))))=_;rw[hf,Mc,Qo,Af]
 have d5:∀(g:PSt->R Fl)(A B C D E a7 a8 a9:Sl),BB 5 g [A,B,C,D,E,.no,.no,a7,a8,a9]=g [A,B,C,D,E,.no,.no,a7,a8,a9]:=fun g A B C D E a7 a8 a9=>AC rfl;have d6:∀(g:PSt->R Fl)(A B C D E a7 a8 a9:Sl),BB 6 g [A,B,C,D,E,.no,.no,a7,a8,a9]=g [A,B,C,D,E,.no,.no,a7,a8,a9]:=fun g A B C D E a7 a8 a9=>AC rfl
 have main:dG [H,G,.int hour]=some (if cR M N p.1=true then .tup [.str "apart",.str (lC p.2),.lst (f'.map jD)] else .tup [.str "alike",.lst (found.map jD)]):=by
  refine aC rfl ?_;generalize F1 M N=G1 at *;generalize found.map b8=FS at *;generalize found.map jD=FT at *;generalize f'.map jD=IT at *;generalize b8 p=RP at *;generalize lC p.2=RR at *;generalize M.ways=W1 at *;generalize N.ways=W2 at *;cases hb:cR M N p.1 with
  | true=>
   rw[hb] at cf;simp[ji,PU.start,ew1,ew2,d5,d6,fa,it,cb,cc,z1,ng,la,cf,g1,sl]
  | false=>
   rw[hb] at cf;simp[ji,PU.start,ew1,ew2,d5,d6,fa,it,cb,cc,z1,ng,la,cf]
 rcases RR0.res with W | ⟨init,fin,e,S⟩
 ·refine .inl ⟨W,?_⟩
  rw[main,W.1 p pm];rfl
 ·have e2:=hf.symm.trans e
  obtain⟨e3,e4⟩:=List.append_inj' e2 rfl;injection e4 with e4 _;refine .inr ⟨init,fin,e,S,?_⟩;rw[main,e4,S.1,e3];rfl
end
def aK(p:BF.Row St):PV:=.tup [p.1.pv,.str (lC p.2)]
def kL1(found:List (BF.Row St)):List bZ:=found.map fun p=>p.1.key
def tL1(found:List (BF.Row St)):List PV:=found.map fun _=>PV.bl true
theorem yf(found:List (BF.Row St))(s:St):((kL1 found).any fun j=>decide (j=s.key))=decide (s∈found.map (·.1)):=by
 rw[Nk];simp only[kL1,ON,Ol,PC,decide_eq_true_eq,MF];constructor
 ·rintro⟨p,hp,e⟩
  exact⟨p,hp,St.kinj e⟩
 ·rintro⟨p,hp,e⟩
  exact⟨p,hp,by rw[e]⟩
abbrev pe(S0 F1 F2:PV)(found:List (BF.Row St))(d:Nat)(a b c:Sl):PSt:=[.val S0,.val F1,.val F2,.own (.dtt (kL1 found) (tL1 found)),.own (.lst (found.map aK)),.val (.int d),a,b,c]
theorem ap1(S G W_ T X:PV)(hour:Int)(H:PV)(r:Str)(h0:gIx S (.int 0)=some (.str r))(h1:gIx W_ (.str r)=some X)(h2:bG [H,.int hour,X,S,G]=some T):appL bR [S,G] [W_,.int hour,H]=some T:=by
 unfold appL;rw[if_pos rfl];refine oJ rfl ?_;show ij [.val S,.val G,.val W_,.val (.int hour),.val H]=_;simp[ij,h0,h1,h2]
theorem ap2(S:PV):appL bD [S] []=some (.bl false):=by
 unfold appL;rw[if_neg (Eg (by rw[kp2,kp1];decide)),if_pos rfl];exact oJ rfl rfl
section
variable{H : PV}{hour : Int}(M : Mach H hour)
abbrev FA1:PV:=.fn bR [M.ways,.int hour,H]
abbrev FB1:PV:=.fn bD []
theorem fo1(S0:PV)(found:List (BF.Row St))(near:BF.Row St)(hn:M.ok near.1)(i d:Nat)(c:Sl)(hl:found.length<1000000)(hr:near.2.length<=100000) :
  aS (pe S0 (FA1 M) FB1 found d (.val (aK near)) (.val (WO.sg (cd i))) c)=.ok (.next (pe S0 (FA1 M) FB1 (BF.inn M.lead near found i) d (.val (aK near)) (.val (WO.sg (cd i))) (.val (M.lead near.1 i).pv))):=by
 obtain⟨X,e1,e2⟩:=M.fol near.1 hn i;have n1:aN [near.1.pv,WO.sg (cd i)]=true:=by simp[aN,St.nf,WO.sg,noFn]
 have n2:aN [M.ways,.int hour,H]=true:=by simp[aN,M.nfW,M.nfH,noFn]
 have n3:aN [(M.lead near.1 i).pv]=true:=by simp[aN,St.nf]
 have B:=GQ S0 (FA1 M) FB1 (kL1 found) (tL1 found) (found.map aK) d (aK near) (WO.sg (cd i)) (M.lead near.1 i).pv c (lC near.2) (lC (near.2++[i])) (M.lead near.1 i).key false
  (jC (L:=bR) (cs:=[M.ways,.int hour,H]) (qs:=[near.1.pv,WO.sg (cd i)]) rfl rfl n1 n2 (ap1 near.1.pv (WO.sg (cd i)) M.ways _ X hour H near.1.r rfl e1 e2))
  (fun KS PS FS=>jC (L:=bD) (cs:=[]) (qs:=[(M.lead near.1 i).pv]) rfl rfl n3 rfl (ap2 _))
  (St.tk _) rfl (vE near.2 i (by omega)) (by simp[kL1];omega) (by simp;omega)
 rw[yf] at B;refine B.trans ?_;unfold BF.inn
 by_cases hm:M.lead near.1 i∈found.map (·.1)
 ·rw[if_pos hm,if_pos (decide_eq_true hm)]
 ·rw[if_neg hm,if_neg (by simpa using hm),if_neg (by decide)]
  simp only[pe,kL1,tL1,Mc];rfl
theorem Dp(lead:St->Nat->St)(near:BF.Row St)(found:List (BF.Row St))(i:Nat):(BF.inn lead near found i).length<=found.length+1:=by
 unfold BF.inn
 split
 ·omega
 ·simp
theorem fs1(S0:PV)(near:BF.Row St)(hn:M.ok near.1)(d:Nat)(hr:near.2.length<=100000):∀(l:List Nat)(found:List (BF.Row St))(b c:Sl),found.length+l.length<1000000->∃b' c',
  gT (av 7) aS (l.map fun i=>WO.sg (cd i)) (pe S0 (FA1 M) FB1 found d (.val (aK near)) b c)=.ok (.next (pe S0 (FA1 M) FB1 (l.foldl (BF.inn M.lead near) found) d (.val (aK near)) b' c'))
 | [],found,b,c,_=>⟨b,c,rfl⟩
 | i::l,found,b,c,hl=>by
  rw[Mr] at hl;have e1:=fo1 M S0 found near hn i d c (by omega) hr;have il:=Dp M.lead near found i;obtain⟨b',c',e2⟩:=fs1 S0 near hn d hr l (BF.inn M.lead near found i) (.val (WO.sg (cd i))) (.val (M.lead near.1 i).pv) (by omega);refine⟨b',c',?_⟩;have e0:av 7 (WO.sg (cd i)) (pe S0 (FA1 M) FB1 found d (.val (aK near)) b c)=some (pe S0 (FA1 M) FB1 found d (.val (aK near)) (.val (WO.sg (cd i))) c):=rfl;rw[MC,OU];unfold gT;rw[e0];simp only[R.ofO_some,R.ok_bind,e1];exact e2
theorem fb1(S0:PV)(found:List (BF.Row St))(near:BF.Row St)(d:Nat)(hd:found[d]?=some near)(hn:M.ok near.1)(hr:near.2.length<=100000)(a b c:Sl)(hl:found.length<100000):∃b' c',
  aR (pe S0 (FA1 M) FB1 found d a b c)=.ok (.next (pe S0 (FA1 M) FB1 (BF.sweep M.lead near found) (d+1) (.val (aK near)) b' c')):=by
 obtain⟨b',c',e⟩:=fs1 M S0 near hn (d+1) hr (MX 13) found b c (by simp;omega);refine⟨b',c',?_⟩;have i0:atI (found.map aK) (d:Int)=some (aK near):=hZ rfl (by rw[MM,hd];rfl);have es:c_SIGNS=.str "0123456789*#w":=rfl;have it:=vB;have ag:∀(A1 A2 A3 A4 A5 A6 A7 A8:Sl),DX 5 (kI 1) [A1,A2,A3,A4,A5,.val (.int d),A6,A7,A8]=.ok (.next [A1,A2,A3,A4,A5,.val (.int ((d+1:Nat):Int)),A6,A7,A8]):=fun _ _ _ _ _ _ _ _=>rfl;have e:gT (av 7) aS ((MX 13).map fun i=>WO.sg (cd i)) [.val S0,.val (FA1 M),.val FB1,.own (.dtt (kL1 found) (tL1 found)),.own (.lst (found.map aK)),.val (.int ((d+1:Nat):Int)),.val (aK near),b,c]=_:=e;show _=R.ok (Fl.next (pe S0 (FA1 M) FB1 ((MX 13).foldl (BF.inn M.lead near) found) (d+1) (.val (aK near)) b' c'));rw[← e];simp only[pe];generalize FA1 M=G1 at *;generalize FB1=G2 at *;generalize found.map aK=FS at *;generalize PV.dtt (kL1 found) (tL1 found)=KD at *;generalize aK near=NP at *;generalize (MX 13).map (fun i=>WO.sg (cd i))=SS at *;simp[aR,i0,ag,es,it]
theorem ft1(S0 G1:PV)(found:List (BF.Row St))(hne:found≠[])(d:Nat)(a b c:Sl):tst (pe S0 G1 FB1 found d a b c)=.ok (decide (d<found.length)):=by
 by_cases hd:d<found.length
 ·obtain⟨f',p,rfl⟩:∃f' p,found=f'++[p]:=⟨found.dropLast,found.getLast hne,(Ny hne).symm⟩
  have l:gIx (.lst ((f'++[p]).map aK)) (.int (-1))=some (aK p):=by
   rw[Mc];exact ka (f'.map aK) (aK p)
  have ng:pd (.int 1)=some (.int (-1)):=rfl;have g0:gIx (aK p) (.int 0)=some p.1.pv:=rfl
  have cv:kH 2 (ae (ar (ar (kE 4) (un1 (kI 1) pd) gIx) (kI 0) gIx) aM) appL (pe S0 G1 FB1 (f'++[p]) d a b c)=.ok (.bl false):=by
   refine jC (L:=bD) (cs:=[]) (qs:=[p.1.pv]) rfl ?_ (by simp[aN,St.nf]) rfl (ap2 _);simp only[pe];generalize (f'++[p]).map aK=FS at *;generalize aK p=NP at *;simp[ng,l,g0]
  have hd':(d:Int)<((f'++[p]).map aK).length:=by rw[MG];omega
  rw[decide_eq_true hd];simp only[pe] at cv ⊢;generalize (f'++[p]).map aK=FS at *;generalize PV.dtt (kL1 (f'++[p])) (tL1 (f'++[p]))=KD at *;simp[tst,hd',cv]
 ·rw[decide_eq_false hd]
  have hd':¬ (d:Int)<((found.map aK).length:Nat):=by rw[MG];omega
  simp only[pe];generalize found.map aK=FS at *;simp[tst,hd']
theorem fw1(S0:PV)(s0:St)(U:List St)(hUl:U.length<=19999)(hU:∀found,BF.Inv M.lead s0 found->∀p∈found,p.1∈U)(hP:∀found,BF.Inv M.lead s0 found->∀p∈found,M.ok p.1):∀(n d:Nat)(found:List (BF.Row St))(a b c:Sl),BF.Inv M.lead s0 found->(∀near,found[d]?=some near->∀p∈found,BF.lt p.2 (near.2++[0]))->d<=found.length->U.length<d+n->∃d' a' b' c',
  whF tst aR n (pe S0 (FA1 M) FB1 found d a b c)=.ok (.next (pe S0 (FA1 M) FB1 (BF.bfs M.lead n d found) d' a' b' c'))
 | 0,d,found,a,b,c,I,top,hd,hn=>by
  have:=BF.inv_len M.lead s0 U hU I;omega
 | n+1,d,found,a,b,c,I,top,hd,hn=>by
  have hl:=BF.inv_len M.lead s0 U hU I;have hne:found≠[]:=by obtain⟨tl,e⟩:=I.h0;rw[e];simp
  have ht:=ft1 S0 (FA1 M) found hne d a b c;unfold whF BF.bfs;rw[ht];cases e:found[d]? with
  | none=>
   have:¬ d<found.length:=by have:=Pu.mp e;omega
   rw[decide_eq_false this];exact⟨d,a,b,c,rfl⟩
  | some near=>
   have hdl:d<found.length:=(MB.mp e).1;rw[decide_eq_true hdl];have nm:near∈found:=Mk e;obtain⟨b',c',eb⟩:=fb1 M S0 found near d e (hP found I near nm) (by have:=I.len d near e;omega) a b c (by omega);obtain⟨I2,⟨tl,e2⟩,t2⟩:=BF.sweep_keep M.lead s0 I e (top near e);obtain⟨d',a2,b2,c2,ew⟩:=fw1 S0 s0 U hUl hU hP n (d+1) (BF.sweep M.lead near found) (.val (aK near)) b' c' I2 t2 (by rw[e2,Mi];omega) (by omega);refine⟨d',a2,b2,c2,?_⟩;rw[R.ok_bind,if_pos rfl,eb,R.ok_bind];exact ew
structure Found(found:List (BF.Row St)):Prop where
 inv:BF.Inv M.lead M.s0 found
 cl:∀p∈found,∀i<13,BF.Cl M.lead found p i
 ok:∀p∈found,M.ok p.1
 ln:found.length<=1848
theorem C9(p:BF.Row St):noFn (aK p)=true:=by simp[aK,noFn,aN,St.nf]
theorem pJ:∃found,Found M found/\e6 [H,.int hour]=some (.lst (found.map aK)):=by
 have hP:∀found,BF.Inv M.lead M.s0 found->∀p∈found,M.ok p.1:=BF.inv_P _ M.s0 M.ok M.ok0 fun s hs i _=>M.okl s hs i;have hU:∀found,BF.Inv M.lead M.s0 found->∀p∈found,p.1∈M.univ:=fun found I p hp=>M.mem p.1 (hP found I p hp);have hUl:=M.ul;obtain⟨J1,J2⟩:=BF.bfs_all M.lead M.s0 M.univ 10500000 (by omega) hU;obtain⟨d',a',b',c',ew⟩:=fw1 M M.s0.pv M.s0 M.univ (by omega) hU hP 10500000 0 [(M.s0,[])] .no .no .no (BF.inv_0 _ M.s0) (fun near e=>BF.top_0 M.s0 near e) (by simp) (by omega);have hl:=BF.inv_len M.lead M.s0 M.univ hU J1;generalize BF.bfs M.lead 10500000 0 [(M.s0,[])]=found at *;refine⟨found,⟨J1,J2,hP _ J1,by omega⟩,?_⟩
 have nfl:noFn (.lst (found.map aK))=true:=by
  have:=eL aK found fun p _=>C9 p;simpa [noFn] using this
 have r0:aK (M.s0,[])=.tup [M.s0.pv,.str ""]:=by
  unfold aK lC;rfl
 have tk:=M.s0.tk;have ew:whF tst aR 10500000 [.val M.s0.pv,.val (FA1 M),.val FB1,.own (.dtt [M.s0.key] [.bl true]),.own (.lst [aK (M.s0,[])]),.val (.int 0),.no,.no,.no]=.ok (.next [.val M.s0.pv,.val (FA1 M),.val FB1,.own (.dtt (kL1 found) (tL1 found)),.own (.lst (found.map aK)),.val (.int d'),a',b',c']):=ew;rw[r0] at ew
 have dt:uK (ah 0) (kB true) [.val M.s0.pv,.val (FA1 M),.val FB1,.no,.no,.no,.no,.no,.no]=.ok (.dtt [M.s0.key] [.bl true]):=by
  unfold uK;rw[show ah 0 [.val M.s0.pv,.val (FA1 M),.val FB1,.no,.no,.no,.no,.no,.no]=.ok M.s0.pv from rfl];simp only[R.ok_bind,Kb,tk,R.ofO_some]
 have snf:=M.s0.nf;have hW:=M.ew;have hb:=M.eb;generalize found.map aK=FS at *;generalize PV.dtt (kL1 found) (tL1 found)=KD at *
 have fr:bH [M.s0.pv,FA1 M,FB1]=some (.lst FS):=by
  refine sy rfl ?_;unfold tst at ew;generalize FA1 M=G1 at *;generalize FB1=G2 at *;generalize PV.dtt [M.s0.key] [.bl true]=K0 at *;generalize M.s0.pv=S at *;simp[f9,PU.start,dt];rw[ew];simp
 have fa:(yF (aE (ae (ah 0) (ae (ah 1) aM)) c9) (qE bR [2,1,0] (qE bD [] aM))) [.val H,.val (.int hour),.val M.ways]=.ok [M.s0.pv,FA1 M,FB1]:=by
  unfold yF;rw[show aE (ae (ah 0) (ae (ah 1) aM)) c9 [.val H,.val (.int hour),.val M.ways]=.ok M.s0.pv by simp[hb]];simp only[R.ok_bind,snf,if_true];rfl
 have cl:kz (yF (aE (ae (ah 0) (ae (ah 1) aM)) c9) (qE bR [2,1,0] (qE bD [] aM))) bH [.val H,.val (.int hour),.val M.ways]=.ok (.lst FS):=by
  unfold kz;rw[fa];simp only[R.ok_bind,fr,R.ofO_some,nfl,if_true]
 refine aC rfl ?_;simp[oQ,PU.start,hW,cl]
end
abbrev jP(js:List Int):PV:=.lst (js.map PV.int)
def dX:List (BF.Row St)->St->Nat
 | [],_=>0
 | p::f,s=>if p.1=s then 0 else dX f s+1
theorem pI:∀(f:List (BF.Row St))(s:St),s∈f.map (·.1)->∃p,f[dX f s]?=some p/\p.1=s
 | [],_,h=>by simp at h
 | p::f,s,h=>by
  unfold dX
  by_cases e:p.1=s
  ·rw[if_pos e]
   exact⟨p,rfl,e⟩
  ·rw[if_neg e]
   rw[MC] at h;rcases MP.mp h with z | z
   ·exact absurd z.symm e
   ·exact pI f s z
theorem vO:∀(f:List (BF.Row St))(j:Nat)(p:BF.Row St),(f.map (·.1)).Nodup->f[j]?=some p->dX f p.1=j
 | [],_,_,_,e=>by simp at e
 | q::f,0,p,_,e=>by
  cases e;unfold dX;rw[if_pos rfl]
 | q::f,j+1,p,nd,e=>by
  rw[MC,Mu] at nd;have e:f[j]?=some p:=e;unfold dX;rw[if_neg,vO f j p nd.2 e];intro z;apply nd.1;rw[z];exact MF.mpr ⟨p,Mk e,rfl⟩
theorem Fz{f:List (BF.Row St)}{s:St}(h:s∈f.map (·.1)):dX f s<f.length:=by
 obtain⟨p,e,_⟩:=pI f s h;exact(MB.mp e).1
def nums:Nat->List (BF.Row St)->List PV
 | _,[]=>[]
 | o,_::f=>.int o::nums (o+1) f
theorem pR:∀(f:List (BF.Row St))(o:Nat)(p:BF.Row St),nums o (f++[p])=nums o f++[.int ((o+f.length:Nat):Int)]
 | [],o,p=>rfl
 | q::f,o,p=>by
  show PV.int o::nums (o+1) (f++[p])=_;rw[pR f (o+1) p,Mr,show o+1+f.length=o+(f.length+1) by omega];rfl
theorem pS:∀(f:List (BF.Row St))(o:Nat)(s:St),s∈f.map (·.1)->jf (kL1 f) (nums o f) s.key=some (.int ((o+dX f s:Nat):Int))
 | [],_,_,h=>by simp at h
 | p::f,o,s,h=>by
  show (if p.1.key=s.key then some (PV.int (o:Int)) else jf (kL1 f) (nums (o+1) f) s.key)=_;unfold dX
  by_cases e:p.1=s
  ·rw[if_pos (by rw[e]),if_pos e]
   rfl
  ·rw[if_neg fun z=>e (St.kinj z),if_neg e]
   rw[MC] at h;rcases MP.mp h with z | z
   ·exact absurd z.symm e
   ·rw[pS f (o+1) s z,show o+1+dX f s=o+(dX f s+1) by omega]
def enI(x:Nat×BF.Row St):PV:=.tup [.int x.1,aK x.2]
theorem Bw:∀(l:List Nat)(f:List (BF.Row St)),(l.zipWith (fun (i:Nat) p=>[PV.int (i:Int),p]) (f.map aK)).map PV.tup=(l.zip f).map enI
 | [],_=>by simp
 | _::_,[]=>by simp
 | i::l,p::f=>by
  rw[MC,NU,MC,Bw l f,Ql,MC];rfl
theorem JN(f:List (BF.Row St)):rS (.lst (f.map aK))=some (((MX f.length).zip f).map enI):=by
 have:=Bw (MX f.length) f;rw[← this];show some ((yw (f.map aK)).map PV.tup)=_;unfold yw;rw[MG]
theorem El{f:List (BF.Row St)}{pre post:List (Nat×BF.Row St)}{x:Nat×BF.Row St}(e:(MX f.length).zip f=pre++x::post):x.1=pre.length/\f=pre.map (·.2)++x.2::post.map (·.2):=by
 have h1:((MX f.length).zip f).map (·.1)=MX f.length:=PY (by simp);have h2:((MX f.length).zip f).map (·.2)=f:=QA (by simp);rw[e] at h1 h2;refine⟨?_,?_⟩
 ·rw[Mc,MC] at h1
  have:(MX f.length)[pre.length]?=some x.1:=by
   rw[← h1,Mm (by simp)];simp
  obtain⟨q,q2⟩:=MB.mp this;rw[List.getElem_range] at q2;exact q2.symm
 ·rw[Mc,MC] at h2
  exact h2.symm
theorem EJ{T:PV}{k:bZ}(KS:List bZ)(PS:List PV)(hk:l9 T=some k):nR (.dtt KS PS) T=jf KS PS k:=by
 show (l9 T).bind _=_;rw[hk];rfl
noncomputable def nxt{H:PV}{hour:Int}(M:Mach H hour)(found:List (BF.Row St))(p:BF.Row St):List Int:=(MX 13).map fun i=>((dX found (M.lead p.1 i):Nat):Int)
section
variable{H : PV}{hour : Int}{M : Mach H hour}{found : List (BF.Row St)}(F : Found M found)
include F
theorem xZ(p:BF.Row St)(hp:p∈found)(i:Nat)(hi:i<13):M.lead p.1 i∈found.map (·.1):=by
 obtain⟨q,hq,e,_⟩:=F.cl p hp i hi;exact MF.mpr ⟨q,hq,e⟩
abbrev sP(H:PV)(hour:Int)(found:List (BF.Row St))(D:PV)(s4 a b s7 c d:Sl):PSt:=[.val H,.val (.int hour),.val (.lst (found.map aK)),.val D,s4,a,b,s7,c,d]
theorem np1:∃a b,gT (ir 2 (aO (av 5) (aO (av 6) iu))) di (((MX found.length).zip found).map enI) (sP H hour found M.ways (.own (.dtt [] [])) .no .no .no .no .no)=.ok (.next (sP H hour found M.ways (.own (.dtt (kL1 found) (nums 0 found))) a b .no .no .no)):=by
 obtain⟨ρ',f1,a,b,rfl⟩:=forM (enc:=enI) (xs:=(MX found.length).zip found) (h:=ir 2 (aO (av 5) (aO (av 6) iu))) (g:=di) (ρ:=sP H hour found M.ways (.own (.dtt [] [])) .no .no .no .no .no)
  (I:=fun pre ρ=>∃a b,ρ=sP H hour found M.ways (.own (.dtt (kL1 (pre.map (·.2))) (nums 0 (pre.map (·.2))))) a b .no .no .no) ⟨_,_,rfl⟩ (by
   rintro pre x post ρ hx ⟨a,b,rfl⟩;obtain⟨hi,hf⟩:=El hx;obtain⟨i,p⟩:=x;have hi:i=pre.length:=hi;have hf:found=pre.map (·.2)++p::post.map (·.2):=hf
   have fresh:p.1 ∉ (pre.map (·.2)).map (·.1):=fun z=>by
    have nd:=F.inv.nd;rw[hf,Mc,MC,NY] at nd;exact nd.2.2 p.1 z p.1 (by simp) rfl
   have hany:((kL1 (pre.map (·.2))).any fun j=>decide (j=p.1.key))=false:=by
    rw[yf];exact decide_eq_false fresh
   have hlen:=F.ln;have hpl:pre.length<found.length:=by rw[hf];simp
   refine⟨sP H hour found M.ways (.own (.dtt (kL1 (pre.map (·.2))) (nums 0 (pre.map (·.2))))) (.val (.int i)) (.val (aK p)) .no .no .no,sP H hour found M.ways (.own (.dtt (kL1 ((pre++[(i,p)]).map (·.2))) (nums 0 ((pre++[(i,p)]).map (·.2))))) (.val (.int i)) (.val (aK p)) .no .no .no,rfl,.inl ?_,_,_,rfl⟩;unfold di;rw[qK (ks:=kL1 (pre.map (·.2))) (ps:=nums 0 (pre.map (·.2))) (p:=.int i) (kp:=p.1.pv) (k:=p.1.key) rfl rfl rfl p.1.tk (by simp[kL1];omega),ou hany]
   have:nums 0 ((pre++[(i,p)]).map (·.2))=nums 0 (pre.map (·.2))++[.int i]:=by
    rw[Mc];show nums 0 (pre.map (·.2)++[p])=_;rw[pR,MG,RD,hi]
   rw[this];simp only[kL1,Mc];rfl)
 have h2:((MX found.length).zip found).map (·.2)=found:=QA (by simp);rw[h2] at f1;exact⟨a,b,f1⟩
theorem w9  (p:BF.Row St) (hp:p∈found):∀l:List Nat,(∀i∈l,i<13)->cG (av 0) mI dh [.no,.val (.dtt (kL1 found) (nums 0 found)),.val H,.val (.int hour),.val p.1.pv,.val M.ways] (l.map fun i=>WO.sg (cd i))=.ok (l.map fun i=>PV.int ((dX found (M.lead p.1 i):Nat):Int))
 | [],_=>rfl
 | i::l,hl=>by
  have ih:=w9 p hp l fun j hj=>hl j (by simp[hj]);have hi:=hl i (by simp);obtain⟨X,e1,e2⟩:=M.fol p.1 (F.ok p hp) i
  have ix:nR (.dtt (kL1 found) (nums 0 found)) (M.lead p.1 i).pv=some (.int ((dX found (M.lead p.1 i):Nat):Int)):=by
   rw[EJ _ _ (St.tk _),pS found 0 _ (xZ F p hp i hi),RD]
  have g0:gIx p.1.pv (.int 0)=some (.str p.1.r):=rfl
  have ee:dh [.val (WO.sg (cd i)),.val (.dtt (kL1 found) (nums 0 found)),.val H,.val (.int hour),.val p.1.pv,.val M.ways]=.ok (.int ((dX found (M.lead p.1 i):Nat):Int)):=by
   generalize (M.lead p.1 i).pv=S' at *;generalize dX found (M.lead p.1 i)=PO at *;generalize PV.dtt (kL1 found) (nums 0 found)=KD at *;generalize WO.sg (cd i)=G at *;generalize p.1.pv=S at *;simp[dh,g0,e1,e2,ix]
  rw[MC];unfold cG;rw[show av 0 (WO.sg (cd i)) [.no,.val (.dtt (kL1 found) (nums 0 found)),.val H,.val (.int hour),.val p.1.pv,.val M.ways]=some [.val (WO.sg (cd i)),.val (.dtt (kL1 found) (nums 0 found)),.val H,.val (.int hour),.val p.1.pv,.val M.ways] from rfl];simp only[R.ofO_some,R.ok_bind,Ay,if_true,ee,ih];rfl
theorem np2  (a b:Sl):∃s4 c d,gT (ir 2 (aO (av 8) (aO (av 9) iu))) cg (found.map aK) (sP H hour found M.ways (.own (.dtt (kL1 found) (nums 0 found))) a b (.own (.lst [])) .no .no)=.ok (.next (sP H hour found M.ways s4 a b (.own (.lst (found.map fun p=>jP (nxt M found p)))) c d)):=by
 obtain⟨ρ',f1,s4,c,d,rfl,_⟩:=forM (enc:=aK) (xs:=found) (h:=ir 2 (aO (av 8) (aO (av 9) iu))) (g:=cg) (ρ:=sP H hour found M.ways (.own (.dtt (kL1 found) (nums 0 found))) a b (.own (.lst [])) .no .no)
  (I:=fun pre ρ=>∃s4 c d,ρ=sP H hour found M.ways s4 a b (.own (.lst (pre.map fun p=>jP (nxt M found p)))) c d/\(s4=.own (.dtt (kL1 found) (nums 0 found))\/s4=.val (.dtt (kL1 found) (nums 0 found)))) ⟨_,_,_,rfl,.inl rfl⟩ (by
   rintro pre p post ρ hx ⟨s4,c,d,rfl,hs4⟩;have pm:p∈found:=by rw[hx];simp
   have hlen:=F.ln;have hpl:pre.length<found.length:=by rw[hx];simp
   have ec:=w9 F p pm (MX 13) fun i hi=>NT.mp hi;have es:c_SIGNS=.str "0123456789*#w":=rfl;have it:=vB;have z:(pre.map fun p=>jP (nxt M found p)).length<16777216:=by simp;omega
   have z13:((MX 13).map fun i=>PV.int ((dX found (M.lead p.1 i):Nat):Int)).length<=16777216:=by simp
   have nx:PV.lst ((MX 13).map fun i=>PV.int ((dX found (M.lead p.1 i):Nat):Int))=jP (nxt M found p):=by
    unfold jP nxt;rw[MV];rfl
   refine⟨sP H hour found M.ways s4 a b (.own (.lst (pre.map fun p=>jP (nxt M found p)))) (.val p.1.pv) (.val (.str (lC p.2))),sP H hour found M.ways (.val (.dtt (kL1 found) (nums 0 found))) a b (.own (.lst ((pre++[p]).map fun p=>jP (nxt M found p)))) (.val p.1.pv) (.val (.str (lC p.2))),rfl,.inl ?_,_,_,_,rfl,.inr rfl⟩;rw[Mc,Qo,← nx];generalize ((MX 13).map fun i=>PV.int ((dX found (M.lead p.1 i):Nat):Int))=R13 at *;simp only[sP];generalize (pre.map fun p=>jP (nxt M found p))=PN at *;generalize PV.dtt (kL1 found) (nums 0 found)=KD at *;generalize (MX 13).map (fun i=>WO.sg (cd i))=SS at *;generalize found.map aK=FS at *;generalize p.1.pv=S at *;rcases hs4 with rfl | rfl
   ·simp[cg,es,it,cb,roS,ec,z13,z]
   ·simp[cg,es,it,cb,roS,ec,z13,z])
 exact⟨s4,c,d,f1⟩
theorem CT:da [H,.int hour,.lst (found.map aK)]=some (.lst (found.map fun p=>jP (nxt M found p))):=by
 obtain⟨a,b,l1⟩:=np1 F;obtain⟨s4,c,d,l2⟩:=np2 F a b;have en:=JN found;have it:fK (.lst (found.map aK))=some (found.map aK):=rfl;have hW:=M.ew;refine aC rfl ?_;simp only[sP] at l1 l2;generalize (found.map fun p=>jP (nxt M found p))=NX at *;generalize PV.dtt (kL1 found) (nums 0 found)=KD at *;generalize ((MX found.length).zip found).map enI=EN at *;generalize hFS:found.map aK=FS at *;simp[gh,PU.start,hW,CW,en];rw[l1];simp[it];rw[l2];simp
end
section
variable{α : Type}[DecidableEq α]
def mP(l:List α)(k:α):List α:=if k∈l then l else l++[k]
def uniq(ks:List α):List α:=ks.foldl mP []
def j7:List α->α->Nat
 | [],_=>0
 | x::l,k=>if x=k then 0 else j7 l k+1
def nmL(ks:List α):List Nat:=ks.map (j7 (uniq ks))
theorem iS(ks:List α)(k:α):uniq (ks++[k])=mP (uniq ks) k:=by simp[uniq]
theorem qh:∀(ks l:List α)(x:α),x∈l->x∈ks.foldl mP l
 | [],_,_,h=>h
 | k::ks,l,x,h=>by
  refine qh ks _ x ?_;unfold mP
  split
  ·exact h
  ·exact Oe _ h
theorem tx:∀(ks l:List α)(x:α),x∈ks->x∈ks.foldl mP l
 | k::ks,l,x,h=>by
  rcases MP.mp h with rfl | h
  ·refine qh ks _ x ?_
   unfold mP
   split
   ·assumption
   ·simp
  ·exact tx ks _ x h
theorem fR{ks:List α}{x:α}(h:x∈ks):x∈uniq ks:=tx ks [] x h
theorem vd:∀{l:List α}{k:α},k∈l->j7 l k<l.length
 | x::l,k,h=>by
  unfold j7
  split
  ·simp
  ·rename_i e
   have:=vd (l:=l) (k:=k) ((MP.mp h).resolve_left fun z=>e z.symm);simp;omega
theorem qL:∀{l:List α}{k:α},k∈l->l[j7 l k]?=some k
 | x::l,k,h=>by
  unfold j7
  split
  ·rename_i e;simp[e]
  ·rename_i e
   have:=qL (l:=l) (k:=k) ((MP.mp h).resolve_left fun z=>e z.symm);simpa using this
theorem Cs{l:List α}{a b:α}(ha:a∈l)(hb:b∈l)(e:j7 l a=j7 l b):a=b:=by
 have h1:=qL ha;rw[e,qL hb] at h1;exact(Mq h1).symm
theorem Ap(l:List α)(k:α):(mP l k).length<=l.length+1:=by
 unfold mP
 split <;> simp
theorem tB:∀(ks l:List α),(ks.foldl mP l).length<=l.length+ks.length
 | [],l=>by simp
 | k::ks,l=>by
  have h1:=tB ks (mP l k);have h2:=Ap l k;simp only[OU,Mr];omega
theorem nY(ks:List α):(uniq ks).length<=ks.length:=by
 have:=tB ks [];simpa [uniq] using this
end
def rI(n:Nat):List PV:=(MX n).map fun i:Nat=>PV.int (i:Int)
theorem Ce(n:Nat):rI (n+1)=rI n++[.int n]:=by simp[rI,OS]
theorem B8:∀(l:List bZ)(o:Nat)(k:bZ),k∈l->jf l ((QU o l.length).map fun i:Nat=>PV.int (i:Int)) k=some (.int ((o+j7 l k:Nat):Int))
 | x::l,o,k,h=>by
  show (if x=k then some (PV.int ((o:Nat):Int)) else jf l ((QU (o+1) l.length).map fun i:Nat=>PV.int (i:Int)) k)=_;unfold j7
  by_cases e:x=k
  ·rw[if_pos e,if_pos e];rfl
  ·rw[if_neg e,if_neg e,B8 l (o+1) k ((MP.mp h).resolve_left fun z=>e z.symm)]
   congr 2
   omega
theorem D6(l:List bZ)(k:bZ)(h:k∈l):jf l (rI l.length) k=some (.int (j7 l k:Nat)):=by
 have:=B8 l 0 k h;rw[RD,← List.range_eq_range'] at this;exact this
theorem Iw{T:PV}{k:bZ}(KS:List bZ)(PS:List PV)(hk:l9 T=some k):nR (.dtt KS PS) T=jf KS PS k:=by
 show (l9 T).bind _=_;rw[hk];rfl
theorem C6(X:PV)(KS:List bZ)(p:PV)(k:bZ)(hk:l9 p=some k)(hl:KS.length<16777216):hJ [.val X,.own (.dtt KS (rI KS.length)),.val p]=.ok (.next [.val X,.own (.dtt (mP KS k) (rI (mP KS k).length)),.val p]):=by
 show (R.ok p >>= fun kp=>(R.ok (PV.int (KS.length:Int)) >>= fun q=>R.ofO (l9 kp) >>= fun k=>if KS.length<16777216 then R.ok (Fl.next (if (KS.any fun j=>decide (j=k))=true then _ else _)) else .no))=_;simp only[R.ok_bind,hk,R.ofO_some,if_pos hl]
 have ha:(KS.any fun j=>decide (j=k))=true ↔ k∈KS:=by
  rw[Ol];exact⟨fun ⟨x,hx,e⟩=>of_decide_eq_true e▸hx,fun h=>⟨k,h,decide_eq_true rfl⟩⟩
 unfold mP
 by_cases h:k∈KS
 ·rw[if_pos (ha.mpr h),if_pos h]
 ·rw[if_neg (fun z=>h (ha.mp z)),if_neg h]
  unfold uW;rw[if_neg (fun z=>h (ha.mp z)),Mi,O4,Ce];rfl
theorem lK{β:Type}(enc:β->PV)(key:β->bZ)(hk:∀b,l9 (enc b)=some (key b))(L:List β)(hl:L.length<=100000):cO [.lst (L.map enc)]=some (.lst ((nmL (L.map key)).map fun n:Nat=>PV.int (n:Int))):=by
 refine aC rfl ?_
 obtain⟨ρ',f1,a,rfl⟩:=forM (enc:=enc) (xs:=L) (h:=av 2) (g:=hJ) (ρ:=[.val (.lst (L.map enc)),.own (.dtt [] []),.no])
  (I:=fun pre ρ=>∃a,ρ=[.val (.lst (L.map enc)),.own (.dtt (uniq (pre.map key)) (rI (uniq (pre.map key)).length)),a]) ⟨.no,rfl⟩ (by
   rintro pre x post ρ hx ⟨a,rfl⟩;have h1:=nY (pre.map key);rw[MG] at h1;have h2:pre.length<L.length:=by rw[hx];simp
   refine⟨[.val (.lst (L.map enc)),.own (.dtt (uniq (pre.map key)) (rI (uniq (pre.map key)).length)),.val (enc x)],_,rfl,.inl (C6 _ _ (enc x) (key x) (hk x) (by omega)),.val (enc x),?_⟩;rw[Mc,MC,O7,iS])
 have it:fK (.lst (L.map enc))=some (L.map enc):=rfl
 have cc:cG (av 0) mI gX [.no,.val (.dtt (uniq (L.map key)) (rI (uniq (L.map key)).length))] (L.map enc)=.ok (L.map fun b=>PV.int (j7 (uniq (L.map key)) (key b):Nat)):=WO.in_list_comp (enc:=enc) _ L fun b hb=>⟨[.val (enc b),.val (.dtt (uniq (L.map key)) (rI (uniq (L.map key)).length))],rfl,by
  have e:nR (.dtt (uniq (L.map key)) (rI (uniq (L.map key)).length)) (enc b)=some (.int (j7 (uniq (L.map key)) (key b):Nat)):=by
   rw[Iw _ _ (hk b)];exact D6 _ _ (fR (MF.mpr ⟨b,hb,rfl⟩))
  generalize PV.dtt (uniq (L.map key)) (rI (uniq (L.map key)).length)=D at *;generalize enc b=EB at *;simp[gX,e]⟩
 have z:(L.map fun b=>PV.int (j7 (uniq (L.map key)) (key b):Nat)).length<=16777216:=by rw[MG];omega
 have er:(nmL (L.map key)).map (fun n:Nat=>PV.int (n:Int))=L.map fun b=>PV.int (j7 (uniq (L.map key)) (key b):Nat):=by
  unfold nmL;rw[MV,MV];rfl
 rw[er];generalize (L.map fun b=>PV.int (j7 (uniq (L.map key)) (key b):Nat))=RS at *;generalize L.map enc=LE at *;simp[jV,PU.start,CW,it];rw[f1];simp[it,cb,roS,cc,z]
def nI(n:Nat):PV:=.int n
def rN(js:List Nat):PV:=.lst (js.map nI)
def mkE(c:List Nat)(x:Nat×List Nat):PV:=.tup [.int x.1,.tup (x.2.map fun j=>nI (c.getD j 0))]
def mkK(c:List Nat)(x:Nat×List Nat):bZ:=[.inl (.inl x.1),.inr (x.2.map fun j=>.inl ((c.getD j 0:Nat):Int))]
theorem Gi:∀l:List Nat,AF (l.map nI)=some (l.map fun n:Nat=>.inl (n:Int))
 | []=>rfl
 | n::l=>by
  show (AF (l.map nI)).map (fun r=>.inl (n:Int)::r)=_;rw[Gi l];rfl
theorem Ga(c:List Nat)(x:Nat×List Nat):l9 (mkE c x)=some (mkK c x):=by
 have e:=Gi (x.2.map fun j=>c.getD j 0);rw[MV,MV] at e;show (Kl (.int x.1)).bind (fun k=>(F0 [.tup (x.2.map fun j=>nI (c.getD j 0))]).map fun l=>k::l)=_;show ((some (N9 (N9 (x.1:Int)))).bind fun k=>(((AF (x.2.map fun j=>nI (c.getD j 0))).map Nv).bind fun k2=>(some []).map fun l=>k2::l).map fun l=>k::l)=_;have e':AF (x.2.map fun j=>nI (c.getD j 0))=some (x.2.map fun j=>.inl ((c.getD j 0:Nat):Int)):=e;rw[e'];rfl
def finer(c:List Nat)(E:List (List Nat)):List Nat:=nmL ((c.zip E).map (mkK c))
theorem s8:∀(c:List Nat)(E:List (List Nat)),(p9 (c.map nI) (E.map rN)).map PV.tup=(c.zip E).map fun x=>PV.tup [nI x.1,rN x.2]
 | [],_=>by simp[p9]
 | _::_,[]=>by simp[p9]
 | n::c,e::E=>by
  have:=s8 c E;simp only[p9,MC,Ql,NU] at this ⊢;rw[this]
theorem JF(c:List Nat)(j:Nat)(h:j<c.length):atI (c.map nI) (j:Int)=some (nI (c.getD j 0)):=hZ rfl (by
 rw[MM,ME h,MS,ME h];rfl)
theorem tF(c:List Nat)(E:List (List Nat))(hl:c.length<=20000)(he:∀js∈E,js.length=13/\∀j∈js,j<c.length):bw [.lst (c.map nI),.lst (E.map rN)]=some (.lst ((finer c E).map nI)):=by
 refine aC rfl ?_
 have hz:Em (.lst (c.map nI)) (.lst (E.map rN))=.ok ((c.zip E).map fun x=>PV.tup [nI x.1,rN x.2]):=by
  rw[Bj _ _ (by
   rw[QN];refine .inl (Om.mpr fun p hp=>?_);obtain⟨o,_,rfl⟩:=MF.mp hp;rfl),s8]
 have lz:(c.zip E).length<=c.length:=by rw[Pj];omega
 obtain⟨ρ',f1,a,b,rfl⟩:=forM (enc:=fun x:Nat×List Nat=>PV.tup [nI x.1,rN x.2]) (xs:=c.zip E) (h:=ir 2 (aO (av 3) (aO (av 4) iu))) (g:=dA) (ρ:=[.val (.lst (c.map nI)),.val (.lst (E.map rN)),.own (.lst []),.no,.no])
  (I:=fun pre ρ=>∃a b,ρ=[.val (.lst (c.map nI)),.val (.lst (E.map rN)),.own (.lst (pre.map (mkE c))),a,b]) ⟨.no,.no,rfl⟩ (by
   rintro pre x post ρ hx ⟨a,b,rfl⟩;have hm:x∈c.zip E:=by rw[hx];simp
   have h1:=he x.2 (Oy hm).2;have h2:pre.length<(c.zip E).length:=by rw[hx];simp
   have z:(pre.map (mkE c)).length<16777216:=by rw[MG];omega
   have it:fK (rN x.2)=some (x.2.map nI):=rfl
   have cc:cG (av 0) mI dy [.no,.val (.lst (c.map nI))] (x.2.map nI)=.ok (x.2.map fun j=>nI (c.getD j 0)):=WO.in_list_comp (enc:=nI) _ x.2 fun j hj=>⟨[.val (nI j),.val (.lst (c.map nI))],rfl,by
    have e:gIx (.lst (c.map nI)) (nI j)=some (nI (c.getD j 0)):=JF c j (h1.2 j hj);generalize PV.lst (c.map nI)=LC at *;generalize nI (c.getD j 0)=CJ at *;generalize nI j=J at *;simp[dy,e]⟩
   have z13:(x.2.map fun j=>nI (c.getD j 0)).length<=16777216:=by rw[MG,h1.1];decide
   refine⟨[.val (.lst (c.map nI)),.val (.lst (E.map rN)),.own (.lst (pre.map (mkE c))),.val (nI x.1),.val (rN x.2)],[.val (.lst (c.map nI)),.val (.lst (E.map rN)),.own (.lst ((pre++[x]).map (mkE c))),.val (nI x.1),.val (rN x.2)],rfl,.inl ?_,_,_,rfl⟩;rw[Mc];have em:[x].map (mkE c)=[PV.tup [nI x.1,.tup (x.2.map fun j=>nI (c.getD j 0))]]:=rfl;rw[em]
   have gt:nQ (.lst (x.2.map fun j=>nI (c.getD j 0)))=some (.tup (x.2.map fun j=>nI (c.getD j 0))):=by
    first | rfl | exact if_pos z13
   generalize pre.map (mkE c)=PM at *;generalize (x.2.map fun j=>nI (c.getD j 0))=XJ at *;generalize x.2.map nI=XI at *;generalize rN x.2=RX at *;generalize nI x.1=NX at *;generalize c.map nI=CM at *;generalize E.map rN=EM at *;simp[dA,it,cb,roS,cc,z13,gt,z])
 have nm:=lK (mkE c) (mkK c) (Ga c) (c.zip E) (by omega);have nm:cO [.lst ((c.zip E).map (mkE c))]=some (.lst ((finer c E).map nI)):=nm;generalize (c.zip E).map (mkE c)=ZM at *;generalize (finer c E).map nI=FM at *;generalize (c.zip E).map (fun x=>PV.tup [nI x.1,rN x.2])=ZP at *;generalize c.map nI=CM at *;generalize E.map rN=EM at *;simp[eM,PU.start,hz];rw[f1];simp[nm]
theorem ql(c:List Nat)(E:List (List Nat))(h:E.length=c.length):(finer c E).length=c.length:=by
 unfold finer nmL;rw[MG,MG,Pj,h,RE]
end K43
namespace K43
section
variable{α β : Type}[DecidableEq α][DecidableEq β]
theorem lM(ks:List α):(nmL ks).length=ks.length:=by simp[nmL]
theorem sS(ks:List α)(i:Nat)(h:i<ks.length):(nmL ks)[i]?=some (j7 (uniq ks) ks[i]):=by
 unfold nmL;rw[MM,ME h];rfl
theorem wc(ks:List α)(i j:Nat)(hi:i<ks.length)(hj:j<ks.length):(nmL ks)[i]?=(nmL ks)[j]? ↔ ks[i]?=ks[j]?:=by
 rw[sS ks i hi,sS ks j hj,ME hi,ME hj];constructor
 ·intro e
  rw[Cs (fR (N0 hi)) (fR (N0 hj)) (Mq e)]
 ·intro e
  rw[Mq e]
def Fst(ks:List α)(i:Nat):Prop:=∀j,j<i->ks[j]?≠ks[i]?
theorem Bp(ks:List α):∀i,i<ks.length->∃i0,i0<=i/\ks[i0]?=ks[i]?/\Fst ks i0:=by
 intro i
 induction i using Nat.strongRecOn with
 | _ i ih=>
  intro hi
  by_cases h:Fst ks i
  ·exact⟨i,Ma _,rfl,h⟩
  ·unfold Fst at h
   have:∃j,j<i/\ks[j]?=ks[i]?:=by
    by_cases h2:∃j,j<i/\ks[j]?=ks[i]?
    ·exact h2
    ·exact absurd (fun j hj e=>h2 ⟨j,hj,e⟩) h
   obtain⟨j,hj,e⟩:=this;obtain⟨i0,a,b,c⟩:=ih j hj (by omega);exact⟨i0,by omega,b.trans e,c⟩
theorem Dt(ks:List α){i j:Nat}(h1:Fst ks i)(h2:Fst ks j)(e:ks[i]?=ks[j]?):i=j:=by
 rcases Nat.lt_trichotomy i j with h | h | h
 ·exact absurd e (h2 i h)
 ·exact h
 ·exact absurd e.symm (h1 j h)
instance (ks:List α) (i:Nat):Decidable (Fst ks i):=by unfold Fst;exact Nat.decidableBallLT i fun j _=>ks[j]?≠ks[i]?
def kinds(ks:List α):Nat:=(MX ks.length).countP fun i=>decide (Fst ks i)
def Ib(f:List α)(c:List β):Prop:=f.length=c.length/\∀i j,i<c.length->j<c.length->f[i]?=f[j]?->c[i]?=c[j]?
theorem xo{f:List α}{c:List β}(h:Ib f c)(i:Nat)(hi:i<c.length)(hc:Fst c i):Fst f i:=fun j hj e=>hc j hj (h.2 j i (by omega) hi e)
theorem zH{f:List α}{c:List β}(h:Ib f c):kinds c<=kinds f:=by
 unfold kinds;rw[h.1];exact Sn fun i hi e=>decide_eq_true (xo h i (NT.mp hi) (of_decide_eq_true e))
theorem wJ(ks:List α):kinds ks<=ks.length:=by
 unfold kinds;have:=List.countP_le_length (p:=fun i=>decide (Fst ks i)) (l:=MX ks.length);simpa using this
theorem tQ:∀(l:List Nat)(p q:Nat->Bool),(∀i∈l,p i=true->q i=true)->l.countP p=l.countP q->∀i∈l,q i=true->p i=true
 | [],_,_,_,_,_,h,_=>by cases h
 | x::l,p,q,hpq,he,i,hi,hq=>by
  have hle:=Sn (l:=l) (p:=p) (q:=q) fun i hi=>hpq i (Me _ hi);have ih:=tQ l p q (fun i hi=>hpq i (Me _ hi));rw[List.countP_cons,List.countP_cons] at he;rcases MP.mp hi with rfl | hi
  ·by_cases h:p i=true
   ·exact h
   ·rw[if_neg h,if_pos hq] at he
    omega
  ·refine ih ?_ i hi hq
   by_cases h:p x=true
   ·rw[if_pos h,if_pos (hpq x Mh h)] at he
    omega
   ·rw[if_neg h] at he
    by_cases h2:q x=true
    ·rw[if_pos h2] at he;omega
    ·rw[if_neg h2] at he;omega
theorem C8{f:List α}{c:List β}(h:Ib f c)(e:kinds c=kinds f):∀i j,i<c.length->j<c.length->c[i]?=c[j]?->f[i]?=f[j]?:=by
 intro i j hi hj hc;obtain⟨i0,a1,a2,a3⟩:=Bp f i (by rw[h.1];exact hi);obtain⟨j0,b1,b2,b3⟩:=Bp f j (by rw[h.1];exact hj)
 have all:∀k,k<c.length->Fst f k->Fst c k:=by
  intro k hk hf
  have e':(MX c.length).countP (fun i=>decide (Fst c i))=(MX c.length).countP (fun i=>decide (Fst f i)):=by
   unfold kinds at e;rw[h.1] at e;exact e
  exact of_decide_eq_true (tQ _ _ _ (fun i hi e=>decide_eq_true (xo h i (NT.mp hi) (of_decide_eq_true e))) e' k (NT.mpr hk) (decide_eq_true hf))
 have c1:=h.2 i0 i (by omega) hi a2;have c2:=h.2 j0 j (by omega) hj b2;have:=Dt c (all i0 (by omega) a3) (all j0 (by omega) b3) (c1.trans (hc.trans c2.symm));rw[← a2,← b2,this]
end
end K43
namespace K43
section
variable{α β : Type}[DecidableEq α][DecidableEq β]
theorem qW:∀(l:List α)(k x:α),x∈l->j7 (l++[k]) x=j7 l x
 | y::l,k,x,h=>by
  show (if y=x then 0 else j7 (l++[k]) x+1)=(if y=x then 0 else j7 l x+1)
  by_cases e:y=x
  ·rw[if_pos e,if_pos e]
  ·rw[if_neg e,if_neg e,qW l k x ((MP.mp h).resolve_left fun z=>e z.symm)]
theorem qX:∀(l:List α)(k:α),k ∉ l->j7 (l++[k]) k=l.length
 | [],k,_=>by simp[j7]
 | y::l,k,h=>by
  show (if y=k then 0 else j7 (l++[k]) k+1)=_;rw[if_neg (fun e=>h (by rw[e];exact Mh)),qX l k (fun z=>h (Me _ z))];rfl
theorem qi:∀(ks l:List α)(x:α),x∈ks.foldl mP l->x∈l\/x∈ks
 | [],_,_,h=>.inl h
 | k::ks,l,x,h=>by
  rcases qi ks _ x h with h | h
  ·unfold mP at h
   split at h
   ·exact .inl h
   ·rcases Mz.mp h with h | h
    ·exact .inl h
    ·rw[MQ.mp h];exact .inr Mh
  ·exact .inr (Me _ h)
theorem fE{ks:List α}{x:α}(h:x∈uniq ks):x∈ks:=(qi ks [] x h).resolve_left (by simp)
def Alike(a:List α)(b:List β):Prop:=a.length=b.length/\∀i j,i<a.length->j<a.length->(a[i]?=a[j]? ↔ b[i]?=b[j]?)
theorem iV{γ:Type}(l:List γ)(i:Nat)(h:i<l.length):l[i]?=some l[i]:=ME h
theorem G3{a:List α}{b:List β}(h:Alike a b):∀m,m<=a.length->(uniq (a.take m)).length=(uniq (b.take m)).length/\∀i (hi:i<m) (ha:i<a.length) (hb:i<b.length),j7 (uniq (a.take m)) a[i]=j7 (uniq (b.take m)) b[i]
 | 0,_=>⟨by simp[uniq],fun i hi=>absurd hi (O0 _)⟩
 | m+1,hm=>by
  obtain⟨l1,p1⟩:=G3 h m (by omega);have hl:=h.1;have ea:a.take (m+1)=a.take m++[a[m]]:=Qz (by omega);have eb:b.take (m+1)=b.take m++[b[m]'(by omega)]:=Qz (by omega);have ina:∀i (hi:i<m),a[i]'(by omega)∈uniq (a.take m):=fun i hi=>fR (Nl.mpr ⟨i,by omega,rfl⟩);have inb:∀i (hi:i<m),b[i]'(by omega)∈uniq (b.take m):=fun i hi=>fR (Nl.mpr ⟨i,by omega,rfl⟩)
  have eqv:∀i (hi:i<m),(a[i]'(by omega)=a[m]'(by omega) ↔ b[i]'(by omega)=b[m]'(by omega)):=fun i hi=>by
   have:=h.2 i m (by omega) (by omega);rw[iV a i (by omega),iV a m (by omega),iV b i (by omega),iV b m (by omega)] at this;simpa using this
  have mem:a[m]'(by omega)∈uniq (a.take m) ↔ b[m]'(by omega)∈uniq (b.take m):=by
   constructor
   ·intro z
    obtain⟨i,hi,e⟩:=Nl.mp (fE z);rw[← (eqv i (by omega)).mp e];exact inb i (by omega)
   ·intro z
    obtain⟨i,hi,e⟩:=Nl.mp (fE z);rw[← (eqv i (by omega)).mpr e];exact ina i (by omega)
  rw[ea,eb,iS,iS];unfold mP
  by_cases z:a[m]'(by omega)∈uniq (a.take m)
  ·rw[if_pos z,if_pos (mem.mp z)]
   refine⟨l1,fun i hi ha hb=>?_⟩
   by_cases e:i<m
   ·exact p1 i e ha hb
   ·have e:i=m:=by omega
    subst e;obtain⟨i',hi',e'⟩:=Nl.mp (fE z);rw[← e',← (eqv i' (by omega)).mp e'];exact p1 i' (by omega) (by omega) (by omega)
  ·rw[if_neg z,if_neg fun q=>z (mem.mpr q)]
   refine⟨by simp[l1],fun i hi ha hb=>?_⟩
   by_cases e:i<m
   ·rw[qW _ _ _ (ina i e),qW _ _ _ (inb i e)]
    exact p1 i e ha hb
   ·have e:i=m:=by omega
    subst e;rw[qX _ _ z,qX _ _ fun q=>z (mem.mpr q),l1]
theorem sU{a:List α}{b:List β}(h:Alike a b):nmL a=nmL b:=by
 obtain⟨_,p⟩:=G3 h a.length (Ma _);have hb:b.take a.length=b:=by rw[h.1];exact Q8
 rw[Q8,hb] at p;refine Ti fun i=>?_
 by_cases hi:i<a.length
 ·have hb:i<b.length:=by rw[← h.1];exact hi
  rw[sS a i hi,sS b i hb,p i hi hi hb]
 ·rw[Nm (by rw[lM];omega),Nm (by rw[lM,← h.1];omega)]
theorem Ao(a:List α):Alike (nmL a) a:=⟨lM a,fun i j hi hj=>by
 rw[lM] at hi hj;exact wc a i j hi hj⟩
theorem CN(a:List α):nmL (nmL a)=nmL a:=sU (Ao a)
end
end K43
namespace K43
open PySem L2 PU MT NM BG NW
def cs(E:List (List Nat))(c0:List Nat):Nat->List Nat
 | 0=>c0
 | k+1=>finer (cs E c0 k) E
theorem Gb{c:List Nat}{x y:Nat×List Nat}:mkK c x=mkK c y ↔ x.1=y.1/\(x.2.map fun j=>c.getD j 0)=(y.2.map fun j=>c.getD j 0):=by
 unfold mkK;constructor
 ·intro e
  injection e with e1 e2;injection e2 with e3 _;injection e1 with e1;injection e1 with e1;injection e3 with e3;refine⟨by omega,?_⟩
  have:((x.2.map fun j=>c.getD j 0).map fun n:Nat=>(N9 (n:Int):Key))=(y.2.map fun j=>c.getD j 0).map fun n:Nat=>(N9 (n:Int):Key):=by
   rw[MV,MV];exact e3
  exact List.map_inj_right (f:=fun n:Nat=>(N9 (n:Int):Key)) (fun a b h=>by injection h with h;omega) |>.mp this
 ·rintro⟨e1,e2⟩
  have:((x.2.map fun j=>c.getD j 0).map fun n:Nat=>(N9 (n:Int):Key))=(y.2.map fun j=>c.getD j 0).map fun n:Nat=>(N9 (n:Int):Key):=by rw[e2]
  rw[MV,MV] at this;have this:(x.2.map fun j=>(N9 ((c.getD j 0:Nat):Int):Key))=y.2.map fun j=>(N9 ((c.getD j 0:Nat):Int):Key):=this;rw[e1,this]
theorem v7(c:List Nat)(E:List (List Nat))(h:E.length=c.length)(i:Nat)(hi:i<c.length):(c.zip E)[i]?=some (c[i],E[i]'(by omega)):=by
 rw[ME (by rw[Pj];omega),List.getElem_zip]
theorem qm(c:List Nat)(E:List (List Nat))(h:E.length=c.length)(i j:Nat)(hi:i<c.length)(hj:j<c.length) :
  (finer c E)[i]?=(finer c E)[j]? ↔ c[i]=c[j]/\((E[i]'(by omega)).map fun j=>c.getD j 0)=((E[j]'(by omega)).map fun j=>c.getD j 0):=by
 unfold finer;have lz:((c.zip E).map (mkK c)).length=c.length:=by rw[MG,Pj,h,RE]
 rw[wc _ i j (by omega) (by omega),MM,MM,v7 c E h i hi,v7 c E h j hj];show some (mkK c _)=some (mkK c _) ↔ _;rw[Nc,Gb]
theorem xn(c:List Nat)(E:List (List Nat))(h:E.length=c.length):Ib (finer c E) c:=⟨ql c E h,fun i j hi hj e=>by
 rw[ME hi,ME hj,((qm c E h i j hi hj).mp e).1]⟩
theorem tE(c:List Nat)(E:List (List Nat)):nmL (finer c E)=finer c E:=CN _
theorem uG(c:List Nat)(E:List (List Nat))(h:E.length=c.length)(hc:nmL c=c)(hne:finer c E≠c):kinds c<kinds (finer c E):=by
 have f:=xn c E h;rcases OA (kinds c) (kinds (finer c E)) with q | q
 ·exact q
 ·exfalso
  have e:=Nat.le_antisymm (zH f) q;have al:Alike (finer c E) c:=⟨f.1,fun i j hi hj=>⟨f.2 i j (by rw[← f.1];exact hi) (by rw[← f.1];exact hj),C8 f e i j (by rw[← f.1];exact hi) (by rw[← f.1];exact hj)⟩⟩;have:=sU al;rw[tE,hc] at this;exact hne this
theorem qu(E:List (List Nat))(c0:List Nat)(h:E.length=c0.length)(hc:nmL c0=c0):∀k,(cs E c0 k).length=c0.length/\nmL (cs E c0 k)=cs E c0 k
 | 0=>⟨rfl,hc⟩
 | k+1=>by
  obtain⟨l,_⟩:=qu E c0 h hc k;exact⟨(ql _ E (by rw[h,l])).trans l,tE _ E⟩
theorem C2(E:List (List Nat))(c0:List Nat)(h:E.length=c0.length)(hc:nmL c0=c0):∃K,K<=c0.length/\cs E c0 (K+1)=cs E c0 K/\∀m,m<K->cs E c0 (m+1)≠cs E c0 m:=by
 have go:∀n k,(∀m,m<k->cs E c0 (m+1)≠cs E c0 m)->k<=kinds (cs E c0 k)->c0.length<k+n->∃K,K<=c0.length/\cs E c0 (K+1)=cs E c0 K/\∀m,m<K->cs E c0 (m+1)≠cs E c0 m:=by
  intro n
  induction n with
  | zero=>
   intro k _ hk hn;have h1:=wJ (cs E c0 k);rw[(qu E c0 h hc k).1] at h1;omega
  | succ n ih=>
   intro k hm hk hn
   by_cases e:cs E c0 (k+1)=cs E c0 k
   ·refine⟨k,?_,e,hm⟩
    have h1:=wJ (cs E c0 k);rw[(qu E c0 h hc k).1] at h1;omega
   ·obtain⟨l,hk2⟩:=qu E c0 h hc k
    have:=uG (cs E c0 k) E (by rw[h,l]) hk2 e;refine ih (k+1) (fun m hm2=>?_) (show k+1<=kinds (finer (cs E c0 k) E) by omega) (by omega)
    by_cases q:m<k
    ·exact hm m q
    ·have:m=k:=by omega
     subst this;exact e
 exact go (c0.length+1) 0 (fun m hm=>absurd hm (O0 _)) (Nu _) (by omega)
def hK(x:Str×Str):bZ:=[.inl (.inr x.1),.inl (.inr x.2)]
theorem GN{x y:Str×Str}(e:hK x=hK y):x=y:=by
 unfold hK at e;simp only[Nq,Rc,Pq,and_true] at e;exact Pd e.1 e.2
def c0{H:PV}{hour:Int}(M:Mach H hour)(found:List (BF.Row St)):List Nat:=nmL ((found.map fun p=>M.hp p.1).map hK)
theorem vS:∀a b:List Nat,cz (a.map nI) (b.map nI)=some (decide (a=b))
 | [],[]=>by simp[cz]
 | [],_::_=>by simp[cz]
 | _::_,[]=>by simp[cz]
 | x::a,y::b=>by
  have e:bU (nI x) (nI y)=some (decide (x=y)):=by
   simp[nI,bU];rw[Nk];simp;omega
  simp only[MC,cz,e,vS a b,Q0]
  congr 1
  rw[Nk];simp
theorem sL:∀a:List Nat,dM (a.map nI)=0
 | []=>rfl
 | x::a=>by
  show max (yu (nI x)) (dM (a.map nI))=0;rw[sL a];rfl
theorem Jo(a b:List Nat):gNe (.lst (a.map nI)) (.lst (b.map nI))=some (.bl (!decide (a=b))):=by
 have e:gNe (.lst (a.map nI)) (.lst (b.map nI))=if dM (a.map nI)<=60 then (cz (a.map nI) (b.map nI)).map fun b=>.bl (!b) else none:=rfl
 rw[e,if_pos (by rw[sL];omega),vS];rfl
def iE(E:List (List Nat))(c:List Nat)(k:Nat):List PV:=(MX k).map fun m=>.lst ((cs E c m).map nI)
theorem jE(E:List (List Nat))(c:List Nat)(k:Nat):iE E c (k+1)=iE E c k++[.lst ((cs E c k).map nI)]:=by simp[iE,OS]
abbrev cst(H FS:PV)(E:List (List Nat))(c:List Nat)(k:Nat):PSt:=[.val H,.val FS,.val (.lst (E.map rN)),.own (.lst (iE E c (k+1))),.val (.lst ((cs E c (k+1)).map nI))]
abbrev JP:PSt->R Bool:=dS (ar (ah 4) (ar (kE 3) (un1 (kI 1) pd) gIx) gNe)
theorem JR(H FS:PV)(E:List (List Nat))(c:List Nat)(k:Nat):JP (cst H FS E c k)=.ok (!decide (cs E c (k+1)=cs E c k)):=by
 have l:gIx (.lst (iE E c (k+1))) (.int (-1))=some (.lst ((cs E c k).map nI)):=by
  rw[jE];exact ka _ _
 have ng:pd (.int 1)=some (.int (-1)):=rfl;have ne:=Jo (cs E c (k+1)) (cs E c k);simp only[cst];generalize iE E c (k+1)=T at *;generalize (cs E c (k+1)).map nI=A at *;generalize (cs E c k).map nI=B at *;simp[JP,ng,l,ne]
theorem Hf(H FS:PV)(E:List (List Nat))(c:List Nat)(k:Nat)(hk:k<=20000)(hl:(cs E c (k+1)).length<=20000)(he:∀js∈E,js.length=13/\∀j∈js,j<(cs E c (k+1)).length):dj (cst H FS E c k)=.ok (.next (cst H FS E c (k+1))):=by
 have f:=tF (cs E c (k+1)) E hl he;have f:bw [.lst ((cs E c (k+1)).map nI),.lst (E.map rN)]=some (.lst ((cs E c (k+1+1)).map nI)):=f;have z:(iE E c (k+1)).length<16777216:=by simp[iE];omega
 simp only[cst];rw[jE E c (k+1)];generalize iE E c (k+1)=T at *;generalize (cs E c (k+1+1)).map nI=A2 at *;generalize (cs E c (k+1)).map nI=A at *;generalize E.map rN=EM at *;simp[dj,z,f]
theorem y7(H FS:PV)(E:List (List Nat))(c:List Nat)(K:Nat)(hK:K<=19999)(hst:cs E c (K+1)=cs E c K)(hne:∀m,m<K->cs E c (m+1)≠cs E c m)(hl:∀k,(cs E c k).length=c.length)(hc:c.length<=20000)(he:∀js∈E,js.length=13/\∀j∈js,j<c.length) :
  ∀(n k:Nat),k<=K->K<k+n->whF JP dj n (cst H FS E c k)=.ok (.next (cst H FS E c K))
 | 0,k,h1,h2=>by omega
 | n+1,k,h1,h2=>by
  unfold whF;rw[JR]
  by_cases e:k=K
  ·subst e
   rw[decide_eq_true hst];rfl
  ·rw[decide_eq_false (hne k (by omega)),Hf H FS E c k (by omega) (by rw[hl];exact hc) (fun js hj=>by rw[hl];exact he js hj)]
   exact y7 H FS E c K hK hst hne hl hc he n (k+1) (by omega) (by omega)
theorem qx{H:PV}{hour:Int}{M:Mach H hour}{found:List (BF.Row St)}(F:Found M found)(E:List (List Nat))(hEl:E.length=found.length)(he:∀js∈E,js.length=13/\∀j∈js,j<found.length) :
  ∃K,K<=found.length/\cs E (c0 M found) (K+1)=cs E (c0 M found) K/\(∀m,m<K->cs E (c0 M found) (m+1)≠cs E (c0 M found) m)/\eQ [H,.lst (found.map aK),.lst (E.map rN)]=some (.lst (iE E (c0 M found) (K+1))):=by
 have lc:(c0 M found).length=found.length:=by simp[c0,lM]
 have hnm:nmL (c0 M found)=c0 M found:=CN _;have hln:=F.ln;obtain⟨K,k1,k2,k3⟩:=C2 E (c0 M found) (by rw[hEl,lc]) hnm;rw[lc] at k1;refine⟨K,k1,k2,k3,aC rfl ?_⟩;have ok:=qu E (c0 M found) (by rw[hEl,lc]) hnm
 have cc:cG (ir 2 (aO (av 0) (aO (av 1) iu))) mI e9 [.no,.no,.val H] (found.map aK)=.ok ((found.map fun p=>M.hp p.1).map hE):=by
  have:=WO.in_list_comp (enc:=aK) (h:=ir 2 (aO (av 0) (aO (av 1) iu))) (fe:=e9) (ρ:=[.no,.no,.val H]) (fun p=>hE (M.hp p.1)) found fun p hp=>⟨[.val p.1.pv,.val (.str (lC p.2)),.val H],rfl,by
   have e:=M.hrd p.1 (F.ok p hp);generalize hE (M.hp p.1)=HE at *;generalize p.1.pv=SP at *;simp[e9,e]⟩
  rw[MV];exact this
 have z:((found.map fun p=>M.hp p.1).map hE).length<=16777216:=by rw[MG,MG];omega
 have nm:=lK hE hK (fun b=>rfl) (found.map fun p=>M.hp p.1) (by rw[MG];omega);have nm:cO [.lst ((found.map fun p=>M.hp p.1).map hE)]=some (.lst ((c0 M found).map nI)):=nm;have f0:=tF (c0 M found) E (by omega) (fun js hj=>by rw[lc];exact he js hj);have f0:bw [.lst ((c0 M found).map nI),.lst (E.map rN)]=some (.lst ((cs E (c0 M found) 1).map nI)):=f0;have wh:=y7 H (.lst (found.map aK)) E (c0 M found) K (by omega) k2 k3 (fun k=>(ok k).1) (by omega) (fun js hj=>by rw[lc];exact he js hj) 20000 0 (by omega) (by omega);have t1:iE E (c0 M found) (0+1)=[.lst ((c0 M found).map nI)]:=rfl;have it:fK (.lst (found.map aK))=some (found.map aK):=rfl;have l1:gIx (.lst [PV.lst ((c0 M found).map nI)]) (.int (-1))=some (.lst ((c0 M found).map nI)):=ka [] _;have ng:pd (.int 1)=some (.int (-1)):=rfl;simp only[cst,t1] at wh;generalize iE E (c0 M found) (K+1)=TK at *;generalize (cs E (c0 M found) (0+1)).map nI=C1 at *;generalize (cs E (c0 M found) (K+1)).map nI=CK at *;generalize (cs E (c0 M found) 1).map nI=C1' at *;generalize (c0 M found).map nI=C0 at *;generalize (found.map fun p=>M.hp p.1).map hE=HL at *;generalize found.map aK=FS at *;generalize E.map rN=EM at *;simp[iO,PU.start,it,cb,roS,cc,z,nm,ng,l1,f0,whS];have wh:whF (dS (ar (ah 4) (ar (kE 3) (un1 (kI 1) pd) gIx) gNe)) dj 20000 _=_:=wh;rw[wh];simp
noncomputable def EN_{H:PV}{hour:Int}(M:Mach H hour)(found:List (BF.Row St)):List (List Nat):=found.map fun p=>(MX 13).map fun i=>dX found (M.lead p.1 i)
section
variable{H : PV}{hour : Int}{M : Mach H hour}{found : List (BF.Row St)}(F : Found M found)
include F
theorem H0:(EN_ M found).length=found.length/\(∀js∈EN_ M found,js.length=13/\∀j∈js,j<found.length)/\da [H,.int hour,.lst (found.map aK)]=some (.lst ((EN_ M found).map rN)):=by
 refine⟨by simp[EN_],fun js hj=>?_,?_⟩
 ·obtain⟨p,hp,rfl⟩:=MF.mp hj
  refine⟨by simp,fun j hj=>?_⟩;obtain⟨i,hi,rfl⟩:=MF.mp hj;exact Fz (xZ F p hp i (NT.mp hi))
 ·rw[CT F]
  congr 2
  unfold EN_;rw[MV];refine Os fun p _=>?_;show jP _=rN _;unfold rN nxt;rw[MV];show PV.lst _=PV.lst _;rw[MV];rfl
theorem uQ(ep:e6 [H,.int hour]=some (.lst (found.map aK))):∃K,K<=found.length/\cs (EN_ M found) (c0 M found) (K+1)=cs (EN_ M found) (c0 M found) K/\(∀m,m<K->cs (EN_ M found) (c0 M found) (m+1)≠cs (EN_ M found) (c0 M found) m)/\
  eQ [H,.lst (found.map aK),.lst ((EN_ M found).map rN)]=some (.lst (iE (EN_ M found) (c0 M found) (K+1)))/\de [H,.int hour]=some (.lst ((cs (EN_ M found) (c0 M found) K).map nI)):=by
 obtain⟨l1,l2,en⟩:=H0 F;obtain⟨K,k1,k2,k3,ec⟩:=qx F _ l1 l2;refine⟨K,k1,k2,k3,ec,aC rfl ?_⟩
 have la:gIx (.lst (iE (EN_ M found) (c0 M found) (K+1))) (.int (-1))=some (.lst ((cs (EN_ M found) (c0 M found) K).map nI)):=by
  rw[jE];exact ka _ _
 have ng:pd (.int 1)=some (.int (-1)):=rfl;generalize iE (EN_ M found) (c0 M found) (K+1)=TK at *;generalize (cs (EN_ M found) (c0 M found) K).map nI=CK at *;generalize (EN_ M found).map rN=EM at *;generalize found.map aK=FS at *;simp[m9,PU.start,ep,en,ec,ng,la]
end
end K43
namespace K43
def nx(E:List (List Nat))(x i:Nat):Nat:=(E.getD x []).getD i 0
def runN(E:List (List Nat))(x:Nat)(r:List Nat):Nat:=r.foldl (nx E) x
def cv(E:List (List Nat))(c:List Nat)(k x:Nat):Nat:=(cs E c k).getD x 0
structure Gr(E:List (List Nat))(c:List Nat):Prop where
 len:E.length=c.length
 row:∀js∈E,js.length=13/\∀j∈js,j<c.length
 nm:nmL c=c
section
variable{E : List (List Nat)}{c : List Nat}(G : Gr E c)
include G
theorem Gr.at_(x:Nat)(hx:x<c.length):∃js,E[x]?=some js/\E.getD x []=js/\js∈E:=by
 have h:=G.len;refine⟨E[x]'(by omega),ME _,?_,N0 _⟩;rw[MS,ME (by omega)];rfl
theorem Gr.nx_lt(x i:Nat)(hx:x<c.length)(hi:i<13):nx E x i<c.length:=by
 obtain⟨js,_,e,hm⟩:=G.at_ x hx;obtain⟨l,hj⟩:=G.row js hm;unfold nx;rw[e,MS,ME (by omega)];exact hj _ (N0 _)
theorem Gr.step(k x y:Nat)(hx:x<c.length)(hy:y<c.length):cv E c (k+1) x=cv E c (k+1) y ↔ cv E c k x=cv E c k y/\∀i,i<13->cv E c k (nx E x i)=cv E c k (nx E y i):=by
 have l:=(qu E c G.len G.nm k).1;have l2:=(qu E c G.len G.nm (k+1)).1;obtain⟨jx,e1,e2,m1⟩:=G.at_ x hx;obtain⟨jy,f1,f2,m2⟩:=G.at_ y hy;have r1:=(G.row jx m1).1;have r2:=(G.row jy m2).1;have it:=qm (cs E c k) E (by rw[G.len,l]) x y (by omega) (by omega)
 have g1:E[x]'(by rw[G.len];omega)=jx:=by
  have:=ME (l:=E) (i:=x) (by rw[G.len];omega);rw[e1] at this;exact(Mq this).symm
 have g2:E[y]'(by rw[G.len];omega)=jy:=by
  have:=ME (l:=E) (i:=y) (by rw[G.len];omega);rw[f1] at this;exact(Mq this).symm
 rw[g1,g2] at it
 have gd:∀m z (hz:z<(cs E c m).length),(cs E c m)[z]?=some (cv E c m z):=fun m z hz=>by
  unfold cv;rw[MS,ME hz];rfl
 have a1:(cs E c (k+1))[x]?=(cs E c (k+1))[y]? ↔ cv E c (k+1) x=cv E c (k+1) y:=by
  rw[gd (k+1) x (by omega),gd (k+1) y (by omega),Nc]
 have a2:(cs E c k)[x]'(by omega)=(cs E c k)[y]'(by omega) ↔ cv E c k x=cv E c k y:=by
  have q1:=gd k x (by omega);have q2:=gd k y (by omega);rw[ME (by omega)] at q1 q2;rw[Mq q1,Mq q2]
 rw[← a1,← a2];refine it.trans (and_congr Iff.rfl ?_);have nxx:∀i,nx E x i=jx.getD i 0:=fun i=>by unfold nx;rw[e2]
 have nxy:∀i,nx E y i=jy.getD i 0:=fun i=>by unfold nx;rw[f2]
 constructor
 ·intro e i hi
  have:=congrArg (fun l:List Nat=>l[i]?) e;simp only[MM] at this;rw[ME (by omega),ME (by omega)] at this;have:=Mq this;rw[nxx,nxy,MS,MS,ME (by omega),ME (by omega)];exact this
 ·intro e
  refine Ti fun i=>?_;rw[MM,MM]
  by_cases hi:i<13
  ·have:=e i hi
   rw[nxx,nxy,MS,MS,ME (by omega),ME (by omega)] at this;rw[ME (by omega),ME (by omega)];exact congrArg some this
  ·rw[Nm (by omega),Nm (by omega)]
theorem Gr.moore:∀(k x y:Nat),x<c.length->y<c.length->(cv E c k x=cv E c k y ↔ ∀r:List Nat,(∀i∈r,i<13)->r.length<=k->cv E c 0 (runN E x r)=cv E c 0 (runN E y r))
 | 0,x,y,hx,hy=>⟨fun e r _ hl=>by
   have:r=[]:=P5.mp (by omega);subst this;exact e,fun e=>e [] (by simp) (Ma _)⟩
 | k+1,x,y,hx,hy=>by
  rw[G.step k x y hx hy,Gr.moore k x y hx hy];constructor
  ·rintro⟨h1,h2⟩ r hr hl
   cases r with
   | nil=>exact h1 [] (by simp) (by simp)
   | cons i r=>
    have hi:=hr i (by simp);exact(Gr.moore k _ _ (G.nx_lt x i hx hi) (G.nx_lt y i hy hi)).mp (h2 i hi) r (fun j hj=>hr j (by simp[hj])) (by simpa using hl)
  ·intro h
   refine⟨fun r hr hl=>h r hr (by omega),fun i hi=>?_⟩
   exact(Gr.moore k _ _ (G.nx_lt x i hx hi) (G.nx_lt y i hy hi)).mpr fun r hr hl=>h (i::r) (fun j hj=>by
    rcases MP.mp hj with rfl | hj
    ·exact hi
    ·exact hr j hj) (by simpa using hl)
end
end K43
namespace K43
open PySem L2 PU MT NM BG NW
theorem xP{E:List (List Nat)}{c:List Nat}{K:Nat}(h:cs E c (K+1)=cs E c K):∀n,cs E c (K+n)=cs E c K
 | 0=>rfl
 | n+1=>by
  show finer (cs E c (K+n)) E=_;rw[xP h n];exact h
theorem never{E:List (List Nat)}{c:List Nat}(G:Gr E c){K x y:Nat}(hs:cs E c (K+1)=cs E c K)(hx:x<c.length)(hy:y<c.length)(h:cv E c K x=cv E c K y)(q:List Nat)(hq:∀i∈q,i<13):cv E c 0 (runN E x q)=cv E c 0 (runN E y q):=by
 refine(G.moore (K+q.length) x y hx hy).mp ?_ q hq (by omega);unfold cv at h ⊢;rw[xP hs];exact h
section
variable{H : PV}{hour : Int}{M : Mach H hour}{found : List (BF.Row St)}(F : Found M found)
include F
theorem ot:∀(r:List Nat)(x:Nat)(p:BF.Row St),(∀i∈r,i<13)->found[x]?=some p->∃q,found[runN (EN_ M found) x r]?=some q/\q.1=r.foldl (M.lead) p.1
 | [],x,p,_,hp=>⟨p,hp,rfl⟩
 | i::r,x,p,hr,hp=>by
  have hi:=hr i (by simp);have hm:=Mk hp
  have e:nx (EN_ M found) x i=dX found (M.lead p.1 i):=by
   have er:(EN_ M found).getD x []=(MX 13).map fun i=>dX found (M.lead p.1 i):=by
    unfold EN_;rw[MS,MM,hp];rfl
   unfold nx;rw[er,MS,MM,Ot hi];rfl
  obtain⟨q,e1,e2⟩:=pI found (M.lead p.1 i) (xZ F p hm i hi);rw[← e] at e1;obtain⟨q2,e3,e4⟩:=ot r (nx (EN_ M found) x i) q (fun j hj=>hr j (by simp[hj])) e1;exact⟨q2,e3,by rw[e4,e2];rfl⟩
omit F in
theorem Hj(x y:Nat)(p q:BF.Row St)(hp:found[x]?=some p)(hq:found[y]?=some q)(E:List (List Nat)):cv E (c0 M found) 0 x=cv E (c0 M found) 0 y ↔ M.hp p.1=M.hp q.1:=by
 have hx:=(MB.mp hp).1;have hy:=(MB.mp hq).1;have l:(c0 M found).length=found.length:=by simp[c0,lM]
 have gd:∀z,z<found.length->(c0 M found)[z]?=some (cv E (c0 M found) 0 z):=fun z hz=>by
  unfold cv;show _=some ((c0 M found).getD z 0);rw[MS,ME (by omega)];rfl
 have it:=wc ((found.map fun p=>M.hp p.1).map hK) x y (by simpa using hx) (by simpa using hy);have it:(c0 M found)[x]?=(c0 M found)[y]? ↔ _:=it;rw[gd x hx,gd y hy,Nc,MM,MM,MM,MM,hp,hq] at it;refine it.trans ?_;show some (hK _)=some (hK _) ↔ _;rw[Nc];exact⟨fun e=>GN e,fun e=>congrArg hK e⟩
end
theorem wW:∀js:List Int,qd (js.map PV.int)=some js
 | []=>rfl
 | j::js=>by
  show (qd (js.map PV.int)).map (j::·)=_;rw[wW js];rfl
theorem IS{H G:PV}{hour:Int}(M:Mach H hour)(N:Mach G hour):∀(r:List Nat)(s:P2),BF.run (bK M N) s r=(r.foldl M.lead s.1,r.foldl N.lead s.2)
 | [],_=>rfl
 | i::r,s=>IS M N r (bK M N s i)
abbrev rZ{H G:PV}{hour:Int}(M:Mach H hour)(N:Mach G hour)(q:List Nat):Prop:=M.hp (q.foldl M.lead M.s0)=N.hp (q.foldl N.lead N.s0)
theorem oH{H G:PV}{hour:Int}(M:Mach H hour)(N:Mach G hour)(q:List Nat):cR M N (BF.run (bK M N) (M.s0,N.s0) q)=!decide (rZ M N q):=by rw[IS];rfl
theorem BU {H G:PV} {hour:Int} (M:Mach H hour) (N:Mach G hour):(∃found,BF.Inv (bK M N) (M.s0,N.s0) found/\BF.Whole (bK M N) (cR M N) found/\dG [H,G,.int hour]=some (.tup [.str "alike",.lst (found.map jD)])/\∀q:List Nat,(∀i∈q,i<13)->rZ M N q) ∨
  ∃t L,dG [H,G,.int hour]=some (.tup [.str "apart",.str (lC t),L])/\(∀i∈t,i<13)/\t.length<=10497600/\¬ rZ M N t/\∀q:List Nat,(∀i∈q,i<13)->BF.lt q t->rZ M N q:=by
 obtain⟨found,I,h⟩:=uN M N;rcases h with⟨W,e⟩|⟨init,fin,rfl,S,e⟩
 ·refine .inl ⟨_,I,W,e,fun q hq=>?_⟩
  have:=BF.whole_rows I W q hq;rw[oH] at this;simpa using this
 ·have fm:fin∈init++[fin]:=by simp
  refine .inr ⟨fin.2,_,e,I.rng fin fm,?_,?_,fun q hq hl=>?_⟩
  ·have h1:=I.len init.length fin (by simp)
   have h2:=(lY M N _ ⟨M.ok0,N.ok0⟩ I).2;rw[Mi,O4] at h2;omega
  ·have:=S.1
   rw[← I.run fin fm,oH] at this;simpa using this
  ·have:=BF.stops_rows I S q hq hl
   rw[oH] at this;simpa using this
def Tg (Q:Str->Str->Prop) (x y:Str):Prop:=(x=MH "back"/\y=MH "back")\/Q x y
def RR(Q:Str->Str->Prop):Room->Room->Prop
 | .menu t ks wr wa,.menu t' ks' wr' wa'=>t=t'/\(∃l:List (Str×Str×Str),ks=l.map (fun p=>(p.1,p.2.1))/\ks'=l.map (fun p=>(p.1,p.2.2))/\∀p∈l,Tg Q p.2.1 p.2.2)/\(wr.1=wr'.1/\Q wr.2 wr'.2)/\wa.1=wa'.1/\Q wa.2 wa'.2
 | .names t ks wr wa,.names t' ks' wr' wa'=>t=t'/\(∃l:List (W×Str×Str),ks=l.map (fun p=>(mkS p.1,p.2.1))/\ks'=l.map (fun p=>(mkS p.1,p.2.2))/\∀p∈l,Q p.2.1 p.2.2)/\(wr.1=wr'.1/\Q wr.2 wr'.2)/\wa.1=wa'.1/\Q wa.2 wa'.2
 | .hours sp l,.hours sp' l'=>(∃m:List (Int×Int×Str×Str),sp=m.map (fun p=>(p.1,p.2.1,p.2.2.1))/\sp'=m.map (fun p=>(p.1,p.2.1,p.2.2.2))/\∀p∈m,Q p.2.2.1 p.2.2.2)/\Q l l'
 | .hand t,.hand t'=>t=t'
 | .fin t,.fin t'=>t=t'
 | _,_=>False
structure Sim(h h':House)(hour:Int)(Q:Str->Str->Prop):Prop where
 rm:∀x y,Q x y->∃r r',FA.lookR h.rooms x=some r/\FA.lookR h'.rooms y=some r'/\RR Q r r'
 nb:∀x y,Q x y->(x≠MH "back"/\x≠MH "")/\y≠MH "back"/\y≠MH ""
 fst:Q h.first h'.first
 cm:∀x y,Q x y->comeGo h.rooms hour 20 x=some (cmS h hour x)
def Bk (Q:Str->Str->Prop) (b b':Str):Prop:=(b=MH ""/\b'=MH "")\/Q b b'
structure SR(Q:Str->Str->Prop)(s s':St):Prop where
 r:Q s.r s'.r
 b:Bk Q s.b s'.b
 w:s.w=s'.w
 v:s.v=s'.v
 t:s.t=s'.t
inductive OR (Q:Str->Str->Prop):Option (Option Str)->Option (Option Str)->Prop
 | non:OR Q none none
 | pre:OR Q (some none) (some none)
 | tgt (x y:Str) (q:Tg Q x y):OR Q (some (some x)) (some (some y))
theorem Fe{Q:Str->Str->Prop}(l:List (Str×Str×Str))(k:∀p∈l,Tg Q p.2.1 p.2.2)(c:Nat):OR Q (mF (l.map fun p=>(p.1,p.2.1)) c) (mF (l.map fun p=>(p.1,p.2.2)) c):=by
 unfold mF;rw[OH,OH];have u1:((fun q:Str×Str=>decide (q.1=(⟨#[c]⟩:Str))) ∘ fun p:Str×Str×Str=>(p.1,p.2.1))=fun p=>decide (p.1=(⟨#[c]⟩:Str)):=rfl;have u2:((fun q:Str×Str=>decide (q.1=(⟨#[c]⟩:Str))) ∘ fun p:Str×Str×Str=>(p.1,p.2.2))=fun p=>decide (p.1=(⟨#[c]⟩:Str)):=rfl;rw[u1,u2];cases e:l.find? fun p=>decide (p.1=(⟨#[c]⟩:Str)) with
 | none=>exact .non
 | some p=>exact .tgt _ _ (k p (NF e))
theorem Fd[LX]{Q:Str->Str->Prop}(l:List (W×Str×Str))(k:∀p∈l,Q p.2.1 p.2.2)(t:W):OR Q (nF ((l.map fun p=>(mkS p.1,p.2.1)).map unw) t) (nF ((l.map fun p=>(mkS p.1,p.2.2)).map unw) t):=by
 have v1:(l.map fun p=>(mkS p.1,p.2.1)).map unw=l.map fun p=>(p.1,p.2.1):=by
  have e:l.map (fun p=>(mkS p.1,p.2.1))=(l.map fun p=>(p.1,p.2.1)).map mw2:=by rw[MV];rfl
  rw[e,ve]
 have v2:(l.map fun p=>(mkS p.1,p.2.2)).map unw=l.map fun p=>(p.1,p.2.2):=by
  have e:l.map (fun p=>(mkS p.1,p.2.2))=(l.map fun p=>(p.1,p.2.2)).map mw2:=by rw[MV];rfl
  rw[e,ve]
 rw[v1,v2]
 have b1:∀w,beg (l.map fun p=>(p.1,p.2.1)) w=own ((l.map (·.1)).map (cdH LS5)) (cdH LS5 w):=fun w=>by
  have e:(l.map fun p=>(p.1,p.2.1)).map (·.1)=l.map (·.1):=by rw[MV];rfl
  unfold beg;rw[e]
 have b2:∀w,beg (l.map fun p=>(p.1,p.2.2)) w=own ((l.map (·.1)).map (cdH LS5)) (cdH LS5 w):=fun w=>by
  have e:(l.map fun p=>(p.1,p.2.2)).map (·.1)=l.map (·.1):=by rw[MV];rfl
  unfold beg;rw[e]
 unfold nF;rw[OH,OH]
 have u1:(fits (l.map fun p=>(p.1,p.2.1)) t ∘ fun p:W×Str×Str=>(p.1,p.2.1))=fun p=>decide ((own ((l.map (·.1)).map (cdH LS5)) (cdH LS5 p.1)).take t.length=t):=by
  funext p
  show decide ((beg (l.map fun p=>(p.1,p.2.1)) p.1).take t.length=t)=_;rw[b1]
 have u2:(fits (l.map fun p=>(p.1,p.2.2)) t ∘ fun p:W×Str×Str=>(p.1,p.2.2))=fun p=>decide ((own ((l.map (·.1)).map (cdH LS5)) (cdH LS5 p.1)).take t.length=t):=by
  funext p
  show decide ((beg (l.map fun p=>(p.1,p.2.2)) p.1).take t.length=t)=_;rw[b2]
 rw[u1,u2];cases e:l.find? fun p=>decide ((own ((l.map (·.1)).map (cdH LS5)) (cdH LS5 p.1)).take t.length=t) with
 | none=>exact .non
 | some p=>
  show OR Q (some (if beg (l.map fun p=>(p.1,p.2.1)) p.1=t then some p.2.1 else none)) (some (if beg (l.map fun p=>(p.1,p.2.2)) p.1=t then some p.2.2 else none));rw[b1,b2]
  by_cases c:own ((l.map (·.1)).map (cdH LS5)) (cdH LS5 p.1)=t
  ·rw[if_pos c,if_pos c]
   exact .tgt _ _ (.inr (k p (NF e)))
  ·rw[if_neg c,if_neg c]
   exact .pre
section
variable{h h' : House}{hour : Int}{Q : Str → Str → Prop}(S : Sim h h' hour Q)
include S
theorem sr:∀(n:Nat)(x y a:Str),Q x y->comeGo h.rooms hour n x=some a->∃b,comeGo h'.rooms hour n y=some b/\Q a b
 | 0,x,y,a,q,e=>by cases e
 | n+1,x,y,a,q,e=>by
  obtain⟨r,r',e1,e2,rr⟩:=S.rm x y q;unfold comeGo at e ⊢;rw[e1] at e;rw[e2];cases r with
  | hours sp l=>
   cases r' with
   | hours sp' l'=>
    obtain⟨⟨m,rfl,rfl,hm⟩,hl⟩:=rr
    have hq:Q (FA.handOf (m.map fun p=>(p.1,p.2.1,p.2.2.1)) l hour) (FA.handOf (m.map fun p=>(p.1,p.2.1,p.2.2.2)) l' hour):=by
     unfold FA.handOf;rw[OH,OH];have u1:(FA.holds hour ∘ fun p:Int×Int×Str×Str=>(p.1,p.2.1,p.2.2.1))=fun p=>decide (p.1<=hour) && decide (hour<p.2.1):=rfl;have u2:(FA.holds hour ∘ fun p:Int×Int×Str×Str=>(p.1,p.2.1,p.2.2.2))=fun p=>decide (p.1<=hour) && decide (hour<p.2.1):=rfl;rw[u1,u2];cases e:m.find? fun p=>decide (p.1<=hour) && decide (hour<p.2.1) with
     | none=>exact hl
     | some p=>exact hm p (NF e)
    exact sr n _ _ a hq e
   | menu=>exact rr.elim
   | names=>exact rr.elim
   | hand=>exact rr.elim
   | fin=>exact rr.elim
  | menu=>cases r' with
   | menu=>cases e;exact⟨y,rfl,q⟩
   | hours=>exact rr.elim
   | names=>exact rr.elim
   | hand=>exact rr.elim
   | fin=>exact rr.elim
  | names=>cases r' with
   | names=>cases e;exact⟨y,rfl,q⟩
   | hours=>exact rr.elim
   | menu=>exact rr.elim
   | hand=>exact rr.elim
   | fin=>exact rr.elim
  | hand=>cases r' with
   | hand=>cases e;exact⟨y,rfl,q⟩
   | hours=>exact rr.elim
   | menu=>exact rr.elim
   | names=>exact rr.elim
   | fin=>exact rr.elim
  | fin=>cases r' with
   | fin=>cases e;exact⟨y,rfl,q⟩
   | hours=>exact rr.elim
   | menu=>exact rr.elim
   | names=>exact rr.elim
   | hand=>exact rr.elim
theorem Fg(x y:Str)(q:Q x y):Q (cmS h hour x) (cmS h' hour y):=by
 obtain⟨b,e,hb⟩:=sr S 20 x y _ q (S.cm x y q);have:cmS h' hour y=b:=by unfold cmS;rw[e];rfl
 rw[this];exact hb
theorem pB(x y b b':Str)(q:Q x y)(k:Bk Q b b'):SR Q (arS h hour x b) (arS h' hour y b'):=⟨Fg S x y q,k,rfl,rfl,rfl⟩
theorem AI{s s':St}(R:SR Q s s')(wr wr':Int×Str)(e:wr.1=wr'.1)(q:Q wr.2 wr'.2):SR Q (wrS h hour s.r s.b s.w s.v wr) (wrS h' hour s'.r s'.b s'.w s'.v wr'):=by
 unfold wrS;rw[← R.w,← e]
 by_cases c:s.w+1=wr.1
 ·rw[if_pos c,if_pos c]
  exact pB S _ _ _ _ q (.inr R.r)
 ·rw[if_neg c,if_neg c]
  exact⟨R.r,R.b,rfl,R.v,rfl⟩
theorem AJ{s s':St}(R:SR Q s s')(wa wa':Int×Str)(e:wa.1=wa'.1)(q:Q wa.2 wa'.2):SR Q (waS h hour s.r s.b s.w s.v wa) (waS h' hour s'.r s'.b s'.w s'.v wa'):=by
 unfold waS;rw[← R.v,← e]
 by_cases c:s.v+1=wa.1
 ·rw[if_pos c,if_pos c]
  exact pB S _ _ _ _ q (.inr R.r)
 ·rw[if_neg c,if_neg c]
  exact⟨R.r,R.b,R.w,rfl,rfl⟩
theorem AK{s s':St}(R:SR Q s s')(wr wr':Int×Str)(e:wr.1=wr'.1)(q:Q wr.2 wr'.2)(o o':Option (Option Str))(k:OR Q o o')(t:W):SR Q (goS h hour s.r s.b s.w s.v wr o t) (goS h' hour s'.r s'.b s'.w s'.v wr' o' t):=by
 cases k with
 | non=>exact AI S R wr wr' e q
 | pre=>exact⟨R.r,R.b,R.w,R.v,rfl⟩
 | tgt x y k=>
  show SR Q (if x=MH "back" then (if s.b=MH "" then wrS h hour s.r s.b s.w s.v wr else arS h hour s.b s.r) else arS h hour x s.r) (if y=MH "back" then (if s'.b=MH "" then wrS h' hour s'.r s'.b s'.w s'.v wr' else arS h' hour s'.b s'.r) else arS h' hour y s'.r);rcases k with⟨k1,k2⟩ | k
  ·rw[if_pos k1,if_pos k2]
   rcases R.b with⟨b1,b2⟩ | b
   ·rw[if_pos b1,if_pos b2]
    exact AI S R wr wr' e q
   ·rw[if_neg (S.nb _ _ b).1.2,if_neg (S.nb _ _ b).2.2]
    exact pB S _ _ _ _ b (.inr R.r)
  ·rw[if_neg (S.nb _ _ k).1.1,if_neg (S.nb _ _ k).2.1]
   exact pB S _ _ _ _ k (.inr R.r)
theorem C5[LX]{s s':St}(R:SR Q s s')(c:Nat):SR Q (stp h hour s c) (stp h' hour s' c):=by
 obtain⟨r,r',e1,e2,rr⟩:=S.rm _ _ R.r;unfold stp;rw[e1,e2];cases r with
 | menu t ks wr wa=>cases r' with
  | menu t' ks' wr' wa'=>
   obtain⟨_,⟨l,rfl,rfl,hl⟩,⟨w1,w2⟩,v1,v2⟩:=rr;show SR Q (if c=119 then _ else _) (if c=119 then _ else _)
   by_cases hc:c=119
   ·rw[if_pos hc,if_pos hc]
    exact AJ S R wa wa' v1 v2
   ·rw[if_neg hc,if_neg hc]
    exact AK S R wr wr' w1 w2 _ _ (Fe l hl c) _
  | hours=>exact rr.elim
  | names=>exact rr.elim
  | hand=>exact rr.elim
  | fin=>exact rr.elim
 | names t ks wr wa=>cases r' with
  | names t' ks' wr' wa'=>
   obtain⟨_,⟨l,rfl,rfl,hl⟩,⟨w1,w2⟩,v1,v2⟩:=rr;show SR Q (if c=119 then _ else _) (if c=119 then _ else _)
   by_cases hc:c=119
   ·rw[if_pos hc,if_pos hc]
    exact AJ S R wa wa' v1 v2
   ·rw[if_neg hc,if_neg hc,← R.t]
    exact AK S R wr wr' w1 w2 _ _ (Fd l hl _) _
  | hours=>exact rr.elim
  | menu=>exact rr.elim
  | hand=>exact rr.elim
  | fin=>exact rr.elim
 | hours sp l=>cases r' with
  | hours=>exact R
  | menu=>exact rr.elim
  | names=>exact rr.elim
  | hand=>exact rr.elim
  | fin=>exact rr.elim
 | hand t=>cases r' with
  | hand=>exact R
  | hours=>exact rr.elim
  | menu=>exact rr.elim
  | names=>exact rr.elim
  | fin=>exact rr.elim
 | fin t=>cases r' with
  | fin=>exact R
  | hours=>exact rr.elim
  | menu=>exact rr.elim
  | names=>exact rr.elim
  | hand=>exact rr.elim
theorem Ff{s s':St}(R:SR Q s s'):hP h s=hP h' s':=by
 obtain⟨r,r',e1,e2,rr⟩:=S.rm _ _ R.r;unfold hP;rw[e1,e2];cases r with
 | menu=>cases r' with
  | menu=>obtain⟨e,_⟩:=rr;show (_,_)=(_,_);rw[QT];exact⟨rfl,e⟩
  | hours=>exact rr.elim
  | names=>exact rr.elim
  | hand=>exact rr.elim
  | fin=>exact rr.elim
 | names=>cases r' with
  | names=>obtain⟨e,_⟩:=rr;show (_,_)=(_,_);rw[QT];exact⟨rfl,e⟩
  | hours=>exact rr.elim
  | menu=>exact rr.elim
  | hand=>exact rr.elim
  | fin=>exact rr.elim
 | hours=>cases r' with
  | hours=>rfl
  | menu=>exact rr.elim
  | names=>exact rr.elim
  | hand=>exact rr.elim
  | fin=>exact rr.elim
 | hand=>cases r' with
  | hand=>have e:_=_:=rr;show (_,_)=(_,_);rw[QT];exact⟨rfl,e⟩
  | hours=>exact rr.elim
  | menu=>exact rr.elim
  | names=>exact rr.elim
  | fin=>exact rr.elim
 | fin=>cases r' with
  | fin=>have e:_=_:=rr;show (_,_)=(_,_);rw[QT];exact⟨rfl,e⟩
  | hours=>exact rr.elim
  | menu=>exact rr.elim
  | names=>exact rr.elim
  | hand=>exact rr.elim
theorem yU [LX] {M:Mach h.pv hour} {N:Mach h'.pv hour} (m1:M.lead=lead h hour) (m2:M.hp=hP h) (m3:M.s0=arS h hour h.first "") (n1:N.lead=lead h' hour) (n2:N.hp=hP h') (n3:N.s0=arS h' hour h'.first "") (q:List Nat):rZ M N q:=by
 have go:∀(q:List Nat)(s s':St),SR Q s s'->SR Q (q.foldl (lead h hour) s) (q.foldl (lead h' hour) s'):=by
  intro q
  induction q with
  | nil=>exact fun s s' R=>R
  | cons i q ih=>exact fun s s' R=>ih _ _ (C5 S R (cd i))
 unfold rZ;rw[m1,m2,m3,n1,n2,n3];exact Ff S (go q _ _ (pB S _ _ _ _ S.fst (.inl ⟨rfl,rfl⟩)))
end
def nm (nms:List Str) (i:Nat):Str:=(nms++[MH "back"]).getD i ""
def tI(k:Nat)(b:Bool):Nat:=if k=5 then 7 else if b=true/\k=0 then 5 else if b=true/\k=3 then 6 else k
theorem jS{nms:List Str}(h:nms.length=7)(i:Nat)(hi:i<7):nm nms i∈nms/\atI (nms.map PV.str) (i:Int)=some (.str (nm nms i)):=by
 have e:nm nms i=nms[i]:=by
  unfold nm;rw[MS,ML (by omega),ME (by omega)];rfl
 rw[e];exact⟨N0 _,LG nms i (by omega)⟩
theorem Jn {nms:List Str} (h:nms.length=7):nm nms 7=MH "back":=by
 unfold nm;rw[MS,Mm (by omega),h];rfl
theorem yQ(k:Nat)(hk:k<5)(b:Bool):tI k b<7/\(b=false->tI k b=k):=by
 unfold tI;rw[if_neg (by omega)]
 split
 ·exact⟨by omega,fun e=>by simp_all⟩
 ·split
  ·exact⟨by omega,fun e=>by simp_all⟩
  ·exact⟨by omega,fun _=>rfl⟩
theorem qM{nms:List Str}(h:nms.length=7)(k:Nat)(hk:k<6)(b:Bool):bV [.lst (nms.map .str),.int k,.bl b]=some (.str (nm nms (tI k b))):=by
 obtain⟨n0,n1,n2,n3,n4,n5,n6,rfl⟩:∃n0 n1 n2 n3 n4 n5 n6,nms=[n0,n1,n2,n3,n4,n5,n6]:=by
  match nms,h with
  | [a,b,c,d,e,f,g],_=>exact⟨a,b,c,d,e,f,g,rfl⟩
 cases b with
 | false=>
  match k,hk with
  | 0,_=>rfl
  | 1,_=>rfl
  | 2,_=>rfl
  | 3,_=>rfl
  | 4,_=>rfl
  | 5,_=>rfl
 | true=>
  match k,hk with
  | 0,_=>rfl
  | 1,_=>rfl
  | 2,_=>rfl
  | 3,_=>rfl
  | 4,_=>rfl
  | 5,_=>rfl
def kPv(nms:List Str)(bo:Bool)(p:Nat×Nat×Bool):PV:=.tup [WO.sg p.1,.str (nm nms (tI p.2.1 (bo && p.2.2)))]
def klf(ls:List Int)(e:Nat×Nat):Option (Nat×Nat×Bool):=if ls.getD e.1 0 % 4=0 then some (e.2,(ls.getD (e.1+12) 0 % 6).toNat,decide (ls.getD e.1 0 / 4 % 2=0)) else none
def kl(ls:List Int):List (Nat×Nat×Bool):=E12.filterMap (klf ls)
def md(ls:List Int)(i:Nat)(m:Nat):Nat:=(ls.getD i 0 % (m:Int)).toNat
theorem du(ls:List Int)(i m:Nat)(h:0<m):md ls i m<m:=by
 have h0:=Rj (ls.getD i 0) (b:=(m:Int)) (by omega);have h1:=Tn (ls.getD i 0) (b:=(m:Int)) (by omega);unfold md;omega
theorem je(ls:List Int)(i m:Nat)(h:0<m):eU (.int (ls.getD i 0)) (.int m)=some (.int (md ls i m)):=by
 have h0:=Rj (ls.getD i 0) (b:=(m:Int)) (by omega);have e:((md ls i m:Nat):Int)=ls.getD i 0 % (m:Int):=by unfold md;omega
 rw[iD (by omega),e]
theorem DY(ls:List Int)(k:Nat)(hk:k<ls.length):atI (ls.map PV.int) (k:Int)=some (.int (ls.getD k 0)):=by
 rw[oZ ls k hk,MS,ME hk];rfl
def rC(nms:List Str)(ls:List Int)(bo:Bool):List (Nat×Str):=(kl ls).map fun p=>(p.1,nm nms (tI p.2.1 (bo && p.2.2)))
def bu (nms:List Str) (ls:List Int) (bo:Bool):Room:=.menu "Hello" ((rC nms ls bo).map mk2) (1+ls.getD 24 0 % 2,nm nms (tI (md ls 25 5) bo)) (1,nm nms (tI (md ls 27 5) (bo && decide (ls.getD 28 0 % 2=0))))
abbrev mst(nms:List Str)(ls:List Int)(bo:Bool)(kt:List (Nat×Nat×Bool))(a b c:Sl):PSt:=[.val (.lst (nms.map .str)),.val (.lst (ls.map .int)),.val (.bl bo),.own (.lst (kt.map (kPv nms bo))),a,b,c,.no,.no]
theorem wj{nms:List Str}(h:nms.length=7)(ls:List Int)(hl:ls.length=30)(bo:Bool):fL [.lst (nms.map .str),.lst (ls.map .int),.bl bo]=some (bu nms ls bo).pv:=by
 obtain⟨ρ',f1,a,b,c,rfl⟩:=forM (enc:=e12) (xs:=E12) (h:=ir 2 (aO (av 4) (aO (av 5) iu))) (g:=cQ) (ρ:=mst nms ls bo [] .no .no .no)
  (I:=fun pre ρ=>∃a b c,ρ=mst nms ls bo (pre.filterMap (klf ls)) a b c) ⟨_,_,_,rfl⟩ (by
   rintro pre p post ρ hx ⟨a,b,c,rfl⟩;have hp:p.1<12:=H9 p (by rw[hx];simp);have hE:E12.length=12:=rfl
   have hkl:(pre.filterMap (klf ls)).length<=12:=by
    have e1:=S8 (klf ls) pre;have e2:=congrArg O8 hx;rw[Mi] at e2;omega
   have i1:=DY ls p.1 (by omega);have i2:=DY ls (p.1+12) (by omega);have n2:((p.1+12:Nat):Int)=(p.1:Int)+12:=by omega
   rw[n2] at i2;have ek:(pre++[p]).filterMap (klf ls)=pre.filterMap (klf ls)++[p].filterMap (klf ls):=List.filterMap_append;have z:((pre.filterMap (klf ls)).map (kPv nms bo)).length<16777216:=by rw[MG];omega
   have fx:klf ls p=if ls.getD p.1 0 % 4=0 then some (p.2,(ls.getD (p.1+12) 0 % 6).toNat,decide (ls.getD p.1 0 / 4 % 2=0)) else none:=rfl
   generalize ls.getD p.1 0=x at i1 fx;generalize ls.getD (p.1+12) 0=y at i2 fx;have d4:eU (.int x) (.int 4)=some (.int (x % 4)):=iD (by decide);have q4:Ds (.int x) (.int 4)=some (.int (x / 4)):=yK (by decide);have d2:eU (.int (x / 4)) (.int 2)=some (.int (x / 4 % 2)):=iD (by decide)
   have d6:eU (.int y) (.int 6)=some (.int ((y % 6).toNat:Nat)):=by
    rw[iD (by decide)]
    congr 2
    omega
   have hk:(y % 6).toNat<6:=by omega
   generalize (y % 6).toNat=k at d6 hk fx
   by_cases g1:x % 4=0
   ·rw[if_pos g1] at fx
    have e1:[p].filterMap (klf ls)=[(p.2,k,decide (x / 4 % 2=0))]:=by simp[fx]
    rw[e1] at ek;have te:=qM h k hk (bo && decide (x / 4 % 2=0));refine⟨mst nms ls bo (pre.filterMap (klf ls)) (.val (.int p.1)) (.val (WO.sg p.2)) c,mst nms ls bo ((pre++[p]).filterMap (klf ls)) (.val (.int p.1)) (.val (WO.sg p.2)) (.val (.bl (bo && decide (x / 4 % 2=0)))),rfl,.inl ?_,_,_,_,rfl⟩;have e:((pre++[p]).filterMap (klf ls)).map (kPv nms bo)=(pre.filterMap (klf ls)).map (kPv nms bo)++[.tup [WO.sg p.2,.str (nm nms (tI k (bo && decide (x / 4 % 2=0))))]]:=by rw[ek,Mc];rfl
    simp only[mst,e];generalize (pre.filterMap (klf ls)).map (kPv nms bo)=KT at *;generalize nms.map PV.str=NN at *;generalize ls.map PV.int=LN at *;generalize nm nms (tI k (bo && decide (x / 4 % 2=0)))=TT at *;cases bo with
    | false=>
     have te:bV [.lst NN,.int k,.bl false]=some (.str TT):=te;simp[cQ,i1,i2,d4,q4,d2,d6,g1,z,te]
    | true=>
     have te:bV [.lst NN,.int k,.bl (decide (x / 4 % 2=0))]=some (.str TT):=by simpa using te
     simp[cQ,i1,i2,d4,q4,d2,d6,g1,z,te]
   ·rw[if_neg g1] at fx
    have e1:[p].filterMap (klf ls)=[]:=by simp[fx]
    rw[e1,NH] at ek;refine⟨mst nms ls bo (pre.filterMap (klf ls)) (.val (.int p.1)) (.val (WO.sg p.2)) c,mst nms ls bo ((pre++[p]).filterMap (klf ls)) (.val (.int p.1)) (.val (WO.sg p.2)) c,rfl,.inl ?_,_,_,_,rfl⟩;rw[ek];simp only[mst];generalize (pre.filterMap (klf ls)).map (kPv nms bo)=KT at *;generalize nms.map PV.str=NN at *;generalize ls.map PV.int=LN at *;simp[cQ,i1,d4,g1])
 have i24:atI (ls.map PV.int) 24=some (.int (ls.getD 24 0)):=DY ls 24 (by omega);have i25:atI (ls.map PV.int) 25=some (.int (ls.getD 25 0)):=DY ls 25 (by omega);have i27:atI (ls.map PV.int) 27=some (.int (ls.getD 27 0)):=DY ls 27 (by omega);have i28:atI (ls.map PV.int) 28=some (.int (ls.getD 28 0)):=DY ls 28 (by omega);have d25:eU (.int (ls.getD 25 0)) (.int 5)=some (.int (md ls 25 5)):=je ls 25 5 (by omega);have d27:eU (.int (ls.getD 27 0)) (.int 5)=some (.int (md ls 27 5)):=je ls 27 5 (by omega);have t25:=qM h (md ls 25 5) (by have:=du ls 25 5 (by omega);omega) bo;have t27:=qM h (md ls 27 5) (by have:=du ls 27 5 (by omega);omega) (bo && decide (ls.getD 28 0 % 2=0))
 have pv0:(bu nms ls bo).pv=.tup [.str "menu",.str "Hello",.tup ((kl ls).map (kPv nms bo)),.tup [.int (1+ls.getD 24 0 % 2),.str (nm nms (tI (md ls 25 5) bo))],.tup [.int 1,.str (nm nms (tI (md ls 27 5) (bo && decide (ls.getD 28 0 % 2=0))))]]:=by
  show PV.tup [.str "menu",.str "Hello",.tup (((rC nms ls bo).map mk2).map pv2),pvI _,pvI _]=_;unfold rC;rw[B3,MV];rfl
 have zl:((kl ls).map (kPv nms bo)).length<=16777216:=by
  have e1:(kl ls).length<=_:=S8 (klf ls) E12;have hE:E12.length=12:=rfl;rw[MG];omega
 rw[pv0];have ee:=Ha;have f1:gT _ cQ (E12.map e12) [.val (.lst (nms.map .str)),.val (.lst (ls.map .int)),.val (.bl bo),.own (.lst []),.no,.no,.no,.no,.no]=.ok (.next [.val (.lst (nms.map .str)),.val (.lst (ls.map .int)),.val (.bl bo),.own (.lst ((kl ls).map (kPv nms bo))),a,b,c,.no,.no]):=f1;generalize ls.getD 24 0=x24 at *;generalize ls.getD 25 0=x25 at *;generalize ls.getD 27 0=x27 at *;generalize ls.getD 28 0=x28 at *;generalize md ls 25 5=y25 at *;generalize md ls 27 5=y27 at *;have d24:eU (.int x24) (.int 2)=some (.int (x24 % 2)):=iD (by decide);have d28:eU (.int x28) (.int 2)=some (.int (x28 % 2)):=iD (by decide);generalize E12.map e12=EE at *;generalize (kl ls).map (kPv nms bo)=KT at *;generalize nms.map PV.str=NN at *;generalize ls.map PV.int=LN at *;generalize nm nms (tI y25 bo)=T1 at *;generalize nm nms (tI y27 (bo && decide (x28 % 2=0)))=T2 at *;refine aC rfl ?_;simp[jW,PU.start,ee];rw[f1];cases bo with
 | false=>
  have t27:bV [.lst NN,.int y27,.bl false]=some (.str T2):=t27;simp[i24,i25,i27,d24,d25,d27,t25,t27,zl]
 | true=>
  have t27:bV [.lst NN,.int y27,.bl (decide (x28 % 2=0))]=some (.str T2):=by simpa using t27
  simp[i24,i25,i27,i28,d24,d25,d27,d28,t25,t27,zl]
def Km(p:PV)(q:Option Int×Option Int):R PV:=R.ofO (I8 p q.1 q.2)
@[simp] theorem Hw{f:PSt->R PV}{ρ:PSt}{l h:PSt->R (Option Int)}:so f l h ρ=nZ Km (f ρ) (nZ uq (l ρ) (h ρ)):=by unfold so;cases f ρ <;> cases l ρ <;> cases h ρ <;> rfl
def wL(ms:List Int)(bo:Bool):List (W×Nat):=if ms.getD 2 0 % 2=0 then [([98,111],tI (md ms 0 5) bo)] else [([98,111],tI (md ms 0 5) bo),([108,101,101],md ms 1 5)]
def wS(nms:List Str)(ms:List Int)(bo:Bool):List (W×Str):=(wL ms bo).map fun p=>(p.1,nm nms p.2)
def bz (nms:List Str) (ms:List Int) (bo:Bool):Room:=.names "Spell" ((wS nms ms bo).map mw2) (1,nm nms (md ms 4 5)) (1,nm nms (tI (md ms 8 5) bo))
def o3(c k:Nat):Nat:=[0,1,c].getD k 0
theorem uv(c k:Nat)(hc:c<5)(hk:k<3):o3 c k<5/\(c≠2->o3 c k≠2):=by
 match k,hk with
 | 0,_=>exact⟨by show 0<5;omega,fun _=>by show 0≠2;omega⟩
 | 1,_=>exact⟨by show 1<5;omega,fun _=>by show 1≠2;omega⟩
 | 2,_=>exact⟨hc,id⟩
theorem FW(c k:Nat)(hk:k<3):gIx (.lst [.int 0,.int 1,.int c]) (.int k)=some (.int (o3 c k:Nat)):=by
 match k,hk with
 | 0,_=>rfl
 | 1,_=>rfl
 | 2,_=>rfl
def c7(nms:List Str)(ms:List Int)(bo:Bool):Room:=.hours [(ms.getD 5 0 % 24,24,nm nms (tI (o3 3 (md ms 6 3)) bo))] (nm nms (o3 4 (md ms 9 3)))
def Fq (nms:List Str) (ls ms:List Int) (bo:Bool):FA.Rooms:=[(nm nms 0,bu nms ls bo),(nm nms 1,bz nms ms bo),(nm nms 2,c7 nms ms bo),(nm nms 3,.hand "Ann"),(nm nms 4,.fin "Bye")]++if bo=true then [(nm nms 5,bu nms ls false),(nm nms 6,.hand "Ann")] else []
def hou(nms:List Str)(ls ms:List Int)(bo:Bool):House:=⟨nm nms (tI (md ms 10 5) bo),ltS LSa,Fq nms ls ms bo⟩
theorem eJ(rs:FA.Rooms)(k:Str)(r:Room)(h:k ∉ FA.names rs):iJ (rs.map fun r=>.inr r.1) (rs.map fun r=>r.2.pv) (.inr k) r.pv=aD (rs++[(k,r)]):=by
 rw[Co];unfold J4;exact congrArg _ (if_neg h)
theorem yi(rs:FA.Rooms)(k:Str)(r:Room)(h:k ∉ FA.names rs):Aq (aD rs) (.inr k,r.pv)=aD (rs++[(k,r)]):=eJ rs k r h
theorem CO{nms:List Str}(h:nms.length=7)(nd:nms.Nodup)(i j:Nat)(hi:i<7)(hj:j<7)(hij:i≠j):nm nms i≠nm nms j:=fun e=>by
 have e1:∀i,(hi:i<7)->nm nms i=nms[i]:=fun i hi=>by
  unfold nm;rw[MS,ML (by omega),ME (by omega)];rfl
 rw[e1 i hi,e1 j hj] at e;exact hij ((RT nd).mp e)
theorem slw (t0 t1:Str) (z:Int):I8 (.tup [.tup [.str "bo",.str t0],.tup [.str "lee",.str t1]]) none (some (1+z % 2))=some (.tup ((((if z % 2=0 then [([98,111],t0)] else [([98,111],t0),([108,101,101],t1)]):List (W×Str)).map mw2).map pv2)):=by
 have eb:(MH "bo")=mkS [98,111]:=by decide +kernel
 have ee:(MH "lee")=mkS [108,101,101]:=by decide +kernel
 rw[eb,ee];obtain⟨k,hk,hk9⟩:∃k:Nat,z % 2=(k:Int)/\k<2:=⟨(z % 2).toNat,by omega,by omega⟩;rw[hk]
 match k,hk9 with
 | 0,_=>rfl
 | 1,_=>rfl
theorem t9{nms:List Str}(h:nms.length=7)(nd:nms.Nodup)(NS:PV)(z1 z2:Int)(c1:aA [NS,.int 1]=some (.int z1))(c2:aA [NS,.int 2]=some (.int z2))(ls ms:List Int)(l1:ls.length=30)(m1:ms.length=16)
  (el:b9 [.int z1,.int 30]=some (.lst (ls.map .int))) (em:b9 [.int z2,.int 16]=some (.lst (ms.map .int))) (bo:Bool):eO [NS,.lst (nms.map .str),.bl bo]=some (hou nms ls ms bo).pv:=by
 have j:∀(k:Nat),k<16->atI (ms.map PV.int) (k:Int)=some (.int (ms.getD k 0)):=fun k hk=>DY ms k (by omega);have j0:atI (ms.map PV.int) 0=_:=j 0 (by decide);have j1:atI (ms.map PV.int) 1=_:=j 1 (by decide);have j2:atI (ms.map PV.int) 2=_:=j 2 (by decide);have j4:atI (ms.map PV.int) 4=_:=j 4 (by decide);have j5:atI (ms.map PV.int) 5=_:=j 5 (by decide);have j6:atI (ms.map PV.int) 6=_:=j 6 (by decide);have j8:atI (ms.map PV.int) 8=_:=j 8 (by decide);have j9:atI (ms.map PV.int) 9=_:=j 9 (by decide);have j10:atI (ms.map PV.int) 10=_:=j 10 (by decide);clear j;have d0:eU (.int (ms.getD 0 0)) (.int 5)=_:=je ms 0 5 (by omega);have d1:eU (.int (ms.getD 1 0)) (.int 5)=_:=je ms 1 5 (by omega);have d2:eU (.int (ms.getD 2 0)) (.int 2)=some (.int (ms.getD 2 0 % 2)):=iD (by decide);have d4:eU (.int (ms.getD 4 0)) (.int 5)=_:=je ms 4 5 (by omega);have d5:eU (.int (ms.getD 5 0)) (.int 24)=some (.int (ms.getD 5 0 % 24)):=iD (by decide);have d6:eU (.int (ms.getD 6 0)) (.int 3)=_:=je ms 6 3 (by omega);have d8:eU (.int (ms.getD 8 0)) (.int 5)=_:=je ms 8 5 (by omega);have d9:eU (.int (ms.getD 9 0)) (.int 3)=_:=je ms 9 3 (by omega);have d10:eU (.int (ms.getD 10 0)) (.int 5)=_:=je ms 10 5 (by omega);have lt0:=du ms 0 5 (by omega);have lt1:=du ms 1 5 (by omega);have lt4:=du ms 4 5 (by omega);have lt6:=du ms 6 3 (by omega);have lt8:=du ms 8 5 (by omega);have lt9:=du ms 9 3 (by omega);have lt10:=du ms 10 5 (by omega);have t0:=qM h (md ms 0 5) (by omega) bo;have t8:=qM h (md ms 8 5) (by omega) bo;have t10:=qM h (md ms 10 5) (by omega) bo;have s6:=(uv 3 _ (by omega) lt6).1;have s9:=(uv 4 _ (by omega) lt9).1;have t6:=qM h (o3 3 (md ms 6 3)) (by omega) bo;have x6:atI [PV.int 0,.int 1,.int 3] (md ms 6 3)=_:=FW 3 (md ms 6 3) lt6;have x9:atI [PV.int 0,.int 1,.int 4] (md ms 9 3)=_:=FW 4 (md ms 9 3) lt9;have a1:=(jS h (md ms 1 5) (by omega)).2;have a4:=(jS h (md ms 4 5) (by omega)).2;have a9:=(jS h (o3 4 (md ms 9 3)) (by omega)).2;have b0:atI (nms.map PV.str) 0=_:=(jS h 0 (by omega)).2;have b1:atI (nms.map PV.str) 1=_:=(jS h 1 (by omega)).2;have b2:atI (nms.map PV.str) 2=_:=(jS h 2 (by omega)).2;have b3:atI (nms.map PV.str) 3=_:=(jS h 3 (by omega)).2;have b4:atI (nms.map PV.str) 4=_:=(jS h 4 (by omega)).2;have b5:atI (nms.map PV.str) 5=_:=(jS h 5 (by omega)).2;have b6:atI (nms.map PV.str) 6=_:=(jS h 6 (by omega)).2;have me:=wj h ls l1 bo;have mf:=wj h ls l1 false;have ne:=fun i j hi hj=>CO h nd i j hi hj;have sl:=slw (nm nms (tI (md ms 0 5) bo)) (nm nms (md ms 1 5)) (ms.getD 2 0);have pvn:(bz nms ms bo).pv=.tup [.str "names",.str "Spell",.tup (((wS nms ms bo).map mw2).map pv2),.tup [.int 1,.str (nm nms (md ms 4 5))],.tup [.int 1,.str (nm nms (tI (md ms 8 5) bo))]]:=rfl
 have ws:wS nms ms bo=if ms.getD 2 0 % 2=0 then [([98,111],nm nms (tI (md ms 0 5) bo))] else [([98,111],nm nms (tI (md ms 0 5) bo)),([108,101,101],nm nms (md ms 1 5))]:=by
  unfold wS wL
  split <;> rfl
 rw[← ws] at sl;have pvh:(c7 nms ms bo).pv=.tup [.str "hours",.tup [.tup [.int (ms.getD 5 0 % 24),.int 24,.str (nm nms (tI (o3 3 (md ms 6 3)) bo))]],.str (nm nms (o3 4 (md ms 9 3)))]:=rfl;have hL:=lpa;have uH:(hou nms ls ms bo).pv=.dct [.inr "first",.inr "letters",.inr "rooms"] [.str (nm nms (tI (md ms 10 5) bo)),WO.ltPv LSa,aD (Fq nms ls ms bo)]:=by rw[← B7];rfl
 rw[uH];have p1:=yi [] (nm nms 0) (bu nms ls bo) (by simp[FA.names]);have p2:=yi [(nm nms 0,bu nms ls bo)] (nm nms 1) (bz nms ms bo) (by simp[FA.names,ne]);have p3:=eJ [(nm nms 0,bu nms ls bo),(nm nms 1,bz nms ms bo)] (nm nms 2) (c7 nms ms bo) (by simp[FA.names,ne]);have p4:=eJ [(nm nms 0,bu nms ls bo),(nm nms 1,bz nms ms bo),(nm nms 2,c7 nms ms bo)] (nm nms 3) (.hand "Ann") (by simp[FA.names,ne]);have p5:=eJ [(nm nms 0,bu nms ls bo),(nm nms 1,bz nms ms bo),(nm nms 2,c7 nms ms bo),(nm nms 3,.hand "Ann")] (nm nms 4) (.fin "Bye") (by simp[FA.names,ne]);have p6:=eJ [(nm nms 0,bu nms ls bo),(nm nms 1,bz nms ms bo),(nm nms 2,c7 nms ms bo),(nm nms 3,.hand "Ann"),(nm nms 4,.fin "Bye")] (nm nms 5) (bu nms ls false) (by simp[FA.names,ne]);have p7:=eJ [(nm nms 0,bu nms ls bo),(nm nms 1,bz nms ms bo),(nm nms 2,c7 nms ms bo),(nm nms 3,.hand "Ann"),(nm nms 4,.fin "Bye"),(nm nms 5,bu nms ls false)] (nm nms 6) (.hand "Ann") (by simp[FA.names,ne]);have k4:(Room.hand "Ann").pv=.tup [.str "hand",.str "Ann"]:=rfl;have k5:(Room.fin "Bye").pv=.tup [.str "end",.str "Bye"]:=rfl;have e0:aD []=.dct [] []:=rfl;simp only[Pi,OI] at p1 p2 p3 p4 p5 p6 p7;rw[e0] at p1;have u2:=l6 [(nm nms 0,bu nms ls bo),(nm nms 1,bz nms ms bo)];have u3:=l6 [(nm nms 0,bu nms ls bo),(nm nms 1,bz nms ms bo),(nm nms 2,c7 nms ms bo)];have u4:=l6 [(nm nms 0,bu nms ls bo),(nm nms 1,bz nms ms bo),(nm nms 2,c7 nms ms bo),(nm nms 3,.hand "Ann")];have u5:=l6 [(nm nms 0,bu nms ls bo),(nm nms 1,bz nms ms bo),(nm nms 2,c7 nms ms bo),(nm nms 3,.hand "Ann"),(nm nms 4,.fin "Bye")];have u6:=l6 [(nm nms 0,bu nms ls bo),(nm nms 1,bz nms ms bo),(nm nms 2,c7 nms ms bo),(nm nms 3,.hand "Ann"),(nm nms 4,.fin "Bye"),(nm nms 5,bu nms ls false)];obtain⟨R2,hR2⟩:∃R2,R2=[(nm nms 0,bu nms ls bo),(nm nms 1,bz nms ms bo)]:=⟨_,rfl⟩;obtain⟨R3,hR3⟩:∃R3,R3=[(nm nms 0,bu nms ls bo),(nm nms 1,bz nms ms bo),(nm nms 2,c7 nms ms bo)]:=⟨_,rfl⟩;obtain⟨R4,hR4⟩:∃R4,R4=[(nm nms 0,bu nms ls bo),(nm nms 1,bz nms ms bo),(nm nms 2,c7 nms ms bo),(nm nms 3,Room.hand "Ann")]:=⟨_,rfl⟩;obtain⟨R5,hR5⟩:∃R5,R5=[(nm nms 0,bu nms ls bo),(nm nms 1,bz nms ms bo),(nm nms 2,c7 nms ms bo),(nm nms 3,Room.hand "Ann"),(nm nms 4,.fin "Bye")]:=⟨_,rfl⟩;obtain⟨R6,hR6⟩:∃R6,R6=[(nm nms 0,bu nms ls bo),(nm nms 1,bz nms ms bo),(nm nms 2,c7 nms ms bo),(nm nms 3,Room.hand "Ann"),(nm nms 4,.fin "Bye"),(nm nms 5,bu nms ls false)]:=⟨_,rfl⟩;obtain⟨R7,hR7⟩:∃R7,R7=[(nm nms 0,bu nms ls bo),(nm nms 1,bz nms ms bo),(nm nms 2,c7 nms ms bo),(nm nms 3,Room.hand "Ann"),(nm nms 4,.fin "Bye"),(nm nms 5,bu nms ls false),(nm nms 6,.hand "Ann")]:=⟨_,rfl⟩
 have hf:Fq nms ls ms bo=if bo=true then R7 else R5:=by
  rw[hR7,hR5];unfold Fq
  split <;> rfl
 rw[hf];have z2:R2.length<16777216:=by rw[hR2];simp
 have z3:R3.length<16777216:=by rw[hR3];simp
 have z4:R4.length<16777216:=by rw[hR4];simp
 have z5:R5.length<16777216:=by rw[hR5];simp
 have z6:R6.length<16777216:=by rw[hR6];simp
 rw[← hR2] at p2 p3 u2;rw[← hR3] at p3 p4 u3;rw[← hR4] at p4 p5 u4;rw[← hR5] at p5 p6 u5;rw[← hR6] at p6 p7 u6;rw[← hR7] at p7;rw[k4] at p4 p7;rw[k5] at p5;rw[pvh] at p3;rw[pvn] at p2;generalize [(nm nms 0,bu nms ls bo)]=R1 at *;clear hR2 hR3 hR4 hR5 hR6 hR7 hf uH ne nd h l1 m1 ws pvn pvh;generalize ((wS nms ms bo).map mw2).map pv2=WT at *;generalize (bu nms ls bo).pv=M1 at *;generalize (bu nms ls false).pv=M2 at *;generalize nm nms (tI (md ms 0 5) bo)=T0 at *;generalize nm nms (tI (md ms 8 5) bo)=T8 at *;generalize nm nms (tI (md ms 10 5) bo)=T10 at *;generalize nm nms (tI (o3 3 (md ms 6 3)) bo)=T6 at *;generalize nm nms (o3 4 (md ms 9 3))=T9 at *;generalize nm nms (md ms 1 5)=T1 at *;generalize nm nms (md ms 4 5)=T4 at *;generalize nm nms 0=n0 at *;generalize nm nms 1=n1 at *;generalize nm nms 2=n2 at *;generalize nm nms 3=n3 at *;generalize nm nms 4=n4 at *;generalize nm nms 5=n5 at *;generalize nm nms 6=n6 at *;generalize nms.map PV.str=N at *;generalize ls.map PV.int=LN at *;generalize ms.map PV.int=MN at *;generalize ms.getD 0 0=y0 at *;generalize ms.getD 1 0=y1 at *;generalize ms.getD 2 0=y2 at *;generalize ms.getD 4 0=y4 at *;generalize ms.getD 5 0=y5 at *;generalize ms.getD 6 0=y6 at *;generalize ms.getD 8 0=y8 at *;generalize ms.getD 9 0=y9 at *;generalize ms.getD 10 0=y10 at *;refine aC rfl ?_;simp[iN,PU.start,c1,c2,el,em,j0,j1,j2,d0,d1,d2,t0,a1,uq,Km,sl,j4,j8,d4,d8,a4,t8,j5,j6,d5,d6,x6,t6,b0,b1,me,oD,p1,p2];simp[u2,z2,b2,j9,d9,x9,a9,p3];simp[u3,z3,b3,p4];simp[u4,z4,b4,p5];cases bo with
 | false=>simp[hL,j10,d10,t10,gL,iJ]
 | true=>
  simp[u5,z5,b5,mf,p6];simp[u6,z6,b6,p7];simp[hL,j10,d10,t10,gL,iJ]
instance lx:LX:=⟨LSa,.inl rfl⟩
def Vn(nms:List Str)(bo:Bool):List Str:=if bo=true then nms else nms.take 5
theorem Be(ls:List Int):∀l:List (Nat×Nat),P9 ((l.filterMap (klf ls)).map (·.1)) (l.map (·.2))
 | []=>List.Sublist.refl _
 | e::l=>by
  have ih:=Be ls l;rw[OF,MC];unfold klf
  by_cases c:ls.getD e.1 0 % 4=0
  ·rw[if_pos c]
   exact ih.cons₂ _
  ·rw[if_neg c]
   exact ih.cons _
theorem Gj(ls:List Int):∀p∈kl ls,p.2.1<6:=fun p hp=>by
 obtain⟨e,_,he⟩:=Qn.mp hp;unfold klf at he;split at he
 ·cases he
  show (ls.getD (e.1+12) 0 % 6).toNat<6;omega
 ·cases he
section
variable{nms : List Str}(h : nms.length = 7)(nd : nms.Nodup)(ls ms : List Int)
include h
theorem GL(bo:Bool)(i:Nat)(hi:i<7)(hb:bo=true\/i<5):nm nms i∈Vn nms bo:=by
 have e:=(jS h i hi).1;unfold Vn
 split
 ·exact e
 ·rename_i hbo
  have hi5:=hb.resolve_left hbo
  have e1:nm nms i=nms[i]:=by
   unfold nm;rw[MS,ML (by omega),ME (by omega)];rfl
  rw[e1];exact Nl.mpr ⟨i,by omega,rfl⟩
theorem Ei(bo b:Bool)(hb:b=true->bo=true)(k:Nat)(hk:k<5):nm nms (tI k b)∈Vn nms bo:=by
 obtain⟨h1,h2⟩:=yQ k hk b;refine GL h bo _ h1 ?_;cases b with
 | false=>exact .inr (by rw[h2 rfl];exact hk)
 | true=>exact .inl (hb rfl)
theorem vC(bo b:Bool)(hb:b=true->bo=true):RW (Vn nms bo) (bu nms ls b):=by
 refine⟨⟨rC nms ls b,rfl,?_,fun k hk=>?_⟩,Ei h bo b hb _ (du ls 25 5 (by omega)),Ei h bo _ (fun z=>hb (by revert z;cases b <;> simp)) _ (du ls 27 5 (by omega)),⟨?_,?_⟩,⟨?_,?_⟩⟩
 ·have:=Be ls E12
  rw[JO] at this;unfold rC;rw[MV];exact this
 ·obtain⟨p,hp,rfl⟩:=MF.mp hk
  have hlt:=Gj ls p hp;rcases OA p.2.1 5 with z | z
  ·exact .inr (Ei h bo _ (fun y=>hb (by revert y;cases b <;> simp)) _ z)
  ·have e:p.2.1=5:=by omega
   refine .inl ?_;show nm nms (tI p.2.1 _)=_;rw[e];exact Jn h
 ·show 1<=1+ls.getD 24 0 % 2;omega
 ·show 1+ls.getD 24 0 % 2<=2;omega
 ·show (1:Int)<=1;omega
 ·show (1:Int)<=2;omega
theorem yX(bo:Bool):RW (Vn nms bo) (bz nms ms bo):=by
 have l1:=du ms 1 5 (by omega);have l4:=du ms 4 5 (by omega);refine⟨⟨wS nms ms bo,rfl,?_,?_,fun p hp=>?_⟩,GL h bo _ (by omega) (.inr l4),Ei h bo bo id _ (du ms 8 5 (by omega)),⟨?_,?_⟩,⟨?_,?_⟩⟩
 ·unfold wS wL
  split
  ·show P9 [[98,111]] W8
   decide +kernel
  ·show P9 [[98,111],[108,101,101]] W8
   decide +kernel
 ·unfold wS wL
  split <;> simp
 ·unfold wS wL at hp
  have t0:=Ei h bo bo id _ (du ms 0 5 (by omega));have t1:=GL h bo _ (by omega) (.inr l1);split at hp
  ·rw[MQ.mp hp];exact t0
  ·rcases MP.mp hp with e | hp
   ·rw[e];exact t0
   ·rw[MQ.mp hp];exact t1
 ·show (1:Int)<=1;omega
 ·show (1:Int)<=2;omega
 ·show (1:Int)<=1;omega
 ·show (1:Int)<=2;omega
omit h in
theorem L8(k:Nat)(b:Bool)(hk:k≠2)(h5:k<5):tI k b≠2:=by
 unfold tI;rw[if_neg (by omega)]
 split
 ·omega
 ·split
  ·omega
  ·exact hk
include nd
theorem GM (nb:∀x∈nms,x≠MH "back"/\x≠MH "") (bo:Bool):∃ord,HG (hou nms ls ms bo) (Vn nms bo) ord:=by
 have s6:=uv 3 _ (by omega) (du ms 6 3 (by omega));have s9:=uv 4 _ (by omega) (du ms 9 3 (by omega));have q6:=yQ _ s6.1 bo;have n6:=L8 _ bo (s6.2 (by omega)) s6.1;have n9:=s9.2 (by omega);have ft:nm nms (tI (md ms 10 5) bo)∈Vn nms bo:=Ei h bo bo id _ (du ms 10 5 (by omega));have r0:=vC h ls bo bo id;have r5:=vC h ls bo false (fun z=>by cases z);have r1:=yX h ms bo;have inV:=GL h bo
 have lets:gIx (hou nms ls ms bo).pv (.str "letters")=some (WO.ltPv LS5):=by
  have uH:(hou nms ls ms bo).pv=.dct [.inr "first",.inr "letters",.inr "rooms"] [.str (nm nms (tI (md ms 10 5) bo)),WO.ltPv LSa,aD (Fq nms ls ms bo)]:=by rw[← B7];rfl
  rw[uH];have:LS5=LSa:=rfl;rw[this];simp
 have hb6:bo=true\/tI (o3 3 (md ms 6 3)) bo<5:=by
  cases bo with
  | true=>exact .inl rfl
  | false=>exact .inr (by rw[q6.2 rfl];exact s6.1)
 obtain⟨i6,hi6⟩:∃i,i=tI (o3 3 (md ms 6 3)) bo:=⟨_,rfl⟩;obtain⟨i9,hi9⟩:∃i,i=o3 4 (md ms 9 3):=⟨_,rfl⟩;have hr2:c7 nms ms bo=.hours [(ms.getD 5 0 % 24,24,nm nms i6)] (nm nms i9):=by rw[hi6,hi9];rfl
 rw[← hi6] at q6 n6 hb6;rw[← hi9] at s9 n9
 have nbV:∀x∈Vn nms bo,x≠MH "back"/\x≠MH "":=fun x hx=>nb x (by
  unfold Vn at hx;split at hx
  ·exact hx
  ·exact List.mem_of_mem_take hx)
 have hrm:(hou nms ls ms bo).rooms=[(nm nms 0,bu nms ls bo),(nm nms 1,bz nms ms bo),(nm nms 2,c7 nms ms bo),(nm nms 3,.hand "Ann"),(nm nms 4,.fin "Bye")]++if bo=true then [(nm nms 5,bu nms ls false),(nm nms 6,.hand "Ann")] else []:=rfl
 have hft:(hou nms ls ms bo).first=nm nms (tI (md ms 10 5) bo):=rfl;have m0:∀sp l,bu nms ls bo≠.hours sp l:=fun sp l e=>by unfold bu at e;cases e
 have m5:∀sp l,bu nms ls false≠.hours sp l:=fun sp l e=>by unfold bu at e;cases e
 have m1:∀sp l,bz nms ms bo≠.hours sp l:=fun sp l e=>by unfold bz at e;cases e
 generalize bu nms ls bo=A0 at *;generalize bu nms ls false=A5 at *;generalize bz nms ms bo=A1 at *;rw[hr2] at hrm
 obtain⟨n0,n1,n2,n3,n4,n5,n6',rfl⟩:∃n0 n1 n2 n3 n4 n5 n6,nms=[n0,n1,n2,n3,n4,n5,n6]:=by
  match nms,h with
  | [a,b,c,d,e,f,g],_=>exact⟨a,b,c,d,e,f,g,rfl⟩
 generalize hou [n0,n1,n2,n3,n4,n5,n6'] ls ms bo=HH at *;cases bo with
 | false=>
  have nd5:[n0,n1,n2,n3,n4].Nodup:=nd.sublist (Tf 5 [n0,n1,n2,n3,n4,n5,n6']);have hrm:HH.rooms=[(n0,A0),(n1,A1),(n2,.hours [(ms.getD 5 0 % 24,24,nm [n0,n1,n2,n3,n4,n5,n6'] i6)] (nm [n0,n1,n2,n3,n4,n5,n6'] i9)),(n3,.hand "Ann"),(n4,.fin "Bye")]:=hrm;have hV:Vn [n0,n1,n2,n3,n4,n5,n6'] false=[n0,n1,n2,n3,n4]:=rfl;rw[hV] at *;have hb6:i6<5:=hb6.resolve_left (by simp)
  have dr:∀i,i<5->i≠2->nm [n0,n1,n2,n3,n4,n5,n6'] i∈[n2,n0,n1,n3,n4].drop 1:=fun i hi h2=>by
   match i,hi,h2 with
   | 0,_,_=>simp[nm]
   | 1,_,_=>simp[nm]
   | 3,_,_=>simp[nm]
   | 4,_,_=>simp[nm]
  have pm:∀x,x∈[n0,n1,n2,n3,n4] ↔ x∈[n2,n0,n1,n3,n4]:=fun x=>by
   simp only[MP,OG,or_false];constructor
   ·rintro (h | h | h | h | h) <;> simp[h]
   ·rintro (h | h | h | h | h) <;> simp[h]
  refine⟨[n2,n0,n1,n3,n4],⟨?_,by simp,⟨fun r hr=>?_,?_⟩,?_,fun x hx=>(pm x).mp hx,fun x hx=>(pm x).mpr hx,nbV,by rw[hft];exact ft,lets,by rw[hrm];simp,by simp⟩⟩
  ·have p:SH [n0,n1,n2,n3,n4] [n2,n0,n1,n3,n4]:=by
    show SH ([n0,n1]++([n2]++[n3,n4])) ([n2]++([n0,n1]++[n3,n4]));rw[← NQ,← NQ];exact Ri _ Sm
   exact p.nodup_iff.mp nd5
  ·rw[hrm] at hr
   simp only[MP,OG,or_false] at hr;rcases hr with rfl | rfl | rfl | rfl | rfl
   ·exact⟨1,by simp,rfl,fun sp l e=>absurd e (m0 sp l),r0⟩
   ·exact⟨2,by simp,rfl,fun sp l e=>absurd e (m1 sp l),r1⟩
   ·refine⟨0,by simp,rfl,fun sp l e=>?_,trivial⟩
    cases e;exact⟨dr _ s9.1 n9,fun s hs=>by rw[MQ.mp hs];exact dr _ hb6 n6⟩
   ·exact⟨3,by simp,rfl,(fun sp l e=>by cases e),trivial⟩
   ·exact⟨4,by simp,rfl,(fun sp l e=>by cases e),trivial⟩
  ·rw[hrm];exact nd5
  ·intro x hx
   rw[hrm];exact(pm x).mpr hx
 | true=>
  have hrm:HH.rooms=[(n0,A0),(n1,A1),(n2,.hours [(ms.getD 5 0 % 24,24,nm [n0,n1,n2,n3,n4,n5,n6'] i6)] (nm [n0,n1,n2,n3,n4,n5,n6'] i9)),(n3,.hand "Ann"),(n4,.fin "Bye"),(n5,A5),(n6',.hand "Ann")]:=hrm;have hV:Vn [n0,n1,n2,n3,n4,n5,n6'] true=[n0,n1,n2,n3,n4,n5,n6']:=rfl;rw[hV] at *
  have dr:∀i,i<7->i≠2->nm [n0,n1,n2,n3,n4,n5,n6'] i∈[n2,n0,n1,n3,n4,n5,n6'].drop 1:=fun i hi h2=>by
   match i,hi,h2 with
   | 0,_,_=>simp[nm]
   | 1,_,_=>simp[nm]
   | 3,_,_=>simp[nm]
   | 4,_,_=>simp[nm]
   | 5,_,_=>simp[nm]
   | 6,_,_=>simp[nm]
  have pm:∀x,x∈[n0,n1,n2,n3,n4,n5,n6'] ↔ x∈[n2,n0,n1,n3,n4,n5,n6']:=fun x=>by
   simp only[MP,OG,or_false];constructor
   ·rintro (h | h | h | h | h | h | h) <;> simp[h]
   ·rintro (h | h | h | h | h | h | h) <;> simp[h]
  refine⟨[n2,n0,n1,n3,n4,n5,n6'],⟨?_,by simp,⟨fun r hr=>?_,?_⟩,?_,fun x hx=>(pm x).mp hx,fun x hx=>(pm x).mpr hx,nbV,by rw[hft];exact ft,lets,by rw[hrm];simp,by simp⟩⟩
  ·have p:SH [n0,n1,n2,n3,n4,n5,n6'] [n2,n0,n1,n3,n4,n5,n6']:=by
    show SH ([n0,n1]++([n2]++[n3,n4,n5,n6'])) ([n2]++([n0,n1]++[n3,n4,n5,n6']));rw[← NQ,← NQ];exact Ri _ Sm
   exact p.nodup_iff.mp nd
  ·rw[hrm] at hr
   simp only[MP,OG,or_false] at hr;rcases hr with rfl | rfl | rfl | rfl | rfl | rfl | rfl
   ·exact⟨1,by simp,rfl,fun sp l e=>absurd e (m0 sp l),r0⟩
   ·exact⟨2,by simp,rfl,fun sp l e=>absurd e (m1 sp l),r1⟩
   ·refine⟨0,by simp,rfl,fun sp l e=>?_,trivial⟩
    cases e;exact⟨dr _ (by omega) n9,fun s hs=>by rw[MQ.mp hs];exact dr _ q6.1 n6⟩
   ·exact⟨3,by simp,rfl,(fun sp l e=>by cases e),trivial⟩
   ·exact⟨4,by simp,rfl,(fun sp l e=>by cases e),trivial⟩
   ·exact⟨5,by simp,rfl,fun sp l e=>absurd e (m5 sp l),r5⟩
   ·exact⟨6,by simp,rfl,(fun sp l e=>by cases e),trivial⟩
  ·rw[hrm];exact nd
  ·intro x hx
   rw[hrm];exact(pm x).mpr hx
end
section
variable{H : PV}{hour : Int}{M : Mach H hour}{found : List (BF.Row St)}(F : Found M found)
include F
structure Cls(M:Mach H hour)(found:List (BF.Row St))(C:List Nat):Prop where
 len:C.length=found.length
 nm:nmL C=C
 iff:∀(x y:Nat)(p q:BF.Row St),found[x]?=some p->found[y]?=some q->(C.getD x 0=C.getD y 0 ↔ ∀r:List Nat,(∀i∈r,i<13)->M.hp (r.foldl M.lead p.1)=M.hp (r.foldl M.lead q.1))
theorem BE(ep:e6 [H,.int hour]=some (.lst (found.map aK))):∃C,Cls M found C/\de [H,.int hour]=some (.lst (C.map nI)):=by
 obtain⟨K,k1,k2,k3,_,ec⟩:=uQ F ep;obtain⟨l1,l2,_⟩:=H0 F;have lc:(c0 M found).length=found.length:=by simp[c0,lM]
 have G:Gr (EN_ M found) (c0 M found):=⟨by rw[l1,lc],fun js hj=>by rw[lc];exact l2 js hj,CN _⟩;obtain⟨o1,o2⟩:=qu _ _ G.len G.nm K;refine⟨_,⟨by rw[o1,lc],o2,fun x y p q hp hq=>?_⟩,ec⟩;have hx:x<(c0 M found).length:=by rw[lc];exact(MB.mp hp).1
 have hy:y<(c0 M found).length:=by rw[lc];exact(MB.mp hq).1
 have one:∀r:List Nat,(∀i∈r,i<13)->(cv (EN_ M found) (c0 M found) 0 (runN (EN_ M found) x r)=cv (EN_ M found) (c0 M found) 0 (runN (EN_ M found) y r) ↔ M.hp (r.foldl M.lead p.1)=M.hp (r.foldl M.lead q.1)):=fun r hr=>by
  obtain⟨p2,e1,e2⟩:=ot F r x p hr hp;obtain⟨q2,e3,e4⟩:=ot F r y q hr hq;have:=Hj (M:=M) _ _ p2 q2 e1 e3 (EN_ M found);rw[e2,e4] at this;exact this
 constructor
 ·intro e r hr
  exact(one r hr).mp (never G k2 hx hy e r hr)
 ·intro h
  exact(G.moore K x y hx hy).mpr fun r hr _=>(one r hr).mpr (h r hr)
def zI(x:BF.Row St×Nat):PV:=.tup [aK x.1,nI x.2]
omit F in
theorem Ax:∀(f:List (BF.Row St))(C:List Nat),(p9 (f.map aK) (C.map nI)).map PV.tup=(f.zip C).map zI
 | [],_=>by simp[p9]
 | _::_,[]=>by simp[p9]
 | p::f,c::C=>by
  have:=Ax f C;unfold p9 at this ⊢;rw[MC,MC,NU,MC,this,Ql,MC];rfl
omit F in
theorem tW:∀C:List Nat,(C.map nI).all gv=true
 | []=>rfl
 | c::C=>by
  rw[MC,OB,tW C];rfl
abbrev FX(H:PV)(hour:Int)(D:PV)(a b:Sl):PSt:=[.val H,.val (.int hour),.own D,a,b]
theorem w6{C:List Nat}(hC:Cls M found C)(ep:e6 [H,.int hour]=some (.lst (found.map aK)))(ec:de [H,.int hour]=some (.lst (C.map nI))):cF [H,.int hour]=some (.dtt (kL1 found) (C.map nI)):=by
 obtain⟨ρ',f1,a,b,rfl⟩:=forM (enc:=zI) (xs:=found.zip C) (h:=ir 2 (aO (av 3) (aO (av 4) iu))) (g:=dQ) (ρ:=FX H hour (.dtt [] []) .no .no)
  (I:=fun pre ρ=>∃a b,ρ=FX H hour (.dtt (kL1 (pre.map (·.1))) ((pre.map (·.2)).map nI)) a b) ⟨_,_,rfl⟩ (by
   rintro pre x post ρ hx ⟨a,b,rfl⟩
   have hf:found=pre.map (·.1)++x.1::post.map (·.1):=by
    have:=congrArg (List.map (·.1)) hx;rw[PY (by rw[hC.len];exact Ma _),Mc,MC] at this;exact this
   have fresh:x.1.1 ∉ (pre.map (·.1)).map (·.1):=fun z=>by
    have nd:=F.inv.nd;rw[hf,Mc,MC,NY] at nd;exact nd.2.2 x.1.1 z x.1.1 (by simp) rfl
   have hany:((kL1 (pre.map (·.1))).any fun j=>decide (j=x.1.1.key))=false:=by
    rw[yf];exact decide_eq_false fresh
   have hlen:=F.ln;have hpl:pre.length<found.length:=by rw[hf];simp
   refine⟨FX H hour (.dtt (kL1 (pre.map (·.1))) ((pre.map (·.2)).map nI)) (.val (aK x.1)) (.val (nI x.2)),FX H hour (.dtt (kL1 ((pre++[x]).map (·.1))) (((pre++[x]).map (·.2)).map nI)) (.val (aK x.1)) (.val (nI x.2)),rfl,.inl ?_,_,_,rfl⟩;unfold dQ;rw[qK (ks:=kL1 (pre.map (·.1))) (ps:=(pre.map (·.2)).map nI) (p:=nI x.2) (kp:=x.1.1.pv) (k:=x.1.1.key) rfl rfl rfl x.1.1.tk (by simp[kL1];omega),ou hany];simp only[kL1,Mc];rfl)
 have h1:(found.zip C).map (·.1)=found:=PY (by rw[hC.len];exact Ma _);have h2:(found.zip C).map (·.2)=C:=QA (by rw[hC.len];exact Ma _);rw[h1,h2] at f1
 have zq:Em (.lst (found.map aK)) (.lst (C.map nI))=.ok ((found.zip C).map zI):=by
  show (if ((found.map aK).all gv || (C.map nI).all gv)=true then PU.R.ok ((p9 (found.map aK) (C.map nI)).map PV.tup) else PU.R.no)=_;rw[tW,Bool.or_true,if_pos rfl,Ax]
 refine aC rfl ?_;simp only[FX] at f1;generalize PV.dtt (kL1 found) (C.map nI)=D at *;generalize (found.zip C).map zI=ZI at *;generalize found.map aK=FS at *;generalize C.map nI=CS at *;simp[fz,PU.start,CW,ep,ec,zq];rw[f1];simp
end
def clN(found:List (BF.Row St))(C:List Nat)(s:St):Nat:=C.getD (dX found s) 0
theorem B9:∀(f:List (BF.Row St))(C:List Nat)(s:St),C.length=f.length->s∈f.map (·.1)->jf (kL1 f) (C.map nI) s.key=some (nI (clN f C s))
 | [],_,_,_,h=>by simp at h
 | _::_,[],_,h,_=>by simp at h
 | p::f,c::C,s,hl,h=>by
  show (if p.1.key=s.key then some (nI c) else jf (kL1 f) (C.map nI) s.key)=_;unfold clN dX
  by_cases e:p.1=s
  ·rw[if_pos (by rw[e]),if_pos e]
   rfl
  ·rw[if_neg fun z=>e (St.kinj z),if_neg e]
   rw[MC] at h;rcases MP.mp h with z | z
   ·exact absurd z.symm e
   ·rw[B9 f C s (by simpa using hl) z]
    rfl
theorem KF{f:List (BF.Row St)}{C:List Nat}{s:St}(hl:C.length=f.length)(h:s∈f.map (·.1)):nR (.dtt (kL1 f) (C.map nI)) s.pv=some (nI (clN f C s)):=by
 rw[EJ _ _ (St.tk _),B9 f C s hl h]
theorem sI{α:Type}[DecidableEq α]:∀(l:List α)(x:Nat)(hx:x<l.length),l.Nodup->j7 l l[x]=x
 | a::l,0,_,_=>by simp[j7]
 | a::l,x+1,hx,nd=>by
  rw[Mu] at nd;have hx:x<l.length:=by simpa using hx
  have e:(a::l)[x+1]=l[x]:=rfl;rw[e];unfold j7;rw[if_neg,sI l x hx nd.2];intro z;exact nd.1 (z▸N0 _)
theorem xk{α:Type}[DecidableEq α]:∀(ks l:List α),l.Nodup->(ks.foldl mP l).Nodup
 | [],_,h=>h
 | k::ks,l,h=>by
  rw[OU];refine xk ks _ ?_;unfold mP
  split
  ·exact h
  ·rename_i hk
   rw[NY];exact⟨h,by simp,fun a ha b hb e=>by rw[MQ.mp hb] at e;rw[e] at ha;exact hk ha⟩
theorem vf{α:Type}[DecidableEq α](ks:List α):(uniq ks).Nodup:=xk ks [] Rm
theorem G0(C:List Nat)(h:nmL C=C)(x:Nat):x∈C ↔ x<(uniq C).length:=by
 have e:x∈nmL C ↔ x<(uniq C).length:=by
  unfold nmL;constructor
  ·intro hx
   obtain⟨k,hk,rfl⟩:=MF.mp hx;exact vd (fR hk)
  ·intro hx
   refine MF.mpr ⟨(uniq C)[x],fE (N0 _),?_⟩;exact sI _ _ _ (vf C)
 rw[h] at e;exact e
theorem lL:∀(n:Nat)(l:List Nat),l.Nodup->(∀x,x∈l ↔ x<n)->l.length=n
 | 0,l,_,h=>by
  cases l with
  | nil=>rfl
  | cons a l=>exact absurd ((h a).mp (by simp)) (by omega)
 | n+1,l,nd,h=>by
  have hm:n∈l:=(h n).mpr (by omega)
  have e:=lL n (l.erase n) (nd.erase n) fun x=>by
   rw[nd.mem_erase_iff,h];omega
  rw[S9 hm] at e;have:0<l.length:=SU hm;omega
theorem we{α β:Type}(f:α->β):∀l:List α,l.Nodup->(∀a∈l,∀b∈l,f a=f b->a=b)->(l.map f).Nodup
 | [],_,_=>by simp
 | a::l,nd,h=>by
  rw[Mu] at nd;rw[MC,Mu];refine⟨fun z=>?_,we f l nd.2 fun x hx y hy=>h x (by simp[hx]) y (by simp[hy])⟩;obtain⟨b,hb,e⟩:=MF.mp z;exact nd.1 ((h b (by simp[hb]) a (by simp) e)▸hb)
theorem Ge(l:List Nat)(n:Nat)(h:∀x,x∈l ↔ x<n+1):uY (l.map fun x:Nat=>(x:Int))=(n:Int):=by
 have hn:n∈l:=(h n).mpr (by omega)
 have hne:(l.map fun x:Nat=>(x:Int))≠[]:=fun e=>by
  have:=TC.mp e;rw[this] at hn;simp at hn
 have m1:=rf (l.map fun x:Nat=>(x:Int)) n (MF.mpr ⟨n,hn,rfl⟩);obtain⟨x,hx,e⟩:=MF.mp (oE _ hne);have:=(h x).mp hx;omega
theorem wk(l:List Nat)(n:Nat)(h:∀x,x∈l ↔ x<n+1):rJ (.lst (l.map nI))=some (.int (n:Int)):=by
 have hn:n∈l:=(h n).mpr (by omega)
 have e:qd (l.map nI)=some (l.map fun x:Nat=>(x:Int)):=by
  have:=wW (l.map fun x:Nat=>(x:Int));rw[MV] at this;exact this
 show (qd (l.map nI)).bind _=_;rw[e];show (if (l.map fun x:Nat=>(x:Int))=[] then none else some (PV.int (uY (l.map fun x:Nat=>(x:Int)))))=_;rw[if_neg,Ge l n h];intro z;rw[TC.mp z] at hn;simp at hn
theorem wq(f g:Nat×Nat->Nat):∀(U:List (Nat×Nat))(a b:Nat),(∀u∈U,f u=a->g u=b)->bM (U.map fun u=>N9 (f u:Int)) (U.map fun u=>nI (g u)) (.inl (a:Int))=if a∈U.map f then some (nI b) else none
 | [],_,_,_=>by simp[bM]
 | u::U,a,b,h=>by
  show (if (N9 (f u:Int):Key)=.inl (a:Int) then some (nI (g u)) else bM (U.map fun u=>N9 (f u:Int)) (U.map fun u=>nI (g u)) (.inl (a:Int)))=_
  by_cases e:f u=a
  ·rw[if_pos (by rw[e]),h u (by simp) e,if_pos (by rw[MC,e];simp)]
  ·rw[if_neg (fun z=>by injection z with z;omega),wq f g U a b fun v hv=>h v (by simp[hv])]
   have:a∈(u::U).map f ↔ a∈U.map f:=by
    rw[MC,MP];exact⟨fun h=>h.resolve_left fun z=>e z.symm,.inr⟩
   by_cases q:a∈U.map f
   ·rw[if_pos q,if_pos (this.mpr q)]
   ·rw[if_neg q,if_neg fun z=>q (this.mp z)]
theorem Fv(f g:Nat×Nat->Nat)(U:List (Nat×Nat))(u:Nat×Nat)(h:f u ∉ U.map f):iJ (U.map fun u=>N9 (f u:Int)) (U.map fun u=>nI (g u)) (.inl (f u:Int)) (nI (g u))=.dct ((U++[u]).map fun u=>N9 (f u:Int)) ((U++[u]).map fun u=>nI (g u)):=by
 have:((U.map fun u=>(N9 (f u:Int):Key)).any fun j=>decide (j=.inl (f u:Int)))=false:=by
  rw[Bool.eq_false_iff];intro z;obtain⟨j,hj,e⟩:=Ol.mp z;obtain⟨v,hv,rfl⟩:=MF.mp hj;have e:=of_decide_eq_true e;injection e with e;exact h (MF.mpr ⟨v,hv,by omega⟩)
 unfold iJ;rw[this,Mc,Mc];rfl
theorem sf{i:Nat}{fk fv f2:PSt->R PV}{g:PSt->R Fl}{ρ:PSt}{ks:List Key}{ps:List PV}{kp p:PV}{k:Key}(h:ρ[i]?=some (.own (.dct ks ps)))(hk:fk ρ=.ok kp)(hv:fv ρ=.ok p)(ht:eV kp=some k)(hl:ks.length<16777216)(lk:bM ks ps k=some p)(h2:f2 ρ=.ok p)(ne:gNe p p=some (.bl false)):ko i fk fv f2 g ρ=.ok (.next ρ):=by
 unfold ko;rw[h];show (fk ρ >>= _)=_;rw[hk,R.ok_bind,hv,R.ok_bind,ht,R.ofO_some,R.ok_bind,if_pos hl,lk];show neK f2 g p ρ=_;unfold neK;rw[h2,R.ok_bind,ne];rfl
theorem se{i:Nat}{fk fv f2:PSt->R PV}{g:PSt->R Fl}{ρ:PSt}{ks:List Key}{ps:List PV}{kp p:PV}{k:Key}(h:ρ[i]?=some (.own (.dct ks ps)))(hk:fk ρ=.ok kp)(hv:fv ρ=.ok p)(ht:eV kp=some k)(hl:ks.length<16777216)(lk:bM ks ps k=none)(h2:f2 (ρ.set i (.own (iJ ks ps k p)))=.ok p)(ne:gNe p p=some (.bl false)):ko i fk fv f2 g ρ=.ok (.next (ρ.set i (.own (iJ ks ps k p)))):=by
 unfold ko;rw[h];show (fk ρ >>= _)=_;rw[hk,R.ok_bind,hv,R.ok_bind,ht,R.ofO_some,R.ok_bind,if_pos hl,lk];show neK f2 g p _=_;unfold neK;rw[h2,R.ok_bind,ne];rfl
theorem sq{f g:PSt->R Fl}{ρ ρ1:PSt}(h:f ρ=.ok (.next ρ1)):aQ f g ρ=g ρ1:=by
 unfold aQ;rw[h];rfl
theorem lO(n:Nat):gNe (nI n) (nI n)=some (.bl false):=by
 have:=G8 (n:Int) (n:Int);rw[decide_eq_true rfl] at this;exact this
section
variable{H G : PV}{hour : Int}(M : Mach H hour)(N : Mach G hour){fm fn : List (BF.Row St)}(Fm : Found M fm)(Fn : Found N fn){C D : List Nat}(hC : Cls M fm C)(hD : Cls N fn D)
def ab(fm fn:List (BF.Row St))(C D:List Nat)(p:BF.Row P2):Nat×Nat:=(clN fm C p.1.1,clN fn D p.1.2)
abbrev gd(U:List (Nat×Nat)):PV:=.dct (U.map fun u=>N9 (u.1:Int)) (U.map fun u=>nI u.2)
abbrev cdd(U:List (Nat×Nat)):PV:=.dct (U.map fun u=>N9 (u.2:Int)) (U.map fun u=>nI u.1)
abbrev E3(NS H G:PV)(hour:Int)(L D1 D2:PV)(one:Int)(U:List (Nat×Nat))(a b c:Sl):PSt:=[.val NS,.val H,.val G,.val (.int hour),.val L,.val D1,.val D2,.val (.int one),.own (gd U),.own (cdd U),a,b,c]
theorem E4(NS L:PV)(one:Int)(U:List (Nat×Nat))(hU:U.length<=4000000)(p:BF.Row P2)(h1:p.1.1∈fm.map (·.1))(h2:p.1.2∈fn.map (·.1))(lc:C.length=fm.length)(ld:D.length=fn.length)(hc:∀u∈U,u.1=(ab fm fn C D p).1 ↔ u.2=(ab fm fn C D p).2)(x:Sl) :
  k9 (E3 NS H G hour L (.dtt (kL1 fm) (C.map nI)) (.dtt (kL1 fn) (D.map nI)) one U (.val p.1.1.pv) (.val p.1.2.pv) x)=.ok (.next (E3 NS H G hour L (.dtt (kL1 fm) (C.map nI)) (.dtt (kL1 fn) (D.map nI)) one (mP U (ab fm fn C D p)) (.val p.1.1.pv) (.val p.1.2.pv) x)):=by
 have ia:=KF (s:=p.1.1) lc h1;have ib:=KF (s:=p.1.2) ld h2;obtain⟨a,ha⟩:∃a,a=clN fm C p.1.1:=⟨_,rfl⟩;obtain⟨b,hb⟩:∃b,b=clN fn D p.1.2:=⟨_,rfl⟩;have hab:ab fm fn C D p=(a,b):=by rw[ha,hb];rfl
 rw[← ha] at ia;rw[← hb] at ib;rw[hab] at hc ⊢;have hl1:(U.map fun u=>(N9 (u.1:Int):Key)).length<16777216:=by rw[MG];omega
 have hl2:(U.map fun u=>(N9 (u.2:Int):Key)).length<16777216:=by rw[MG];omega
 have k1:=wq (fun u=>u.1) (fun u=>u.2) U a b fun u hu e=>(hc u hu).mp e;have k2:=wq (fun u=>u.2) (fun u=>u.1) U b a fun u hu e=>(hc u hu).mpr e;generalize PV.dtt (kL1 fm) (C.map nI)=D1 at *;generalize PV.dtt (kL1 fn) (D.map nI)=D2 at *;generalize p.1.1.pv=S at *;generalize p.1.2.pv=T at *;have ea:∀a0 a1 a2 a3 a4 a7 a8 a9 a12:Sl,ar (ah 5) (ah 10) nR [a0,a1,a2,a3,a4,.val D1,.val D2,a7,a8,a9,.val S,.val T,a12]=.ok (nI a):=fun _ _ _ _ _ _ _ _ _=>by simp[ia]
 have eb:∀a0 a1 a2 a3 a4 a7 a8 a9 a12:Sl,ar (ah 6) (ah 11) nR [a0,a1,a2,a3,a4,.val D1,.val D2,a7,a8,a9,.val S,.val T,a12]=.ok (nI b):=fun _ _ _ _ _ _ _ _ _=>by simp[ib]
 unfold k9
 by_cases m:(a,b)∈U
 ·rw[if_pos (MF.mpr ⟨_,m,rfl⟩)] at k1 k2
  have e:mP U (a,b)=U:=if_pos m;rw[e,sq (sf (ks:=U.map fun u=>N9 (u.1:Int)) (ps:=U.map fun u=>nI u.2) (kp:=nI a) (p:=nI b) (k:=.inl (a:Int)) rfl (ea _ _ _ _ _ _ _ _ _) (eb _ _ _ _ _ _ _ _ _) rfl hl1 k1 (eb _ _ _ _ _ _ _ _ _) (lO b))];exact sf (ks:=U.map fun u=>N9 (u.2:Int)) (ps:=U.map fun u=>nI u.1) (kp:=nI b) (p:=nI a) (k:=.inl (b:Int)) rfl (eb _ _ _ _ _ _ _ _ _) (ea _ _ _ _ _ _ _ _ _) rfl hl2 k2 (ea _ _ _ _ _ _ _ _ _) (lO a)
 ·have n1:a ∉ U.map fun u=>u.1:=fun z=>by
   obtain⟨u,hu,e⟩:=MF.mp z;have e2:=(hc u hu).mp e;exact m ((Pd e e2:u=(a,b))▸hu)
  have n2:b ∉ U.map fun u=>u.2:=fun z=>by
   obtain⟨u,hu,e⟩:=MF.mp z;have e2:=(hc u hu).mpr e;exact m ((Pd e2 e:u=(a,b))▸hu)
  rw[if_neg n1] at k1;rw[if_neg n2] at k2;have p1:=Fv (fun u=>u.1) (fun u=>u.2) U (a,b) n1;have p2:=Fv (fun u=>u.2) (fun u=>u.1) U (a,b) n2;have e:mP U (a,b)=U++[(a,b)]:=if_neg m;rw[e,sq (se (ks:=U.map fun u=>N9 (u.1:Int)) (ps:=U.map fun u=>nI u.2) (kp:=nI a) (p:=nI b) (k:=.inl (a:Int)) rfl (ea _ _ _ _ _ _ _ _ _) (eb _ _ _ _ _ _ _ _ _) rfl hl1 k1 (eb _ _ _ _ _ _ _ _ _) (lO b))];have p1:iJ (U.map fun u=>N9 (u.1:Int)) (U.map fun u=>nI u.2) (.inl (a:Int)) (nI b)=gd (U++[(a,b)]):=p1;have p2:iJ (U.map fun u=>N9 (u.2:Int)) (U.map fun u=>nI u.1) (.inl (b:Int)) (nI a)=cdd (U++[(a,b)]):=p2;have v2:=se (i:=9) (fk:=ar (ah 6) (ah 11) nR) (fv:=ar (ah 5) (ah 10) nR) (f2:=ar (ah 5) (ah 10) nR) (g:=cu (kB false)) (ρ:=(E3 NS H G hour L D1 D2 one U (.val S) (.val T) x).set 8 (.own (iJ (U.map fun u=>N9 (u.1:Int)) (U.map fun u=>nI u.2) (.inl (a:Int)) (nI b)))) (ks:=U.map fun u=>N9 (u.2:Int)) (ps:=U.map fun u=>nI u.1) (kp:=nI b) (p:=nI a) (k:=.inl (b:Int)) rfl (eb _ _ _ _ _ _ _ _ _) (ea _ _ _ _ _ _ _ _ _) rfl hl2 k2 (ea _ _ _ _ _ _ _ _ _) (lO a);rw[p1,p2] at v2;rw[p1];exact v2
end
theorem Found.reach{H:PV}{hour:Int}{M:Mach H hour}{found:List (BF.Row St)}(F:Found M found)(r:List Nat)(hr:∀i∈r,i<13):r.foldl M.lead M.s0∈found.map (·.1):=by
 obtain⟨tl,e⟩:=F.inv.h0;have h0:found[0]?=some (M.s0,[]):=by rw[e];rfl
 obtain⟨q,e1,e2⟩:=ot F r 0 _ hr h0;exact MF.mpr ⟨q,Mk e1,e2⟩
theorem IV{H:PV}{hour:Int}(M:Mach H hour):∀(r:List Nat)(s:St),BF.run M.lead s r=r.foldl M.lead s
 | [],_=>rfl
 | i::r,s=>IV M r (M.lead s i)
theorem Cls.eq{H:PV}{hour:Int}{M:Mach H hour}{found:List (BF.Row St)}{C:List Nat}(hC:Cls M found C){s t:St}(hs:s∈found.map (·.1))(ht:t∈found.map (·.1)):clN found C s=clN found C t ↔ ∀r:List Nat,(∀i∈r,i<13)->M.hp (r.foldl M.lead s)=M.hp (r.foldl M.lead t):=by
 obtain⟨p,e1,e2⟩:=pI found s hs;obtain⟨q,e3,e4⟩:=pI found t ht;have:=hC.iff _ _ p q e1 e3;rw[e2,e4] at this;exact this
theorem Cls.mem{H:PV}{hour:Int}{M:Mach H hour}{found:List (BF.Row St)}{C:List Nat}(F:Found M found)(hC:Cls M found C):∃n,(∀x,x∈C ↔ x<n+1)/\(∀x,x∈(found.map fun p=>clN found C p.1) ↔ x<n+1)/\n+1<=found.length:=by
 have hm:=G0 C hC.nm;obtain⟨tl,e⟩:=F.inv.h0;have hlen:=hC.len
 have ca:∀(j:Nat)(p:BF.Row St),found[j]?=some p->clN found C p.1=C.getD j 0:=fun j p hp=>by
  unfold clN;rw[vO found j p F.inv.nd hp]
 have hx:∀x,x∈(found.map fun p=>clN found C p.1) ↔ x∈C:=fun x=>by
  constructor
  ·intro h
   obtain⟨p,hp,rfl⟩:=MF.mp h;obtain⟨j,hj⟩:=O9 hp;have hl:=(MB.mp hj).1;rw[ca j p hj,MS,ME (by omega)];exact N0 _
  ·intro h
   obtain⟨j,hj⟩:=O9 h;have hl:=(MB.mp hj).1;refine MF.mpr ⟨found[j],N0 _,?_⟩;rw[ca j _ (ME (by omega)),MS,hj];rfl
 have hpos:0<(uniq C).length:=by
  have:0<C.length:=by rw[hlen,e];simp
  have:=(hm _).mp (N0 (l:=C) (n:=0) this);omega
 have hul:=nY C;have hn:∀x,x∈C ↔ x<(uniq C).length-1+1:=fun x=>by rw[hm];omega
 exact⟨(uniq C).length-1,hn,fun x=>by rw[hx,hn],by omega⟩
theorem qY{H G:PV}{hour:Int}(M:Mach H hour)(N:Mach G hour){found:List (BF.Row P2)}(I:BF.Inv (bK M N) (M.s0,N.s0) found)(W:BF.Whole (bK M N) (cR M N) found):∀r:List Nat,(∀i∈r,i<13)->∀p∈found,∃q∈found,q.1=(r.foldl M.lead p.1.1,r.foldl N.lead p.1.2)
 | [],_,p,hp=>⟨p,hp,rfl⟩
 | i::r,hr,p,hp=>by
  obtain⟨q,hq,e,_⟩:=W.2 p hp i (hr i (by simp));obtain⟨q2,hq2,e2⟩:=qY M N I W r (fun j hj=>hr j (by simp[hj])) q hq;refine⟨q2,hq2,?_⟩;rw[e2,e];rfl
section
variable{H G : PV}{hour : Int}(M : Mach H hour)(N : Mach G hour){fm fn : List (BF.Row St)}(Fm : Found M fm)(Fn : Found N fn){C D : List Nat}(hC : Cls M fm C)(hD : Cls N fn D)
include Fm Fn hC hD
theorem D5{found:List (BF.Row P2)}(I:BF.Inv (bK M N) (M.s0,N.s0) found)(W:BF.Whole (bK M N) (cR M N) found)(hA:∀q:List Nat,(∀i∈q,i<13)->rZ M N q) :
  ∃n:Nat,rJ (.lst (C.map nI))=some (.int n)/\rJ (.lst (D.map nI))=some (.int n)/\n+1<=fm.length/\n+1<=fn.length/\∀NS T:PV,∃U a b c,U.length=n+1/\
   gT (ir 3 (aO (av 10) (aO (av 11) (aO (av 12) iu)))) k9 (found.map jD) (E3 NS H G hour T (.dtt (kL1 fm) (C.map nI)) (.dtt (kL1 fn) (D.map nI)) n [] .no .no .no)=.ok (.next (E3 NS H G hour T (.dtt (kL1 fm) (C.map nI)) (.dtt (kL1 fn) (D.map nI)) n U a b c)):=by
 have h0:ok2 M N (M.s0,N.s0):=⟨M.ok0,N.ok0⟩;have hfl:=(lY M N _ h0 I).2;have lc:=hC.len;have ld:=hD.len;have rn:∀p∈found,p.1=(p.2.foldl M.lead M.s0,p.2.foldl N.lead N.s0):=fun p hp=>by rw[← I.run p hp,IS]
 have m1:∀p∈found,p.1.1∈fm.map (·.1):=fun p hp=>by rw[rn p hp];exact Fm.reach _ (I.rng p hp)
 have m2:∀p∈found,p.1.2∈fn.map (·.1):=fun p hp=>by rw[rn p hp];exact Fn.reach _ (I.rng p hp)
 have sm:∀p∈found,∀r:List Nat,(∀i∈r,i<13)->M.hp (r.foldl M.lead p.1.1)=N.hp (r.foldl N.lead p.1.2):=fun p hp r hr=>by
  have:=hA (p.2++r) fun i hi=>by
   rcases Mz.mp hi with h | h
   ·exact I.rng p hp i h
   ·exact hr i h
  have this:M.hp ((p.2++r).foldl M.lead M.s0)=N.hp ((p.2++r).foldl N.lead N.s0):=this;rw[OZ,OZ] at this;rw[rn p hp];exact this
 have cons:∀p∈found,∀q∈found,(ab fm fn C D p).1=(ab fm fn C D q).1 ↔ (ab fm fn C D p).2=(ab fm fn C D q).2:=fun p hp q hq=>by
  show clN fm C p.1.1=clN fm C q.1.1 ↔ clN fn D p.1.2=clN fn D q.1.2;rw[hC.eq (m1 p hp) (m1 q hq),hD.eq (m2 p hp) (m2 q hq)];constructor
  ·intro h r hr
   rw[← sm p hp r hr,← sm q hq r hr];exact h r hr
  ·intro h r hr
   rw[sm p hp r hr,sm q hq r hr];exact h r hr
 obtain⟨U,hU⟩:∃U,U=uniq (found.map (ab fm fn C D)):=⟨_,rfl⟩;have ndU:U.Nodup:=by rw[hU];exact vf _
 have mU:∀u,u∈U ↔ ∃p∈found,ab fm fn C D p=u:=fun u=>by
  rw[hU];exact⟨fun h=>MF.mp (fE h),fun h=>fR (MF.mpr h)⟩
 obtain⟨n,hn0,hn,hnl⟩:=hC.mem Fm;obtain⟨m,hm0,hm,hml⟩:=hD.mem Fn;obtain⟨tl,et⟩:=I.h0;have p0:((M.s0,N.s0),[])∈found:=by rw[et];simp
 have l1:U.length=n+1:=by
  rw[← MG (f:=fun u:Nat×Nat=>u.1)];refine lL _ _ (we _ U ndU fun u hu v hv e=>?_) fun x=>?_
  ·obtain⟨p,hp,rfl⟩:=(mU u).mp hu
   obtain⟨q,hq,rfl⟩:=(mU v).mp hv;exact Pd e ((cons p hp q hq).mp e)
  ·rw[← hn]
   constructor
   ·intro h
    obtain⟨u,hu,rfl⟩:=MF.mp h;obtain⟨p,hp,rfl⟩:=(mU u).mp hu;obtain⟨q,hq,e⟩:=MF.mp (m1 p hp);exact MF.mpr ⟨q,hq,by show clN fm C q.1=clN fm C p.1.1;rw[e]⟩
   ·intro h
    obtain⟨q,hq,rfl⟩:=MF.mp h;obtain⟨p,hp,e⟩:=qY M N I W q.2 (Fm.inv.rng q hq) _ p0;refine MF.mpr ⟨ab fm fn C D p,(mU _).mpr ⟨p,hp,rfl⟩,?_⟩;show clN fm C p.1.1=clN fm C q.1;rw[e];show clN fm C (q.2.foldl M.lead M.s0)=_;rw[← IV,Fm.inv.run q hq]
 have l2:U.length=m+1:=by
  rw[← MG (f:=fun u:Nat×Nat=>u.2)];refine lL _ _ (we _ U ndU fun u hu v hv e=>?_) fun x=>?_
  ·obtain⟨p,hp,rfl⟩:=(mU u).mp hu
   obtain⟨q,hq,rfl⟩:=(mU v).mp hv;exact Pd ((cons p hp q hq).mpr e) e
  ·rw[← hm]
   constructor
   ·intro h
    obtain⟨u,hu,rfl⟩:=MF.mp h;obtain⟨p,hp,rfl⟩:=(mU u).mp hu;obtain⟨q,hq,e⟩:=MF.mp (m2 p hp);exact MF.mpr ⟨q,hq,by show clN fn D q.1=clN fn D p.1.2;rw[e]⟩
   ·intro h
    obtain⟨q,hq,rfl⟩:=MF.mp h;obtain⟨p,hp,e⟩:=qY M N I W q.2 (Fn.inv.rng q hq) _ p0;refine MF.mpr ⟨ab fm fn C D p,(mU _).mpr ⟨p,hp,rfl⟩,?_⟩;show clN fn D p.1.2=clN fn D q.1;rw[e];show clN fn D (q.2.foldl N.lead N.s0)=_;rw[← IV,Fn.inv.run q hq]
 have x1:=wk _ n hn0;have x2:=wk _ m hm0;have nmn:m=n:=by omega
 rw[nmn] at x2;refine⟨n,x1,x2,hnl,by omega,fun NS T=>?_⟩
 obtain⟨ρ',f1,a,b,c,rfl⟩:=forM (enc:=jD) (xs:=found) (h:=ir 3 (aO (av 10) (aO (av 11) (aO (av 12) iu)))) (g:=k9) (ρ:=E3 NS H G hour T (.dtt (kL1 fm) (C.map nI)) (.dtt (kL1 fn) (D.map nI)) n [] .no .no .no)
  (I:=fun pre ρ=>∃a b c,ρ=E3 NS H G hour T (.dtt (kL1 fm) (C.map nI)) (.dtt (kL1 fn) (D.map nI)) n (uniq (pre.map (ab fm fn C D))) a b c) ⟨_,_,_,rfl⟩ (by
   rintro pre p post ρ hx ⟨a,b,c,rfl⟩;have pm:p∈found:=by rw[hx];simp
   have sub:∀q∈pre,q∈found:=fun q hq=>by rw[hx];simp[hq]
   have hul:=nY (pre.map (ab fm fn C D));rw[MG] at hul;have hpl:pre.length<found.length:=by rw[hx];simp
   have B:=E4 (H:=H) (G:=G) (hour:=hour) NS T n (uniq (pre.map (ab fm fn C D))) (by omega) p (m1 p pm) (m2 p pm) lc ld (fun u hu=>by
    obtain⟨q,hq,rfl⟩:=MF.mp (fE hu);exact cons q (sub q hq) p pm) (.val (.str (lC p.2)))
   rw[← iS,show pre.map (ab fm fn C D)++[ab fm fn C D p]=(pre++[p]).map (ab fm fn C D) by rw[Mc];rfl] at B;exact⟨_,_,rfl,.inl B,_,_,_,rfl⟩)
 rw[← hU] at f1;exact⟨U,a,b,c,l1,f1⟩
end
def twn(k:Nat):Nat:=if k=5 then 0 else if k=6 then 3 else k
def QQ(nA nB:List Str)(x y:Str):Prop:=∃k,k<7/\x=nm nA (twn k)/\y=nm nB k
section
variable{nA nB : List Str}(hA : nA.length = 7)(hB : nB.length = 7)(ndA : nA.Nodup)(ndB : nB.Nodup)(ls ms : List Int)
theorem q_p(k:Nat)(hk:k<5):QQ nA nB (nm nA k) (nm nB k):=⟨k,by omega,by unfold twn;rw[if_neg (by omega),if_neg (by omega)],rfl⟩
theorem q_t(k:Nat)(hk:k<5)(b:Bool):QQ nA nB (nm nA (tI k false)) (nm nB (tI k b)):=by
 have e:=(yQ k hk false).2 rfl;rw[e];refine⟨tI k b,(yQ k hk b).1,?_,rfl⟩
 congr 1
 unfold tI;rw[if_neg (by omega)]
 split
 ·rename_i c;rw[c.2];rfl
 ·split
  ·rename_i c;rw[c.2];rfl
  ·unfold twn;rw[if_neg (by omega),if_neg (by omega)]
include hA hB
theorem q_k(k:Nat)(hk:k<6)(b:Bool):Tg (QQ nA nB) (nm nA (tI k false)) (nm nB (tI k b)):=by
 rcases OA k 5 with z | z
 ·exact .inr (q_t k z b)
 ·have e:k=5:=by omega
  subst e;exact .inl ⟨Jn hA,Jn hB⟩
theorem vD(b:Bool):RR (QQ nA nB) (bu nA ls false) (bu nB ls b):=by
 refine⟨rfl,⟨(kl ls).map fun p=>(⟨#[p.1]⟩,nm nA (tI p.2.1 (false && p.2.2)),nm nB (tI p.2.1 (b && p.2.2))),?_,?_,fun p hp=>?_⟩,⟨rfl,q_t _ (du ls 25 5 (by omega)) b⟩,rfl,?_⟩
 ·unfold rC
  rw[MV,MV];rfl
 ·unfold rC
  rw[MV,MV];rfl
 ·obtain⟨q,hq,rfl⟩:=MF.mp hp
  exact q_k hA hB _ (Gj ls q hq) _
 ·exact q_t _ (du ls 27 5 (by omega)) _
omit hA hB in
theorem yY:RR (QQ nA nB) (bz nA ms false) (bz nB ms true):=by
 have l0:=du ms 0 5 (by omega);have l1:=du ms 1 5 (by omega);refine⟨rfl,⟨if ms.getD 2 0 % 2=0 then [([98,111],nm nA (tI (md ms 0 5) false),nm nB (tI (md ms 0 5) true))] else [([98,111],nm nA (tI (md ms 0 5) false),nm nB (tI (md ms 0 5) true)),([108,101,101],nm nA (md ms 1 5),nm nB (md ms 1 5))],?_,?_,fun p hp=>?_⟩,⟨rfl,q_p _ (du ms 4 5 (by omega))⟩,rfl,q_t _ (du ms 8 5 (by omega)) true⟩
 ·unfold wS wL
  split <;> rfl
 ·unfold wS wL
  split <;> rfl
 ·split at hp
  ·rw[MQ.mp hp];exact q_t _ l0 true
  ·rcases MP.mp hp with e | hp
   ·rw[e];exact q_t _ l0 true
   ·rw[MQ.mp hp];exact q_p _ l1
omit hA hB in
theorem yZ:RR (QQ nA nB) (c7 nA ms false) (c7 nB ms true):=by
 have s6:=uv 3 _ (by omega) (du ms 6 3 (by omega));have s9:=uv 4 _ (by omega) (du ms 9 3 (by omega));exact⟨⟨[(ms.getD 5 0 % 24,24,nm nA (tI (o3 3 (md ms 6 3)) false),nm nB (tI (o3 3 (md ms 6 3)) true))],rfl,rfl,fun p hp=>by rw[MQ.mp hp];exact q_t _ s6.1 true⟩,q_p _ s9.1⟩
include ndA ndB
theorem Fc (nbA:∀x∈nA,x≠MH "back"/\x≠MH "") (nbB:∀x∈nB,x≠MH "back"/\x≠MH "") (hour:Int) {ord:List Str} (hg:HG (hou nA ls ms false) (Vn nA false) ord):Sim (hou nA ls ms false) (hou nB ls ms true) hour (QQ nA nB):=by
 have twnl:∀k,k<7->twn k<5:=fun k hk=>by unfold twn;split;omega;split <;> omega
 have neA:=fun i j hi hj=>CO hA ndA i j hi hj;have neB:=fun i j hi hj=>CO hB ndB i j hi hj;have rA:(hou nA ls ms false).rooms=[(nm nA 0,bu nA ls false),(nm nA 1,bz nA ms false),(nm nA 2,c7 nA ms false),(nm nA 3,.hand "Ann"),(nm nA 4,.fin "Bye")]:=rfl;have rB:(hou nB ls ms true).rooms=[(nm nB 0,bu nB ls true),(nm nB 1,bz nB ms true),(nm nB 2,c7 nB ms true),(nm nB 3,.hand "Ann"),(nm nB 4,.fin "Bye"),(nm nB 5,bu nB ls false),(nm nB 6,.hand "Ann")]:=rfl;have q0:=vD hA hB ls true;have q5:=vD hA hB ls false;have q1:=yY (nA:=nA) (nB:=nB) ms;have q2:=yZ (nA:=nA) (nB:=nB) ms;refine⟨fun x y q=>?_,fun x y q=>?_,q_t _ (du ms 10 5 (by omega)) true,fun x y q=>?_⟩
 ·obtain⟨k,hk,rfl,rfl⟩:=q
  rw[rA,rB];generalize bu nA ls false=A0 at *;generalize bu nB ls false=B5 at *;generalize bu nB ls true=B0 at *;generalize bz nA ms false=A1 at *;generalize bz nB ms true=B1 at *;generalize c7 nA ms false=A2 at *;generalize c7 nB ms true=B2 at *
  match k,hk with
  | 0,_=>exact⟨A0,B0,by simp[FA.lookR,twn],by simp[FA.lookR],q0⟩
  | 1,_=>exact⟨A1,B1,by simp[FA.lookR,twn,neA],by simp[FA.lookR,neB],q1⟩
  | 2,_=>exact⟨A2,B2,by simp[FA.lookR,twn,neA],by simp[FA.lookR,neB],q2⟩
  | 3,_=>exact⟨.hand "Ann",.hand "Ann",by simp[FA.lookR,twn,neA],by simp[FA.lookR,neB],rfl⟩
  | 4,_=>exact⟨.fin "Bye",.fin "Bye",by simp[FA.lookR,twn,neA],by simp[FA.lookR,neB],rfl⟩
  | 5,_=>exact⟨A0,B5,by simp[FA.lookR,twn],by simp[FA.lookR,neB],q5⟩
  | 6,_=>exact⟨.hand "Ann",.hand "Ann",by simp[FA.lookR,twn,neA],by simp[FA.lookR,neB],rfl⟩
 ·obtain⟨k,hk,rfl,rfl⟩:=q
  exact⟨nbA _ (jS hA _ (by have:=twnl k hk;omega)).1,nbB _ (jS hB k hk).1⟩
 ·obtain⟨k,hk,rfl,rfl⟩:=q
  exact(cm hg hour _ (GL hA false _ (by have:=twnl k hk;omega) (.inr (twnl k hk)))).1
end
theorem zF(ns:List Int):xq [.lst (ns.map .int)]=some (.bl true):=by
 refine aC rfl ?_;have cc:∀k:Nat,aA [PV.lst (ns.map PV.int),PV.int k]=some (PV.int (ns.getD k 0)):=DR ns;have c0:aA [PV.lst (ns.map PV.int),PV.int 0]=_:=cc 0;have c1:aA [PV.lst (ns.map PV.int),PV.int 1]=_:=cc 1;have c2:aA [PV.lst (ns.map PV.int),PV.int 2]=_:=cc 2;have c3:aA [PV.lst (ns.map PV.int),PV.int 3]=_:=cc 3;have c4:aA [PV.lst (ns.map PV.int),PV.int 4]=_:=cc 4;generalize ns.getD 0 0=z0 at c0;generalize ns.getD 1 0=z1 at c1;generalize ns.getD 2 0=z2 at c2;generalize ns.getD 3 0=z3 at c3;generalize ns.getD 4 0=z4 at c4;clear cc;have m24:eU (.int z4) (.int 24)=some (.int (z4 % 24)):=iD (by decide);generalize z4 % 24=hour at m24;obtain⟨na,a1,a2,a3,ea⟩:=names z0;obtain⟨nb,b1,b2,b3,eb⟩:=names z3;obtain⟨ls,l1,_,el⟩:=numbers z1 30 (by omega);obtain⟨ms,m1,_,em⟩:=numbers z2 16 (by omega);have ehA:=t9 a1 a2 _ z1 z2 c1 c2 ls ms l1 m1 el em false;have ehB:=t9 b1 b2 _ z1 z2 c1 c2 ls ms l1 m1 el em true;obtain⟨oA,hgA⟩:=GM a1 a2 ls ms a3 false;obtain⟨oB,hgB⟩:=GM b1 b2 ls ms b3 true;have S:=Fc a1 b1 a2 b2 ls ms a3 b3 hour hgA;obtain⟨M,u1,u2,u3⟩:=wm hgA hour;obtain⟨N,v1,v2,v3⟩:=wm hgB hour;have same:=fun q=>yU S u1 u2 u3 v1 v2 v3 q;rcases BU M N with⟨found,I,W,t6,hA⟩|⟨_,_,_,_,_,hd,_⟩
 ·obtain⟨fm,Fm,em'⟩:=pJ M
  obtain⟨fn,Fn,en'⟩:=pJ N;obtain⟨C,hC,ec⟩:=BE Fm em';obtain⟨D,hD,ed⟩:=BE Fn en';have nu1:=w6 Fm hC em' ec;have nu2:=w6 Fn hD en' ed;obtain⟨n,x1,x2,y1,y2,lp⟩:=D5 M N Fm Fn hC hD I W hA;obtain⟨U,a,b,c,lu,lp⟩:=lp (.lst (ns.map .int)) (.tup [.str "alike",.lst (found.map jD)])
  have g5:uD (.dtt (kL1 fm) (C.map nI))=some (.int (fm.length:Int)):=by
   show some (PV.int ((kL1 fm).length:Nat))=_;unfold kL1;rw[MG]
  have g6:uD (.dtt (kL1 fn) (D.map nI))=some (.int (fn.length:Int)):=by
   show some (PV.int ((kL1 fn).length:Nat))=_;unfold kL1;rw[MG]
  have g8:qF (gd U)=some (.int ((n:Int)+1)):=by
   show some (PV.int ((U.map fun u=>(N9 (u.1:Int):Key)).length:Nat))=_;rw[MG,lu];rfl
  have i0:gIx (.tup [.str "alike",.lst (found.map jD)]) (.int 0)=some (.str "alike"):=rfl;have i1:gIx (.tup [.str "alike",.lst (found.map jD)]) (.int 1)=some (.lst (found.map jD)):=rfl;have qal:gNe (.str "alike") (.str "alike")=some (.bl false):=by kernel_rfl
  have qn:gNe (.int (n:Int)) (.int (n:Int))=some (.bl false):=lO n;have w1:¬ (fm.length:Int)<(n:Int)+1:=by omega
  have w2:¬ (fn.length:Int)<(n:Int)+1:=by omega
  have it:fK (.lst (found.map jD))=some (found.map jD):=rfl;have lp:gT _ k9 (found.map jD) [.val (.lst (ns.map .int)),.val (hou na ls ms false).pv,.val (hou nb ls ms true).pv,.val (.int hour),.val (.tup [.str "alike",.lst (found.map jD)]),.val (.dtt (kL1 fm) (C.map nI)),.val (.dtt (kL1 fn) (D.map nI)),.val (.int (n:Int)),.own (.dct [] []),.own (.dct [] []),.no,.no,.no]=.ok (.next [.val (.lst (ns.map .int)),.val (hou na ls ms false).pv,.val (hou nb ls ms true).pv,.val (.int hour),.val (.tup [.str "alike",.lst (found.map jD)]),.val (.dtt (kL1 fm) (C.map nI)),.val (.dtt (kL1 fn) (D.map nI)),.val (.int (n:Int)),.own (gd U),.own (cdd U),a,b,c]):=lp;generalize gd U=GU at *;generalize cdd U=CU at *;generalize PV.dtt (kL1 fm) (C.map nI)=D1 at *;generalize PV.dtt (kL1 fn) (D.map nI)=D2 at *;generalize (fm.length:Int)=L1 at *;generalize (fn.length:Int)=L2 at *;generalize (n:Int)=n1 at *;generalize PV.tup [.str "alike",.lst (found.map jD)]=T6 at *;generalize found.map jD=FT at *;generalize (hou na ls ms false).pv=HA at *;generalize (hou nb ls ms true).pv=HB at *;generalize na.map PV.str=N1 at *;generalize nb.map PV.str=N2 at *;generalize C.map nI=CI at *;generalize D.map nI=DI at *;generalize ns.map PV.int=NS at *;simp[zT,PU.start,c0,c3,c4,ea,eb,ehA,ehB,m24,t6,i0,qal,nu1,nu2,ec,ed,x1,x2,qn,g5,g6,w1,w2,newD,i1,it];rw[lp];simp[g8]
 ·exact absurd (same _) hd
end K43
namespace K43
open PySem PySem.Spec PyProof.Rows L2 PU
seal EV EO EN EA ET EW SV SVs TGt E6 TCt E7 EI ETs ED EOI ELF EVF ENF ETF SVF
def top(i:Nat):Stmt:=Mb.main.body.getD i (.Pass ⟨0,0,0,0⟩)
structure Txt(w:Ml)(K:M8)(mg:Str->Option M9):Prop where
 n_dict:mg "dict"=none
 n_enumerate:mg "enumerate"=none
 n_int:mg "int"=none
 n_len:mg "len"=none
 n_list:mg "list"=none
 n_max:mg "max"=none
 n_range:mg "range"=none
 n_tuple:mg "tuple"=none
 n_zip:mg "zip"=none
 c_CODE_END:@Con (tw w) K mg "CODE_END" c_CODE_END
 c_HEARD:@Con (tw w) K mg "HEARD" c_HEARD
 c_SIGNS:@Con (tw w) K mg "SIGNS" c_SIGNS
 c_WAIT:@Con (tw w) K mg "WAIT" c_WAIT
end K43
namespace K43
open PySem PySem.Spec PyProof.Rows L2 PU
seal EV EO EN EA ET EW SV SVs TGt E6 TCt E7 EI ETs ED EOI ELF EVF ENF ETF SVF
variable{P : Md}{w : Ml}{K : M8}{mg : Str → Option M9}{base : Heap}
abbrev fY:Stmt:=top 37
theorem bq:FnScope ["_law_cell","_law_many","_law_found","_law_number","_law_k"] ["_law_cell","_law_many"] (ai fY):=fsc
theorem bY (T:Txt w K mg) (hs:Hs K mg "_law_numbers" fY):@PF (tw w) P w K mg base 1 "_law_numbers" b9:=
 letI:TW:=tw w
 ja (g:=dY) hs bq fun _ _ _ _ _ _ _ hr=>have hu:=hr.units;(af (dD 2 bq.nd (gW ak)) (af (aL 3 bq.nd (aG CD (ax 0) aj)) (af (eW (bQ (oz hu) cM (EV.o (aG dN (ax 0) aj)) aj) (af (cN (jt rfl T.n_range (az 1)) (aT 4 bq.nd) (af (dE 2 (aG dN (ax 3) aj)) (ao (aL 3 bq.nd (aG CD (ax 3) aj))))) (ao (SV.frz 2 (aF (az 2))))) bA) (af (aL 3 bq.nd (aG dN (ax 3) aj)) (af (cN (jt rfl T.n_range (aG fH (ax 1) aj)) (aT 4 bq.nd) (af (aL 3 bq.nd (aG dN (EV.o (aG zy (EV.o (aG fH (EV.o (aG fH (ax 3) (ax 4))) aj)) aj)) aj)) (ao (dE 2 (aG dN (EV.o (aG zy (ax 3) aj)) aj))))) (ao (aF (oT (xx 2) (fT aY) fU))))))))
abbrev fZ:Stmt:=top 36
theorem mJ:FnScope ["_law_script","_law_k"] ["_law_script","_law_k"] (ai fZ):=fsc
theorem bt (T:Txt w K mg) (hs:Hs K mg "_law_cell_at" fZ):@PF (tw w) P w K mg base 1 "_law_cell_at" aA:=
 letI:TW:=tw w
 ja (g:=dZ) hs mJ fun _ _ _ _ _ _ _ hr=>have hu:=hr.units;(af (eW (bQ FR lX (ax 1) (EV.o (ml Ej rfl T.n_len rfl (ax 0)))) (ao (aF (aq (ixP hu) (ax 0) (ax 1)))) bA) (ao (aF aY)))
abbrev og:Stmt:=top 39
theorem vA:FnScope ["_law_names_here","_law_to_here","_law_twin"] ["_law_names_here","_law_to_here","_law_twin"] (ai og):=fsc
theorem cE (T:Txt w K mg) (hs:Hs K mg "_law_to" og):@PF (tw w) P w K mg base 1 "_law_to" bV:=
 letI:TW:=tw w
 ja (g:=tj) hs vA fun _ _ _ _ _ _ _ hr=>have hu:=hr.units;(af (eW (EW.et (xr (bQ (oz hu) cM (ax 1) aj) (rO (jr (ax 2))))) (ao (aF (aq (ixP hu) (ax 0) aj))) bA) (af (eW (EW.et (xr (bQ (oz hu) cM (ax 1) aj) (rO (jr (ax 2))))) (ao (aF (aq (ixP hu) (ax 0) aj))) bA) (ao (aF (aq (ixP hu) (EV.o (aG fH (EV.o (oT (ax 0) fU (fT aY))) (EN.o (gW (aa aX ak))))) (ax 1))))))
abbrev jK:Stmt:=top 40
theorem cK:FnScope ["_law_names_here","_law_some","_law_both","_law_keys","_law_k","_law_key","_law_half","_law_wrong","_law_waits"] ["_law_names_here","_law_some","_law_both"] (ai jK):=fsc
theorem g9 (T:Txt w K mg) (hs:Hs K mg "_law_menu" jK) (cE:@PF (tw w) P w K mg base 1 "_law_to" bV):@PF (tw w) P w K mg base 2 "_law_menu" fL:=
 letI:TW:=tw w
 ja (g:=jW) hs cK fun _ _ _ _ _ _ _ hr=>have hu:=hr.units;(af (dD 3 cK.nd (gW ak)) (af (cN (xD rfl T.n_enumerate aX) (iU rfl (bc (aT 4 cK.nd) (bc (aT 5 cK.nd) fS))) (ao (eW (bQ (oz hu) cM (EV.o (aG dN (EV.o (aq (ixP hu) (ax 1) (ax 4))) aj)) aj) (af (aL 6 cK.nd (Bu (az 2) (Bt (qr (oz hu) (EV.o (aG dN (EV.o (aG CD (EV.o (aq (ixP hu) (ax 1) (ax 4))) aj)) aj)) aj)))) (ao (dE 3 (bf (aa (az 5) (aa (au cE hr (aa (az 0) (aa (aG dN (EV.o (aq (ixP hu) (ax 1) (EV.o (aG fH (ax 4) aj)))) aj) (aa (az 6) ak)))) ak)))))) bA))) (af (aL 7 cK.nd (bf (aa (aG fH aj (EV.o (aG dN (EV.o (aq (ixP hu) (ax 1) aj)) aj))) (aa (au cE hr (aa (az 0) (aa (aG dN (EV.o (aq (ixP hu) (ax 1) aj)) aj) (aa (az 2) ak)))) ak)))) (af (aL 8 cK.nd (bf (aa aY (aa (au cE hr (aa (az 0) (aa (aG dN (EV.o (aq (ixP hu) (ax 1) aj)) aj) (aa (Bu (az 2) (Bt (qr (oz hu) (EV.o (aG dN (EV.o (aq (ixP hu) (ax 1) aj)) aj)) aj))) ak)))) ak)))) (ao (aF (bf (aa aX (aa aX (aa (Dx BH rfl T.n_tuple rfl (xx 3)) (aa (az 7) (aa (az 8) ak))))))))))))
abbrev iH:Stmt:=top 41
theorem bS:FnScope ["_law_script","_law_names_here","_law_both","_law_some","_law_more","_law_words","_law_room","_law_span","_law_rooms","_law_letters"] ["_law_script","_law_names_here","_law_both"] (ai iH):=fsc
theorem eZ (T:Txt w K mg) (hs:Hs K mg "_law_house" iH) (bY:@PF (tw w) P w K mg base 1 "_law_numbers" b9) (bt:@PF (tw w) P w K mg base 1 "_law_cell_at" aA) (cE:@PF (tw w) P w K mg base 1 "_law_to" bV) (g9:@PF (tw w) P w K mg base 2 "_law_menu" fL):@PF (tw w) P w K mg base 3 "_law_house" eO:=
 letI:TW:=tw w
 ja (g:=iN) hs bS fun _ _ _ _ _ _ _ hr=>have hu:=hr.units;(af (aL 3 bS.nd (au bY hr (aa (au bt hr (aa (az 0) (aa aY ak))) (aa aY ak)))) (af (aL 4 bS.nd (au bY hr (aa (au bt hr (aa (az 0) (aa aY ak))) (aa aY ak)))) (af (aL 5 bS.nd (xt (EV.o (bf (aa (bf (aa aX (aa (au cE hr (aa (az 1) (aa (aG dN (EV.o (aq (ixP hu) (ax 4) aj)) aj) (aa (az 2) ak)))) ak))) (aa (bf (aa aX (aa (aq (ixP hu) (ax 1) (EV.o (aG dN (EV.o (aq (ixP hu) (ax 4) aj)) aj))) ak))) ak)))) fU (fT (aG fH aj (EV.o (aG dN (EV.o (aq (ixP hu) (ax 4) aj)) aj)))))) (af (aL 6 bS.nd (bf (aa aX (aa aX (aa (az 5) (aa (bf (aa aY (aa (aq (ixP hu) (ax 1) (EV.o (aG dN (EV.o (aq (ixP hu) (ax 4) aj)) aj))) ak))) (aa (bf (aa aY (aa (au cE hr (aa (az 1) (aa (aG dN (EV.o (aq (ixP hu) (ax 4) aj)) aj) (aa (az 2) ak)))) ak))) ak))))))) (af (aL 7 bS.nd (bf (aa (aG dN (EV.o (aq (ixP hu) (ax 4) aj)) aj) (aa aY (aa (au cE hr (aa (az 1) (aa (aq (ixP hu) (EN.o (gW (aa aY (aa aY (aa aY ak))))) (EV.o (aG dN (EV.o (aq (ixP hu) (ax 4) aj)) aj))) (aa (az 2) ak)))) ak))))) (af (dD 8 bS.nd (xA (mw (aq (ixP hu) (ax 1) aj) (au g9 hr (aa (az 1) (aa (az 3) (aa (az 2) ak)))) (mw (aq (ixP hu) (ax 1) aj) (az 6) BA)))) (af (iX 8 hu (aq (ixP hu) (ax 1) aj) (bf (aa aX (aa (bf (aa (az 7) ak)) (aa (aq (ixP hu) (ax 1) (EV.o (aq (ixP hu) (EN.o (gW (aa aY (aa aY (aa aY ak))))) (EV.o (aG dN (EV.o (aq (ixP hu) (ax 4) aj)) aj))))) ak))))) (af (iX 8 hu (aq (ixP hu) (ax 1) aj) (bf (aa aX (aa aX ak)))) (af (iX 8 hu (aq (ixP hu) (ax 1) aj) (bf (aa aX (aa aX ak)))) (af (eW (jr (ax 2)) (af (iX 8 hu (aq (ixP hu) (ax 1) aj) (au g9 hr (aa (az 1) (aa (az 3) (aa mN ak))))) (ao (iX 8 hu (aq (ixP hu) (ax 1) aj) (bf (aa aX (aa aX ak)))))) bA) (af (aL 9 bS.nd (EN.v (gW (aa (bf (aa aX (aa aX ak))) (aa (bf (aa aX (aa aX ak))) (aa (bf (aa aX (aa aX ak))) (aa (bf (aa aX (aa aX ak))) ak))))))) (ao (SV.frz 8 (aF (EN.v (xA (mw aX (au cE hr (aa (az 1) (aa (aG dN (EV.o (aq (ixP hu) (ax 4) aj)) aj) (aa (az 2) ak)))) (mw aX (az 9) (mw aX (az 8) BA)))))))))))))))))))
abbrev om:Stmt:=top 1
theorem j3:FnScope ["room","hour","since","till","name"] ["room","hour"] (ai om):=fsc
theorem lF (T:Txt w K mg) (hs:Hs K mg "handed" om):@PF (tw w) P w K mg base 1 "handed" kW:=
 letI:TW:=tw w
 ja (g:=kT) hs j3 fun _ _ _ _ _ _ _ hr=>have hu:=hr.units;(af (cN (dU (aq (ixP hu) (ax 0) aj)) (iU rfl (bc (aT 2 j3.nd) (bc (aT 3 j3.nd) (bc (aT 4 j3.nd) fS)))) (ao (eW (A9 Ll FR Dm lX (ax 2) (ax 1) (ax 3)) (ao (aF (az 4))) bA))) (ao (aF (aq (ixP hu) (ax 0) aj))))
abbrev lq:Stmt:=top 2
theorem jG:FnScope ["H","hour","name","come"] ["H","hour","name"] (ai lq):=fsc
theorem jN (T:Txt w K mg) (hs:Hs K mg "come_to" lq) (lF:@PF (tw w) P w K mg base 1 "handed" kW):@PF (tw w) P w K mg base 2 "come_to" jo:=
 letI:TW:=tw w
 ja (g:=m7) hs jG fun _ _ _ _ _ _ _ hr=>have hu:=hr.units;(af (aL 3 jG.nd (az 2)) (af (o6 300 (bQ (oz hu) cM (EV.o (aq (ixP hu) (EV.o (aq (ixP hu) (EV.o (aq (ixP hu) (ax 0) dq)) (ax 3))) aj)) dq) (ao (aL 3 jG.nd (au lF hr (aa (aq (ixP hu) (EV.o (aq (ixP hu) (ax 0) dq)) (ax 3)) (aa (az 1) ak)))))) (ao (aF (az 3)))))
abbrev lB:Stmt:=top 14
theorem ud:FnScope ["H","hour","name","back"] ["H","hour","name","back"] (ai lB):=fsc
theorem ck (T:Txt w K mg) (hs:Hs K mg "arrival" lB) (jN:@PF (tw w) P w K mg base 2 "come_to" jo):@PF (tw w) P w K mg base 3 "arrival" bX:=
 letI:TW:=tw w
 ja (g:=ma) hs ud fun _ _ _ _ _ _ _ hr=>have hu:=hr.units;(ao (aF (bf (aa (au jN hr (aa (az 0) (aa (az 1) (aa (az 2) ak)))) (aa (az 3) (aa aY (aa aY (aa aX ak))))))))
abbrev qR:Stmt:=top 13
theorem yW:FnScope ["H","hour"] ["H","hour"] (ai qR):=fsc
theorem ic (T:Txt w K mg) (hs:Hs K mg "begin" qR) (ck:@PF (tw w) P w K mg base 3 "arrival" bX):@PF (tw w) P w K mg base 4 "begin" c9:=
 letI:TW:=tw w
 ja (g:=rH) hs yW fun _ _ _ _ _ _ _ hr=>have hu:=hr.units;(ao (aF (au ck hr (aa (az 0) (aa (az 1) (aa (aq (ixP hu) (ax 0) dq) (aa aX ak)))))))
abbrev fq:Stmt:=top 20
theorem eE:FnScope ["H","hour","state","bound","wrong"] ["H","hour","state"] (ai fq):=fsc
theorem cY (T:Txt w K mg) (hs:Hs K mg "by_wrong_key" fq) (ck:@PF (tw w) P w K mg base 3 "arrival" bX):@PF (tw w) P w K mg base 4 "by_wrong_key" bL:=
 letI:TW:=tw w
 ja (g:=dB) hs eE fun _ _ _ _ _ _ _ hr=>have hu:=hr.units;(af (aL 3 eE.nd (aq (ixP hu) (EV.o (aq (ixP hu) (EV.o (aq (ixP hu) (ax 0) dq)) (EV.o (aq (ixP hu) (ax 2) aj)))) aj)) (af (aL 4 eE.nd (aG fH (EV.o (aq (ixP hu) (ax 2) aj)) aj)) (af (eW (bQ (oz hu) cM (ax 4) (EV.o (aq (ixP hu) (ax 3) aj))) (ao (aF (au ck hr (aa (az 0) (aa (az 1) (aa (aq (ixP hu) (ax 3) aj) (aa (aq (ixP hu) (ax 2) aj) ak))))))) bA) (ao (aF (bf (aa (aq (ixP hu) (ax 2) aj) (aa (aq (ixP hu) (ax 2) aj) (aa (az 4) (aa (aq (ixP hu) (ax 2) aj) (aa aX ak)))))))))))
abbrev oq:Stmt:=top 19
theorem ll:FnScope ["H","hour","ways","state","key","typed","target"] ["H","hour","ways","state","key"] (ai oq):=fsc
theorem lG (T:Txt w K mg) (hs:Hs K mg "by_key" oq) (cY:@PF (tw w) P w K mg base 4 "by_wrong_key" bL) (ck:@PF (tw w) P w K mg base 3 "arrival" bX):@PF (tw w) P w K mg base 5 "by_key" e8:=
 letI:TW:=tw w
 ja (g:=gi) hs ll fun _ _ _ _ _ _ _ hr=>have hu:=hr.units;(af (aL 5 ll.nd (aG fH (EV.o (aq (ixP hu) (ax 3) aj)) (ax 4))) (af (eW (bQ (CC hu) uB (ax 5) (ax 2)) (ao (aF (au cY hr (aa (az 0) (aa (az 1) (aa (az 3) ak)))))) bA) (af (aL 6 ll.nd (GT (bQ (oz hu) cM (EV.o (aq (ixP hu) (ax 2) (ax 5))) dq) (aq (ixP hu) (ax 3) aj) (aq (ixP hu) (ax 2) (ax 5)))) (af (eW (bQ Ji zP (ax 6) (EV.o qo)) (ao (aF (bf (aa (aq (ixP hu) (ax 3) aj) (aa (aq (ixP hu) (ax 3) aj) (aa (aq (ixP hu) (ax 3) aj) (aa (aq (ixP hu) (ax 3) aj) (aa (az 5) ak)))))))) bA) (af (eW (bQ (oz hu) cM (ax 6) dq) (ao (aF (au cY hr (aa (az 0) (aa (az 1) (aa (az 3) ak)))))) bA) (ao (aF (au ck hr (aa (az 0) (aa (az 1) (aa (az 6) (aa (aq (ixP hu) (ax 3) aj) ak))))))))))))
abbrev lA:Stmt:=top 21
theorem jI:FnScope ["H","hour","state","bound","waits"] ["H","hour","state"] (ai lA):=fsc
theorem jQ (T:Txt w K mg) (hs:Hs K mg "by_wait" lA) (ck:@PF (tw w) P w K mg base 3 "arrival" bX):@PF (tw w) P w K mg base 4 "by_wait" jq:=
 letI:TW:=tw w
 ja (g:=jj) hs jI fun _ _ _ _ _ _ _ hr=>have hu:=hr.units;(af (aL 3 jI.nd (aq (ixP hu) (EV.o (aq (ixP hu) (EV.o (aq (ixP hu) (ax 0) dq)) (EV.o (aq (ixP hu) (ax 2) aj)))) aj)) (af (aL 4 jI.nd (aG fH (EV.o (aq (ixP hu) (ax 2) aj)) aj)) (af (eW (bQ (oz hu) cM (ax 4) (EV.o (aq (ixP hu) (ax 3) aj))) (ao (aF (au ck hr (aa (az 0) (aa (az 1) (aa (aq (ixP hu) (ax 3) aj) (aa (aq (ixP hu) (ax 2) aj) ak))))))) bA) (ao (aF (bf (aa (aq (ixP hu) (ax 2) aj) (aa (aq (ixP hu) (ax 2) aj) (aa (aq (ixP hu) (ax 2) aj) (aa (az 4) (aa aX ak)))))))))))
abbrev oo:Stmt:=top 18
theorem pE:FnScope ["H","hour","ways","state","sign","kind"] ["H","hour","ways","state","sign"] (ai oo):=fsc
theorem c8 (T:Txt w K mg) (hs:Hs K mg "follow" oo) (jQ:@PF (tw w) P w K mg base 4 "by_wait" jq) (lG:@PF (tw w) P w K mg base 5 "by_key" e8):@PF (tw w) P w K mg base 6 "follow" bG:=
 letI:TW:=tw w
 ja (g:=f7) hs pE fun _ _ _ _ _ _ _ hr=>have hu:=hr.units;(af (aL 5 pE.nd (aq (ixP hu) (EV.o (aq (ixP hu) (EV.o (aq (ixP hu) (ax 0) dq)) (EV.o (aq (ixP hu) (ax 3) aj)))) aj)) (af (eW (EW.et (Dw (bQ (oz hu) cM (ax 5) dq) (Bs (bQ (oz hu) cM (ax 5) dq)))) (ao (aF (az 3))) bA) (af (eW (bQ (oz hu) cM (ax 4) (EV.o (qp rfl T.c_WAIT))) (ao (aF (au jQ hr (aa (az 0) (aa (az 1) (aa (az 3) ak)))))) bA) (ao (aF (au lG hr (aa (az 0) (aa (az 1) (aa (az 2) (aa (az 3) (aa (az 4) ak)))))))))))
abbrev qQ:Stmt:=top 22
theorem sv:FnScope ["H","state","room"] ["H","state"] (ai qQ):=fsc
theorem f6 (T:Txt w K mg) (hs:Hs K mg "heard" qQ):@PF (tw w) P w K mg base 1 "heard" dO:=
 letI:TW:=tw w
 ja (g:=jX) hs sv fun _ _ _ _ _ _ _ hr=>have hu:=hr.units;(af (aL 2 sv.nd (aq (ixP hu) (EV.o (aq (ixP hu) (ax 0) dq)) (EV.o (aq (ixP hu) (ax 1) aj)))) (ao (aF (bf (aa (aq (ixP hu) (EV.o (qp rfl T.c_HEARD)) (EV.o (aq (ixP hu) (ax 2) aj))) (aa (aq (ixP hu) (ax 2) aj) ak))))))
theorem oM (T:Txt w K mg) (c8:@PF (tw w) P w K mg base 6 "follow" bG):@LamB (tw w) P w K mg base 6 bR ["state","sign"] [] ij:=
 letI:TW:=tw w
 ⟨.of rfl rfl rfl (by decide +kernel) (by decide +kernel) (by decide +kernel) (by decide +kernel) (by decide +kernel),fun _ _ _ _ us h=>match us,h with | [_,_],_=>rfl,fun f c cl A outer s H hr=>iC.ex rfl (by
  have hu:=hr.units;exact(au c8 hr (aa (az 4) (aa (az 3) (aa (aq (ixP hu) (ax 2) (EV.o (aq (ixP hu) (ax 0) aj))) (aa (az 0) (aa (az 1) ak)))))))⟩
theorem oK (T:Txt w K mg):@LamB (tw w) P w K mg base 6 bD ["state"] [] nV:=
 letI:TW:=tw w
 ⟨.of rfl rfl rfl (by decide +kernel) (by decide +kernel) (by decide +kernel) (by decide +kernel) (by decide +kernel),fun _ _ _ _ us h=>match us,h with | [_],_=>rfl,fun f c cl A outer s H hr=>iC.ex rfl (by
  have hu:=hr.units;exact mN)⟩
theorem oe:NdL ["pair","sign","ways","others","hour","H","G","state"]:=⟨by decide +kernel⟩
theorem lU (T:Txt w K mg) (c8:@PF (tw w) P w K mg base 6 "follow" bG):@LamB (tw w) P w K mg base 6 aU ["pair","sign"] ["state"] ku:=
 letI:TW:=tw w
 ⟨.of rfl rfl rfl (by decide +kernel) (by decide +kernel) (by decide +kernel) (by decide +kernel) (by decide +kernel),fun _ _ _ _ us h=>match us,h with | [_,_],_=>rfl,fun f c cl A outer s H hr=>iC.st rfl (by
  have hu:=hr.units;exact(af (aL 7 oe.nd (au c8 hr (aa (az 5) (aa (az 4) (aa (aq (ixP hu) (ax 2) (EV.o (aq (ixP hu) (EV.o (aq (ixP hu) (ax 0) aj)) aj))) (aa (aq (ixP hu) (ax 0) aj) (aa (az 1) ak))))))) (ao (aF (bf (aa (az 7) (aa (au c8 hr (aa (az 6) (aa (az 4) (aa (aq (ixP hu) (ax 3) (EV.o (aq (ixP hu) (EV.o (aq (ixP hu) (ax 0) aj)) aj))) (aa (aq (ixP hu) (ax 0) aj) (aa (az 1) ak)))))) ak)))))))⟩
theorem lT (T:Txt w K mg) (f6:@PF (tw w) P w K mg base 1 "heard" dO):@LamB (tw w) P w K mg base 6 aI ["pair"] [] kq:=
 letI:TW:=tw w
 ⟨.of rfl rfl rfl (by decide +kernel) (by decide +kernel) (by decide +kernel) (by decide +kernel) (by decide +kernel),fun _ _ _ _ us h=>match us,h with | [_],_=>rfl,fun f c cl A outer s H hr=>iC.st rfl (by
  have hu:=hr.units;exact(ao (aF (qr (FQ hu) (EV.o (au f6 hr (aa (az 1) (aa (aq (ixP hu) (ax 0) aj) ak)))) (EV.o (au f6 hr (aa (az 2) (aa (aq (ixP hu) (ax 0) aj) ak))))))))⟩
theorem Lp (T:Txt w K mg) (c8:@PF (tw w) P w K mg base 6 "follow" bG) (f6:@PF (tw w) P w K mg base 1 "heard" dO):@Hr (tw w) P w K mg base 6 appL:=by
 letI:TW:=tw w
 intro L qs cs p e;unfold appL at e;split at e
 ·rename_i hL;subst hL;obtain⟨h1,h2⟩:=oI e;exact⟨_,_,_,oM T c8,h1,h2⟩
 split at e
 ·rename_i hL;subst hL;obtain⟨h1,h2⟩:=oI e;exact⟨_,_,_,oK T,h1,h2⟩
 split at e
 ·rename_i hL;subst hL;obtain⟨h1,h2⟩:=oI e;exact⟨_,_,_,lU T c8,h1,h2⟩
 split at e
 ·rename_i hL;subst hL;obtain⟨h1,h2⟩:=oI e;exact⟨_,_,_,lT T f6,h1,h2⟩
 cases e
abbrev cV:Stmt:=top 8
theorem bT:FnScope ["codes","counts","code","size"] ["codes"] (ai cV):=fsc
theorem cL (T:Txt w K mg) (hs:Hs K mg "beginning_counts" cV):@PF (tw w) P w K mg base 1 "beginning_counts" bI:=
 letI:TW:=tw w
 ja (g:=d3) hs bT fun _ _ _ _ _ _ _ hr=>have hu:=hr.units;(af (dD 1 bT.nd jZ) (af (cN (dU (az 0)) (aT 2 bT.nd) (ao (cN (mv rfl T.n_range aY (aG fH (EV.o (ml Ej rfl T.n_len rfl (ax 2))) aj)) (aT 3 bT.nd) (ao (iX 1 hu (gV (ax 2) fU (fT (az 3))) (aG fH (EV.o (Dz (xx 1) (gV (ax 2) fU (fT (az 3))) aY)) aj)))))) (ao (SV.frz 1 (aF (az 1))))))
abbrev oj:Stmt:=top 6
theorem lj:FnScope ["letters","letter","key","held"] ["letters","letter"] (ai oj):=fsc
theorem lE (T:Txt w K mg) (hs:Hs K mg "key_of" oj):@PF (tw w) P w K mg base 1 "key_of" kU:=
 letI:TW:=tw w
 ja (g:=kR) hs lj fun _ _ _ _ _ _ _ hr=>have hu:=hr.units;(af (cN (dU (az 0)) (iU rfl (bc (aT 2 lj.nd) (bc (aT 3 lj.nd) fS))) (ao (eW (bQ (Ko hu) wR (ax 1) (ax 3)) (ao (aF (az 2))) bA))) (ao (aF qo)))
abbrev lr:Stmt:=top 5
theorem jH:FnScope ["letters","word","keys"] ["letters","word"] (ai lr):=fsc
theorem jO (T:Txt w K mg) (hs:Hs K mg "code_of" lr) (lE:@PF (tw w) P w K mg base 1 "key_of" kU):@PF (tw w) P w K mg base 2 "code_of" gU:=
 letI:TW:=tw w
 ja (g:=m8) hs jH fun _ _ _ _ _ _ _ hr=>have hu:=hr.units;(af (vt false 2 jH.nd (N':=["letter","letters"]) (cok jH) (dU (az 1)) (fun _ _ _ _ _=>(vo 0)) (fun _ _ _ _ _=>(au lE hr (aa (az 1) (aa (az 0) ak))))) (ao (aF (GT (bQ (Ko hu) wR (EV.o qo) (ax 2)) qo (JL IQ Jp aX (ax 2))))))
abbrev eF:Stmt:=top 9
theorem gp:FnScope ["code","counts","size"] ["code","counts"] (ai eF):=fsc
theorem dJ (T:Txt w K mg) (hs:Hs K mg "own_beginning" eF):@PF (tw w) P w K mg base 1 "own_beginning" d7:=
 letI:TW:=tw w
 ja (g:=cZ) hs gp fun _ _ _ _ _ _ _ hr=>have hu:=hr.units;(af (cN (mv rfl T.n_range aY (ml Ej rfl T.n_len rfl (ax 0))) (aT 2 gp.nd) (ao (eW (bQ (oz hu) cM (EV.o (aq (ixP hu) (ax 1) (EV.o (gV (ax 0) fU (fT (az 2)))))) aj) (ao (aF (gV (ax 0) fU (fT (az 2))))) bA))) (ao (aF (az 0))))
abbrev gE:Stmt:=top 7
theorem cU:FnScope ["letters","words","codes","counts"] ["letters","words"] (ai gE):=fsc
theorem gb (T:Txt w K mg) (hs:Hs K mg "beginnings" gE) (jO:@PF (tw w) P w K mg base 2 "code_of" gU) (cL:@PF (tw w) P w K mg base 1 "beginning_counts" bI) (dJ:@PF (tw w) P w K mg base 1 "own_beginning" d7):@PF (tw w) P w K mg base 3 "beginnings" dH:=
 letI:TW:=tw w
 ja (g:=gS) hs cU fun _ _ _ _ _ _ _ hr=>have hu:=hr.units;(af (vt false 2 cU.nd (N':=["word","letters"]) (cok cU) (dU (az 1)) (fun _ _ _ _ _=>(vo 0)) (fun _ _ _ _ _=>(aG fH (EV.o (au jO hr (aa (az 1) (aa (az 0) ak)))) (EV.o (qp rfl T.c_CODE_END))))) (af (aL 3 cU.nd (au cL hr (aa (az 2) ak))) (ao (aF (EN.v (mr (N':=["word","code","counts"]) (cok cU) (xC rfl T.n_zip (az 1) (az 2)) (fun _ _ _ _ _=>(vn rfl (i4 (vo 0) (i4 (vo 1) qN)))) (fun _ _ _ _ _=>(bf (aa (az 0) (aa (au dJ hr (aa (az 1) (aa (az 2) ak))) ak))))))))))
abbrev gB:Stmt:=top 17
theorem cS:FnScope ["letters","names","ways","word","beginning","size"] ["letters","names"] (ai gB):=fsc
theorem g7 (T:Txt w K mg) (hs:Hs K mg "names_ways" gB) (gb:@PF (tw w) P w K mg base 3 "beginnings" dH):@PF (tw w) P w K mg base 4 "names_ways" ff:=
 letI:TW:=tw w
 ja (g:=gN) hs cS fun _ _ _ _ _ _ _ hr=>have hu:=hr.units;(af (dD 2 cS.nd jZ) (af (cN (dU (au gb hr (aa (az 0) (aa (EN.v (DB Hh rfl T.n_list rfl (ax 1))) ak)))) (iU rfl (bc (aT 3 cS.nd) (bc (aT 4 cS.nd) fS))) (af (cN (mv rfl T.n_range aY (ml Ej rfl T.n_len rfl (ax 4))) (aT 5 cS.nd) (ao (iX 2 hu (gV (ax 4) fU (fT (az 5))) qo))) (ao (iX 2 hu (az 4) (aq (ixP hu) (ax 1) (ax 3)))))) (ao (SV.frz 2 (aF (az 2))))))
abbrev iF:Stmt:=top 16
theorem ki:FnScope ["H","name","room"] ["H","name"] (ai iF):=fsc
theorem gF (T:Txt w K mg) (hs:Hs K mg "room_ways" iF) (g7:@PF (tw w) P w K mg base 4 "names_ways" ff):@PF (tw w) P w K mg base 5 "room_ways" aJ:=
 letI:TW:=tw w
 ja (g:=dw) hs ki fun _ _ _ _ _ _ _ hr=>have hu:=hr.units;(af (aL 2 ki.nd (aq (ixP hu) (EV.o (aq (ixP hu) (ax 0) dq)) (ax 1))) (af (eW (bQ (oz hu) cM (EV.o (aq (ixP hu) (ax 2) aj)) dq) (ao (aF (EN.v (DB BI rfl T.n_dict rfl (EV.o (aq (ixP hu) (ax 2) aj)))))) bA) (af (eW (bQ (oz hu) cM (EV.o (aq (ixP hu) (ax 2) aj)) dq) (ao (aF (au g7 hr (aa (aq (ixP hu) (ax 0) dq) (aa (EN.v (DB BI rfl T.n_dict rfl (EV.o (aq (ixP hu) (ax 2) aj)))) ak))))) bA) (ao (aF (EN.v jZ))))))
abbrev gC:Stmt:=top 15
theorem fW:FnScope ["H","ways","name"] ["H"] (ai gC):=fsc
theorem bF (T:Txt w K mg) (hs:Hs K mg "house_ways" gC) (gF:@PF (tw w) P w K mg base 5 "room_ways" aJ):@PF (tw w) P w K mg base 6 "house_ways" aV:=
 letI:TW:=tw w
 ja (g:=gO) hs fW fun _ _ _ _ _ _ _ hr=>have hu:=hr.units;(af (dD 1 fW.nd jZ) (af (cN (dU (aq (ixP hu) (ax 0) dq)) (aT 2 fW.nd) (ao (iX 1 hu (az 2) (au gF hr (aa (az 0) (aa (az 2) ak)))))) (ao (SV.frz 1 (aF (az 1))))))
abbrev gD:Stmt:=top 25
theorem bE:FnScope ["start","lead","is_last","known","found","done","near","sign","thing"] ["start","lead","is_last"] (ai gD):=fsc
theorem cX (T:Txt w K mg) (hs:Hs K mg "first_rows" gD) (LT:@Hr (tw w) P w K mg base 6 appL):@PFN (tw w) P w K mg base 8 "first_rows" bH:=
 letI:TW:=tw w
 FB (g:=f9) hs bE fun _ _ _ _ _ _ _ hr=>have hu:=hr.units;(iW (pN _ _) (dD 3 bE.nd (Ad hu (az 0) mN)) (iW (pN _ _) (dD 4 bE.nd (gW (aa (bf (aa (az 0) (aa aX ak))) ak))) (iW (iZ _ _) (aL 5 bE.nd aY) (iW (yC (gz (iZ _ _) (gz (yd _ _) (xg (gz (iZ _ _) (t7 (gz (uk _ _ _) (gz (ye _ _) (t7 ya nG))) nG)))))) (o6 10500000 (EW.et (xr (bQ FR lX (ax 5) (EV.o (ml Ej rfl T.n_len rfl (xx 4)))) (rO (GV (jr (EV.o (oU 2 LT hr (aa (aq (ixP hu) (EV.o (aq (ixP hu) (xx 4) (EV.o (nU aY)))) aj) ak)))))))) (af (aL 6 bE.nd (aq (ixP hu) (xx 4) (ax 5))) (af (Fb 5 bE.nd aY) (ao (cN (dU (qp rfl T.c_SIGNS)) (aT 7 bE.nd) (af (aL 8 bE.nd (oU 1 LT hr (aa (aq (ixP hu) (ax 6) aj) (aa (az 7) ak)))) (ao (eW (bQ (zx hu) rG (ax 8) (xx 3)) (af (qO 3 hu (az 8) mN) (af (dE 4 (bf (aa (az 8) (aa (aG fH (EV.o (aq (ixP hu) (ax 6) aj)) (ax 7)) ak)))) (ao (eW (jr (EV.o (oU 2 LT hr (aa (az 8) ak)))) (ao yS) bA)))) bA)))))))) (yR 4)))))
abbrev cC:Stmt:=top 34
theorem cj:FnScope ["H","G","hour","ways","others","lead","is_apart","found","pairs","last"] ["H","G","hour"] (ai cC):=fsc
theorem jl:∀y∈aU.scope.names,y.2=.free->(ai cC).names.lookup y.1=some .cell:=by decide +kernel
theorem oS {C:Cn} (h:C.X.env.scope=ai cC:=by rfl) (hN:C.X.N=(["H","G","hour","ways","others","lead","is_apart","found","pairs","last"]:List Str):=by rfl):FnC C aU [3,4,2,0,1]:=⟨by rw[h];exact jl,rfl,by decide +kernel,by rw[hN];rfl⟩
theorem jk:∀y∈aI.scope.names,y.2=.free->(ai cC).names.lookup y.1=some .cell:=by decide +kernel
theorem jn {C:Cn} (h:C.X.env.scope=ai cC:=by rfl) (hN:C.X.N=(["H","G","hour","ways","others","lead","is_apart","found","pairs","last"]:List Str):=by rfl):FnC C aI [0,1]:=⟨by rw[h];exact jk,rfl,by decide +kernel,by rw[hN];rfl⟩
theorem jM {f:Addr} {fd:FuncData} (T:Txt w K mg) (F:Fun K "compare" "compare" cC f fd) (hm:mg "compare"=some (.ref f)) (hb:Binds K fd ["H","G","hour"] []) {cP:Addr} (hcode:fd.code=.ref cP) (hhd:Ob K cP eD=true) (hKb:K.In base) (hbn:∃bm o,mg "__builtins__"=some (.ref bm)/\bm≠NR/\bm≠mainGlobals/\base.get? bm=some o/\o.cls=.type "module"/\o.dict=some NR/\o.data=.plain) (bF:@PF (tw w) P w K mg base 6 "house_ways" aV) (cX:@PFN (tw w) P w K mg base 8 "first_rows" bH) (ic:@PF (tw w) P w K mg base 4 "begin" c9) (LT:@Hr (tw w) P w K mg base 6 appL):@PF (tw w) P w K mg base 9 "compare" dG:=
 letI:TW:=tw w
 Cw F cj hm hb (g:=ji) fun cdv hcdv A outer s H E hr=>by
  have hu:=hr.units;exact(SVF.tru (o5 3 cj.nd cB (fun _ _ _ h=>trivial) (EVF.of (au bF hr (aa (az 0) ak))) (o5 4 cj.nd cB (fun _ _ _ h=>trivial) (EVF.of (au bF hr (aa (az 1) ak))) (vq (L:=aU) (pos:=tP ⟨0,0,0,0⟩ gZ) (c:=cP) (P:=eD) 5 cj.nd cB (fun _ _ _ h=>trivial) ⟨rfl,rfl,rfl,hcdv.trans hcode,Of hKb hhd,mX,hbn,rfl,rfl,rfl,jl⟩ (vq (L:=aI) (pos:=tP ⟨0,0,0,0⟩ gY) (c:=cP) (P:=eD) 6 cj.nd (Ph.and_ok cB FnS.ok) (fun _ _ _ h=>⟨trivial,FnS.set (by decide) _ _ _ h.2⟩) ⟨rfl,rfl,rfl,hcdv.trans hcode,Of hKb hhd,mX,hbn,rfl,rfl,rfl,jk⟩ (o5 7 cj.nd (Ph.and_ok (Ph.and_ok cB FnS.ok) FnS.ok) (fun _ _ _ h=>⟨⟨trivial,FnS.set (by decide) _ _ _ h.1.2⟩,FnS.set (by decide) _ _ _ h.2⟩) (ENF.v (qt cX hr (Bx (bf (aa (au ic hr (aa (az 0) (aa (az 2) ak))) (aa (au ic hr (aa (az 1) (aa (az 2) ak))) ak))) (H8 5 (fun _ _ h=>h.1.2) oS (H8 6 (fun _ _ h=>h.2) jn By (Ph.and_ok (Ph.and_ok cB FnS.ok) FnS.ok)) (Ph.and_ok (Ph.and_ok cB FnS.ok) FnS.ok)) (Ph.and_ok (Ph.and_ok cB FnS.ok) FnS.ok)))) (F9 8 (Ph.and_ok (Ph.and_ok cB FnS.ok) FnS.ok) (fun _ _ _ h=>⟨⟨trivial,FnS.set (by decide) _ _ _ h.1.2⟩,FnS.set (by decide) _ _ _ h.2⟩) (Cq 8 cj.nd (N':=["pair","row"]) (cok cj) (dU (az 7)) (fun _ _ _ _ _=>(vn rfl (i4 (vo 0) (i4 (vo 1) qN)))) (fun _ _ _ _ _=>(bf (aa (aq (ixP hu) (ax 0) aj) (aa (aq (ixP hu) (ax 0) aj) (aa (az 1) ak)))))) (o5 9 cj.nd (Ph.and_ok (Ph.and_ok cB FnS.ok) FnS.ok) (fun _ _ _ h=>⟨⟨trivial,FnS.set (by decide) _ _ _ h.1.2⟩,FnS.set (by decide) _ _ _ h.2⟩) (EVF.of (aq (ixP hu) (ax 7) (EV.o (nU aY)))) (vp (Ph.and_ok (Ph.and_ok cB FnS.ok) FnS.ok) (xu (uI 6 LT hr (fun _ _ h=>h.2) jn (aa (aq (ixP hu) (ax 9) aj) ak))) (EVF.of (bf (aa aX (aa (aq (ixP hu) (ax 9) aj) (aa (oT (ax 8) fU (fT (nU aY))) ak))))) (BY (EVF.of (bf (aa aX (aa (az 8) ak))))))))))))))
abbrev eX:Stmt:=top 26
theorem pD:FnScope ["H","hour","ways"] ["H","hour"] (ai eX):=fsc
theorem rM:∀y∈bR.scope.names,y.2=.free->(ai eX).names.lookup y.1=some .cell:=by decide +kernel
theorem rL:∀y∈bD.scope.names,y.2=.free->(ai eX).names.lookup y.1=some .cell:=by decide +kernel
theorem gG {f:Addr} {fd:FuncData} (T:Txt w K mg) (F:Fun K "places" "places" eX f fd) (hm:mg "places"=some (.ref f)) (hb:Binds K fd ["H","hour"] []) {cP:Addr} (hcode:fd.code=.ref cP) (hhd:Ob K cP fO=true) (hKb:K.In base) (hbn:∃bm o,mg "__builtins__"=some (.ref bm)/\bm≠NR/\bm≠mainGlobals/\base.get? bm=some o/\o.cls=.type "module"/\o.dict=some NR/\o.data=.plain) (bF:@PF (tw w) P w K mg base 6 "house_ways" aV) (cX:@PFN (tw w) P w K mg base 8 "first_rows" bH) (ic:@PF (tw w) P w K mg base 4 "begin" c9):@PFN (tw w) P w K mg base 9 "places" e6:=
 letI:TW:=tw w
 zm F pD hm hb (g:=oQ) (hr:=(Aa _ _ _ (Ab _))) fun cdv hcdv A outer s H E hr=>by
  have hu:=hr.units;exact(iW (iZ _ _) (aL 2 pD.nd (au bF hr (aa (az 0) ak))) (BX (Ae cX hr (Bx (au ic hr (aa (az 0) (aa (az 1) ak))) (Bz (L:=bR) (idx:=[2,1,0]) (lp:=Bc ⟨0,0,0,0⟩ mS) (c:=cP) (P:=fO) ⟨rfl,rfl,rfl,rfl,hcdv.trans hcode,Of hKb hhd,pz,hbn,rfl,rM,rfl,by decide +kernel,rfl⟩ (Bz (L:=bD) (idx:=[]) (lp:=Bc ⟨0,0,0,0⟩ mR) (c:=cP) (P:=fO) ⟨rfl,rfl,rfl,rfl,hcdv.trans hcode,Of hKb hhd,pz,hbn,rfl,rL,rfl,by decide +kernel,rfl⟩ By))))))
abbrev jJ:Stmt:=top 32
theorem fV:FnScope ["marks","numbers","mark"] ["marks"] (ai jJ):=fsc
theorem eK (T:Txt w K mg) (hs:Hs K mg "numbered" jJ):@PF (tw w) P w K mg base 1 "numbered" cO:=
 letI:TW:=tw w
 ja (g:=jV) hs fV fun _ _ _ _ _ _ _ hr=>have hu:=hr.units;(af (dD 1 fV.nd rT) (af (cN (dU (az 0)) (aT 2 fV.nd) (ao (BZ 1 hu (az 2) (ml DV rfl T.n_len rfl (xx 1))))) (ao (SV.frz 1 (aF (EN.v (mr (N':=["mark","numbers"]) (cok fV) (dU (az 0)) (fun _ _ _ _ _=>(vo 0)) (fun _ _ _ _ _=>(aq (ixT hu) (ax 1) (ax 0))))))))))
abbrev eG:Stmt:=top 31
theorem bW:FnScope ["numbers","nexts","marks","number","following"] ["numbers","nexts"] (ai eG):=fsc
theorem cJ (T:Txt w K mg) (hs:Hs K mg "finer_classes" eG) (eK:@PF (tw w) P w K mg base 1 "numbered" cO):@PF (tw w) P w K mg base 2 "finer_classes" bw:=
 letI:TW:=tw w
 ja (g:=eM) hs bW fun _ _ _ _ _ _ _ hr=>have hu:=hr.units;(af (dD 2 bW.nd (gW ak)) (af (cN (xC rfl T.n_zip (az 0) (az 1)) (iU rfl (bc (aT 3 bW.nd) (bc (aT 4 bW.nd) fS))) (ao (dE 2 (bf (aa (az 3) (aa (Dx BH rfl T.n_tuple rfl (EN.o (mr (N':=["place","numbers"]) (cok bW) (dU (az 4)) (fun _ _ _ _ _=>(vo 0)) (fun _ _ _ _ _=>(aq (ixP hu) (ax 1) (ax 0)))))) ak)))))) (ao (SV.frz 2 (aF (au eK hr (aa (az 2) ak)))))))
abbrev iI:Stmt:=top 30
theorem dF:FnScope ["H","found","nexts","told","finer"] ["H","found","nexts"] (ai iI):=fsc
theorem gH (T:Txt w K mg) (hs:Hs K mg "classings" iI) (eK:@PF (tw w) P w K mg base 1 "numbered" cO) (f6:@PF (tw w) P w K mg base 1 "heard" dO) (cJ:@PF (tw w) P w K mg base 2 "finer_classes" bw):@PF (tw w) P w K mg base 3 "classings" eQ:=
 letI:TW:=tw w
 ja (g:=iO) hs dF fun _ _ _ _ _ _ _ hr=>have hu:=hr.units;(af (dD 3 dF.nd (gW (aa (au eK hr (aa (EN.v (mr (N':=["state","row","H"]) (cok dF) (dU (az 1)) (fun _ _ _ _ _=>(vn rfl (i4 (vo 0) (i4 (vo 1) qN)))) (fun _ _ _ _ _=>(au f6 hr (aa (az 2) (aa (az 0) ak)))))) ak)) ak))) (af (aL 4 dF.nd (au cJ hr (aa (aq (ixP hu) (xx 3) (EV.o (nU aY))) (aa (az 2) ak)))) (af (o6 20000 (bQ (FQ hu) oO (ax 4) (EV.o (aq (ixP hu) (xx 3) (EV.o (nU aY))))) (af (dE 3 (az 4)) (ao (aL 4 dF.nd (au cJ hr (aa (az 4) (aa (az 2) ak))))))) (ao (SV.frz 3 (aF (az 3)))))))
abbrev fX:Stmt:=top 27
theorem aZ:FnScope ["H","hour","found","ways","numbers","number","place","nexts","state","row"] ["H","hour","found"] (ai fX):=fsc
theorem fu (T:Txt w K mg) (hs:Hs K mg "next_places" fX) (bF:@PF (tw w) P w K mg base 6 "house_ways" aV) (c8:@PF (tw w) P w K mg base 6 "follow" bG):@PF (tw w) P w K mg base 7 "next_places" da:=
 letI:TW:=tw w
 ja (g:=gh) hs aZ fun _ _ _ _ _ _ _ hr=>have hu:=hr.units;(af (aL 3 aZ.nd (au bF hr (aa (az 0) ak))) (af (dD 4 aZ.nd rT) (af (cN (xD rfl T.n_enumerate (az 2)) (iU rfl (bc (aT 5 aZ.nd) (bc (aT 6 aZ.nd) fS))) (ao (qO 4 hu (aq (ixP hu) (ax 6) aj) (az 5)))) (af (dD 7 aZ.nd (gW ak)) (af (cN (dU (az 2)) (iU rfl (bc (aT 8 aZ.nd) (bc (aT 9 aZ.nd) fS))) (ao (SV.frz 4 (dE 7 (EN.v (mr (N':=["sign","numbers","H","hour","state","ways"]) (cok aZ) (dU (qp rfl T.c_SIGNS)) (fun _ _ _ _ _=>(vo 0)) (fun _ _ _ _ _=>(aq (ixT hu) (ax 1) (EV.o (au c8 hr (aa (az 2) (aa (az 3) (aa (aq (ixP hu) (ax 5) (EV.o (aq (ixP hu) (ax 4) aj))) (aa (az 4) (aa (az 0) ak))))))))))))))) (ao (SV.frz 7 (aF (az 7)))))))))
abbrev ly:Stmt:=top 29
theorem nj:FnScope ["H","hour","found"] ["H","hour"] (ai ly):=fsc
theorem eB (T:Txt w K mg) (hs:Hs K mg "classes" ly) (gG:@PFN (tw w) P w K mg base 9 "places" e6) (gH:@PF (tw w) P w K mg base 3 "classings" eQ) (fu:@PF (tw w) P w K mg base 7 "next_places" da):@PF (tw w) P w K mg base 10 "classes" de:=
 letI:TW:=tw w
 ja (g:=m9) hs nj fun _ _ _ _ _ _ _ hr=>have hu:=hr.units;(af (aL 2 nj.nd (EN.v (xB gG hr (aa (az 0) (aa (az 1) ak))))) (ao (aF (aq (ixP hu) (EV.o (au gH hr (aa (az 0) (aa (az 2) (aa (au fu hr (aa (az 0) (aa (az 1) (aa (az 2) ak)))) ak))))) (EV.o (nU aY))))))
abbrev fh:Stmt:=top 42
theorem cT:FnScope ["_law_house_here","_law_hour","_law_numbers_here","_law_place","_law_number"] ["_law_house_here","_law_hour"] (ai fh):=fsc
theorem cW (T:Txt w K mg) (hs:Hs K mg "_law_numbered" fh) (gG:@PFN (tw w) P w K mg base 9 "places" e6) (eB:@PF (tw w) P w K mg base 10 "classes" de):@PF (tw w) P w K mg base 11 "_law_numbered" cF:=
 letI:TW:=tw w
 ja (g:=fz) hs cT fun _ _ _ _ _ _ _ hr=>have hu:=hr.units;(af (dD 2 cT.nd rT) (af (cN (xC rfl T.n_zip (EN.v (xB gG hr (aa (az 0) (aa (az 1) ak)))) (au eB hr (aa (az 0) (aa (az 1) ak)))) (iU rfl (bc (aT 3 cT.nd) (bc (aT 4 cT.nd) fS))) (ao (qO 2 hu (aq (ixP hu) (ax 3) aj) (az 4)))) (ao (SV.frz 2 (aF (az 2))))))
abbrev iG:Stmt:=top 38
theorem br:FnScope ["_law_cell","_law_letters","_law_some","_law_size","_law_at","_law_names_here","_law_turn","_law_name","_law_k"] ["_law_cell"] (ai iG):=fsc
theorem eY (T:Txt w K mg) (hs:Hs K mg "_law_names" iG) (bY:@PF (tw w) P w K mg base 1 "_law_numbers" b9):@PF (tw w) P w K mg base 2 "_law_names" eN:=
 letI:TW:=tw w
 ja (g:=iM) hs br fun _ _ _ _ _ _ _ hr=>have hu:=hr.units;(af (aL 1 br.nd aX) (af (aL 2 br.nd (au bY hr (aa (az 0) (aa aY ak)))) (af (aL 3 br.nd (aG fH aj (EV.o (aG dN (EV.o (aq (ixP hu) (ax 2) aj)) aj)))) (af (aL 4 br.nd (aG dN (EV.o (aq (ixP hu) (ax 2) aj)) (ax 3))) (af (dD 5 br.nd (gW ak)) (af (cN (jt rfl T.n_range aY) (aT 6 br.nd) (af (aL 7 br.nd aX) (af (cN (jt rfl T.n_range (az 3)) (aT 8 br.nd) (ao (aL 7 br.nd (aG fH (ax 7) (EV.o (aq (ixP hu) (ax 1) (EV.o (aG dN (EV.o (aG fH (EV.o (aq (ixP hu) (ax 2) (ax 8))) (EV.o (aG zy (EV.o (aG zy aj (ax 6))) (EV.o (Dx cInt rfl T.n_int rfl (EV.o (qr (oz hu) (ax 8) (ax 4))))))))) aj)))))))) (ao (dE 5 (az 7)))))) (ao (SV.frz 5 (aF (az 5))))))))))
abbrev oh:Stmt:=top 43
theorem fF:FnScope ["_law_script","_law_house_here","_law_other","_law_hour","_law_found","_law_here","_law_there","_law_one","_law_goes","_law_comes","_law_state","_law_twin","_law_row"] ["_law_script"] (ai oh):=fsc
theorem FU {f:Addr} {fd:FuncData} (T:Txt w K mg) (F:Fun K "law" "law" oh f fd) (eZ:@PF (tw w) P w K mg base 3 "_law_house" eO) (eY:@PF (tw w) P w K mg base 2 "_law_names" eN) (bt:@PF (tw w) P w K mg base 1 "_law_cell_at" aA) (jM:@PF (tw w) P w K mg base 9 "compare" dG) (cW:@PF (tw w) P w K mg base 11 "_law_numbered" cF) (eB:@PF (tw w) P w K mg base 10 "classes" de):FnOk P w K mg base CX0 12 f fd ["_law_script"] (@spP (tw w) K 1 xq):=
 letI:TW:=(tw w)
 have main:FnOk P w K mg base CX0 (11+1) f fd ["_law_script"] (spP K 1 (eI 1 13 zT)):=by
  refine Jj (N:=["_law_script","_law_house_here","_law_other","_law_hour","_law_found","_law_here","_law_there","_law_one","_law_goes","_law_comes","_law_state","_law_twin","_law_row"]) (ps:=["_law_script"]) (k:=11) (g:=zT) F fF ?_;intro cdv A outer s H E hr;have hu:=hr.units;exact(af (aL 1 fF.nd (au eZ hr (aa (az 0) (aa (au eY hr (aa (au bt hr (aa (az 0) (aa aY ak))) ak)) (aa mN ak))))) (af (aL 2 fF.nd (au eZ hr (aa (az 0) (aa (au eY hr (aa (au bt hr (aa (az 0) (aa aY ak))) ak)) (aa mN ak))))) (af (aL 3 fF.nd (aG dN (EV.o (au bt hr (aa (az 0) (aa aY ak)))) aj)) (af (aL 4 fF.nd (au jM hr (aa (az 1) (aa (az 2) (aa (az 3) ak))))) (af (eW (bQ (FQ hu) oO (EV.o (aq (ixP hu) (ax 4) aj)) dq) (ao (aF mN)) bA) (af (aL 5 fF.nd (au cW hr (aa (az 1) (aa (az 3) ak)))) (af (aL 6 fF.nd (au cW hr (aa (az 2) (aa (az 3) ak)))) (af (aL 7 fF.nd (ml Hg rfl T.n_max rfl (EV.o (au eB hr (aa (az 1) (aa (az 3) ak)))))) (af (eW (EW.et (Dw (bQ (FQ hu) oO (EV.o (ml Hg rfl T.n_max rfl (EV.o (au eB hr (aa (az 2) (aa (az 3) ak)))))) (ax 7)) (Dw (bQ FR lX (EV.o (ml DV rfl T.n_len rfl (ax 5))) (EV.o (aG fH (ax 7) aj))) (Bs (bQ FR lX (EV.o (ml DV rfl T.n_len rfl (ax 6))) (EV.o (aG fH (ax 7) aj))))))) (ao (aF mN)) bA) (af (dD 8 fF.nd jZ) (af (dD 9 fF.nd jZ) (af (cN (dU (aq (ixP hu) (ax 4) aj)) (iU rfl (bc (aT 10 fF.nd) (bc (aT 11 fF.nd) (bc (aT 12 fF.nd) fS)))) (af (sk 8 hu (aq (ixT hu) (ax 5) (ax 10)) (aq (ixT hu) (ax 6) (ax 11)) (EV.o (aq (ixT hu) (ax 6) (ax 11))) (ao (aF mN))) (ao (sk 9 hu (aq (ixT hu) (ax 6) (ax 11)) (aq (ixT hu) (ax 5) (ax 10)) (EV.o (aq (ixT hu) (ax 5) (ax 10))) (ao (aF mN)))))) (ao (aF (qr (oz hu) (EV.o (ml Ej rfl T.n_len rfl (xx 8))) (EV.o (aG fH (ax 7) aj)))))))))))))))))
 main
end K43
namespace K43
open PySem PySem.Spec PyProof.Rows L2 PU
seal EV EO EN EA ET EW SV SVs TGt E6 TCt E7 EI ETs ED EOI ELF EVF ENF ETF SVF
theorem all_mk {l:R9} {w:Ml} {K:M8} {h:Heap} {mg:Str->Option M9} {fa:Addr} (X:K.In h) (G:h.Ns mainGlobals mg) (hfa:mg "law"=some (.ref fa))
  {f23 f24 f32:Addr} {od23 an23 od24 an24 od32 an32:Option Addr} {sl23 sl24 sl32:Array (Option M9)} {oc23 kV23 dc23 pm23 cd23 ct23 oc24 kV24 dc24 pm24 cd24 ct24 oc32 kV32 dc32 pm32 cd32 ct32:M9}
  (h0:Has K "_law_numbers" fY)
  (h1:Has K "_law_cell_at" fZ)
  (h2:Has K "_law_to" og)
  (h3:Has K "_law_menu" jK)
  (h4:Has K "_law_house" iH)
  (h5:Has K "handed" om)
  (h6:Has K "come_to" lq)
  (h7:Has K "arrival" lB)
  (h8:Has K "begin" qR)
  (h9:Has K "by_wrong_key" fq)
  (h10:Has K "by_key" oq)
  (h11:Has K "by_wait" lA)
  (h12:Has K "follow" oo)
  (h13:Has K "heard" qQ)
  (h14:Has K "beginning_counts" cV)
  (h15:Has K "key_of" oj)
  (h16:Has K "code_of" lr)
  (h17:Has K "own_beginning" eF)
  (h18:Has K "beginnings" gE)
  (h19:Has K "names_ways" gB)
  (h20:Has K "room_ways" iF)
  (h21:Has K "house_ways" gC)
  (h22:Has K "first_rows" gD)
  (a23:NK K mainGlobals "compare"=some (some (.ref f23))) (l23:K.lookup f23=some ⟨oc23,od23,.func (NZ "compare" "compare" (dP cC) (bh cC) (ai cC) .none kV23 dc23 pm23 an23 cd23 ct23),sl23⟩) (c23:OC K cd23 "compare"=true) (k23:Np K (.ref f23)=true)
  (a24:NK K mainGlobals "places"=some (some (.ref f24))) (l24:K.lookup f24=some ⟨oc24,od24,.func (NZ "places" "places" (dP eX) (bh eX) (ai eX) .none kV24 dc24 pm24 an24 cd24 ct24),sl24⟩) (c24:OC K cd24 "places"=true) (k24:Np K (.ref f24)=true)
  (h25:Has K "numbered" jJ)
  (h26:Has K "finer_classes" eG)
  (h27:Has K "classings" iI)
  (h28:Has K "next_places" fX)
  (h29:Has K "classes" ly)
  (h30:Has K "_law_numbered" fh)
  (h31:Has K "_law_names" iG)
  (a32:NK K mainGlobals "law"=some (some (.ref f32))) (l32:K.lookup f32=some ⟨oc32,od32,.func (NZ "law" "law" (dP oh) (bh oh) (ai oh) .none kV32 dc32 pm32 an32 cd32 ct32),sl32⟩) (c32:OC K cd32 "law"=true) (k32:Np K (.ref f32)=true)
  {cP23:Addr} (hcode23:cd23=.ref cP23) (hhd23:Ob K cP23 eD=true)
  {cP24:Addr} (hcode24:cd24=.ref cP24) (hhd24:Ob K cP24 fO=true)
  (z_dict:NK K mainGlobals "dict"=some none)
  (z_enumerate:NK K mainGlobals "enumerate"=some none)
  (z_int:NK K mainGlobals "int"=some none)
  (z_len:NK K mainGlobals "len"=some none)
  (z_list:NK K mainGlobals "list"=some none)
  (z_max:NK K mainGlobals "max"=some none)
  (z_range:NK K mainGlobals "range"=some none)
  (z_tuple:NK K mainGlobals "tuple"=some none)
  (z_zip:NK K mainGlobals "zip"=some none)
  (c_CODE_END:@Con (tw w) K mg "CODE_END" c_CODE_END)
  (c_HEARD:@Con (tw w) K mg "HEARD" c_HEARD)
  (c_SIGNS:@Con (tw w) K mg "SIGNS" c_SIGNS)
  (c_WAIT:@Con (tw w) K mg "WAIT" c_WAIT)
  : ∃fd:FuncData,(∀(s:MD) (v:M9),SK s fd ⟨[v],[]⟩ [("_law_script",v)])/\∀base:Heap,K.In base->base.Ns mainGlobals mg->(∃bm o,mg "__builtins__"=some (.ref bm)/\bm≠NR/\bm≠mainGlobals/\base.get? bm=some o/\o.cls=.type "module"/\o.dict=some NR/\o.data=.plain)->FnOk l.prog w K mg base CX0 12 fa fd ["_law_script"] (@spP (tw w) K 1 xq):=by
 have e:=hfa.symm.trans (PJ X G a32);cases e;have T:Txt w K mg:=⟨Na X G z_dict,Na X G z_enumerate,Na X G z_int,Na X G z_len,Na X G z_list,Na X G z_max,Na X G z_range,Na X G z_tuple,Na X G z_zip,c_CODE_END,c_HEARD,c_SIGNS,c_WAIT⟩;have F23:=tm (st:=cC) l23 c23 k23;have b23:=F23.binds (ps:=["H","G","hour"]) fun _ _ _ _ _ _ us hl=>match us,hl with | [_,_,_],_=>rfl
 have F24:=tm (st:=eX) l24 c24 k24;have b24:=F24.binds (ps:=["H","hour"]) fun _ _ _ _ _ _ us hl=>match us,hl with | [_,_],_=>rfl
 have F32:=tm (st:=oh) l32 c32 k32;refine⟨NZ "law" "law" (dP oh) (bh oh) (ai oh) .none kV32 dc32 pm32 an32 cd32 ct32,fun s v=>.of_eq rfl,fun base hKb _ hbn=>?_⟩;have p_law_numbers:=bY (P:=l.prog) (base:=base) T (h0.fn X G);have p_law_cell_at:=bt (P:=l.prog) (base:=base) T (h1.fn X G);have p_law_to:=cE (P:=l.prog) (base:=base) T (h2.fn X G);have p_law_menu:=g9 (P:=l.prog) (base:=base) T (h3.fn X G) p_law_to;have p_law_house:=eZ (P:=l.prog) (base:=base) T (h4.fn X G) p_law_numbers p_law_cell_at p_law_to p_law_menu;have p_handed:=lF (P:=l.prog) (base:=base) T (h5.fn X G);have p_come_to:=jN (P:=l.prog) (base:=base) T (h6.fn X G) p_handed;have p_arrival:=ck (P:=l.prog) (base:=base) T (h7.fn X G) p_come_to;have p_begin:=ic (P:=l.prog) (base:=base) T (h8.fn X G) p_arrival;have p_by_wrong_key:=cY (P:=l.prog) (base:=base) T (h9.fn X G) p_arrival;have p_by_key:=lG (P:=l.prog) (base:=base) T (h10.fn X G) p_by_wrong_key p_arrival;have p_by_wait:=jQ (P:=l.prog) (base:=base) T (h11.fn X G) p_arrival;have p_follow:=c8 (P:=l.prog) (base:=base) T (h12.fn X G) p_by_wait p_by_key;have p_heard:=f6 (P:=l.prog) (base:=base) T (h13.fn X G);have LT:=Lp (P:=l.prog) (base:=base) T p_follow p_heard;have p_beginning_counts:=cL (P:=l.prog) (base:=base) T (h14.fn X G);have p_key_of:=lE (P:=l.prog) (base:=base) T (h15.fn X G);have p_code_of:=jO (P:=l.prog) (base:=base) T (h16.fn X G) p_key_of;have p_own_beginning:=dJ (P:=l.prog) (base:=base) T (h17.fn X G);have p_beginnings:=gb (P:=l.prog) (base:=base) T (h18.fn X G) p_code_of p_beginning_counts p_own_beginning;have p_names_ways:=g7 (P:=l.prog) (base:=base) T (h19.fn X G) p_beginnings;have p_room_ways:=gF (P:=l.prog) (base:=base) T (h20.fn X G) p_names_ways;have p_house_ways:=bF (P:=l.prog) (base:=base) T (h21.fn X G) p_room_ways;have p_first_rows:=cX (P:=l.prog) (base:=base) T (h22.fn X G) LT;have p_compare:=jM (P:=l.prog) (base:=base) T F23 (PJ X G a23) b23 hcode23 hhd23 hKb hbn p_house_ways p_first_rows p_begin LT;have p_places:=gG (P:=l.prog) (base:=base) T F24 (PJ X G a24) b24 hcode24 hhd24 hKb hbn p_house_ways p_first_rows p_begin;have p_numbered:=eK (P:=l.prog) (base:=base) T (h25.fn X G);have p_finer_classes:=cJ (P:=l.prog) (base:=base) T (h26.fn X G) p_numbered;have p_classings:=gH (P:=l.prog) (base:=base) T (h27.fn X G) p_numbered p_heard p_finer_classes;have p_next_places:=fu (P:=l.prog) (base:=base) T (h28.fn X G) p_house_ways p_follow;have p_classes:=eB (P:=l.prog) (base:=base) T (h29.fn X G) p_places p_classings p_next_places;have p_law_numbered:=cW (P:=l.prog) (base:=base) T (h30.fn X G) p_places p_classes;have p_law_names:=eY (P:=l.prog) (base:=base) T (h31.fn X G) p_law_numbers;exact FU T F32 p_law_house p_law_names p_law_cell_at p_compare p_law_numbered p_classes
theorem walk{l:R9}{q:Md}{loose:List Str}{XP:(Str->Option M9)->Heap->Prop}{YP:Ml->Heap->Prop}{d:DefRec}{K:Params->M8}(hn:l.most=some 63)(hdf:d.params.defaults=[])
  (hY:∀(w:Ml)(h:Heap),YP w h->(K w.params).In h) (hT:∀(w:Ml)(h:Heap),YP w h->∀P∈PTS,h.get? P=some (O2 #[])) (hC:∀(w:Ml),∀P∈PTS,∃c,Ob (K w.params) c P=true) (hL:∀(w:Ml),∀P∈PTS,(K w.params).lookup P=none)
  (F:∀(w:Ml)(mg:Str->Option M9)(fa:Addr)(h:Heap),(K w.params).In h->h.Ns mainGlobals mg->mg d.name=some (.ref fa)->
   ∃fd:FuncData,(∀(s:MD) (u:M9),SK s fd ⟨[u],[]⟩ [("_law_script",u)])/\∀base:Heap,(K w.params).In base->base.Ns mainGlobals mg->(∃bm o,mg "__builtins__"=some (.ref bm)/\bm≠NR/\bm≠mainGlobals/\base.get? bm=some o/\o.cls=.type "module"/\o.dict=some NR/\o.data=.plain)->FnOk l.prog w (K w.params) mg base CX0 12 fa fd ["_law_script"] (@spP (tw w) (K w.params) 1 xq)) :
  PySem.W.WalkO q loose XP YP l.row.toRowW d [] (fun f vs=>T3 f vs):=
 L2.walk_ofT (n:=63) (k:=12) (x:="_law_script") (CX:=fun _=>CX0) (sp:=fun w=>@spP (tw w) (K w.params) 1 xq) hn (by decide) hdf ⟨rfl,by decide,by decide⟩ PTS hY hT hC hL F
  (fun w _ a ns hl hT hS=>letI:TW:=tw w;⟨rfl,IA (ts:=PTS) rfl hT,_,_,uc hS,zF ns,fun v _ _ r=>r⟩) fun _ _ _ _ _ z=>z
end K43
def PySem.W.Fast.tw16648255650387879931:Nat:=0
def PySem.W.Fast.tw16455041325557587962:Nat:=0
def PySem.W.Fast.tw17675501863912104257:Nat:=0
def PySem.W.Fast.tw17797023162213357398:Nat:=0
def PySem.W.Fast.tw16720458873230634852:Nat:=0
def PySem.W.Fast.tw5216560873184359592:Nat:=0
def PySem.W.Fast.tw3243786276858676301:Nat:=0
def PySem.W.Fast.tw3858260929902653248:Nat:=0
def PySem.W.Fast.tw8339275892316888026:Nat:=0
def PySem.W.Fast.tw4116214555366283026:Nat:=0
def PySem.W.Fast.tw2720549224268874556:Nat:=0
def PySem.W.Fast.tw4913164166190780065:Nat:=0
def PySem.W.Fast.tw14846058847820463206:Nat:=0
def PySem.W.Fast.tw9519986774459141949:Nat:=0
def PySem.W.Fast.tw6608272177328463317:Nat:=0
def PySem.W.Fast.tw2256729192535491316:Nat:=0
def PySem.W.Fast.tw4074889149262028438:Nat:=0
def PySem.W.Fast.tw5462986583394853412:Nat:=0
def PySem.W.Fast.tw4365595499513832465:Nat:=0
def PySem.W.Fast.tw13696773247090853384:Nat:=0
def PySem.W.Fast.tw13647143260071324583:Nat:=0
def PySem.W.Fast.tw5712492781797704088:Nat:=0
def PySem.W.Fast.tw5958912947583288765:Nat:=0
def PySem.W.Fast.tw11073422919124556754:Nat:=0
def PySem.W.Fast.tw14517991457258811247:Nat:=0
def PySem.W.Fast.tw414843923148322755:Nat:=0
def PySem.W.Fast.tw9843040367989244026:Nat:=0
def PySem.W.Fast.tw8746926990865834950:Nat:=0
def PySem.W.Fast.tw17300518749350329451:Nat:=0
def PySem.W.Fast.tw3338000488222057314:Nat:=0
def PySem.W.Fast.tw11694296269893041944:Nat:=0
def PySem.W.Fast.tw14265109961848573047:Nat:=0
def PySem.W.Fast.tw16450160619332270399:Nat:=0
def PySem.W.Fast.tw4736460271553857436:Nat:=0
def PySem.W.Fast.tw5404329496188753123:Nat:=0
def PySem.W.Fast.tw9086807752382344974:Nat:=0
def PySem.W.Fast.tw2305632235939886840:Nat:=0
def PySem.W.Fast.tw5542057923581399328:Nat:=0
def PySem.W.Fast.tw11978658541992303699:Nat:=0
def PySem.W.Fast.tw913870673450708599:Nat:=0
def PySem.W.Fast.tw14255625447249450005:Nat:=0
def PySem.W.Fast.tw2141752537171052446:Nat:=0
def PySem.W.Fast.tw1922128029615361771:Nat:=0
def PySem.W.Fast.tw18135536909795403384:Nat:=0
def PySem.W.Fast.tw15076050499880595602:Nat:=0
def PySem.W.Fast.tw10263006353096459989:Nat:=0
def PySem.W.Fast.tw5076455685064113721:Nat:=0
def PySem.W.Fast.tw6159476765529605550:Nat:=0
def PySem.W.Fast.tw7360734006939421833:Nat:=0
def PySem.W.Fast.tw14575822018647053931:Nat:=0
def PySem.W.Fast.tw17299070235108290104:Nat:=0
def PySem.W.Fast.tw16350210036286969357:Nat:=0
def PySem.W.Fast.tw16837157092770325828:Nat:=0
def PySem.W.Fast.tw8518836359000628472:Nat:=0
def PySem.W.Fast.tw536071141625814245:Nat:=0
def PySem.W.Fast.tw15820104437700651558:Nat:=0
def PySem.W.Fast.tw16117886459530641385:Nat:=0
def PySem.W.Fast.tw15220247089449640166:Nat:=0
def PySem.W.Fast.tw1960749448877405319:Nat:=0
def PySem.W.Fast.tw11852788755662263963:Nat:=0
def PySem.W.Fast.tw5842903878141285776:Nat:=0
def PySem.W.Fast.tw827088593998796169:Nat:=0
def PySem.W.Fast.tw6907088244859834599:Nat:=0
def PySem.W.Fast.tw6738717232775508625:Nat:=0
def PySem.W.Fast.tw10453364245664790068:Nat:=0
def PySem.W.Fast.tw9103735113316388103:Nat:=0
def PySem.W.Fast.tw6319163308885755407:Nat:=0
def PySem.W.Fast.tw13941428131615281544:Nat:=0
def PySem.W.Fast.tw15564484529606477574:Nat:=0
def PySem.W.Fast.tw16470214171567637342:Nat:=0
def PySem.W.Fast.tw1302893277012582424:Nat:=0
def PySem.W.Fast.tw11858124382718603654:Nat:=0
def PySem.W.Fast.tw2274747046379481166:Nat:=0
def PySem.W.Fast.tw13152797265025683042:Nat:=0
def PySem.W.Fast.tw9119493612933192671:Nat:=0
def PySem.W.Fast.tw3304922237633406352:Nat:=0
def PySem.W.Fast.tw4000862736775145747:Nat:=0
def PySem.W.Fast.tw510462279857747856:Nat:=0
def PySem.W.Fast.tw15259782692447149593:Nat:=0
def PySem.W.Fast.tw16973411922480465607:Nat:=0
def PySem.W.Fast.tw5548044047220833644:Nat:=0
def PySem.W.Fast.tw12449339320498037397:Nat:=0
def PySem.W.Fast.tw5204102245714929850:Nat:=0
def PySem.W.Fast.tw9254588121034839553:Nat:=0
def PySem.W.Fast.tw15418593178774463985:Nat:=0
def PySem.W.Fast.tw15017066576988392302:Nat:=0
open PySem PySem.W PyProof.Rows
set_option maxRecDepth 100000 in
set_option maxHeartbeats 0 in
theorem PySem.Challenge.cw_menutree_k43_whole_as_many_classes_holds : PySem.Challenge.rw_menutree_k43_whole_as_many_classes.Holds := by
 w_on;o_law;km_head;(case hw=>w_witness2)
 k_fill
 refine K43.walk (l:=PySem.Challenge.rw_menutree_k43_whole_as_many_classes) rfl rfl (fun w h Y=>PySem.W.km_in_of Y) (fun w h Y=>PySem.W.km_tabs_of Y) ?C ?L ?F
 case F=>
  intro w mg fa h KX G hmg;refine' K43.all_mk KX G hmg ?h0 ?h1 ?h2 ?h3 ?h4 ?h5 ?h6 ?h7 ?h8 ?h9 ?h10 ?h11 ?h12 ?h13 ?h14 ?h15 ?h16 ?h17 ?h18 ?h19 ?h20 ?h21 ?h22 ?a23 ?l23 ?c23 ?k23 ?a24 ?l24 ?c24 ?k24 ?h25 ?h26 ?h27 ?h28 ?h29 ?h30 ?h31 ?a32 ?l32 ?c32 ?k32 ?hcode23 ?hhd23 ?hcode24 ?hhd24 ?z_dict ?z_enumerate ?z_int ?z_len ?z_list ?z_max ?z_range ?z_tuple ?z_zip ?q_CODE_END ?q_HEARD ?q_SIGNS ?q_WAIT
  (case h0 | h1 | h2 | h3 | h4 | h5 | h6 | h7 | h8 | h9 | h10 | h11 | h12 | h13 | h14 | h15 | h16 | h17 | h18 | h19 | h20 | h21 | h22 | h25 | h26 | h27 | h28 | h29 | h30 | h31=>(refine' PU.Has.of ?n1 ?n2 ?n3 ?n4;(case n1=>k_is);(case n2=>k_is);(case n3=>k_is);(case n4=>k_is)))
  (case a23=>k_is)
  (case l23=>k_is)
  (case c23=>k_is)
  (case k23=>k_is)
  (case a24=>k_is)
  (case l24=>k_is)
  (case c24=>k_is)
  (case k24=>k_is)
  (case a32=>k_is)
  (case l32=>k_is)
  (case c32=>k_is)
  (case k32=>k_is)
  (case hcode23=>exact rfl)
  (case hhd23=>exact rfl)
  (case hcode24=>exact rfl)
  (case hhd24=>exact rfl)
  (case z_dict=>k_is)
  (case z_enumerate=>k_is)
  (case z_int=>k_is)
  (case z_len=>k_is)
  (case z_list=>k_is)
  (case z_max=>k_is)
  (case z_range=>k_is)
  (case z_tuple=>k_is)
  (case z_zip=>k_is)
  (case q_CODE_END=>(refine' PU.con_str KX G ?n1;(case n1=>k_is)))
  (case q_HEARD=>(refine' PU.con_dct [(MH "menu",_,_),(MH "names",_,_),(MH "hand",_,_),(MH "end",_,_)] (xs:=[.str (MH "asked"),.str (MH "asked"),.str (MH "hand"),.str (MH "end")]) KX G ?n1 ?n2 ?n3 ?n4 ?n5 ?n6 ?n7 ?n8;(case n1=>k_is);(case n2=>k_is);(case n3=>exact rfl);(case n4=>decide);(case n5=>decide +kernel);(case n6=>show 4<=sizeLine;decide);(case n7=>exact .cons ⟨_,rfl⟩ (.cons ⟨_,rfl⟩ (.cons ⟨_,rfl⟩ (.cons ⟨_,rfl⟩ (.nil)))));(case n8=>intro H;exact⟨_,_,rfl,rfl,_,_,rfl,rfl,_,_,rfl,rfl,_,_,rfl,rfl,rfl⟩)))
  (case q_SIGNS=>(refine' PU.con_str KX G ?n1;(case n1=>k_is)))
  (case q_WAIT=>(refine' PU.con_str KX G ?n1;(case n1=>k_is)))
 case C=>
  intro w P hP;(rcases MP.mp hP with hP | hP);(subst hP;exact⟨175,rfl⟩);cases MQ.mp hP;exact⟨143,rfl⟩
 case L=>
  intro w P hP;(rcases MP.mp hP with hP | hP);(subst hP;exact rfl);cases MQ.mp hP;exact rfl
