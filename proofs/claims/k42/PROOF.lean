import PyProof.Rows.All
import Wide.All
import OpenK.AllK
import Wide.FinOn
import Lean
import PyProof.EqAt
import PyProof.EqKinds
import PyProof.TupleCall
import PyProof.StrLawsIdx
import PyProof.StrBlockH
import PyProof.EnumStmt
import PyProof.ListNew
import PyProof.AutoListH
import PyProof.TupleIter
import PyProof.ZipIter
import PyProof.Rows.ZipGen
import KE.KDictOf
import PyProof.ListIndex
import PyProof.AttrMissHeap
import PyProof.NeKinds
import KE.KLam
import KE.KNestM
import KE.KDictLaws
import PyProof.StrLawsIn
import PySem.Challenge.RW_menutree_k42_whole_classes
set_option Elab.async false
set_option linter.all false
set_option maxRecDepth 100000
set_option maxHeartbeats 16000000
open Array renaming forIn_toList->SJ,getElem?_eq_getElem->O7,getElem?_toList->RV,length_toList->MU,toList_append->S6
open Bool renaming and_eq_true->MR,and_false->Pj,and_true->R6,eq_iff_iff->MP,false_and->Ql,false_eq_true->ME,false_ne_true->LW,not_eq_true->Od,not_true->R5,or_eq_true->Oo,true_and->R4
open Eq renaming refl->M0
open False renaming elim->LU
open ForInStep renaming yield->NA
open Function renaming comp->Nh,comp_def->Rq
open Int renaming emod_lt_of_pos->OJ,emod_nonneg->Os,toNat_natCast->P4,zero_add->QN
open LawfulBEq renaming eq_of_beq->OF
open List renaming Sublist->Ni,all_cons->NU,all_eq_true->Nd,all_map->RU,any_cons->Mp,any_eq_true->PL,any_map->O6,append_assoc->Mf,append_nil->Mb,cons_append->O5,countP_mono_left->Rp,count_append->So,count_eq_zero->Q3,drop_eq_getElem_cons->Me,drop_length->PK,drop_of_length_le->RO,eq_nil_of_length_eq_zero->Mz,ext_getElem?->QE,filterMap_cons->OB,filter_cons_of_neg->PJ,filter_cons_of_pos->PH,find?_cons->N2,find?_cons_of_neg->OP,find?_cons_of_pos->RL,find?_eq_none->SZ,find?_some->Qb,findIdx?_eq_some_iff_getElem->Q7,flatMap_cons->QD,foldl_append->Nv,foldl_cons->NJ,getD_cons_succ->SI,getD_cons_zero->SH,getD_eq_getElem?_getD->Lm,getElem?_append_left->Lp,getElem?_append_right->M3,getElem?_cons_succ->Lr,getElem?_cons_zero->MG,getElem?_eq_getElem->LG,getElem?_eq_none->MY,getElem?_eq_none_iff->Qv,getElem?_eq_some_iff->LM,getElem?_map->LO,getElem?_of_mem->S5,getElem?_range->MW,getElem?_replicate->MQ,getElem?_set->QC,getElem?_set_ne->Rz,getElem?_set_self->RJ,getElem?_zipWith->Pe,getElem?_zip_eq_some->Qu,getElem_mem->MS,getElem_of_mem->Na,getLast?_eq_none_iff->Qt,head?->Q1,length->NT,length_append->Lw,length_cons->Lz,length_drop->QT,length_eq_zero_iff->Nc,length_map->LJ,length_nil->Np,length_replicate->Pd,length_reverse->SF,length_singleton->Mh,length_take->N6,length_zip->On,lookup->Ry,lookup_cons->M8,map_append->Lq,map_congr_left->Ms,map_cons->LH,map_fst_zip->QS,map_map->Lh,map_nil->NR,map_singleton->Q0,map_snd_zip->PD,map_take->R3,mem_append->MA,mem_append_left->NQ,mem_append_right->M9,mem_cons->LX,mem_cons_of_mem->Lo,mem_cons_self->Lu,mem_filter->Mt,mem_filterMap->SW,mem_flatMap->Oc,mem_iff_getElem?->Ob,mem_map->LV,mem_of_find?_eq_some->NH,mem_of_getElem?->M5,mem_of_getLast?->Rx,mem_range->MD,mem_singleton->Li,mem_take_iff_getElem->NG,nil_append->Pc,nodup_append->N1,nodup_cons->MB,not_mem_nil->Mk,of_mem_zip->Om,pairwise_iff_getElem->Qs,pairwise_lt_range->RH,pairwise_map->Sn,prefix_iff_eq_take->OI,prefix_of_prefix_length_le->QM,prefix_refl->PC,range->LI,range'->Rw,range_succ->Nn,range_succ_eq_map->OO,replicate->Mi,size_toArray->Lv,tail->QR,take_length->O4,take_of_length_le->RG,take_prefix->O3,take_succ_eq_append_getElem->NO,zipWith_cons_cons->Mr,zip_cons_cons->SU
open List.IsPrefix renaming length_le->NF,trans->P9
open List.Pairwise renaming imp_of_mem->Q8
open List.Sublist renaming refl->Qw
open List.cons renaming injEq->N9
open Min renaming min->SR
open Nat renaming add_assoc->Oi,add_sub_cancel_left->RF,le_add_right->PR,le_of_eq->Ro,le_of_lt->QL,le_refl->LY,le_succ->SE,le_trans->Ma,lt_irrefl->My,lt_of_le_of_lt->OH,lt_of_lt_of_le->Lj,lt_of_succ_lt_succ->Rn,lt_or_ge->O9,lt_succ_of_lt->QK,min_eq_left->Qh,min_self->QJ,ne_of_gt->O8,ne_of_lt->M1,not_lt->Qr,not_lt_zero->N4,zero_add->QI,zero_le->N0
open Ne renaming symm->OA
open Option renaming bind_eq_some_iff->LR,bind_some->OW,getD_none->SQ,isSome_iff_exists->Qk,isSome_map->Pz,map_eq_some_iff->LK,map_some->PQ
open Option.some renaming inj->Ly,injEq->Mj
open Or renaming inl->Qa,inr->Pu
open Prod renaming ext->QB
open PyProof.Rows renaming AllBare->Pm,IntsAre->Sm,callWith_type1->Mg,envOfC->Oh,slot_tuple_getitem->MV,subscriptTail_builtinR->Sk
open PySem renaming Around->M6,BindsTo->RC,Builtin->O2,Env->QO,FuncData->Mx,HeapKind->Rj,IsPart->Q4,IsTupleKey->QW,NameKind->Nl,Obj->Mu,Paired->Ri,PassesOwn->SN,Pos->N8,Program->Ll,Shared->LF,Value->LB,World->Lx,assign->Qp,assignEach->NI,atKey->Pb,attributeBase->OM,backTo->OR,behindInMarks->Ot,binaryOp->OL,bindArgs->Qf,bindC->SM,bindL->SL,bootBuiltins->NB,builtinLookup_eq_fast->Ol,builtinsNs->Mc,call->SA,call_meetsIn->Qe,callerA->Qd,cellOf->Rf,codeAmong->OU,codeAny->Oz,codeAny_builtin->Ov,codeAny_mono->Oy,compareOp->MI,concat_meets->Se,dictSetDefault->Re,entryFor_of_tree->Qo,eqIsQuiet->Qn,eval->MZ,foldedSetIterable->Pa,getItem->Q9,isSubtype_type->P5,letOwnedTupleGo->Pr,mem_of_lookup->M7,model->M4,noFill_tuple_add->Qm,plainId_quiet->S9,post_val_or_str->Pq,pyNext->QU,rawInt->Nz,richCompare_meets_room->Sd,seq_tuple_add->S8,sizeLine_eq->MC,sliceBounds->Ou,starEach->Lk,stored->Rc,strIterType->OC,swapsWith->P3,sysModules->MH,typeLookup->Rb,typeLookup_type->Pp,valueAt->Mq,wpAny->Ln,wpAny_Call_Name_kw->OQ,wpAny_Call_method_late->Sb,wpAny_bind->LD,wpAny_call->Ra,wpAny_callSpecial?_slot->Nk,wpAny_call_entry->Nj,wpAny_comprehension_free->S7,wpAny_dictEntries->O1,wpAny_execs_nil->Po,wpAny_field->PZ,wpAny_forIn_list->Pg,wpAny_getItem_str_slice->OT,wpAny_holding->NC,wpAny_isInstance->Pf,wpAny_loadPart'->Md,wpAny_mono->Nf,wpAny_newObj_type->NZ,wpAny_notOrdered_dict->Pv,wpAny_passesOwn->Nw,wpAny_pure->LQ,wpAny_pyIter_enum->PY,wpAny_pyNext_tuple_end->Sa,wpAny_pyNext_tuple_item->SK,wpAny_rule->Oq,wpAny_seqItems->RZ,wpAny_specialOf->Pn,wpAny_truthy_bool->O0,wpAny_typeOf->Oe,wpAny_updateSeq->R7
open PySem.Around renaming frames_deeper->RE,under_plainId->RD
open PySem.Builtin.Dict renaming dictSlotArgs->Q6,samePairs->QQ,updateFrom->QH
open PySem.Builtin.List renaming listExtendWith->OV,listItems->QP
open PySem.Builtin.Slice renaming sliceAdjust->Og,sliceApplied->Px,slicePlaces->Nm
open PySem.Builtin.Str renaming occurrences->Mw,strSliceIndices->Oa
open PySem.Builtin.Tuple renaming tupleExact->Nu,tupleHashOf->Mm,tupleItemsOf->OZ
open PySem.Calls renaming Name_function_global->Qg,callWith_builtin->RA,evalArgs_plain->Rm
open PySem.Challenge renaming pw_menutree_k42_whole_classes->MJ
open PySem.Data renaming cell->Pl,fields->QY
open PySem.F renaming args_dict_setdefault_3->Q5,args_tuple_add_2->Ox,entry_dict_setdefault->QA,entry_tuple_add->P2,plainAttrs_dict->P1,plainAttrs_list->Qj,slot_dict_eq->R9,slot_dict_get->R1,slot_dict_getitem->QZ,slot_dict_len->PP,slot_dict_setdefault->Ng,slot_list_append->Rl,slot_list_index->Qi,slot_list_reversed->Nt,slot_tuple_add->P8,slot_tuple_getattribute->P7,slot_tuple_hash->PB,type_dict_setdefault->QG
open PySem.Heap renaming ExtBut->QX,SameBut->NK,get?_none_of_le->Rv,get?_push_of_some->LP,get?_push_size->Ls,get?_update_other->ON,get?_update_self->Nq,lt_size->LZ
open PySem.Heap.DictOf renaming new->RB
open PySem.Heap.SameBut renaming update->OS
open PySem.IsTupleKey renaming inj->Ru
open PySem.Manifest renaming find?->SO
open PySem.NameKind renaming cell->Pi,free->MO
open PySem.Obj renaming data_mapDictKeys->SD,data_mapFields->Sj,mapSeq->N3
open PySem.Paired renaming length->MF
open PySem.PassesOwn renaming never->Rt
open PySem.SeqAt renaming EqAt->OE
open PySem.SeqAt.EqAt renaming int_str->Qz,of_refs->Qy,same->Py,str_int->Qx
open PySem.SeqAt.RcAt renaming tuples->R8
open PySem.Str renaming join->Pk,ofString->LS
open PySem.Txt renaming slice->Mo,slice_le->Oj
open PySem.Value renaming bool->OY,int->Si,none->OX,notImplemented->Rh,ref->Mv,str->Sh,type->Ny
open PySem.W renaming CodeHd->QV,Frag->LA,OpenLaw->QF,callWith_K->Rg,cellsFrom_some->Qq,codeHdIn->P0,codeHd_of_K->Ph,codeIn->Nr,envX->P6,findIn->Sg,fnOf->Mn,keepIn->N5,kia_one->ND,kitx_dict->Rr,kla_fn->Sf,kla_obj->Of,methodObj->Pw,mg_none_of->ML,mg_of->Ow,nsIn->MM,tabObj->OG
open PySem.WalksT renaming enumerateD->SB
open Sum renaming inl->Nb,inr->Ml
open Sum.inr renaming inj->OD,injEq->Qc
open True renaming intro->N7
section
namespace L2
open PySem PySem.Spec PyProof.Rows
abbrev Key:=Sum Int Str
def r8:Key->LB->Bool
 | .inl k,v=>Value.isInt k v
 | .inr x,v=>Value.isStrOf x v
def Kw(w:Lx):Key->Int
 | .inl k=>hashInt k
 | .inr x=>hashStr w x
theorem aZ:∀{k:Key}{v:LB},r8 k v=true->(∃i t,k=Nb i/\v=Si i t)\/(∃x t,k=Ml x/\v=Sh x t)
 | .inl i,v,h=>by
  obtain⟨t,e⟩:=Value.isInt_shape (k:=i) (v:=v) h;exact .inl ⟨i,t,rfl,e⟩
 | .inr x,v,h=>by
  obtain⟨t,e⟩:=Value.isStrOf_shape (x:=x) (v:=v) h;exact .inr ⟨x,t,rfl,e⟩
theorem wC(i:Int)(t:Tok):r8 (.inl i) (.int i t)=true:=by simp[r8,Value.isInt]
theorem wB(x:Str)(t:Tok):r8 (.inr x) (.str x t)=true:=by simp[r8,Value.isStrOf]
theorem Fx(a b:Int):decide ((Nb a:Key)=Nb b)=(a == b):=by
 by_cases e:a=b
 ·subst e;simp
 ·have h:¬ (Nb a:Key)=Nb b:=fun q=>e (Sum.inl.inj q)
  rw[decide_eq_false h];exact(beq_eq_false_iff_ne.mpr e).symm
theorem Fu(a b:Str):decide ((Ml a:Key)=Ml b)=decide (a=b):=by
 by_cases e:a=b
 ·subst e;simp
 ·have h:¬ (Ml a:Key)=Ml b:=fun q=>e (OD q)
  rw[decide_eq_false h,decide_eq_false e]
theorem Fw(a:Int)(b:Str):decide ((Nb a:Key)=Ml b)=false:=decide_eq_false (fun q=>nomatch q)
theorem Fv(a:Str)(b:Int):decide ((Ml a:Key)=Nb b)=false:=decide_eq_false (fun q=>nomatch q)
def aq(prog:Ll)(w:Lx):PySem.KeyKind prog w Key where
 is:=r8
 hash:=Kw w
 inj:=fun v a b ha hb=>by
  rcases aZ ha with⟨i,t,rfl,rfl⟩|⟨x,t,rfl,rfl⟩
  ·rcases aZ hb with⟨j,u,rfl,e⟩|⟨y,u,rfl,e⟩
   ·injection e with e1 _;rw[e1]
   ·exact nomatch e
  ·rcases aZ hb with⟨j,u,rfl,e⟩|⟨y,u,rfl,e⟩
   ·exact nomatch e
   ·injection e with e1 _;rw[e1]
 byValue:=fun k v h=>by
  rcases aZ h with⟨i,t,rfl,rfl⟩|⟨x,t,rfl,rfl⟩ <;> rfl
 pyHash:=fun hv h=>by
  rcases aZ hv with⟨i,t,rfl,rfl⟩|⟨x,t,rfl,rfl⟩
  ·exact wpAny_pyHash_int h
  ·exact wpAny_pyHash_str h
 eqBool:=fun hu hv h=>by
  rcases aZ hu with⟨i,t,rfl,rfl⟩|⟨x,t,rfl,rfl⟩
  ·rcases aZ hv with⟨j,u,rfl,rfl⟩|⟨y,u,rfl,rfl⟩
   ·rw[Fx] at h;exact wpAny_eqBool_int h
   ·rw[Fw] at h;exact Qz i t y u _ _ _ _ h
  ·rcases aZ hv with⟨j,u,rfl,rfl⟩|⟨y,u,rfl,rfl⟩
   ·rw[Fv] at h;exact Qx x t j u _ _ _ _ h
   ·rw[Fu] at h;exact wpAny_eqBool_str h
 «strs»:=fun k x t v h=>by
  rcases aZ h with⟨i,u,rfl,e⟩|⟨y,u,rfl,e⟩
  ·exact nomatch e
  ·injection e with e1 _
   subst e1;cases v <;> rfl
theorem qW(prog:Ll)(w:Lx)(i:Int)(t:Tok):(aq prog w).is (.inl i) (.int i t)=true:=wC i t
theorem gb(prog:Ll)(w:Lx)(x:Str)(t:Tok):(aq prog w).is (.inr x) (.str x t)=true:=wB x t
abbrev bW:=List (Key ⊕ List Key)
section
variable{prog : Ll}{w : Lx}{K : Type}[DecidableEq K](knd : KeyKind prog w K)
inductive NItems (h:Heap):List (K ⊕ List K)->List LB->Prop
 | nil:NItems h [] []
 | sc {k:K} {v:LB} {ks:List (K ⊕ List K)} {vs:List LB}:knd.is k v=true->NItems h ks vs->NItems h (.inl k::ks) (v::vs)
 | tp {k:List K} {b:Addr} {ks:List (K ⊕ List K)} {vs:List LB}:QW knd h k b->NItems h ks vs->NItems h (.inr k::ks) (.ref b::vs)
def bC (h:Heap) (ks:List (K ⊕ List K)) (a:Addr):Prop:=∃o items n,h.get? a=some o/\o.cls=.type "tuple"/\o.data=.seq items n/\NItems knd h ks items.toList
variable{knd}
theorem sx{h:Heap}{k:K}{b:Addr}(h1:knd.is k (.ref b)=true):False:=by
 have:=knd.byValue _ _ h1;simp[carriedByValue] at this
theorem NItems.inj{h:Heap}{x y:List (K ⊕ List K)}{vs:List LB}(hx:NItems knd h x vs)(hy:NItems knd h y vs):x=y:=by
 induction hx generalizing y with
 | nil=>cases hy;rfl
 | sc h1 _ ih=>
  cases hy with
  | sc h2 t2=>rw[knd.inj _ _ _ h1 h2,ih t2]
  | tp h2 t2=>exact(sx (h:=h) h1).elim
 | tp h1 _ ih=>
  cases hy with
  | sc h2 t2=>exact(sx (h:=h) h2).elim
  | tp h2 t2=>rw[Ru h1 h2,ih t2]
theorem bC.typeIs {s:LF} {ks:List (K ⊕ List K)} {a:Addr} (x:bC knd s.heap ks a):s.TypeIs (.ref a) "tuple":=let ⟨o,_,_,ho,hc,_⟩:=x;⟨o,ho,hc⟩
theorem bC.inj{h:Heap}{a:Addr}{x y:List (K ⊕ List K)}(hx:bC knd h x a)(hy:bC knd h y a):x=y:=by
 obtain⟨o,items,n,ho,_,hd,hi⟩:=hx;obtain⟨o',items',n',ho',_,hd',hi'⟩:=hy;obtain rfl:o=o':=Ly (ho.symm.trans ho');rw[hd] at hd';injection hd' with h1 _;subst h1;exact hi.inj hi'
theorem NItems.keeps{h h':Heap}{ks:List (K ⊕ List K)}{vs:List LB}{d:Addr}{o:Mu}{es ep}(x:NItems knd h ks vs)(ho:h.get? d=some o)(hd:o.data=.dict es ep)(hs:NK d h h'):NItems knd h' ks vs:=by
 induction x with
 | nil=>exact .nil
 | sc h1 _ ih=>exact .sc h1 ih
 | tp h1 _ ih=>exact .tp (h1.keeps ho hd hs) ih
theorem bC.keeps{h h':Heap}{ks:List (K ⊕ List K)}{a d:Addr}{o:Mu}{es ep}(x:bC knd h ks a)(ho:h.get? d=some o)(hd:o.data=.dict es ep)(hs:NK d h h'):bC knd h' ks a:=by
 obtain⟨o',items,n,ho',hc,hd',hi⟩:=x
 have hne:a≠d:=by
  rintro rfl;obtain rfl:o'=o:=Ly (ho'.symm.trans ho);rw[hd] at hd';exact nomatch hd'
 exact⟨o',items,n,(hs.2 a hne).trans ho',hc,hd',hi.keeps ho hd hs⟩
def mG(knd:KeyKind prog w K):K ⊕ List K->Int
 | .inl k=>knd.hash k
 | .inr ks=>tupleKeyHash knd ks
def qT:K ⊕ List K->Nat
 | .inl _=>1
 | .inr ks=>ks.length+1
def ow(knd:KeyKind prog w K)(ks:List (K ⊕ List K)):Int:=reduceHash (Mm (ks.map (mG knd)))
variable{A : M6}{E : LB → LF → Prop}{s : LF}
theorem qN{ks:List (K ⊕ List K)}{a:Addr}{Q:Int->LF->Prop}(hu:A.units+8<cLine)(hk:bC knd s.heap ks a)(h:Q (ow knd ks) { s with toks:=s.toks+((ks.map qT).sum+1) }) :
  Ln (M4 prog w) A (pyHash (.ref a)) Q E s:=by
 have hT:=hk.typeIs;obtain⟨o,items,n,ho,_,hd,hi⟩:=hk;unfold pyHash
 first | unfold pyHashByItsType | skip
 first | refine LD (wpAny_cRoomFor_or (.inr (show A.units<cLine by omega)) ?_) | skip
 refine LD (Pn hT PB.lookup ?_);show Ln _ _ (if (some (Value.builtin "tuple.__hash__") == some OX)=true then _ else _) Q E s;rw[if_neg (by rw[beq_builtin_none];exact LW)];refine LD (Pn hT PB.lookup ?_);show Ln _ _ (callSpecialIfBoundUnlessNone? (.ref a) "__hash__" _ >>= _) Q E s;refine LD (wpAny_callSpecialIfBoundUnlessNone?_slot hT PB (Nj PB hT F.entry_tuple_hash ?_ (F.args_tuple_hash_1 _)));show Ln _ _ (OZ (.ref a) >>= _) _ _ s;refine LD (wpAny_tupleItemsOf ho hd ?_);refine LD ?_;rw[← SJ]
 refine Pg _
  (fun rest (b:Array Int) s'=>∃done left,ks=done++left/\NItems knd s.heap left rest/\b.toList=done.map (mG knd)/\s'={ s with toks:=s.toks+(done.map qT).sum })
  _ ?_ ?_ _ _ ⟨[],ks,rfl,hi,rfl,rfl⟩
 ·rintro x rest b s' ⟨done,left,rfl,hl,hb,rfl⟩
  cases hl with
  | @sc k _ ks' _ h1 hl'=>
   refine LD (knd.pyHash h1 ?_)
   first
    | exact LQ ⟨done++[.inl k],ks',by simp,hl',by simp[hb,mG],by simp[Oi,qT]⟩
    | exact LD (LQ (LQ ⟨done++[.inl k],ks',by simp,hl',by simp[hb,mG],by simp[Oi,qT]⟩))
  | @tp k b' ks' _ h1 hl'=>
   refine LD (wpAny_pyHash_tuple (knd:=knd) (ks:=k) (show A.units+1<cLine by omega) h1 ?_)
   first
    | exact LQ ⟨done++[.inr k],ks',by simp,hl',by simp[hb,mG],by simp[Oi,qT]⟩
    | exact LD (LQ (LQ ⟨done++[.inr k],ks',by simp,hl',by simp[hb,mG],by simp[Oi,qT]⟩))
 ·rintro b s' ⟨done,left,rfl,hl,hb,rfl⟩
  cases hl;rw[Mb] at h;show Ln _ _ (retInt (Mm b.toList)) _ _ _;rw[hb];refine wpAny_ret_mkInt ?_;show Ln _ _ (if (decide (-(2:Int) ^ 63<=Mm (done.map (mG knd))) && decide (Mm (done.map (mG knd))<2 ^ 63))=true then _ else _) Q E _;unfold ow reduceHash at h
  by_cases hr:(decide (-(2:Int) ^ 63<=Mm (done.map (mG knd))) && decide (Mm (done.map (mG knd))<2 ^ 63))=true
  ·rw[if_pos hr]
   rw[if_pos hr] at h;exact LQ (by simpa [Oi] using h)
  ·rw[if_neg hr]
   rw[if_neg hr] at h;exact LD (Oq (LQ (by simpa [Oi] using h)))
end
theorem rB{α:Type}[DecidableEq α]:∀k j:List α,((LI (SR k.length j.length)).all (fun i=>decide (k[i]?=j[i]?)) && k.length == j.length)=decide (k=j)
 | [],[]=>by simp
 | [],_::_=>by simp
 | _::_,[]=>by simp
 | x::k,y::j=>by
  have ih:=rB k j;have hm:SR (x::k).length (y::j).length=SR k.length j.length+1:=by simp only[Lz];omega
  rw[hm,OO,NU,RU];have hs:((fun i=>decide ((x::k)[i]?=(y::j)[i]?)) ∘ Nat.succ)=fun i=>decide (k[i]?=j[i]?):=by funext i;simp
  rw[hs,Lz,Lz];have h0:decide ((x::k)[0]?=(y::j)[0]?)=decide (x=y):=by simp
  rw[h0];have e2:(k.length+1 == j.length+1)=(k.length == j.length):=by simp
  rw[e2,Bool.and_assoc,ih,MP];simp
theorem AY{P P':Ll}{w w':Lx}{A:M6}{s:LF}{k j:Key}{v u:LB}(h1:(aq P w).is k v=true)(h2:(aq P' w').is j u=true):OE A s v u (decide (k=j)):=fun prog ww E Q q=>(aq prog ww).eqBool (a:=k) (b:=j) h1 h2 q
theorem nF{P:Ll}{w:Lx}{A:M6}{s:LF}:∀{k j:List Key}{vs us:List LB},ItemsAre (aq P w) k vs->ItemsAre (aq P w) j us->∀(i:Nat)(h1:i<vs.length)(h2:i<us.length),OE A s vs[i] us[i] (decide (k[i]?=j[i]?))
 | _,_,_,_,.nil,_,i,h1,_=>absurd h1 (N4 _)
 | _,_,_,_,.cons _ _,.nil,i,_,h2=>absurd h2 (N4 _)
 | _,_,_,_,.cons (k:=k) a1 t1,.cons (k:=j) a2 t2,0,_,_=>by
  rw[MG,MG,show decide (some k=some j)=decide (k=j) by simp];exact AY a1 a2
 | _,_,_,_,.cons a1 t1,.cons a2 t2,i+1,h1,h2=>by
  rw[Lr,Lr];exact nF t1 t2 i (by simpa using h1) (by simpa using h2)
theorem D4{P:Ll}{w:Lx}{A:M6}{s:LF}{k j:List Key}{a b:Addr}(hu:A.units+1<cLine)(h1:QW (aq P w) s.heap k a)(h2:QW (aq P w) s.heap j b):OE A s (.ref a) (.ref b) (decide (k=j)):=by
 by_cases e:a=b
 ·subst e
  rw[Ru h1 h2,decide_eq_true rfl];exact Py _
 ·obtain⟨o1,i1,n1,g1,c1,d1,m1⟩:=h1
  obtain⟨o2,i2,n2,g2,c2,d2,m2⟩:=h2;have l1:=m1.length;have l2:=m2.length;have z:=rB k j;rw[l1,l2,MU,MU] at z;rw[← z];refine Qy (fun q=>e q) (R8 ⟨o1,g1,c1,n1,d1⟩ ⟨o2,g2,c2,n2,d2⟩ (by omega) fun i h1 h2=>?_);have:=nF (A:=A.in1) (s:=s) m1 m2 i (by simpa using h1) (by simpa using h2);simpa using this
theorem AN{P:Ll}{w:Lx}{A:M6}{s:LF}{k:Key}{j:List Key}{v:LB}{b:Addr}(hu:A.units<cLine)(h1:(aq P w).is k v=true)(h2:QW (aq P w) s.heap j b):OE A s v (.ref b) false/\OE A s (.ref b) v false:=by
 obtain⟨o2,i2,n2,g2,c2,d2,m2⟩:=h2;have pl:s.heap.IsTuple b i2:=⟨o2,g2,c2,n2,d2⟩;rcases aZ h1 with⟨i,t,rfl,rfl⟩|⟨x,t,rfl,rfl⟩
 ·exact⟨SeqAt.EqAt.int_tuple i t pl hu,SeqAt.EqAt.tuple_int i t pl hu⟩
 ·exact⟨SeqAt.EqAt.str_tuple x t pl hu,SeqAt.EqAt.tuple_str x t pl hu⟩
theorem uf{P:Ll}{w:Lx}{A:M6}{s:LF}(hu:A.units+1<cLine):∀{k j:List (Key ⊕ List Key)}{vs us:List LB},NItems (aq P w) s.heap k vs->NItems (aq P w) s.heap j us->∀(i:Nat)(h1:i<vs.length)(h2:i<us.length),OE A s vs[i] us[i] (decide (k[i]?=j[i]?)):=by
 intro k j vs us h1
 induction h1 generalizing j us with
 | nil=>intro _ i h;exact absurd h (N4 _)
 | @sc k v ks vs a1 t1 ih=>
  intro h2 i l1 l2;cases h2 with
  | nil=>exact absurd l2 (N4 _)
  | @sc j u js us a2 t2=>
   cases i with
   | zero=>
    rw[MG,MG,show decide (some (Nb k:Key ⊕ List Key)=some (.inl j))=decide (k=j) by simp];exact AY a1 a2
   | succ i=>rw[Lr,Lr];exact ih t2 i (by simpa using l1) (by simpa using l2)
  | @tp j b js us a2 t2=>
   cases i with
   | zero=>
    rw[MG,MG,show decide (some (Nb k:Key ⊕ List Key)=some (.inr j))=false by simp];exact(AN (by omega) a1 a2).1
   | succ i=>rw[Lr,Lr];exact ih t2 i (by simpa using l1) (by simpa using l2)
 | @tp k b ks vs a1 t1 ih=>
  intro h2 i l1 l2;cases h2 with
  | nil=>exact absurd l2 (N4 _)
  | @sc j u js us a2 t2=>
   cases i with
   | zero=>
    rw[MG,MG,show decide (some (Ml k:Key ⊕ List Key)=some (.inl j))=false by simp];exact(AN (by omega) a2 a1).2
   | succ i=>rw[Lr,Lr];exact ih t2 i (by simpa using l1) (by simpa using l2)
  | @tp j c js us a2 t2=>
   cases i with
   | zero=>
    rw[MG,MG,show decide (some (Ml k:Key ⊕ List Key)=some (.inr j))=decide (k=j) by simp];exact D4 hu a1 a2
   | succ i=>rw[Lr,Lr];exact ih t2 i (by simpa using l1) (by simpa using l2)
theorem NItems.length{P:Ll}{w:Lx}{h:Heap}{k:List (Key ⊕ List Key)}{vs:List LB}(x:NItems (aq P w) h k vs):k.length=vs.length:=by
 induction x with
 | nil=>rfl
 | sc _ _ ih=>simp[ih]
 | tp _ _ ih=>simp[ih]
theorem Cf{P:Ll}{w:Lx}{A:M6}{s:LF}{k j:List (Key ⊕ List Key)}{a b:Addr}(hu:A.units+8<cLine)(h1:bC (aq P w) s.heap k a)(h2:bC (aq P w) s.heap j b):OE A s (.ref a) (.ref b) (decide (k=j)):=by
 by_cases e:a=b
 ·subst e
  rw[bC.inj h1 h2,decide_eq_true rfl];exact Py _
 ·obtain⟨o1,i1,n1,g1,c1,d1,m1⟩:=h1
  obtain⟨o2,i2,n2,g2,c2,d2,m2⟩:=h2;have l1:=m1.length;have l2:=m2.length;have z:=rB k j;rw[l1,l2,MU,MU] at z;rw[← z];refine Qy (fun q=>e q) (R8 ⟨o1,g1,c1,n1,d1⟩ ⟨o2,g2,c2,n2,d2⟩ (by omega) fun i h1 h2=>?_);have:=uf (A:=A.in1) (s:=s) (show A.units+1+1<cLine by omega) m1 m2 i (by simpa using h1) (by simpa using h2);simpa using this
section
variable{prog : Ll}{w : Lx}{A : M6}{E : LB → LF → Prop}{s : LF}
theorem ph{n:Nat}{a:Addr}{items:Array LB}{Q:Bool->LF->Prop}(ht:s.heap.IsTuple a items)(hq:∀v∈items.toList,∀(Q':Bool->LF->Prop),Q' true s->Ln (M4 prog w) A (Qn n v) Q' E s)(h:Q true s):Ln (M4 prog w) A (Qn (n+1) (.ref a)) Q E s:=by
 have hT:=ht.typeIs;obtain⟨o,ho,hc,m,hd⟩:=ht;unfold Qn;refine LD (Pn hT F.slot_tuple_eq.lookup ?_);show Ln _ _ (isInstance (.ref a) (.type "tuple") >>= _) _ _ s;refine LD (Pf hT isSubtype_tuple_tuple ?_);simp only[R5,ME,if_false];refine LD (RZ ho hd ?_);refine LD ?_;show Ln _ _ (forIn items _ _) _ _ s;rw[← SJ];refine Pg _ (fun rest r s'=>r.1=none/\s'=s/\∀v∈rest,v∈items.toList) _ ?_ ?_ _ _ ⟨rfl,rfl,fun v h=>h⟩
 ·rintro v rest r s' ⟨hr,rfl,hall⟩
  refine LD (hq v (hall v Lu) _ ?_);simp only[R5,ME,if_false];exact LQ ⟨rfl,rfl,fun u hu'=>hall u (Lo _ hu')⟩
 ·rintro⟨r1,r2⟩ s' ⟨hr,rfl,_⟩
  simp only at hr;subst hr;exact LQ h
theorem NItems.quiet{n:Nat}{k:List (Key ⊕ List Key)}{vs:List LB}(x:NItems (aq prog w) s.heap k vs):∀v∈vs,∀(Q':Bool->LF->Prop),Q' true s->Ln (M4 prog w) A (Qn (n+1) v) Q' E s:=by
 induction x with
 | nil=>intro v h;cases h
 | sc h1 _ ih=>
  intro v hv Q' hQ;rcases LX.mp hv with rfl | hv
  ·rw[eqIsQuiet_byValue _ ((aq prog w).byValue _ _ h1)]
   exact LQ hQ
  ·exact ih v hv Q' hQ
 | tp h1 _ ih=>
  intro v hv Q' hQ;rcases LX.mp hv with rfl | hv
  ·obtain⟨o,items,m,ho,hc,hd,hi⟩:=h1
   refine ph ⟨o,ho,hc,m,hd⟩ (fun u hu Q2 h2=>?_) hQ;rw[eqIsQuiet_byValue _ (hi.byValue u hu)];exact LQ h2
  ·exact ih v hv Q' hQ
theorem u7{k:List (Key ⊕ List Key)}{a:Addr}{Q:Bool->LF->Prop}(hk:bC (aq prog w) s.heap k a)(h:Q true s):Ln (M4 prog w) A (Qn 8 (.ref a)) Q E s:=by
 obtain⟨o,items,m,ho,hc,hd,hi⟩:=hk;exact ph ⟨o,ho,hc,m,hd⟩ hi.quiet h
end
def g8(prog:Ll)(w:Lx):Rj prog w (List (Key ⊕ List Key)) where
 is:=bC (aq prog w)
 hash:=ow (aq prog w)
 draws:=fun ks=>(ks.map qT).sum+1
 room:=fun A=>A.units+8<cLine
 inj:=fun hx hy=>hx.inj hy
 keeps:=fun x ho hd hs=>x.keeps ho hd hs
 pyHash:=fun hu hk h=>qN hu hk h
 eqBool:=fun hu hx hy h=>Cf hu hx hy _ _ _ _ h
 quiet:=fun hk h=>u7 hk h
end L2
namespace L2
open PySem PySem.Spec PyProof.Rows
inductive V where
 | non | bl (b:Bool) | int (i:Int) | str (x:Str) | byt (b:Array UInt8) | flt (b:UInt64) | ref (a:Addr) | ty (n:String)
 deriving DecidableEq
def RelV:V->LB->Prop
 | .non,u=>u=OX
 | .bl b,u=>u=OY b
 | .int i,u=>∃t,u=Si i t
 | .str x,u=>∃t,u=Sh x t
 | .byt b,u=>∃t,u=Value.bytes b t
 | .flt b,u=>∃t,u=Value.float b t
 | .ref a,u=>u=Mv a
 | .ty n,u=>u=Ny n
abbrev Vals:List V->List LB->Prop:=Ri RelV
theorem Vals.length{xs:List V}{us:List LB}(r:Vals xs us):xs.length=us.length:=MF r
theorem Vals.get:∀{xs:List V}{us:List LB}{i:Nat}{x:V},Vals xs us->xs[i]?=some x->∃u,us[i]?=some u/\RelV x u
 | _,_,_,_,.nil,e=>by simp at e
 | _,_,0,_,.cons r _,e=>by simp at e;subst e;exact⟨_,rfl,r⟩
 | _,_,i+1,x,.cons _ t,e=>by
  obtain⟨u,h1,h2⟩:=Vals.get (i:=i) (x:=x) t (by simpa using e);exact⟨u,by simpa using h1,h2⟩
theorem Vals.append:∀{xs ys:List V}{us ws:List LB},Vals xs us->Vals ys ws->Vals (xs++ys) (us++ws)
 | _,_,_,_,.nil,s=>s
 | _,_,_,_,.cons r t,s=>.cons r (Vals.append t s)
theorem Vals.take:∀{xs:List V}{us:List LB}(n:Nat),Vals xs us->Vals (xs.take n) (us.take n)
 | _,_,0,_=>.nil
 | _,_,_+1,.nil=>.nil
 | _,_,n+1,.cons r t=>.cons r (Vals.take n t)
theorem Vals.drop:∀{xs:List V}{us:List LB}(n:Nat),Vals xs us->Vals (xs.drop n) (us.drop n)
 | _,_,0,r=>r
 | _,_,_+1,.nil=>.nil
 | _,_,n+1,.cons _ t=>Vals.drop n t
def mL:Option V->Option LB->Prop
 | some v,some u=>RelV v u
 | none,none=>True
 | _,_=>False
def KV{κ:Type}:List (κ×V)->List (κ×LB)->Prop:=Ri fun (p:κ×V) (q:κ×LB)=>p.1=q.1/\RelV p.2 q.2
def kV:Key->V
 | .inl i=>.int i
 | .inr x=>.str x
inductive HO where
  | lst (xs:List V)
  | tup (xs:List V)
  | dK (kvs:List (Key×V)) | dT (kvs:List (bW×V))
  | set (S:Int->Bool) (n:Nat)
  | ins (C dx:Addr) (fs:List (Str×V))
  | own (x:Addr)
  | xd (fs:List (Str×V))
  | met (f x:Addr)
  | rng (lo hi:Int)
  | frz (o:Mu) (u:HO)
  | tbl (ps:Array LB)
  | ext (φ:Heap->Prop)
abbrev Hp:=Addr->Option HO
def upd(H:Hp)(a:Addr)(o:HO):Hp:=fun b=>if b=a then some o else H b
theorem az{H:Hp}{a:Addr}{o:HO}:upd H a o a=some o:=by unfold upd;rw[if_pos rfl]
theorem aA{H:Hp}{a b:Addr}{o:HO}(h:b≠a):upd H a o b=H b:=by unfold upd;rw[if_neg h]
theorem Ci{H:Hp}{a b:Addr}{o u:HO}(h:H a=some o)(h':H b=some u)(d:o≠u):a≠b:=by
 intro e;subst e;rw[h] at h';exact d (Ly h')
theorem bu{H:Hp}{a b:Addr}{o:HO}(h:H a=some o)(h':H b=none):a≠b:=by
 intro e;subst e;rw[h] at h';cases h'
def Am (h:Heap) (a:Addr) (items:Array LB):Prop:=∃o,h.get? a=some o/\o.cls=.type "tuple"/\(∃n,o.data=.seq items n)/\((∀v∈items.toList,∃b,v=Mv b)->o.dict=none)
theorem Am.up{h:Heap}{a:Addr}{items:Array LB}(x:Am h a items):IsTup h a items:=by
 obtain⟨o,e,c,d,_⟩:=x;exact⟨o,e,c,d⟩
theorem Am.new (h:Heap) (items:Array LB):Am (h.push { cls:=.type "tuple",data:=.seq items }) h.objs.size items:=⟨_,Ls _ rfl,rfl,⟨_,rfl⟩,fun _=>rfl⟩
def NV(H:Hp):bW->List V->Prop
 | [],vs=>vs=[]
 | .inl k::ks,vs=>∃r,vs=kV k::r/\NV H ks r
 | .inr l::ks,vs=>∃c r,vs=.ref c::r/\H c=some (.tup (l.map kV))/\NV H ks r
def fm(H:Hp)(b:Addr)(k:bW):Prop:=∃vs,H b=some (.tup vs)/\NV H k vs
theorem NV.keeps{H H':Hp}(ht:∀b ys,H b=some (.tup ys)->H' b=some (.tup ys)):∀{k:bW}{vs:List V},NV H k vs->NV H' k vs
 | [],_,h=>h
 | .inl _::_,_,⟨r,e,t⟩=>⟨r,e,NV.keeps ht t⟩
 | .inr _::_,_,⟨c,r,e,hc,t⟩=>⟨c,r,e,ht _ _ hc,NV.keeps ht t⟩
theorem fm.keeps{H H':Hp}{b:Addr}{k:bW}(x:fm H b k)(ht:∀b ys,H b=some (.tup ys)->H' b=some (.tup ys)):fm H' b k:=let ⟨vs,e,t⟩:=x;⟨vs,ht _ _ e,t.keeps ht⟩
section
variable(P : Ll)(w : Lx)
def dU(H:Hp)(h:Heap)(a:Addr):HO->Prop
 | .lst xs=>xs.length<=sizeLine/\∃(its:List LB) (n:Nat),Vals xs its/\h.get? a=some { cls:=.type "list",data:=.seq its.toArray n }
 | .tup xs=>xs.length<=sizeLine/\∃its:List LB,Vals xs its/\Am h a its.toArray
 | .dK kvs=>kvs.length<=sizeLine/\(a == MH)=false/\∃vs,KV kvs vs/\h.DictOf (aq P w) a vs
 | .dT kvs=>kvs.length<=sizeLine/\(a == MH)=false/\∃xs:List (bW×Addr×LB),
   Ri (fun (p:bW×V) (q:bW×Addr×LB)=>p.1=q.1/\fm H q.2.1 p.1/\RelV p.2 q.2.2) kvs xs/\
   ∃o es ep,h.get? a=some o/\o.ExactDict/\o.data=.dict es ep/\es.toList=xs.map (entryOfKey (g8 P w))/\(xs.map (·.1)).Nodup
 | .set S n=>h.SetOf (intKind P w) a S n
 | .ins C dx fs=>H dx=some (.own a)/\fs.length<=1000/\dx≠a/\h.get? a=some (PySem.W.instObj C dx)/\
   ∃mA,h.Ns1 dx mA/\(∀f,mL (fs.lookup f) (mA f))/\PySem.Within mA (fs.map (·.1))
 | .own _=>∃o,h.get? a=some o
 | .xd fs=>∃mA,h.Ns1 a mA/\∀f,mL (fs.lookup f) (mA f)
 | .rng lo hi=>∃t u v,h.get? a=some { cls:=.type "range",data:=.fields #[.int lo t,.int hi u,.int 1 v] }
 | .frz o u=>h.get? a=some o/\dU H h a u
 | .tbl ps=>h.get? a=some { cls:=.none,data:=.fields ps }
 | .met f x=>h.get? a=some (Pw (.ref f) (.ref x))
 | .ext φ=>φ h/\(∃o,h.get? a=some o)/\∀h1 h2:Heap,φ h1->(∀o,h1.get? a=some o->h2.get? a=some o)->φ h2
def HOk(H:Hp)(h:Heap):Prop:=∀a o,H a=some o->dU P w H h a o
end
section
variable{P : Ll}{w : Lx}{H H' : Hp}{h h' : Heap}{a : Addr}{o : HO}
theorem dU.lt(x:dU P w H h a o):a<h.objs.size:=by
 cases o with
 | lst xs=>obtain⟨_,_,_,_,e⟩:=x;exact LZ e
 | tup xs=>obtain⟨_,_,_,p⟩:=x;exact p.up.lt
 | dK kvs=>obtain⟨_,_,_,_,o,_,_,e,_⟩:=x;exact LZ e
 | dT kvs=>obtain⟨_,_,_,_,o,_,_,e,_⟩:=x;exact LZ e
 | set S n=>obtain⟨o,_,_,_,e,_⟩:=x;exact LZ e
 | ins C dx fs=>obtain⟨_,_,_,e,_⟩:=x;exact LZ e
 | own y=>obtain⟨_,e⟩:=x;exact LZ e
 | xd fs=>obtain⟨_,⟨_,_,_,e,_⟩,_⟩:=x;exact LZ e
 | rng lo hi=>obtain⟨_,_,_,e⟩:=x;exact LZ e
 | frz ob u=>obtain⟨e,_⟩:=x;exact LZ e
 | tbl ps=>exact LZ (show h.get? a=some _ from x)
 | met f y=>exact LZ (show h.get? a=some _ from x)
 | ext φ=>obtain⟨_,⟨_,e⟩,_⟩:=x;exact LZ e
theorem Paired.mapP{α β:Type}{F G:α->β->Prop}:∀{l₁:List α}{l₂:List β},Ri F l₁ l₂->(∀a b,F a b->G a b)->Ri G l₁ l₂
 | _,_,.nil,_=>.nil
 | _,_,.cons r t,f=>.cons (f _ _ r) (Paired.mapP t f)
theorem dU.stay(x:dU P w H h a o)(k:∀b u,(b=a\/H b=some (.own a))->h.get? b=some u->h'.get? b=some u)
  (ho:∀b,H b=some (.own a)->H' b=some (.own a)) (ht:∀b xs,H b=some (.tup xs)->H' b=some (.tup xs)):dU P w H' h' a o:=by
 induction o with
 | lst xs=>obtain⟨z,its,n,r,e⟩:=x;exact⟨z,its,n,r,k _ _ (.inl rfl) e⟩
 | tup xs=>obtain⟨z,its,r,ob,e,c⟩:=x;exact⟨z,its,r,ob,k _ _ (.inl rfl) e,c⟩
 | dK kvs=>obtain⟨z,y,vs,r,ob,es,ep,e,c⟩:=x;exact⟨z,y,vs,r,ob,es,ep,k _ _ (.inl rfl) e,c⟩
 | dT kvs=>
  obtain⟨z,y,xs,r,ob,es,ep,e,c⟩:=x;exact⟨z,y,xs,Paired.mapP r fun p q z=>⟨z.1,z.2.1.keeps ht,z.2.2⟩,ob,es,ep,k _ _ (.inl rfl) e,c⟩
 | set S n=>obtain⟨ob,es,ep,t,e,c⟩:=x;exact⟨ob,es,ep,t,k _ _ (.inl rfl) e,c⟩
 | ins C dx fs=>
  obtain⟨d,z,ne,e,mA,⟨od,es,ep,e2,c⟩,r⟩:=x;exact⟨ho _ d,z,ne,k _ _ (.inl rfl) e,mA,⟨od,es,ep,k _ _ (.inr d) e2,c⟩,r⟩
 | own y=>obtain⟨ob,e⟩:=x;exact⟨ob,k _ _ (.inl rfl) e⟩
 | xd fs=>obtain⟨mA,⟨od,es,ep,e,c⟩,r⟩:=x;exact⟨mA,⟨od,es,ep,k _ _ (.inl rfl) e,c⟩,r⟩
 | rng lo hi=>obtain⟨t,u,v,e⟩:=x;exact⟨t,u,v,k _ _ (.inl rfl) e⟩
 | frz ob u ih=>obtain⟨e,q⟩:=x;exact⟨k _ _ (.inl rfl) e,ih q⟩
 | tbl ps=>
  have e:h.get? a=some { cls:=.none,data:=.fields ps }:=x;show h'.get? a=some { cls:=.none,data:=.fields ps };exact k a _ (.inl rfl) e
 | met f y=>
  have e:h.get? a=some (Pw (.ref f) (.ref y)):=x;show h'.get? a=some (Pw (.ref f) (.ref y));exact k a _ (.inl rfl) e
 | ext φ=>obtain⟨p,⟨o,e⟩,st⟩:=x;exact⟨st _ _ p fun o q=>k _ _ (.inl rfl) q,⟨o,k _ _ (.inl rfl) e⟩,st⟩
theorem HOk.lt(x:HOk P w H h)(e:H a=some o):a<h.objs.size:=(x a o e).lt
theorem HOk.fresh(x:HOk P w H h)(e:h.objs.size<=a):H a=none:=by
 cases q:H a with
 | none=>rfl
 | some u=>exact absurd (Lj (x.lt q) e) (My _)
theorem HOk.kept(x:HOk P w H h)(k:∀b u,h.get? b=some u->h'.get? b=some u):HOk P w H h':=fun a o e=>
 (x a o e).stay (fun b u _ q=>k b u q) (fun _ q=>q) fun _ _ q=>q
theorem HOk.laid(x:HOk P w H h)(k:∀b u,h.get? b=some u->h'.get? b=some u)(hp:h.objs.size<=a)(new:dU P w (upd H a o) h' a o):HOk P w (upd H a o) h':=fun b u e=>by
 have hn:=x.fresh hp
 by_cases hb:b=a
 ·subst hb;rw[az] at e;cases e;exact new
 ·rw[aA hb] at e
  exact(x b u e).stay (fun c v _ q=>k c v q) (fun c q=>by rw[aA (bu q hn)];exact q) fun c xs q=>by rw[aA (bu q hn)];exact q
end
def Rd(H:Hp)(a:Addr)(u:HO):Prop:=H a=some u\/∃o,H a=some (.frz o u)
theorem Rd.ok{P:Ll}{w:Lx}{H:Hp}{h:Heap}{a:Addr}{u:HO}(r:Rd H a u)(x:HOk P w H h):dU P w H h a u:=by
 rcases r with r | ⟨o,r⟩
 ·exact x a u r
 ·obtain⟨_,q⟩:=x a _ r
  exact q
def Mut:Option HO->Prop
 | some (.lst _)=>True
 | some (.dK _)=>True
 | some (.dT _)=>True
 | some (.set _ _)=>True
 | some (.ins _ _ _)=>True
 | some (.ext _)=>True
 | _=>False
section
variable{P : Ll}{w : Lx}{H : Hp}{h h' : Heap}{x e : Addr}{o' : HO}
theorem HOk.write(ok:HOk P w H h)(mu:Mut (H x))(he:e=x\/H e=some (.own x))(k:∀b u,b≠e->h.get? b=some u->h'.get? b=some u)(heo:∃u,h'.get? e=some u)
  (new:dU P w (upd H x o') h' x o'):HOk P w (upd H x o') h':=fun b u q=>by
 have nown:∀c y,H c=some (.own y)->c≠x:=fun c y r z=>by subst z;rw[r] at mu;exact mu
 have ntup:∀c xs,H c=some (.tup xs)->c≠x:=fun c xs r z=>by subst z;rw[r] at mu;exact mu
 by_cases hb:b=x
 ·subst hb;rw[az] at q;cases q;exact new
 ·rw[aA hb] at q
  by_cases hbe:b=e
  ·have q':H b=some (.own x):=by
    rcases he with z | z
    ·exact absurd (hbe.trans z) hb
    ·rw[hbe];exact z
   rw[q] at q';cases q';obtain⟨v,hv⟩:=heo;exact⟨v,by rw[hbe];exact hv⟩
  ·refine(ok b u q).stay (fun c v hc r=>k c v ?_ r) (fun c r=>by rw[aA (nown c b r)];exact r) fun c xs r=>by rw[aA (ntup c xs r)];exact r
   rcases hc with rfl | hc
   ·exact hbe
   ·rintro rfl
    rcases he with z | z
    ·exact nown c b hc z
    ·rw[hc] at z;cases z;exact hb rfl
end
structure Un(fs ex:List Addr)(H H':Hp)(h h':Heap):Prop where
 keep:∀b o,h.get? b=some o->H b=none->b ∉ fs->b ∉ ex->h'.get? b=some o
 slot:∀b o,h.get? b=some o->H b=none->b∈fs->b ∉ ex->∃sl,h'.get? b=some { o with slots:=sl }
 free:∀b o,h.get? b=some o->H b=none->b ∉ ex->H' b=none
 there:∀b o,h.get? b=some o->b ∉ ex->∃o',h'.get? b=some o'
 tups:∀b xs,H b=some (.tup xs)->H' b=some (.tup xs)
 frzs:∀b o u,H b=some (.frz o u)->H' b=some (.frz o u)
 tbls:∀b ps,H b=some (.tbl ps)->∃more,H' b=some (.tbl (ps++more))
section
variable{fs fs' ex ex' : List Addr}{H H1 H2 : Hp}{h h1 h2 h' : Heap}{a x e : Addr}{o : HO}
theorem Un.any(u:Un fs ex H H1 h h1){b:Addr}{ob:Mu}(q:h.get? b=some ob)(n:H b=none)(hx:b ∉ ex):∃sl,h1.get? b=some { ob with slots:=sl }:=by
 by_cases hb:b∈fs
 ·exact u.slot b ob q n hb hx
 ·exact⟨ob.slots,u.keep b ob q n hb hx⟩
theorem Un.kept(k:∀b u,h.get? b=some u->h'.get? b=some u):Un fs ex H H h h':=
 ⟨fun b ob q _ _ _=>k b ob q,fun b ob q _ _ _=>⟨ob.slots,k b ob q⟩,fun _ _ _ n _=>n,fun b ob q _=>⟨ob,k b ob q⟩,fun _ _ q=>q,fun _ _ _ q=>q,fun _ ps q=>⟨#[],by rw[q];simp⟩⟩
theorem Un.refl:Un fs ex H H h h:=Un.kept fun _ _ q=>q
theorem Un.laid(k:∀b u,h.get? b=some u->h'.get? b=some u)(hp:h.objs.size<=a)(hn:H a=none):Un fs ex H (upd H a o) h h' where
 keep:=fun b u q _ _ _=>k b u q
 slot:=fun b u q _ _ _=>⟨u.slots,k b u q⟩
 free:=fun b u q n _=>by rw[aA (M1 (Lj (LZ q) hp))];exact n
 there:=fun b u q _=>⟨u,k b u q⟩
 tups:=fun b xs q=>by rw[aA (bu q hn)];exact q
 frzs:=fun b u xs q=>by rw[aA (bu q hn)];exact q
 tbls:=fun b ps q=>⟨#[],by rw[aA (bu q hn),q];simp⟩
theorem Un.write(mu:Mut (H x))(he:e=x\/H e=some (.own x))(k:∀b u,b≠e->h.get? b=some u->h'.get? b=some u)(heo:∃u,h'.get? e=some u):Un fs ex H (upd H x o) h h':=by
 have hx:∀b,H b=none->b≠x:=fun b n z=>by subst z;rw[n] at mu;exact mu
 have hb:∀b,H b=none->b≠e:=fun b n z=>by
  subst z;rcases he with r | r
  ·exact hx b n r
  ·rw[n] at r;cases r
 have hm:∀b u,H b=some u->¬ Mut (some u)->b≠x:=fun b u q nm z=>by subst z;rw[q] at mu;exact nm mu
 refine⟨fun b u q n _ _=>k b u (hb b n) q,fun b u q n _ _=>⟨u.slots,k b u (hb b n) q⟩,fun b u q n _=>by rw[aA (hx b n)];exact n,fun b u q _=>?_,
  fun b xs q=>by rw[aA (hm b _ q fun z=>z)];exact q,fun b u xs q=>by rw[aA (hm b _ q fun z=>z)];exact q,fun b ps q=>⟨#[],by rw[aA (hm b _ q fun z=>z),q];simp⟩⟩
 by_cases hbe:b=e
 ·subst hbe;exact heo
 ·exact⟨u,k b u hbe q⟩
end
def trk(h:Heap)(H:Hp):List Addr:=(LI h.objs.size).filter fun a=>(H a).isSome
def zM(h:Heap)(H:Hp):Heap:=PySem.W.hideAll h (trk h H)
theorem wN(h:Heap)(H:Hp):(zM h H).objs.size=h.objs.size:=PySem.W.hideAll_size _ _
theorem zL{h:Heap}{H:Hp}{b:Addr}{o:Mu}(e:h.get? b=some o)(n:H b=none):(zM h H).get? b=some o:=
 PySem.W.hideAll_get _ e fun hm=>by
  have q:(H b).isSome=true:=(Mt.mp hm).2;rw[n] at q;simp at q
theorem C7{h:Heap}{H:Hp}{b:Addr}{o:Mu}(e:(zM h H).get? b=some o):h.get? b=some o/\H b=none:=by
 have e':h.get? b=some o:=PySem.W.of_hideAll (trk h H) e;refine⟨e',?_⟩;cases q:H b with
 | none=>rfl
 | some x=>
  have hm:b∈trk h H:=Mt.mpr ⟨MD.mpr (LZ e'),by simp[q]⟩;have z:(zM h H).get? b=none:=PySem.W.hideAll_none (trk h H) hm;rw[z] at e;cases e
def Dx(g h:Heap)(L:Addr):List (Addr×Mu):=(LI h.objs.size).filterMap fun a=>if a=L\/(g.get? a).isSome=true then none else (h.get? a).map fun o=>(a,o)
def rest(g h:Heap)(L d:Addr):List (Addr×Mu):=(Dx g h L).filter fun p=>decide (p.1≠d)
end L2
namespace L2
open PySem PySem.Spec PyProof.Rows
structure Mod(K:LA)(mg:Str->Option LB)(base:Heap):Prop where
 kin:K.In base
 glob:base.Ns mainGlobals mg
 blt:∃mb,base.Ns Mc mb/\∀x:Str,x≠"__name__"->mb x=NB x
 nolimit:base.NoLimit
structure Cx where
 prog:Ll
 w:Lx
 K:LA
 mg:Str->Option LB
 base:Heap
 A:M6
 N:List Str
 s₀:LF
 H₀:Hp
 env:QO
 outer:List QO
 stack:List QO
 ex:List Addr
 fn:Str->Bool
 calm:Bool
 pn:List (Addr×Mu)
 xe:LB->LF->Prop
def frs(l:List QO):List Addr:=l.filterMap (·.frame)
abbrev Cx.fs(X:Cx):List Addr:=frs X.outer
def Vis(sc:Scope)(x:Str):Prop:=sc.names.lookup x=some .local\/sc.names.lookup x=some .cell\/sc.names.lookup x=some .free
def Loc(sc:Scope)(x:Str):Prop:=sc.names.lookup x=some .local\/sc.names.lookup x=some .cell
def Look(env:QO)(h:Heap)(m:Str->Option LB)(x:Str)(u:LB):Prop:=
 (env.kindOf x=some .local/\m x=some u)\/((env.kindOf x=some .cell\/env.kindOf x=some .free)/\∃c,env.cells.lookup x=some c/\h.IsCell c (some u))
structure Cx.Ok(X:Cx):Prop where
 mod:Mod X.K X.mg X.base
 kind:X.env.scope.kind=.function
 glob:X.env.globals=mainGlobals
 blt:X.env.builtins=Mc
 above:X.s₀.heap.objs.size<=X.env.locals
 inj:∀x y c,X.env.cells.lookup x=some c->X.env.cells.lookup y=some c->x=y
 has:∀x,(X.env.kindOf x=some .cell\/X.env.kindOf x=some .free)->∃c,X.env.cells.lookup x=some c
 cab:∀x c,X.fn x=true->X.env.cells.lookup x=some c->X.s₀.heap.objs.size<=c
 hd:X.calm=true->X.A.handled=none
 frames:X.A.frames=some X.stack
 stk:X.stack=X.outer\/(X.stack=X.env::X.outer/\X.env.frame=some X.env.locals)
 exf:∀b∈X.ex,b≠X.env.locals/\∀x c,X.env.cells.lookup x=some c->c≠b
 bs:∀b o,X.base.get? b=some o->X.s₀.heap.get? b=some o/\X.H₀ b=none
 bsz:X.base.objs.size<=X.s₀.heap.objs.size
 noex:∀b o,X.base.get? b=some o->b ∉ X.ex
 exfs:∀b∈X.ex,b ∉ X.fs
 funs:X.s₀.heap.FunFrames X.base X.outer
 frf:∀b∈X.fs,X.H₀ b=none
structure Inv(X:Cx)(pins:List (Addr×Mu))(σ:List (Option V))(H:Hp)(s:LF):Prop where
 ok:X.Ok
 os:s.os=X.s₀.os
 bare:Pm s.gens
 base:Un X.fs X.ex X.H₀ H X.s₀.heap s.heap
 loc:∃m,s.heap.Ns X.env.locals m/\∀(i:Nat)(x:Str)(v:V),X.N[i]?=some x->σ[i]?=some (some v)->Vis X.env.scope x->∃u,RelV v u/\Look X.env s.heap m x u
 cell:∀x c,X.env.cells.lookup x=some c->∃v,s.heap.IsCell c v
 free:H X.env.locals=none
 freeC:∀x c,X.env.cells.lookup x=some c->H c=none
 pin:∀p∈X.pn++pins,s.heap.get? p.1=some p.2/\H p.1=none/\p.1≠X.env.locals/\p.1 ∉ X.fs/\∀v,p.2.data≠.cell v
 hok:HOk X.prog X.w H s.heap
 len:σ.length=X.N.length
section
variable{X : Cx}{pins : List (Addr×Mu)}{σ : List (Option V)}{H H' : Hp}{s : LF}{h' : Heap}
theorem Cx.Ok.nofr(ok:X.Ok){b:Addr}{o:Mu}(e:X.base.get? b=some o):b ∉ X.fs:=fun hb=>by
 have:=(ok.funs.mem hb).1;rw[e] at this;cases this
theorem Inv.bs(I:Inv X pins σ H s):∀b o,X.base.get? b=some o->s.heap.get? b=some o/\H b=none:=fun b o e=>
 ⟨I.base.keep b o (I.ok.bs b o e).1 (I.ok.bs b o e).2 (I.ok.nofr e) (I.ok.noex b o e),I.base.free b o (I.ok.bs b o e).1 (I.ok.bs b o e).2 (I.ok.noex b o e)⟩
theorem Inv.bk(I:Inv X pins σ H s):∀b o,X.base.get? b=some o->s.heap.get? b=some o:=fun b o e=>(I.bs b o e).1
theorem Inv.mod(I:Inv X pins σ H s):Mod X.K X.mg X.base:=I.ok.mod
theorem Inv.kIn(I:Inv X pins σ H s):X.K.In s.heap:=I.ok.mod.kin.keeps I.bk
theorem Inv.lt(I:Inv X pins σ H s):X.env.locals<s.heap.objs.size:=let ⟨_,hn,_⟩:=I.loc;hn.lt
theorem Inv.sz(I:Inv X pins σ H s):X.s₀.heap.objs.size<=s.heap.objs.size:=Ma I.ok.above (QL I.lt)
theorem Inv.nofs(I:Inv X pins σ H s){a:Addr}(h:s.heap.objs.size<=a):a ∉ X.fs:=fun hb=>by
 obtain⟨_,o,ho,_⟩:=I.ok.funs.mem hb;exact absurd (Lj (LZ ho) (Ma I.sz h)) (My _)
theorem Inv.cne(I:Inv X pins σ H s):∀x c,X.env.cells.lookup x=some c->c≠X.env.locals:=fun x c e z=>by
 obtain⟨v,o,ho,hd⟩:=I.cell x c e;obtain⟨m,⟨o',es,ep,ho',hd',_⟩,_⟩:=I.loc;rw[z,ho'] at ho;cases ho;rw[hd'] at hd;cases hd
theorem Inv.funs(I:Inv X pins σ H s):s.heap.FunFrames X.base X.outer:=by
 have all:∀(l:List QO),(∀b∈frs l,b∈X.fs)->X.s₀.heap.FunFrames X.base l->s.heap.FunFrames X.base l:=by
  intro l
  induction l with
  | nil=>intro _ _;trivial
  | cons env r ih=>
   intro hs hl;obtain⟨hk,⟨L,o,hf,hn,ho,hd⟩,hr⟩:=hl;have hL:L∈X.fs:=hs L (by unfold frs;rw[OB,hf];exact Lu);obtain⟨sl,e⟩:=I.base.slot L o ho (I.ok.frf L hL) hL fun z=>I.ok.exfs L z hL;exact⟨hk,⟨L,_,hf,hn,e,hd⟩,ih (fun b hb=>hs b (by unfold frs;rw[OB,hf];exact Lo _ hb)) hr⟩
 exact all X.outer (fun _ hb=>hb) I.ok.funs
theorem Inv.stack(I:Inv X pins σ H s):s.heap.FunFrames X.base X.stack:=by
 rcases I.ok.stk with e | ⟨e,hf⟩
 ·rw[e];exact I.funs
 ·rw[e]
  obtain⟨m,hn,_⟩:=I.loc;refine .cons (by rw[I.ok.kind];decide) hf hn ?_ I.funs;exact Rv (Ma I.ok.bsz I.ok.above)
theorem Inv.stkSub(I:Inv X pins σ H s):∀b∈frs X.stack,b∈X.env.locals::X.fs:=fun b hb=>by
 rcases I.ok.stk with e | ⟨e,hf⟩
 ·rw[e] at hb;exact Lo _ hb
 ·rw[e] at hb
  unfold frs at hb;rw[OB,hf] at hb;exact hb
theorem Inv.stkFree(I:Inv X pins σ H s):∀b∈frs X.stack,H b=none:=fun b hb=>by
 rcases LX.mp (I.stkSub b hb) with e | hb
 ·rw[e];exact I.free
 ·obtain⟨_,o,ho,_⟩:=I.ok.funs.mem hb
  exact I.base.free b o ho (I.ok.frf b hb) fun z=>I.ok.exfs b z hb
theorem Inv.step{g':Array GenState}{t':Nat}{d':Drawn}{ch:List Addr}(I:Inv X pins σ H s)
  (hch:∀b∈ch,(b∈X.ex\/X.s₀.heap.objs.size<=b)/\b≠X.env.locals/\(∀x c,X.env.cells.lookup x=some c->c≠b)/\∀p∈X.pn++pins,p.1≠b)
  (keep:∀b o,b≠X.env.locals->b ∉ X.fs->b ∉ ch->s.heap.get? b=some o->H b=none->h'.get? b=some o)
  (slot:∀b o,b≠X.env.locals->b∈X.fs->b ∉ ch->s.heap.get? b=some o->H b=none->∃sl,h'.get? b=some { o with slots:=sl }) (free:∀b o,b ∉ ch->s.heap.get? b=some o->H b=none->H' b=none)
  (there:∀b o,b ∉ ch->s.heap.get? b=some o->∃o',h'.get? b=some o')
  (tups:∀b xs,H b=some (.tup xs)->H' b=some (.tup xs)) (frzs:∀b o u,H b=some (.frz o u)->H' b=some (.frz o u)) (tbls:∀b ps,H b=some (.tbl ps)->∃more,H' b=some (.tbl (ps++more)))
  (ns:∀m,s.heap.Ns X.env.locals m->h'.Ns X.env.locals m) (hok:HOk X.prog X.w H' h') (hg:Pm g') :
  Inv X pins σ H' { s with heap:=h',gens:=g',drawn:=d',toks:=t' }:=by
 have neL:∀b o,X.s₀.heap.get? b=some o->b≠X.env.locals:=fun b o e=>M1 (Lj (LZ e) I.ok.above)
 have neC:∀b o,X.s₀.heap.get? b=some o->b ∉ X.ex->b ∉ ch:=fun b o e hx hb=>by
  rcases (hch b hb).1 with z | z
  ·exact hx z
  ·exact absurd (Lj (LZ e) z) (My _)
 have cellK:∀x c,X.env.cells.lookup x=some c->∀v,s.heap.IsCell c v->h'.IsCell c v:=fun x c e v ⟨o,ho,hd⟩=>by
  have nch:c ∉ ch:=fun z=>(hch c z).2.2.1 x c e rfl
  by_cases hc:c∈X.fs
  ·obtain⟨sl,q⟩:=slot c o (I.cne x c e) hc nch ho (I.freeC x c e)
   exact⟨_,q,hd⟩
  ·exact⟨o,keep c o (I.cne x c e) hc nch ho (I.freeC x c e),hd⟩
 refine⟨I.ok,I.os,hg,⟨fun b o e n hb hx=>?_,fun b o e n hb hx=>?_,fun b o e n hx=>?_,fun b o e hx=>?_,fun b xs e=>tups b xs (I.base.tups b xs e),fun b o xs e=>frzs b o xs (I.base.frzs b o xs e),fun b ps e=>?_⟩,?_,fun x c e=>?_,?_,fun x c e=>?_,fun p hp=>?_,hok,I.len⟩
 ·exact keep b o (neL b o e) hb (neC b o e hx) (I.base.keep b o e n hb hx) (I.base.free b o e n hx)
 ·obtain⟨sl,e1⟩:=I.base.slot b o e n hb hx
  obtain⟨sl',e2⟩:=slot b _ (neL b o e) hb (neC b o e hx) e1 (I.base.free b o e n hx);exact⟨sl',e2⟩
 ·obtain⟨o',e1⟩:=I.base.there b o e hx
  exact free b o' (neC b o e hx) e1 (I.base.free b o e n hx)
 ·obtain⟨o',e1⟩:=I.base.there b o e hx
  exact there b o' (neC b o e hx) e1
 ·obtain⟨m1,e1⟩:=I.base.tbls b ps e
  obtain⟨m2,e2⟩:=tbls b _ e1;exact⟨m1++m2,by rw[e2,Array.append_assoc]⟩
 ·obtain⟨m,hn,hl⟩:=I.loc
  refine⟨m,ns m hn,fun i x v e1 e2 e3=>?_⟩;obtain⟨u,r,l⟩:=hl i x v e1 e2 e3;refine⟨u,r,?_⟩;rcases l with l | ⟨k,c,e,z⟩
  ·exact .inl l
  ·exact .inr ⟨k,c,e,cellK x c e _ z⟩
 ·obtain⟨v,z⟩:=I.cell x c e
  exact⟨v,cellK x c e v z⟩
 ·obtain⟨m,⟨o,_,_,ho,_⟩,_⟩:=I.loc
  exact free _ o (fun z=>(hch _ z).2.1 rfl) ho I.free
 ·obtain⟨v,o,ho,hd⟩:=I.cell x c e
  exact free c o (fun z=>(hch c z).2.2.1 x c e rfl) ho (I.freeC x c e)
 ·obtain⟨e,n,ne,nf,d⟩:=I.pin p hp
  have nch:p.1 ∉ ch:=fun z=>(hch p.1 z).2.2.2 p hp rfl;exact⟨keep p.1 p.2 ne nf nch e n,free p.1 p.2 nch e n,ne,nf,d⟩
theorem Inv.un{t':Nat}(I:Inv X pins σ H s)(u:Un X.fs [] H H' s.heap h')(hok:HOk X.prog X.w H' h'):Inv X pins σ H' { s with heap:=h',toks:=t' }:=by
 obtain⟨m,⟨o,es,ep,ho,r⟩,_⟩:=id I.loc;obtain⟨sl,hL⟩:=u.any ho I.free (by simp)
 exact I.step (g':=s.gens) (d':=s.drawn) (ch:=[]) (fun _ z=>nomatch z) (fun b o _ hb _ e n=>u.keep b o e n hb (by simp)) (fun b o _ hb _ e n=>u.slot b o e n hb (by simp)) (fun b o _ e n=>u.free b o e n (by simp)) (fun b o _ e=>u.there b o e (by simp)) u.tups u.frzs u.tbls (fun m' hm=>by
  obtain⟨o',es',ep',ho',r'⟩:=hm;rw[ho] at ho';cases ho';exact⟨_,es',ep',hL,r'⟩) hok I.bare
theorem Inv.call{g':Array GenState}{t':Nat}{d':Drawn}{ch:List Addr}(I:Inv X pins σ H s)(u:Un (frs X.stack) ch H H' s.heap h')(hok:HOk X.prog X.w H' h')(hg:Pm g')
  (hch:∀b∈ch,(b∈X.ex\/X.s₀.heap.objs.size<=b)/\b≠X.env.locals/\(∀x c,X.env.cells.lookup x=some c->c≠b)/\∀p∈X.pn++pins,p.1≠b) :
  Inv X pins σ H' { s with heap:=h',gens:=g',drawn:=d',toks:=t' }:=by
 obtain⟨m,⟨o,es,ep,ho,r⟩,_⟩:=id I.loc;obtain⟨sl,hL⟩:=u.any ho I.free fun z=>(hch _ z).2.1 rfl
 exact I.step (ch:=ch) hch (fun b o hL hb hc e n=>u.keep b o e n (fun z=>(LX.mp (I.stkSub b z)).elim hL hb) hc) (fun b o _ _ hc e n=>u.any e n hc) (fun b o hc e n=>u.free b o e n hc) (fun b o hc e=>u.there b o e hc) u.tups u.frzs u.tbls (fun m' hm=>by
  obtain⟨o',es',ep',ho',r'⟩:=hm;rw[ho] at ho';cases ho';exact⟨_,es',ep',hL,r'⟩) hok hg
theorem Inv.turned{t':Nat}{it:Addr}(I:Inv X pins σ H s)(k:∀b o,b≠it->s.heap.get? b=some o->h'.get? b=some o)(hn:H it=none)(hL:it≠X.env.locals)
  (h1:it∈X.ex\/X.s₀.heap.objs.size<=it) (h2:∀x c,X.env.cells.lookup x=some c->c≠it) (h3:∀p∈X.pn++pins,p.1≠it):Inv X pins σ H { s with heap:=h',toks:=t' }:=by
 have nit:∀b u,H b=some u->b≠it:=fun b u e z=>by rw[z,hn] at e;cases e
 refine I.step (g':=s.gens) (d':=s.drawn) (ch:=[it]) (fun b hb=>?_) (fun b o _ _ hc e _=>k b o (fun z=>hc (by simp[z])) e) (fun b o _ _ hc e _=>⟨o.slots,k b o (fun z=>hc (by simp[z])) e⟩) (fun _ _ _ _ n=>n)
  (fun b o hc e=>⟨o,k b o (fun z=>hc (by simp[z])) e⟩) (fun _ _ e=>e) (fun _ _ _ e=>e) (fun b ps e=>⟨#[],by rw[e];simp⟩) (fun m hm=>?_) (fun b u e=>?_) I.bare
 ·have e:b=it:=by simpa using hb
  subst e;exact⟨h1,hL,h2,h3⟩
 ·obtain⟨o,es,ep,ho,r⟩:=hm
  exact⟨o,es,ep,k _ o (OA hL) ho,r⟩
 ·refine(I.hok b u e).stay (fun c v hc q=>k c v ?_ q) (fun _ q=>q) fun _ _ q=>q
  rcases hc with z | z
  ·rw[z];exact nit b u e
  ·exact nit c _ z
theorem Inv.tok(I:Inv X pins σ H s)(t:Nat):Inv X pins σ H { s with toks:=t }:=I.un (h':=s.heap) (t':=t) Un.refl I.hok
theorem Inv.kept{t':Nat}(I:Inv X pins σ H s)(k:∀b u,s.heap.get? b=some u->h'.get? b=some u):Inv X pins σ H { s with heap:=h',toks:=t' }:=I.un (Un.kept k) (I.hok.kept k)
theorem Inv.laid{a:Addr}{o:HO}{t':Nat}(I:Inv X pins σ H s)(k:∀b u,s.heap.get? b=some u->h'.get? b=some u)(hp:s.heap.objs.size<=a)(new:dU X.prog X.w (upd H a o) h' a o) :
  Inv X pins σ (upd H a o) { s with heap:=h',toks:=t' }:=I.un (Un.laid k hp (I.hok.fresh hp)) (I.hok.laid k hp new)
theorem Inv.write{x e:Addr}{o:HO}{t':Nat}(I:Inv X pins σ H s)(mu:Mut (H x))(he:e=x\/H e=some (.own x))(k:∀b u,b≠e->s.heap.get? b=some u->h'.get? b=some u)(heo:∃u,h'.get? e=some u)
  (new:dU X.prog X.w (upd H x o) h' x o):Inv X pins σ (upd H x o) { s with heap:=h',toks:=t' }:=I.un (Un.write mu he k heo) (I.hok.write mu he k heo new)
theorem Inv.pins_of{pins':List (Addr×Mu)}(I:Inv X pins σ H s)(h:∀p∈pins',s.heap.get? p.1=some p.2/\H p.1=none/\p.1≠X.env.locals/\p.1 ∉ X.fs/\∀v,p.2.data≠.cell v):Inv X pins' σ H s:=
 ⟨I.ok,I.os,I.bare,I.base,I.loc,I.cell,I.free,I.freeC,fun p hp=>(MA.mp hp).elim (fun z=>I.pin p (NQ _ z)) (h p),I.hok,I.len⟩
theorem sy{N:List Str}(hN:N.Nodup){i j:Nat}{x:Str}(a:N[i]?=some x)(b:N[j]?=some x):i=j:=by
 obtain⟨h1,e1⟩:=LM.mp a;obtain⟨h2,e2⟩:=LM.mp b;exact(List.getElem_inj hN).mp (e1.trans e2.symm)
theorem vb{M:Model}{A:M6}{E:LB->LF->Prop}{i:Nat}{x:Str}{v:V}{u:LB}{Q:Unit->LF->Prop}(I:Inv X pins σ H s)(hN:X.N.Nodup)(hi:X.N[i]?=some x)(hx:Loc X.env.scope x)(r:RelV v u)
  (h:∀s',Inv X pins (σ.set i (some v)) H s'->(∃a,NK a s.heap s'.heap/\(a=X.env.locals\/X.env.cells.lookup x=some a))->Q () s') (hf:X.fn x=true\/X.env.scope.names.lookup x=some .local:=by first | exact .inl rfl | exact .inr rfl | assumption):Ln M A (storeName X.env x u) Q E s:=by
 obtain⟨m,hn,hl⟩:=id I.loc;have hcls:(X.env.scope.kind == .class || (X.env.scope.kind == .module && X.env.locals != X.env.globals))=false:=by rw[I.ok.kind];rfl
 have hiσ:i<σ.length:=by rw[I.len];exact(LM.mp hi).1
 have cne:=I.cne
 have tracked:∀{a:Addr}{h':Heap},(∃o,s.heap.get? a=some o/\H a=none)->NK a s.heap h'->HOk X.prog X.w H h':=fun {a h'} ha hs b ob e=>by
  obtain⟨_,_,hfree⟩:=ha;refine(I.hok b ob e).stay (fun c w' hc q=>(hs.2 c ?_).trans q) (fun _ q=>q) fun _ _ q=>q;rintro rfl;rcases hc with rfl | hc
  ·rw[hfree] at e;cases e
  ·rw[hfree] at hc;cases hc
 rcases hx with hk | hk
 ·refine wpAny_storeName_local hk hn (fun h' hn' hs=>?_) hcls
  obtain⟨oL,_,_,hoL,_⟩:=id hn;refine h _ ⟨I.ok,I.os,I.bare,⟨fun b o e n hb hx=>?_,fun b o e n hb hx=>?_,I.base.free,fun b o e hx=>?_,I.base.tups,I.base.frzs,I.base.tbls⟩,⟨_,hn',fun j y v' e1 e2 e3=>?_⟩,fun y c e=>?_,I.free,I.freeC,fun p hp=>?_,tracked ⟨oL,hoL,I.free⟩ hs,by simpa using I.len⟩ ⟨_,hs,.inl rfl⟩
  ·exact(hs.2 b (M1 (Lj (LZ e) I.ok.above))).trans (I.base.keep b o e n hb hx)
  ·obtain⟨sl,e1⟩:=I.base.slot b o e n hb hx
   exact⟨sl,(hs.2 b (M1 (Lj (LZ e) I.ok.above))).trans e1⟩
  ·obtain⟨o',e1⟩:=I.base.there b o e hx
   exact⟨o',(hs.2 b (M1 (Lj (LZ e) I.ok.above))).trans e1⟩
  ·by_cases hj:j=i
   ·subst hj
    rw[hi] at e1;cases e1;rw[RJ hiσ] at e2;cases e2;exact⟨u,r,.inl ⟨hk,by simp⟩⟩
   ·rw[Rz (OA hj)] at e2
    obtain⟨u',r',q⟩:=hl j y v' e1 e2 e3;refine⟨u',r',?_⟩;rcases q with⟨k,e⟩|⟨k,c,e,z⟩
    ·refine .inl ⟨k,?_⟩
     have:y≠x:=fun e=>hj (sy hN e1 (e▸hi));simp[this,e]
    ·exact .inr ⟨k,c,e,z.sameBut hs (cne y c e)⟩
  ·obtain⟨w',z⟩:=I.cell y c e
   exact⟨w',z.sameBut hs (cne y c e)⟩
  ·obtain⟨e,n,ne,nf,d⟩:=I.pin p hp
   exact⟨(hs.2 p.1 ne).trans e,n,ne,nf,d⟩
 ·have hfn:X.fn x=true:=by
   rcases hf with z | z
   ·exact z
   ·rw[z] at hk;cases hk
  obtain⟨c,hc⟩:=I.ok.has x (.inl hk);obtain⟨w',z⟩:=I.cell x c hc;refine wpAny_storeName_cell I.ok.kind hk hc z (fun h' hc' hs=>?_);obtain⟨oc,hoc,hocd⟩:=id z;refine h { s with heap:=h' } ⟨I.ok,I.os,I.bare,⟨fun b o e n hb hx=>?_,fun b o e n hb hx=>?_,I.base.free,fun b o e hx=>?_,I.base.tups,I.base.frzs,I.base.tbls⟩,⟨m,hn.sameBut hs (OA (cne x c hc)),fun j y v' e1 e2 e3=>?_⟩,fun y c' e=>?_,I.free,I.freeC,fun p hp=>?_,tracked ⟨oc,hoc,I.freeC x c hc⟩ hs,by simpa using I.len⟩ ⟨c,hs,.inr hc⟩
  ·exact(hs.2 b (M1 (Lj (LZ e) (I.ok.cab x c hfn hc)))).trans (I.base.keep b o e n hb hx)
  ·obtain⟨sl,e1⟩:=I.base.slot b o e n hb hx
   exact⟨sl,(hs.2 b (M1 (Lj (LZ e) (I.ok.cab x c hfn hc)))).trans e1⟩
  ·obtain⟨o',e1⟩:=I.base.there b o e hx
   exact⟨o',(hs.2 b (M1 (Lj (LZ e) (I.ok.cab x c hfn hc)))).trans e1⟩
  ·by_cases hj:j=i
   ·subst hj
    rw[hi] at e1;cases e1;rw[RJ hiσ] at e2;cases e2;exact⟨u,r,.inr ⟨.inl hk,c,hc,hc'⟩⟩
   ·rw[Rz (OA hj)] at e2
    obtain⟨u',r',q⟩:=hl j y v' e1 e2 e3;refine⟨u',r',?_⟩;rcases q with q | ⟨k,c',e,z'⟩
    ·exact .inl q
    ·refine .inr ⟨k,c',e,z'.sameBut hs ?_⟩
     rintro rfl;exact hj (sy hN e1 (I.ok.inj _ _ _ e hc▸hi))
  ·by_cases hcc:c'=c
   ·subst hcc;exact⟨_,hc'⟩
   ·obtain⟨w2,z2⟩:=I.cell y c' e
    exact⟨w2,z2.sameBut hs hcc⟩
  ·obtain⟨e,n,ne,nf,d⟩:=I.pin p hp
   refine⟨(hs.2 p.1 ?_).trans e,n,ne,nf,d⟩;intro q;rw[q,hoc] at e;have q':oc=p.2:=Ly e;exact d w' (by rw[← q'];exact hocd)
theorem nS{M:Model}{A:M6}{E:LB->LF->Prop}{i:Nat}{x:Str}{v:V}{u:LB}{Q:Unit->LF->Prop}(I:Inv X pins σ H s)(hN:X.N.Nodup)(hi:X.N[i]?=some x)(hx:Loc X.env.scope x)(r:RelV v u)
  (h:∀s',Inv X pins (σ.set i (some v)) H s'->Q () s') (hf:X.fn x=true\/X.env.scope.names.lookup x=some .local:=by first | exact .inl rfl | exact .inr rfl | assumption):Ln M A (storeName X.env x u) Q E s:=
 vb I hN hi hx r (fun s' I' _=>h s' I') hf
theorem Inv.call'{s':LF}{ch:List Addr}(I:Inv X pins σ H s)(ho:s'.os=s.os)(u:Un (frs X.stack) ch H H' s.heap s'.heap)(hok:HOk X.prog X.w H' s'.heap)(hg:Pm s'.gens)
  (hch:∀b∈ch,(b∈X.ex\/X.s₀.heap.objs.size<=b)/\b≠X.env.locals/\(∀x c,X.env.cells.lookup x=some c->c≠b)/\∀p∈X.pn++pins,p.1≠b):Inv X pins σ H' s':=by
 obtain⟨h',g',d',t',o'⟩:=s';have e:o'=s.os:=ho;subst e;exact I.call (g':=g') (t':=t') (d':=d') u hok hg hch
end
abbrev XK:=LB->Option Addr->Hp->Prop
abbrev St:=List (Option V)
abbrev VK:=V->Hp->Prop
abbrev TE:=St->Hp->VK->Prop
abbrev TT:=St->Hp->(Bool->Hp->Prop)->Prop
abbrev TA:=St->Hp->(List V->Hp->Prop)->Prop
structure Ends where
 nx:St->Hp->Prop
 rt:VK
 bk:St->Hp->Prop:=fun _ _=>False
 ct:St->Hp->Prop:=fun _ _=>False
abbrev TS:=Ends->St->Hp->Prop
def EP(X:Cx)(pins:List (Addr×Mu))(σ:St)(Q:VK)(u:LB)(s':LF):Prop:=∃v H',Inv X pins σ H' s'/\RelV v u/\Q v H'
def TP(X:Cx)(pins:List (Addr×Mu))(σ:St)(Q:Bool->Hp->Prop)(b:Bool)(s':LF):Prop:=∃H',Inv X pins σ H' s'/\Q b H'
def AP(X:Cx)(pins:List (Addr×Mu))(σ:St)(Q:List V->Hp->Prop)(us:List LB)(s':LF):Prop:=∃vs H',Inv X pins σ H' s'/\Vals vs us/\Q vs H'
def SP(X:Cx)(pins:List (Addr×Mu))(D:Ends)(f:Flow)(s':LF):Prop:=
 match f with
 | .next=>∃σ' H',Inv X pins σ' H' s'/\D.nx σ' H'
 | .brk=>∃σ' H',Inv X pins σ' H' s'/\D.bk σ' H'
 | .cont=>∃σ' H',Inv X pins σ' H' s'/\D.ct σ' H'
 | .ret u=>∃v σ' H',Inv X pins σ' H' s'/\RelV v u/\D.rt v H'
def PE(X:Cx)(e:Expr)(t:TE):Prop:=
 ∀(pins:List (Addr×Mu))(s:LF)(σ:St)(H:Hp)(Q:VK),Inv X pins σ H s->t σ H Q->Ln (M4 X.prog X.w) X.A (MZ e X.env) (EP X pins σ Q) X.xe s
def PT(X:Cx)(e:Expr)(t:TT):Prop:=
 ∀(pins:List (Addr×Mu))(s:LF)(σ:St)(H:Hp)(Q:Bool->Hp->Prop),Inv X pins σ H s->t σ H Q->Ln (M4 X.prog X.w) X.A (isTrue e X.env (MZ e X.env)) (TP X pins σ Q) X.xe s
def PW(X:Cx)(e:Expr)(t:TT):Prop:=
 ∀(whole:Sem LB)(pins:List (Addr×Mu))(s:LF)(σ:St)(H:Hp)(Q:Bool->Hp->Prop),Inv X pins σ H s->t σ H Q->Ln (M4 X.prog X.w) X.A (isTrue e X.env whole) (TP X pins σ Q) X.xe s
theorem PW.pt{X:Cx}{e:Expr}{t:TT}(h:PW X e t):PT X e t:=h _
def PA(X:Cx)(es:List Expr)(t:TA):Prop:=
 ∀(pos:N8)(pins:List (Addr×Mu))(s:LF)(σ:St)(H:Hp)(Q:List V->Hp->Prop),Inv X pins σ H s->t σ H Q->Ln (M4 X.prog X.w) X.A (spliced (OR pos (Lk es X.env))) (AP X pins σ Q) X.xe s
def PS(X:Cx)(st:Stmt)(t:TS):Prop:=
 ∀(pins:List (Addr×Mu))(s:LF)(σ:St)(H:Hp)(D:Ends),Inv X pins σ H s->t D σ H->Ln (M4 X.prog X.w) X.A (exec st X.env) (SP X pins D) X.xe s
def PSs(X:Cx)(st:List Stmt)(t:TS):Prop:=
 ∀(pins:List (Addr×Mu))(s:LF)(σ:St)(H:Hp)(D:Ends),Inv X pins σ H s->t D σ H->Ln (M4 X.prog X.w) X.A (execs st X.env) (SP X pins D) X.xe s
theorem thn{α:Type}{t:Sem α}{Q Q':α->LF->Prop}{M:Model}{A:M6}{E:LB->LF->Prop}{s:LF}(h:Ln M A t Q E s)(hQ:∀a s,Q a s->Q' a s):Ln M A t Q' E s:=Nf h hQ fun _ _ x=>x
end L2
namespace L2
open PySem PySem.Spec PyProof.Rows
section
variable{X : Cx}
def K3(i:Nat):TE:=fun σ H Q=>∃v,σ[i]?=some (some v)/\Q v H
def tC(v:V):TE:=fun _ H Q=>Q v H
theorem gM {i:Nat} {x:Str} {pos:N8} (hN:X.N[i]?=some x) (hv:Vis X.env.scope x) (hd:(x == ("__debug__":Str))=false:=by decide) (hcd:(x == ("__classdict__":Str))=false:=by decide):PE X (.Name x pos) (K3 i):=by
 intro pins s σ H Q I h;obtain⟨v,e,h⟩:=h;obtain⟨m,hn,hl⟩:=I.loc;obtain⟨u,r,l⟩:=hl i x v hN e hv;have fin:EP X pins σ Q u s:=⟨v,H,I,r,h⟩;rcases l with⟨hk,hm⟩|⟨hk,c,hc,hcell⟩
 ·exact wpAny_Name (wpAny_loadName_local I.ok.kind hk hn hm fin) hd
 ·rcases hk with hk | hk
  ·exact wpAny_Name (wpAny_loadName_cell I.ok.kind hk hc hcell fin) hd
  ·exact wpAny_Name (wpAny_loadName_free I.ok.kind hk hc hcell fin hcd) hd
theorem F0{i j pos}:PE X (.Constant (.int i) j pos) (tC (.int i)):=fun _ _ _ H _ I h=>wpAny_Constant_int ⟨.int i,H,I.tok _,⟨_,rfl⟩,h⟩
theorem I8{b j pos}:PE X (.Constant (.bool b) j pos) (tC (.bl b)):=fun _ _ _ H _ I h=>Constant_bool ⟨.bl b,H,I,rfl,h⟩
theorem EX{j pos}:PE X (.Constant .none j pos) (tC .non):=fun _ _ _ H _ I h=>Constant_none ⟨.non,H,I,rfl,h⟩
theorem EU{x j pos}:PE X (.Constant (.str x) j pos) (tC (.str x)):=fun _ _ _ H _ I h=>Calls.Constant_str ⟨.str x,H,I.tok _,⟨_,rfl⟩,h⟩
def Gl(X:Cx)(x:Str):Prop:=X.env.kindOf x=some .globalImplicit
theorem qY{E:LB->LF->Prop}{pins:List (Addr×Mu)}{s:LF}{σ:St}{H:Hp}{x:Str}{u:LB}{pos:N8}{Q:LB->LF->Prop}(I:Inv X pins σ H s)(hg:Gl X x)(hm:X.mg x=some u)(h:Q u s)
  (hd:(x == ("__debug__":Str))=false:=by decide):Ln (M4 X.prog X.w) X.A (MZ (.Name x pos) X.env) Q E s:=
 Qg I.ok.kind hg (Calls.loadGlobal_global (by rw[I.ok.glob];exact I.mod.glob.keeps I.bk) hm h) hd
theorem kq{E:LB->LF->Prop}{pins:List (Addr×Mu)}{s:LF}{σ:St}{H:Hp}{x:Str}{u:LB}{pos:N8}{Q:LB->LF->Prop}(I:Inv X pins σ H s)(hg:Gl X x)(hm:X.mg x=none)(hv:NB x=some u)(h:Q u s)
  (hn:x≠"__name__":=by decide) (hd:(x == ("__debug__":Str))=false:=by decide):Ln (M4 X.prog X.w) X.A (MZ (.Name x pos) X.env) Q E s:=by
 obtain⟨mb,h1,h2⟩:=I.mod.blt;exact Qg I.ok.kind hg (Calls.loadGlobal_builtin (by rw[I.ok.glob];exact I.mod.glob.keeps I.bk) hm (by rw[I.ok.blt];exact h1.keeps I.bk) ((h2 x hn).trans hv) h) hd
theorem BY {x:Str} {v:V} {u:LB} {pos:N8} (hg:Gl X x) (hm:X.mg x=some u) (r:RelV v u) (hd:(x == ("__debug__":Str))=false:=by decide):PE X (.Name x pos) (tC v):=
 fun _ _ _ H _ I h=>qY I hg hm ⟨v,H,I,r,h⟩ hd
theorem C3 {x:Str} {v:V} {u:LB} {pos:N8} (hg:Gl X x) (hm:X.mg x=none) (hv:NB x=some u) (r:RelV v u) (hn:x≠"__name__":=by decide) (hd:(x == ("__debug__":Str))=false:=by decide):PE X (.Name x pos) (tC v):=
 fun _ _ _ H _ I h=>kq I hg hm hv ⟨v,H,I,r,h⟩ hn hd
variable{a b : Expr}{ta tb : TE}{pos : N8}
variable{tA tB' : TT}{rest : List Expr}
def Kg(t u:TT):TT:=fun σ H Q=>t σ H fun c H1=>if c=true then u σ H1 Q else Q false H1
def tOr(t u:TT):TT:=fun σ H Q=>t σ H fun c H1=>if c=true then Q true H1 else u σ H1 Q
def K9(t:TT):TT:=fun σ H Q=>t σ H fun c H1=>Q (!c) H1
theorem BQ(ha:PT X a tA):PW X (.BoolOp .And [a] pos) tA:=by
 intro wh pins s σ H Q I h;refine isTrue_and (thn (ha pins s σ H Q I h) fun c s1 e=>?_);cases c with
 | true=>exact isTrue_and_nil e
 | false=>exact e
theorem Ez(ha:PT X a tA):PW X (.BoolOp .Or [a] pos) tA:=by
 intro wh pins s σ H Q I h;refine isTrue_or (thn (ha pins s σ H Q I h) fun c s1 e=>?_);cases c with
 | false=>exact isTrue_or_nil e
 | true=>exact e
theorem EC(ha:PT X a tA)(hb:PW X (.BoolOp .And (b::rest) pos) tB'):PW X (.BoolOp .And (a::b::rest) pos) (Kg tA tB'):=by
 intro wh pins s σ H Q I h;refine isTrue_and (thn (ha pins s σ H _ I h) fun c s1 ⟨H1,I1,q1⟩=>?_);cases c with
 | true=>exact hb wh pins s1 σ H1 Q I1 q1
 | false=>exact⟨H1,I1,q1⟩
theorem HS(ha:PT X a tA)(hb:PW X (.BoolOp .Or (b::rest) pos) tB'):PW X (.BoolOp .Or (a::b::rest) pos) (tOr tA tB'):=by
 intro wh pins s σ H Q I h;refine isTrue_or (thn (ha pins s σ H _ I h) fun c s1 ⟨H1,I1,q1⟩=>?_);cases c with
 | true=>exact⟨H1,I1,q1⟩
 | false=>exact hb wh pins s1 σ H1 Q I1 q1
theorem EF(ha:PT X a tA):PT X (.UnaryOp .Not a pos) (K9 tA):=by
 intro pins s σ H Q I h;exact isTrue_not (ha pins s σ H (fun c H1=>Q (!c) H1) I h)
def tIf(t:TT)(ta tb:TE):TE:=fun σ H Q=>t σ H fun c H1=>if c=true then ta σ H1 Q else tb σ H1 Q
theorem zi{c:Expr}(hc:PT X c tA)(ha:PE X a ta)(hb:PE X b tb):PE X (.IfExp c a b pos) (tIf tA ta tb):=by
 intro pins s σ H Q I h;refine wpAny_IfExp (thn (hc pins s σ H _ I h) fun d s1 ⟨H1,I1,q1⟩=>?_);cases d with
 | true=>exact ha pins s1 σ H1 Q I1 q1
 | false=>exact hb pins s1 σ H1 Q I1 q1
end
end L2
namespace L2
open PySem PySem.Spec PyProof.Rows
def SqL(K:LA)(H:Hp)(a:Addr)(xs:List V):Prop:=
 Rd H a (.lst xs) ∨
  ∃(o:Mu) (its:Array LB) (n:Nat),K.lookup a=some o/\o.cls=.type "list"/\o.dict=none/\o.data=.seq its n/\its.size<=sizeLine/\Vals xs its.toList
def SqT(K:LA)(H:Hp)(a:Addr)(xs:List V):Prop:=
 Rd H a (.tup xs) ∨
  ∃(o:Mu) (its:Array LB) (n:Nat),K.lookup a=some o/\o.cls=.type "tuple"/\o.data=.seq its n/\its.size<=sizeLine/\Vals xs its.toList/\o.dict=none
def L0:LB->Option V
 | .none=>some .non
 | .bool b=>some (.bl b)
 | .int i _=>some (.int i)
 | .str x _=>some (.str x)
 | .bytes b _=>some (.byt b)
 | .float b _=>some (.flt b)
 | .ref a=>some (.ref a)
 | .type n=>some (.ty n)
 | _=>none
theorem RelV.abs{x:V}{u:LB}(r:RelV x u):L0 u=some x:=by
 cases x with
 | non=>cases r;rfl
 | bl _=>cases r;rfl
 | int _=>obtain⟨t,rfl⟩:=r;rfl
 | str _=>obtain⟨t,rfl⟩:=r;rfl
 | byt _=>obtain⟨t,rfl⟩:=r;rfl
 | flt _=>obtain⟨t,rfl⟩:=r;rfl
 | ref _=>cases r;rfl
 | ty _=>cases r;rfl
theorem RelV.inj{x y:V}{u:LB}(r:RelV x u)(q:RelV y u):x=y:=Ly (r.abs.symm.trans q.abs)
theorem Vals.inj:∀{xs ys:List V}{us:List LB},Vals xs us->Vals ys us->xs=ys
 | _,_,_,.nil,.nil=>rfl
 | _,_,_,.cons r t,.cons r' t'=>by rw[r.inj r',Vals.inj t t']
section
variable{X : Cx}{pins : List (Addr×Mu)}{σ : St}{H : Hp}{s : LF}{a : Addr}{xs ys : List V}
theorem SqL.of{K:LA}(h:H a=some (.lst xs)):SqL K H a xs:=.inl (.inl h)
theorem Inv.list(I:Inv X pins σ H s)(h:SqL X.K H a xs):∃its:List LB,Vals xs its/\PlainL s.heap a its.toArray/\xs.length<=sizeLine:=by
 rcases h with h | ⟨o,its,n,hk,hc,hd,hs,hz,r⟩
 ·obtain⟨z,its,n,r,e⟩:=h.ok I.hok
  exact⟨its,r,⟨_,n,e,rfl,rfl,rfl⟩,z⟩
 ·refine⟨its.toList,r,⟨o,n,I.kIn a o hk,hc,hd,by simpa using hs⟩,?_⟩
  have e:=r.length;simp only[MU] at e;omega
theorem Inv.tuple(I:Inv X pins σ H s)(h:SqT X.K H a xs):∃its:List LB,Vals xs its/\IsTup s.heap a its.toArray/\xs.length<=sizeLine:=by
 rcases h with h | ⟨o,its,n,hk,hc,hs,hz,r,hdn⟩
 ·obtain⟨z,its,r,p⟩:=h.ok I.hok
  exact⟨its,r,p.up,z⟩
 ·refine⟨its.toList,r,⟨o,I.kIn a o hk,hc,n,by simpa using hs⟩,?_⟩
  have e:=r.length;simp only[MU] at e;omega
theorem Inv.tupleX(I:Inv X pins σ H s)(h:SqT X.K H a xs):∃its:List LB,Vals xs its/\Am s.heap a its.toArray/\xs.length<=sizeLine:=by
 rcases h with h | ⟨o,its,n,hk,hc,hs,hz,r,hdn⟩
 ·obtain⟨z,its,r,p⟩:=h.ok I.hok
  exact⟨its,r,p,z⟩
 ·refine⟨its.toList,r,⟨o,I.kIn a o hk,hc,⟨n,by simpa using hs⟩,fun _=>hdn⟩,?_⟩
  have e:=r.length;simp only[MU] at e;omega
theorem Inv.list_inj(I:Inv X pins σ H s)(h:SqL X.K H a xs)(h':SqL X.K H a ys):xs=ys:=by
 obtain⟨its,r,⟨o,n,e,_,_,d⟩,_⟩:=I.list h;obtain⟨its',r',⟨o',n',e',_,_,d'⟩,_⟩:=I.list h';rw[e] at e';cases e';rw[d] at d';injection d' with d1 _;have:its=its':=by simpa using congrArg Array.toList d1
 subst this;exact r.inj r'
theorem Inv.tuple_inj(I:Inv X pins σ H s)(h:SqT X.K H a xs)(h':SqT X.K H a ys):xs=ys:=by
 obtain⟨its,r,⟨o,e,_,n,d⟩,_⟩:=I.tuple h;obtain⟨its',r',⟨o',e',_,n',d'⟩,_⟩:=I.tuple h';rw[e] at e';cases e';rw[d] at d';injection d' with d1 _;have:its=its':=by simpa using congrArg Array.toList d1
 subst this;exact r.inj r'
end
abbrev Cx.wish(X:Cx)(E:LB->LF->Prop):Cx:={ X with xe:=E }
abbrev Cx.nox(X:Cx):Cx:=X.wish fun _ _=>False
theorem Cx.Ok.wish{X:Cx}(ok:X.Ok)(E:LB->LF->Prop):(X.wish E).Ok:=
 ⟨ok.mod,ok.kind,ok.glob,ok.blt,ok.above,ok.inj,ok.has,ok.cab,ok.hd,ok.frames,ok.stk,ok.exf,ok.bs,ok.bsz,ok.noex,ok.exfs,ok.funs,ok.frf⟩
theorem Cx.Ok.unwish{X:Cx}{E:LB->LF->Prop}(ok:(X.wish E).Ok):X.Ok:=
 ⟨ok.mod,ok.kind,ok.glob,ok.blt,ok.above,ok.inj,ok.has,ok.cab,ok.hd,ok.frames,ok.stk,ok.exf,ok.bs,ok.bsz,ok.noex,ok.exfs,ok.funs,ok.frf⟩
section
variable{X : Cx}{pins : List (Addr×Mu)}{σ : St}{H : Hp}{s : LF}{E : LB → LF → Prop}
theorem Inv.wish(I:Inv X pins σ H s)(E:LB->LF->Prop):Inv (X.wish E) pins σ H s:=⟨I.ok.wish E,I.os,I.bare,I.base,I.loc,I.cell,I.free,I.freeC,I.pin,I.hok,I.len⟩
theorem Inv.unwish(I:Inv (X.wish E) pins σ H s):Inv X pins σ H s:=⟨I.ok.unwish,I.os,I.bare,I.base,I.loc,I.cell,I.free,I.freeC,I.pin,I.hok,I.len⟩
theorem SP.unwish{D:Ends}{f:Flow}{s':LF}(h:SP (X.wish E) pins D f s'):SP X pins D f s':=by
 cases f with
 | next=>obtain⟨σ',H',I,q⟩:=h;exact⟨σ',H',I.unwish,q⟩
 | brk=>obtain⟨σ',H',I,q⟩:=h;exact⟨σ',H',I.unwish,q⟩
 | cont=>obtain⟨σ',H',I,q⟩:=h;exact⟨σ',H',I.unwish,q⟩
 | ret u=>obtain⟨v,σ',H',I,r,q⟩:=h;exact⟨v,σ',H',I.unwish,r,q⟩
theorem PSs.nox{st:List Stmt}{t:TS}(h:PSs X.nox st t):PSs X st t:=fun pins s σ H D I hw=>
 Nf (h pins s σ H D (I.wish _) hw) (fun _ _ q=>q.unwish) fun _ _ z=>LU z
end
section
variable{X : Cx}{st : Stmt}{rest : List Stmt}{t u : TS}{e : Expr}{te : TE}{pos : N8}
def HA:TS:=fun D σ H=>D.nx σ H
def K7(t u:TS):TS:=fun D σ H=>t { D with nx:=u D } σ H
theorem vq:PSs X [] HA:=fun _ _ σ H _ I h=>Po ⟨σ,H,I,h⟩
theorem sf(h1:PS X st t)(h2:PSs X rest u):PSs X (st::rest) (K7 t u):=by
 intro pins s σ H D I h;refine wpAny_execs_cons (thn (h1 pins s σ H { D with nx:=u D } I h) fun f s1 q=>?_);cases f with
 | next=>
  obtain⟨σ',H',I',q⟩:=q;exact h2 pins s1 σ' H' D I' q
 | ret v=>exact q
 | brk=>exact q
 | cont=>exact q
theorem qO(h1:PS X st t):PSs X [st] t:=by
 intro pins s σ H D I h;refine wpAny_execs_cons (thn (h1 pins s σ H D I h) fun f s1 q=>?_);cases f with
 | next=>exact Po q
 | ret v=>exact q
 | brk=>exact q
 | cont=>exact q
def En:TS:=fun D σ H=>D.bk σ H
theorem zb:PS X (.Break pos) En:=fun _ _ σ H _ I h=>wpAny_Break ⟨σ,H,I,h⟩
theorem Inv.quiet{pins:List (Addr×Mu)}{σ:St}{H:Hp}{s:LF}(I:Inv X pins σ H s):interactive X.env=false:=by simp[interactive,I.ok.kind]
def HB(te:TE):TS:=fun D σ H=>te σ H fun _ H1=>D.nx σ H1
theorem vx(he:PE X e te)(hs:P3 e none pos.line X.env=pure false:=by rfl):PS X (.Expr e pos) (HB te):=by
 intro pins s σ H D I h;exact wpAny_Expr_any (thn (he pins s σ H _ I h) fun v s1 ⟨x,H1,I1,r1,q1⟩=>⟨σ,H1,I1,q1⟩) I.quiet hs
def K8(te:TE):TS:=fun D σ H=>te σ H D.rt
theorem vt(he:PE X e te):PS X (.Return (some e) pos) (K8 te):=by
 intro pins s σ H D I h;exact wpAny_Return_some (thn (he pins s σ H _ I h) fun v s1 ⟨x,H1,I1,r1,q1⟩=>⟨x,σ,H1,I1,r1,q1⟩)
def Kc(c:TT)(t u:TS):TS:=fun D σ H=>c σ H fun b H1=>if b=true then t D σ H1 else u D σ H1
theorem EG{c:Expr}{a b:List Stmt}{tc:TT}(hc:PT X c tc)(ha:PSs X a t)(hb:PSs X b u):PS X (.If c a b pos) (Kc tc t u):=by
 intro pins s σ H D I h;refine wpAny_If (thn (hc pins s σ H _ I h) fun d s1 ⟨H1,I1,q1⟩=>?_);cases d with
 | true=>exact ha pins s1 σ H1 D I1 q1
 | false=>exact hb pins s1 σ H1 D I1 q1
end
abbrev TG:=V->St->Hp->(St->Hp->Prop)->Prop
abbrev TGs:=List V->St->Hp->(St->Hp->Prop)->Prop
def PG(X:Cx)(target:Expr)(t:TG):Prop:=
 ∀(pins:List (Addr×Mu))(s:LF)(σ:St)(H:Hp)(v:V)(u:LB)(Q:St->Hp->Prop),Inv X pins σ H s->RelV v u->t v σ H Q->
  Ln (M4 X.prog X.w) X.A (Qp target X.env u) (fun _ s'=>∃σ' H',Inv X pins σ' H' s'/\Q σ' H') X.xe s
def PGs(X:Cx)(ts:List Expr)(t:TGs):Prop:=
 ∀(pins:List (Addr×Mu))(s:LF)(σ:St)(H:Hp)(vs:List V)(us:List LB)(Q:St->Hp->Prop),Inv X pins σ H s->Vals vs us->t vs σ H Q->
  Ln (M4 X.prog X.w) X.A (assignInOrder ((NI ts X.env).map (·.2)) us) (fun _ s'=>∃σ' H',Inv X pins σ' H' s'/\Q σ' H') X.xe s
abbrev L4:=V->V->V->Hp->(Hp->Prop)->Prop
abbrev TIp:=V->V->Hp->VK->Prop
def PIp(X:Cx)(op:Operator)(t:TIp):Prop:=
 ∀(pins:List (Addr×Mu))(s:LF)(σ:St)(H:Hp)(x y:V)(v u:LB)(Q:VK),Inv X pins σ H s->RelV x v->RelV y u->t x y H Q->
  Ln (M4 X.prog X.w) X.A (inplaceOp op v u) (EP X pins σ Q) X.xe s
section
variable{X : Cx}{pos : N8}
def G0(i:Nat):TG:=fun v σ H Q=>Q (σ.set i (some v)) H
theorem qP{i:Nat}{x:Str}(hN:X.N.Nodup)(hi:X.N[i]?=some x)(hx:Loc X.env.scope x)(hf:X.fn x=true\/X.env.scope.names.lookup x=some .local:=by first | exact .inl rfl | exact .inr rfl | assumption):PG X (.Name x pos) (G0 i):=by
 intro pins s σ H v u Q I r h;exact wpAny_assign_Name (nS I hN hi hx r (fun s' I'=>⟨_,H,I',h⟩) hf)
def KO:TGs:=fun vs σ H Q=>vs=[]/\Q σ H
def IM(t:TG)(u:TGs):TGs:=fun vs σ H Q=>∃v r,vs=v::r/\t v σ H fun σ' H'=>u r σ' H' Q
theorem vF:PGs X [] KO:=by
 intro pins s σ H vs us Q I r h;obtain⟨e,h⟩:=h;subst e;cases r;exact assignInOrder_nil ⟨σ,H,I,h⟩
theorem sj{e:Expr}{es:List Expr}{t:TG}{u:TGs}(h1:PG X e t)(h2:PGs X es u)
  (hs:(NI (e::es) X.env).map (·.2)=Qp e X.env::(NI es X.env).map (·.2):=by rfl):PGs X (e::es) (IM t u):=by
 intro pins s σ H vs us Q I r h;obtain⟨v,vr,e1,h⟩:=h;subst e1;cases r with
 | cons r rr=>
  rw[hs];refine assignInOrder_cons (thn (h1 pins s σ H _ _ _ I r h) fun _ s1 ⟨σ1,H1,I1,q1⟩=>?_);exact h2 pins s1 σ1 H1 _ _ Q I1 rr q1
def KN(K:LA)(n:Nat)(t:TGs):TG:=fun v σ H Q=>∃a xs,v=.ref a/\SqT K H a xs/\xs.length=n/\t xs σ H Q
theorem AI{es:List Expr}{k:Nat}{t:TGs}{n:Nat}(hc:X.calm=true)(h:PGs X es t)
  (hn:(NI es X.env).length=n:=by rfl) (hst:(NI es X.env).findIdx? (·.1)=none:=by rfl):PG X (.Tuple es k pos) (KN X.K n t):=by
 intro pins s σ H v u Q I r hw;obtain⟨a,xs,e1,hq,hl,hw⟩:=hw;subst e1;cases r;obtain⟨its,rv,ht,hz⟩:=I.tuple hq;refine assign_Tuple_tuple (I.ok.hd hc) ht (by simp[hn,← hl,rv.length]) hst fun h' hx=>?_;have I1:Inv X pins σ H { s with heap:=h' }:=I.kept (t':=s.toks) fun b o e=>hx b o (M1 (LZ e)) e;exact h pins _ σ H xs _ Q I1 (by simpa using rv) hw
def JP(to ti:TE)(t:L4):TG:=fun v σ H Q=>to σ H fun o H1=>ti σ H1 fun i H2=>t o i v H2 fun H3=>Q σ H3
def Kf(te:TE)(g:TG):TS:=fun D σ H=>te σ H fun x H1=>g x σ H1 D.nx
theorem AG{i:Nat}{x:Str}{e:Expr}{te:TE}{pos':N8}(hN:X.N.Nodup)(hi:X.N[i]?=some x)(hx:Loc X.env.scope x)(he:PE X e te)(hs:P3 e (some (.Name x pos')) pos.line X.env=pure false:=by rfl)(hf:X.fn x=true\/X.env.scope.names.lookup x=some .local:=by first | exact .inl rfl | exact .inr rfl | assumption) :
  PS X (.Assign [.Name x pos'] e pos) (Kf te (G0 i)):=by
 intro pins s σ H D I h;refine wpAny_Assign_Name (thn (he pins s σ H _ I h) fun v s1 ⟨y,H1,I1,r1,q1⟩=>?_) hs;exact nS I1 hN hi hx r1 (fun s2 I2=>⟨_,H1,I2,q1⟩) hf
def Ke(i:Nat)(te:TE)(ti:TIp):TS:=fun D σ H=>∃x,σ[i]?=some (some x)/\te σ H fun y H1=>ti x y H1 fun z H2=>D.nx (σ.set i (some z)) H2
theorem AH{i:Nat}{x:Str}{e:Expr}{te:TE}{op:Operator}{ti:TIp}{pos':N8}(hN:X.N.Nodup)(hi:X.N[i]?=some x)(hx:Loc X.env.scope x)(he:PE X e te)(ho:PIp X op ti)(hf:X.fn x=true\/X.env.scope.names.lookup x=some .local:=by first | exact .inl rfl | exact .inr rfl | assumption) :
  PS X (.AugAssign (.Name x pos') op e pos) (Ke i te ti):=by
 intro pins s σ H D I h;obtain⟨v,e1,h⟩:=h;obtain⟨m,hn,hl⟩:=I.loc;have vis:Vis X.env.scope x:=by rcases hx with k | k;exact .inl k;exact .inr (.inl k)
 obtain⟨u,r,l⟩:=hl i x v hi e1 vis;refine wpAny_AugAssign_Name ?_
 have go:Ln (M4 X.prog X.w) X.A (MZ e X.env) (fun w s₂=>Ln (M4 X.prog X.w) X.A (inplaceOp op u w) (fun r s₃=>Ln (M4 X.prog X.w) X.A (storeName X.env x r) (fun _=>SP X pins D .next) X.xe s₃) X.xe s₂) X.xe s:=by
  refine thn (he pins s σ H _ I h) fun w s1 ⟨y,H1,I1,r1,q1⟩=>?_;refine thn (ho pins s1 σ H1 v y u w _ I1 r r1 q1) fun z s2 ⟨zv,H2,I2,r2,q2⟩=>?_;exact nS I2 hN hi hx r2 (fun s3 I3=>⟨_,H2,I3,q2⟩) hf
 rcases l with⟨hk,hm⟩|⟨hk,c,hc,hcell⟩
 ·exact wpAny_loadName_local I.ok.kind hk hn hm go
 ·rcases hk with hk | hk
  ·exact wpAny_loadName_cell I.ok.kind hk hc hcell go
  ·rcases hx with k | k
   ·have:X.env.scope.names.lookup x=some .free:=hk
    rw[k] at this;cases this
   ·have:X.env.scope.names.lookup x=some .free:=hk
    rw[k] at this;cases this
def ipI(f:Int->Int->Int):TIp:=fun x y H Q=>∃i j,x=.int i/\y=.int j/\Q (.int (f i j)) H
theorem FW:PIp X .Add (ipI fun i j=>i+j):=by
 intro pins s σ H x y v u Q I r1 r2 h;obtain⟨i,j,e1,e2,q⟩:=h;subst e1;subst e2;obtain⟨t,rfl⟩:=r1;obtain⟨t',rfl⟩:=r2;exact iadd_int ⟨.int _,H,I.tok _,⟨_,rfl⟩,q⟩
end
section
variable{X : Cx}{pos : N8}
def Ei(c:TT)(tb:TS):TS:=fun D σ H=>∃W:Nat->St->Hp->Prop,(∃m,W m σ H)/\∀m σ H,W m σ H->
 c σ H fun b H1=>if b=true then ∃N:St->Hp->Prop,(∀σ' H',N σ' H'->∃m',m'<m/\W m' σ' H')/\tb { D with nx:=N,ct:=N,bk:=D.nx } σ H1 else D.nx σ H1
theorem za{c:Expr}{body:List Stmt}{tc:TT}{tb:TS}(hp:SN (M4 X.prog X.w) X.A X.env X.xe)(hc:PT X c tc)(hb:PSs X body tb):PS X (.While c body [] pos) (Ei tc tb):=by
 intro pins s σ H D I h;obtain⟨W,⟨m0,w0⟩,turn⟩:=h;refine wpAny_While (codeAny_whileLoop (fun n s'=>∃σ' H',Inv X pins σ' H' s'/\W n σ' H') ?_ m0 ⟨σ,H,I,w0⟩);rintro n s1 ⟨σ1,H1,I1,w1⟩;refine Nw hp (thn (hc pins s1 σ1 H1 _ I1 (turn n σ1 H1 w1)) fun b s2 ⟨H2,I2,q2⟩=>?_);cases b with
 | true=>
  obtain⟨N,hN,q2⟩:=q2;rw[if_pos rfl];refine Nw hp (thn (hb pins s2 σ1 H2 _ I2 q2) fun f s3 q3=>?_);cases f with
  | next=>
   obtain⟨σ3,H3,I3,n3⟩:=q3;obtain⟨m',hm,w3⟩:=hN σ3 H3 n3;exact⟨m',hm,σ3,H3,I3,w3⟩
  | cont=>
   obtain⟨σ3,H3,I3,n3⟩:=q3;obtain⟨m',hm,w3⟩:=hN σ3 H3 n3;exact⟨m',hm,σ3,H3,I3,w3⟩
  | brk=>exact q3
  | ret v=>exact q3
 | false=>
  rw[if_neg LW];exact Po ⟨σ1,H2,I2,q2⟩
end
structure It where
 go:Nat->Hp->Prop
 yld:Nat->Hp->V->Hp->Prop
 stop:Nat->Hp->Prop
def tG(X:Cx)(pins:List (Addr×Mu))(H:Hp)(b:Addr):Prop:=
 H b=none/\b≠X.env.locals/\b ∉ X.fs/\(b∈X.ex\/X.s₀.heap.objs.size<=b)/\(∀x c,X.env.cells.lookup x=some c->c≠b)/\∀p∈X.pn++pins,p.1≠b
theorem Inv.fpOk{X:Cx}{pins:List (Addr×Mu)}{σ:St}{H H':Hp}{s:LF}{b:Addr}(I:Inv X pins σ H s)(hb:s.heap.objs.size<=b)(hn:H' b=none):tG X pins H' b:=by
 refine⟨hn,O8 (Lj I.lt hb),I.nofs hb,.inr (Ma I.sz hb),fun x c e z=>?_,fun p hp z=>?_⟩
 ·obtain⟨v,q⟩:=I.cell x c e
  exact absurd (Lj q.lt (by rw[z];exact hb)) (My _)
 ·exact absurd (Lj (LZ (I.pin p hp).1) (by rw[z];exact hb)) (My _)
structure Turn(P:Ll)(w:Lx)(K:LA)(tg:Expr)(J:It)(fp:List Addr)(it:Addr)(tn:Nat->Heap->Prop):Prop where
 mem:it∈fp
 obj:∀i h,tn i h->∀b∈fp,∃o,h.get? b=some o/\∀v,o.data≠.cell v
 keep:∀i h h',tn i h->(∀b∈fp,∀o,h.get? b=some o->h'.get? b=some o)->tn i h'
 item:∀(X:Cx),X.prog=P->X.w=w->X.K=K->X.calm=true->∀(i:Nat)(pins:List (Addr×Mu))(s:LF)(σ:St)(H:Hp)(E:LB->LF->Prop),Inv X pins σ H s->(∀b∈fp,tG X pins H b)->tn i s.heap->J.go i H->
  Ln (M4 P w) X.A (QU (.ref it)) (fun r s1=>∃u,r=some u/\
   Ln (M4 P w) X.A (Pr tg (.ref it) u) (fun _ s2=>∃x H',Inv X pins σ H' s2/\RelV x u/\J.yld i H x H'/\tn (i+1) s2.heap/\∀b∈fp,H' b=none) E s1) E s
 done:∀(X:Cx),X.prog=P->X.w=w->X.K=K->X.calm=true->∀(i:Nat)(pins:List (Addr×Mu))(s:LF)(σ:St)(H:Hp)(E:LB->LF->Prop),Inv X pins σ H s->(∀b∈fp,tG X pins H b)->tn i s.heap->J.stop i H->
  Ln (M4 P w) X.A (QU (.ref it)) (fun r s1=>r=none/\Inv X pins σ H s1) E s
 self:∀(A:M6)(i:Nat)(s:LF)(Q:LB->LF->Prop)(E:LB->LF->Prop),tn i s.heap->Q (.ref it) s->Ln (M4 P w) A (pyIter (.ref it)) Q E s
abbrev TI:=St->Hp->(It->Hp->Prop)->Prop
def PIE(X:Cx)(pins:List (Addr×Mu))(σ:St)(tg:Expr)(R:It->Hp->Prop)(itv:LB)(s2:LF):Prop:=
 ∃(it:Addr)(fp:List Addr)(tn:Nat->Heap->Prop)(J:It)(H':Hp),itv=.ref it/\Inv X pins σ H' s2/\Turn X.prog X.w X.K tg J fp it tn/\tn 0 s2.heap/\(∀b∈fp,tG X pins H' b)/\R J H'
def PI(X:Cx)(tg iter:Expr)(wi:TI):Prop:=
 ∀(pins:List (Addr×Mu))(s:LF)(σ:St)(H:Hp)(R:It->Hp->Prop),Inv X pins σ H s->wi σ H R->
  Ln (M4 X.prog X.w) X.A (MZ iter X.env) (fun v s1=>Ln (M4 X.prog X.w) X.A (pyIter v) (PIE X pins σ tg R) X.xe s1) X.xe s
theorem uv{M:Model}{A:M6}{E:LB->LF->Prop}{s:LF}{tg:Expr}{it:Addr}{u:LB}{o:Mu}{n:String}{vs:Array LB}{Q:Unit->LF->Prop}(ho:s.heap.get? it=some o)(hc:o.cls=.type n)(hd:o.data=.fields vs)
    (hn:["enumerate","zip","dict_itemiterator","dict_reverseitemiterator","odict_iterator","itertools.zip_longest","itertools.pairwise"].contains n=false) (hQ:Q () s):Ln M A (Pr tg (.ref it) u) Q E s:=by
  unfold Pr
  cases tg <;> first
    | exact LQ hQ
    | (cases u <;> first
        | exact LQ hQ
        | (refine LD (wpAny_load ho ?_)
           rw[hc,hd];show Ln M A (if (["enumerate","zip","dict_itemiterator","dict_reverseitemiterator","odict_iterator","itertools.zip_longest","itertools.pairwise"].contains n && vs[0]? == some (Nz _))=true then _ else _) Q E s;rw[if_neg (by intro h;rw[hn,Ql] at h;cases h)];exact LQ hQ))
def Itl(K:LA)(a:Addr):It:=
 ⟨fun i H=>∃xs x,SqL K H a xs/\xs[i]?=some x,fun i H x H'=>H'=H/\∀xs,SqL K H a xs->xs[i]?=some x,fun i H=>∃xs,SqL K H a xs/\xs.length<=i⟩
def Itt(K:LA)(a:Addr):It:=
 ⟨fun i H=>∃xs x,SqT K H a xs/\xs[i]?=some x,fun i H x H'=>H'=H/\∀xs,SqT K H a xs->xs[i]?=some x,fun i H=>∃xs,SqT K H a xs/\xs.length<=i⟩
def Itr(lo:Int)(n:Nat):It:=⟨fun i _=>i<n,fun i H x H'=>H'=H/\x=.int (lo+i),fun i _=>n<=i⟩
theorem v5{P:Ll}{w:Lx}{K:LA}{tg:Expr}(a it:Addr):Turn P w K tg (Itl K a) [it] it (fun i h=>h.IsListIter it a i) where
 mem:=by simp
 obj:=fun i h st b hb=>by
  have e:b=it:=by simpa using hb
  subst e;obtain⟨o,e,c,d⟩:=st;exact⟨o,e,fun v z=>by rw[d] at z;cases z⟩
 keep:=fun i h h' st k=>st.at fun o e=>k it (by simp) o e
 item:=by
  intro X hP hw hK hc i pins s σ H E I hf st hg;subst hP hw hK;obtain⟨xs,x,hq,hx⟩:=hg;obtain⟨its,rv,p,hz⟩:=I.list hq;obtain⟨u,hu,ru⟩:=rv.get hx;obtain⟨f0,f1,f2,f3,f4,f5⟩:=hf it (by simp);refine wpAny_pyNext_list_item st p.isList (x:=u) (by simpa using hu) fun h' st' sb=>?_;have I1:Inv X pins σ H { s with heap:=h' }:=I.turned (t':=s.toks) (fun b o hb e=>(sb.2 b hb).trans e) f0 f1 f3 f4 f5;obtain⟨o,e,c,d⟩:=id st';exact⟨u,rfl,uv (s:={ s with heap:=h' }) e c d (by decide) ⟨x,H,I1,ru,⟨rfl,fun ys hy=>by rw[I.list_inj hy hq];exact hx⟩,st',fun b hb=>(hf b hb).1⟩⟩
 done:=by
  intro X hP hw hK hc i pins s σ H E I hf st hg;subst hP hw hK;obtain⟨xs,hq,hx⟩:=hg;obtain⟨its,rv,p,hz⟩:=I.list hq;obtain⟨f0,f1,f2,f3,f4,f5⟩:=hf it (by simp);have hl:=rv.length;exact wpAny_pyNext_list_end (I.ok.hd hc) st p.isList (by simp;omega) fun h' eb=>⟨rfl,I.turned (t':=s.toks) (fun b o hb e=>eb b o hb e) f0 f1 f3 f4 f5⟩
 self:=fun _ _ _ _ _ st h=>wpAny_pyIter_listiter st h
theorem tK{P:Ll}{w:Lx}{K:LA}{tg:Expr}(a it:Addr):Turn P w K tg (Itt K a) [it] it (fun i h=>h.IsTupleIter it a i) where
 mem:=by simp
 obj:=fun i h st b hb=>by
  have e:b=it:=by simpa using hb
  subst e;obtain⟨o,e,c,d⟩:=st;exact⟨o,e,fun v z=>by rw[d] at z;cases z⟩
 keep:=fun i h h' st k=>st.at fun o e=>k it (by simp) o e
 item:=by
  intro X hP hw hK hc i pins s σ H E I hf st hg;subst hP hw hK;obtain⟨xs,x,hq,hx⟩:=hg;obtain⟨its,rv,p,hz⟩:=I.tuple hq;obtain⟨u,hu,ru⟩:=rv.get hx;obtain⟨f0,f1,f2,f3,f4,f5⟩:=hf it (by simp);refine SK st (show s.heap.IsTuple a its.toArray from p) (x:=u) (by simpa using hu) fun h' st' sb=>?_;have I1:Inv X pins σ H { s with heap:=h' }:=I.turned (t':=s.toks) (fun b o hb e=>(sb.2 b hb).trans e) f0 f1 f3 f4 f5;obtain⟨o,e,c,d⟩:=id st';exact⟨u,rfl,uv (s:={ s with heap:=h' }) e c d (by decide) ⟨x,H,I1,ru,⟨rfl,fun ys hy=>by rw[I.tuple_inj hy hq];exact hx⟩,st',fun b hb=>(hf b hb).1⟩⟩
 done:=by
  intro X hP hw hK hc i pins s σ H E I hf st hg;subst hP hw hK;obtain⟨xs,hq,hx⟩:=hg;obtain⟨its,rv,p,hz⟩:=I.tuple hq;obtain⟨f0,f1,f2,f3,f4,f5⟩:=hf it (by simp);have hl:=rv.length;exact Sa (I.ok.hd hc) st (show s.heap.IsTuple a its.toArray from p) (by simp;omega) fun h' eb=>⟨rfl,I.turned (t':=s.toks) (fun b o hb e=>eb b o hb e) f0 f1 f3 f4 f5⟩
 self:=fun _ _ _ _ _ st h=>wpAny_pyIter_tupleiter st h
theorem tP{P:Ll}{w:Lx}{K:LA}{tg:Expr}(it:Addr)(lo:Int)(n:Nat):Turn P w K tg (Itr lo n) [it] it (fun i h=>IsRangeIter h it (lo+(i:Nat) * 1) ((n:Int)-(i:Nat)) 1) where
 mem:=by simp
 obj:=fun i h st b hb=>by
  have e:b=it:=by simpa using hb
  subst e
  exact⟨_,st,fun v z=>by
   have z':QY _=Pl v:=z;cases z'⟩
 keep:=fun i h h' st k=>k it (by simp) _ st
 item:=by
  intro X hP hw hK hc i pins s σ H E I hf st hg;subst hP hw hK;obtain⟨f0,f1,f2,f3,f4,f5⟩:=hf it (by simp);have W:=Walks.range (prog:=X.prog) (w:=X.w) (I.ok.hd hc) it lo 1 n;refine W.item i s _ _ hg st fun v h' tk hv st' kk=>?_;obtain⟨t,rfl⟩:=hv;have I1:Inv X pins σ H { s with heap:=h',toks:=tk }:=I.turned (fun b o hb e=>kk b o (by simpa using hb) e) f0 f1 f3 f4 f5;refine⟨_,rfl,uv (s:={ s with heap:=h',toks:=tk }) (n:="range_iterator") st' rfl rfl (by decide) ⟨.int (lo+i),H,I1,⟨t,?_⟩,⟨rfl,rfl⟩,st',fun b hb=>(hf b hb).1⟩⟩;rw[Int.mul_one]
 done:=by
  intro X hP hw hK hc i pins s σ H E I hf st hg;subst hP hw hK;obtain⟨f0,f1,f2,f3,f4,f5⟩:=hf it (by simp);exact wpAny_pyNext_range_end (I.ok.hd hc) st (by have:n<=i:=hg;omega) fun h' eb=>⟨rfl,I.turned (t':=s.toks) (fun b o hb e=>eb b o hb e) f0 f1 f3 f4 f5⟩
 self:=fun _ _ _ _ _ st h=>wpAny_pyIter_rangeiter st h
end L2
namespace L2
open PySem PySem.Spec PyProof.Rows
section
variable{X : Cx}{tg : Expr}
theorem rZ{pins:List (Addr×Mu)}{σ:St}{H:Hp}{s:LF}{R:It->Hp->Prop}{E:LB->LF->Prop}{lo hi:Int}{t u v:Tok}{tk:Nat}(I:Inv X pins σ H s)(h1:-(2 ^ 62)<=lo)(h2:lo<2 ^ 62)(h3:-(2 ^ 62)<=hi)(h4:hi<2 ^ 62)
  (q:R (Itr lo (hi-lo).toNat) H):Ln (M4 X.prog X.w) X.A (pyIter (.ref s.heap.objs.size)) (PIE X pins σ tg R) E { s with heap:=s.heap.push { cls:=.type "range",data:=.fields #[.int lo t,.int hi u,.int 1 v] },toks:=tk }:=by
 refine wpAny_pyIter_range (IsRange.new ..) (small_one h1 h2 h3 h4) ?_;have I1:Inv X pins σ H { s with heap:=s.heap.push { cls:=.type "range",data:=.fields #[.int lo t,.int hi u,.int 1 v] },toks:=tk }:=I.kept fun b o e=>LP _ e
 refine⟨(s.heap.push { cls:=.type "range",data:=.fields #[.int lo t,.int hi u,.int 1 v] }).objs.size,[(s.heap.push { cls:=.type "range",data:=.fields #[.int lo t,.int hi u,.int 1 v] }).objs.size],_,_,H,rfl,
  I1.kept (t':=tk) fun b o e=>LP _ e,tP _ lo (hi-lo).toNat,?_,fun b hb=>?_,q⟩
 ·have e1:lo+((0:Nat):Int) * 1=lo:=by simp
  have e2:(((hi-lo).toNat:Nat):Int)-((0:Nat):Int)=Builtin.Range.rangeSize lo hi 1:=by rw[rangeSize_one];split <;> omega
  show IsRangeIter _ _ (lo+((0:Nat):Int) * 1) ((((hi-lo).toNat:Nat):Int)-((0:Nat):Int)) 1;rw[e1,e2];exact Ls _ rfl
 ·have e:b=(s.heap.push { cls:=.type "range",data:=.fields #[.int lo t,.int hi u,.int 1 v] }).objs.size:=by simpa using hb
  subst e;exact I1.fpOk (LY _) (I1.hok.fresh (LY _))
def IK(ta:TA):TI:=fun σ H R=>ta σ H fun vs H1=>∃j:Int,vs=[.int j]/\-(2 ^ 62)<=j/\j<2 ^ 62/\R (Itr 0 j.toNat) H1
def IJ(ta:TA):TI:=fun σ H R=>ta σ H fun vs H1=>∃i j:Int,vs=[.int i,.int j]/\(-(2 ^ 62)<=i/\i<2 ^ 62/\-(2 ^ 62)<=j/\j<2 ^ 62)/\R (Itr i (j-i).toNat) H1
theorem vE {a:Expr} {ta:TA} {p pos:N8} (hg:Gl X "range") (hm:X.mg "range"=none) (ha:PA X [a] ta) (hs:Lk [a] X.env=[(false,MZ a X.env)]:=by rfl):PI X tg (.Call (.Name "range" p) [a] [] pos) (IK ta):=by
 intro pins s σ H R I h;refine Call_ (kq I hg hm boot_range (Mg (thn (ha pos pins s σ H _ I h) fun us s1 ⟨vs,H1,I1,r1,q1⟩=>?_) hs rfl));obtain⟨j,e,q1,q2,q⟩:=q1;subst e;cases r1 with
 | cons r rr=>
  cases rr;obtain⟨t,rfl⟩:=r;exact call_range_1 (rZ I1 (by omega) (by omega) q1 q2 (by simpa using q))
theorem vD {a b:Expr} {ta:TA} {p pos:N8} (hg:Gl X "range") (hm:X.mg "range"=none) (ha:PA X [a,b] ta) (hs:Lk [a,b] X.env=[(false,MZ a X.env),(false,MZ b X.env)]:=by rfl) (hs2:Lk [b] X.env=[(false,MZ b X.env)]:=by rfl) :
  PI X tg (.Call (.Name "range" p) [a,b] [] pos) (IJ ta):=by
 intro pins s σ H R I h;refine Call_ (kq I hg hm boot_range (Mg (thn (ha pos pins s σ H _ I h) fun us s1 ⟨vs,H1,I1,r1,q1⟩=>?_) (by rw[hs,hs2]) (by rw[hs2];rfl)));obtain⟨i,j,e,⟨q1,q2,q3,q4⟩,q⟩:=q1;subst e;cases r1 with
 | cons r rr=>
  cases rr with
  | cons r' rr=>
   cases rr;obtain⟨t,rfl⟩:=r;obtain⟨t',rfl⟩:=r';exact call_range_2 (rZ I1 q1 q2 q3 q4 q)
def Kd(wi:TI)(g:TG)(tb:TS):TS:=fun D σ H=>wi σ H fun J H1=>∃W:Nat->Nat->St->Hp->Prop,(∃m,W 0 m σ H1)/\∀i m σ H,W i m σ H->
 (J.stop i H/\D.nx σ H)\/(J.go i H/\∃N:St->Hp->Prop,(∀σ' H',N σ' H'->∃m',m'<m/\W (i+1) m' σ' H')/\∀x H',J.yld i H x H'->g x σ H' fun σ2 H2=>tb { D with nx:=N,ct:=N,bk:=D.nx } σ2 H2)
def mX(fp:List Addr)(h:Heap):List (Addr×Mu):=fp.filterMap fun b=>(h.get? b).map fun o=>(b,o)
theorem ie{fp:List Addr}{h:Heap}{b:Addr}{o:Mu}(hb:b∈fp)(e:h.get? b=some o):(b,o)∈mX fp h:=SW.mpr ⟨b,hb,by rw[e];rfl⟩
theorem vQ{fp:List Addr}{h:Heap}{p:Addr×Mu}(hp:p∈mX fp h):p.1∈fp/\h.get? p.1=some p.2:=by
 obtain⟨b,hb,e⟩:=SW.mp hp;cases q:h.get? b with
 | none=>rw[q] at e;cases e
 | some o=>
  rw[q] at e;have e':(b,o)=p:=Ly e;subst e';exact⟨hb,q⟩
theorem Inv.pinned{pins:List (Addr×Mu)}{σ:St}{H:Hp}{s:LF}{fp:List Addr}(I:Inv X pins σ H s)(hf:∀b∈fp,tG X pins H b)(ho:∀b∈fp,∃o,s.heap.get? b=some o/\∀v,o.data≠.cell v):Inv X (pins++mX fp s.heap) σ H s:=
 I.pins_of fun p hp=>(MA.mp hp).elim (fun z=>I.pin p (M9 _ z)) fun z=>by
  obtain⟨hb,e⟩:=vQ z;obtain⟨f0,f1,f2,_⟩:=hf p.1 hb;obtain⟨o,e',d⟩:=ho p.1 hb;rw[e] at e';cases e';exact⟨e,f0,f1,f2,d⟩
theorem Inv.unpinned{pins pl:List (Addr×Mu)}{σ:St}{H:Hp}{s:LF}(I:Inv X (pins++pl) σ H s):Inv X pins σ H s:=I.pins_of fun p hp=>I.pin p (M9 _ (NQ _ hp))
theorem EH{iter:Expr}{body:List Stmt}{wi:TI}{g:TG}{tb:TS}{pos:N8}(hp:SN (M4 X.prog X.w) X.A X.env X.xe)(hc:X.calm=true)(hi:PI X tg iter wi)(hg:PG X tg g)(hb:PSs X body tb)
  (hs:∀x,Pa iter X.env x=pure x:=by intro _;rfl):PS X (.For tg iter body [] pos) (Kd wi g tb):=by
 intro pins s σ H D I h;refine wpAny_For (thn (hi pins s σ H _ I h) fun v s1 h1=>thn h1 fun itv s2 h2=>?_) hs;obtain⟨it,fp,tn,J,H2,e,I2,T,st2,f2,W,⟨m0,w0⟩,turn⟩:=h2;subst e;have stat:∀{H':Hp},(∀b∈fp,H' b=none)->∀b∈fp,tG X pins H' b:=fun hn b hb=>⟨hn b hb,(f2 b hb).2⟩;refine codeAny_forLoop_any (fun n s'=>∃i σ' H',Inv X pins σ' H' s'/\tn i s'.heap/\(∀b∈fp,H' b=none)/\W i n σ' H') ?_ m0 ⟨0,σ,H2,I2,st2,fun b hb=>(f2 b hb).1,w0⟩;rintro n s3 ⟨i,σ3,H3,I3,st3,fr3,w3⟩;rcases turn i n σ3 H3 w3 with⟨stop,qn⟩|⟨go,N,hN,step⟩
 ·refine Nw hp (thn (T.done X rfl rfl rfl hc i pins s3 σ3 H3 X.xe I3 (stat fr3) st3 stop) fun r s4 ⟨hr,I4⟩=>?_)
  subst hr;exact Po ⟨σ3,H3,I4,qn⟩
 ·refine Nw hp (thn (T.item X rfl rfl rfl hc i pins s3 σ3 H3 X.xe I3 (stat fr3) st3 go) fun r s4 ⟨u,hr,h4⟩=>?_)
  subst hr;refine Nw hp (thn h4 fun _ s5 ⟨x,H5,I5,r5,y5,st5,fr5⟩=>?_);have I5':=I5.pinned (stat fr5) (T.obj _ _ st5);refine Nw hp (thn (hg _ s5 σ3 H5 x u _ I5' r5 (step x H5 y5)) fun _ s6 ⟨σ6,H6,I6,q6⟩=>?_);refine Nw hp (thn (hb _ s6 σ6 H6 _ I6 q6) fun f s7 q7=>?_)
  have again:∀{σ7:St}{H7:Hp},Inv X (pins++mX fp s5.heap) σ7 H7 s7->N σ7 H7->∃m,m<n/\∃i σ' H',Inv X pins σ' H' s7/\tn i s7.heap/\(∀b∈fp,H' b=none)/\W i m σ' H':=fun {σ7 H7} I7 n7=>by
   obtain⟨m',hm,w7⟩:=hN σ7 H7 n7;refine⟨m',hm,i+1,σ7,H7,I7.unpinned,T.keep _ _ _ st5 fun b hb o e=>(I7.pin (b,o) (M9 _ (M9 _ (ie hb e)))).1,fun b hb=>?_,w7⟩;obtain⟨o,e,d⟩:=T.obj _ _ st5 b hb;exact(I7.pin (b,o) (M9 _ (M9 _ (ie hb e)))).2.1
  cases f with
  | next=>obtain⟨σ7,H7,I7,n7⟩:=q7;exact again I7 n7
  | cont=>obtain⟨σ7,H7,I7,n7⟩:=q7;exact again I7 n7
  | brk=>obtain⟨σ7,H7,I7,q7⟩:=q7;exact⟨σ7,H7,I7.unpinned,q7⟩
  | ret v=>obtain⟨x7,σ7,H7,I7,r7,q7⟩:=q7;exact⟨x7,σ7,H7,I7.unpinned,r7,q7⟩
end
end L2
namespace L2
open PySem PySem.Spec PyProof.Rows
abbrev R2:=V->V->Hp->VK->Prop
def OpR(X:Cx)(f:LB->LB->Sem LB)(r:R2):Prop:=
 ∀(pins:List (Addr×Mu))(s:LF)(σ:St)(H:Hp)(x y:V)(v u:LB)(Q:VK),Inv X pins σ H s->RelV x v->RelV y u->r x y H Q->
  Ln (M4 X.prog X.w) X.A (f v u) (EP X pins σ Q) X.xe s
def UnR(X:Cx)(f:LB->Sem LB)(r:V->Hp->VK->Prop):Prop:=
 ∀(pins:List (Addr×Mu))(s:LF)(σ:St)(H:Hp)(x:V)(v:LB)(Q:VK),Inv X pins σ H s->RelV x v->r x H Q->
  Ln (M4 X.prog X.w) X.A (f v) (EP X pins σ Q) X.xe s
def i7(X:Cx)(f:LB)(r:List V->Hp->VK->Prop):Prop:=
 ∀(pins:List (Addr×Mu))(s:LF)(σ:St)(H:Hp)(xs:List V)(us:List LB)(Q:VK),Inv X pins σ H s->Vals xs us->r xs H Q->
  Ln (M4 X.prog X.w) X.A (call f us) (EP X pins σ Q) X.xe s
def JU(X:Cx)(r:V->Hp->(Bool->Hp->Prop)->Prop):Prop:=
 ∀(pins:List (Addr×Mu))(s:LF)(σ:St)(H:Hp)(x:V)(v:LB)(Q:Bool->Hp->Prop),Inv X pins σ H s->RelV x v->r x H Q->
  Ln (M4 X.prog X.w) X.A (truthy v) (TP X pins σ Q) X.xe s
def tOp(r:R2)(ta tb:TE):TE:=fun σ H Q=>ta σ H fun x H1=>tb σ H1 fun y H2=>r x y H2 Q
def tUn(r:V->Hp->VK->Prop)(ta:TE):TE:=fun σ H Q=>ta σ H fun x H1=>r x H1 Q
def rI(C:Int->Int->Prop)(g:Int->Int->V):R2:=fun x y H Q=>∃i j,x=.int i/\y=.int j/\C i j/\Q (g i j) H
def rI0(g:Int->Int->V):R2:=fun x y H Q=>∃i j,x=.int i/\y=.int j/\Q (g i j) H
def rU(g:Int->V):V->Hp->VK->Prop:=fun x H Q=>∃i,x=.int i/\Q (g i) H
section
variable{X : Cx}{a b c : Expr}{ta tb tc : TE}{pos : N8}
theorem Ja(ha:PE X a ta)(hb:PE X b tb){pins:List (Addr×Mu)}{s:LF}{σ:St}{H:Hp}{R:V->V->Hp->Prop}(I:Inv X pins σ H s)
  (h:ta σ H fun x H1=>tb σ H1 fun y H2=>R x y H2) {Q:LB->LF->Prop} {f:LB->LB->Sem LB}
  (hf:∀v u s2 x y H2,Inv X pins σ H2 s2->RelV x v->RelV y u->R x y H2->Ln (M4 X.prog X.w) X.A (f v u) Q X.xe s2) :
  Ln (M4 X.prog X.w) X.A (MZ a X.env) (fun v s₁=>Ln (M4 X.prog X.w) X.A (MZ b X.env) (fun u s₂=>Ln (M4 X.prog X.w) X.A (f v u) Q X.xe s₂) X.xe s₁) X.xe s:=by
 refine thn (ha pins s σ H _ I h) fun v s1 ⟨x,H1,I1,r1,q1⟩=>?_;refine thn (hb pins s1 σ H1 _ I1 q1) fun u s2 ⟨y,H2,I2,r2,q2⟩=>?_;exact hf v u s2 x y H2 I2 r1 r2 q2
theorem HY{op:Operator}{r:R2}(ho:OpR X (OL op) r)(ha:PE X a ta)(hb:PE X b tb):PE X (.BinOp a op b pos) (tOp r ta tb):=by
 intro pins s σ H Q I h;exact wpAny_BinOp (Ja ha hb I h fun v u s2 x y H2 I2 rx ry q=>ho pins s2 σ H2 x y v u Q I2 rx ry q)
theorem HX{op:UnaryOp}{r:V->Hp->VK->Prop}(ho:UnR X (unaryOp op) r)(ha:PE X a ta):PE X (.UnaryOp op a pos) (tUn r ta):=by
 intro pins s σ H Q I h;exact UnaryOp_ (thn (ha pins s σ H _ I h) fun v s1 ⟨x,H1,I1,r1,q1⟩=>ho pins s1 σ H1 x v Q I1 r1 q1)
theorem opI{f:LB->LB->Sem LB}{C:Int->Int->Prop}{g:Int->Int->Int}
  (rule:∀(i j:Int)(t u:Tok)(s:LF)(Q:LB->LF->Prop)(E:LB->LF->Prop),C i j->Q (.int (g i j) s.toks) { s with toks:=s.toks+1 }->Ln (M4 X.prog X.w) X.A (f (.int i t) (.int j u)) Q E s) :
  OpR X f (rI C fun i j=>.int (g i j)):=by
 intro pins s σ H x y v u Q I rx ry h;obtain⟨i,j,rfl,rfl,hc,q⟩:=h;obtain⟨t,rfl⟩:=rx;obtain⟨t',rfl⟩:=ry;exact rule i j t t' s _ _ hc ⟨.int (g i j),H,I.tok _,⟨_,rfl⟩,q⟩
theorem Ks{f:LB->LB->Sem LB}{g:Int->Int->Int}
  (rule:∀(i j:Int)(t u:Tok)(s:LF)(Q:LB->LF->Prop)(E:LB->LF->Prop),Q (.int (g i j) s.toks) { s with toks:=s.toks+1 }->Ln (M4 X.prog X.w) X.A (f (.int i t) (.int j u)) Q E s) :
  OpR X f (rI0 fun i j=>.int (g i j)):=by
 intro pins s σ H x y v u Q I rx ry h;obtain⟨i,j,rfl,rfl,q⟩:=h;obtain⟨t,rfl⟩:=rx;obtain⟨t',rfl⟩:=ry;exact rule i j t t' s _ _ ⟨.int (g i j),H,I.tok _,⟨_,rfl⟩,q⟩
theorem JC{f:LB->LB->Sem LB}{g:Int->Int->Bool}
  (rule:∀(i j:Int)(t u:Tok)(s:LF)(Q:LB->LF->Prop)(E:LB->LF->Prop),Q (.bool (g i j)) s->Ln (M4 X.prog X.w) X.A (f (.int i t) (.int j u)) Q E s) :
  OpR X f (rI0 fun i j=>.bl (g i j)):=by
 intro pins s σ H x y v u Q I rx ry h;obtain⟨i,j,rfl,rfl,q⟩:=h;obtain⟨t,rfl⟩:=rx;obtain⟨t',rfl⟩:=ry;exact rule i j t t' s _ _ ⟨.bl (g i j),H,I,rfl,q⟩
def L6(i j:Int):Prop:=0<j/\j<1073741824
def Jf(i j:Int):Prop:=(-(2 ^ 64)<i/\i<2 ^ 64)\/(-(2 ^ 64)<j/\j<2 ^ 64)
theorem Jf.ok{i j:Int}(h:Jf i j):IntMulOk i j:=by
 rcases h with⟨h1,h2⟩|⟨h1,h2⟩
 ·exact .of_left (intBits_le_64 h1 h2)
 ·exact .of_right (intBits_le_64 h1 h2)
theorem F8:OpR X (OL .Add) (rI0 fun i j=>.int (i+j)):=Ks fun _ _ _ _ _ _ _ q=>add_int q
theorem F5:OpR X (OL .Mult) (rI Jf fun i j=>.int (i * j)):=opI fun _ _ _ _ _ _ _ hc q=>mul_int q hc.ok
theorem C4:OpR X (OL .FloorDiv) (rI L6 fun i j=>.int (i / j)):=opI fun i j _ _ _ _ _ hc q=>by
 have h1:(0:Int)<j:=hc.1;have h2:j<1073741824:=hc.2;exact floordiv_int (by omega) (by rw[Int.fdiv_eq_ediv_of_nonneg i (by omega)];exact q) (.inl (PyProof.noPylong_small (by omega)))
theorem F6:OpR X (OL .Mod) (rI (fun _ j=>0<j) fun i j=>.int (i % j)):=opI fun i j _ _ _ _ _ hc q=>by
 have h1:(0:Int)<j:=hc;exact mod_int' (by omega) (by rw[Int.fmod_eq_emod_of_nonneg i (by omega)];exact q)
theorem unI{f:LB->Sem LB}{g:Int->Int}
  (rule:∀(i:Int)(t:Tok)(s:LF)(Q:LB->LF->Prop)(E:LB->LF->Prop),Q (.int (g i) s.toks) { s with toks:=s.toks+1 }->Ln (M4 X.prog X.w) X.A (f (.int i t)) Q E s) :
  UnR X f (rU fun i=>.int (g i)):=by
 intro pins s σ H x v Q I rx h;obtain⟨i,rfl,q⟩:=h;obtain⟨t,rfl⟩:=rx;exact rule i t s _ _ ⟨.int (g i),H,I.tok _,⟨_,rfl⟩,q⟩
theorem Eg:UnR X (unaryOp .USub) (rU fun i=>.int (-i)):=unI fun _ _ _ _ _ q=>neg_int q
end
def yP:V->V->Bool
 | .non,.non=>true | .non,.int _=>true | .int _,.non=>true | .non,.bl _=>true | .bl _,.non=>true | .non,.str _=>true | .str _,.non=>true
 | .int _,.int _=>true | .bl _,.bl _=>true | .str _,.str _=>true | .byt _,.byt _=>true
 | .int _,.str _=>true | .str _,.int _=>true | .bl _,.str _=>true | .str _,.bl _=>true
 | _,_=>false
def rEq:R2:=fun x y H Q=>yP x y=true/\Q (.bl (decide (x=y))) H
def rNe:R2:=fun x y H Q=>yP x y=true/\Q (.bl (!decide (x=y))) H
theorem xt{i j:Int}:decide (V.int i=V.int j)=(i == j):=by
 rw[MP];simp
theorem B9{i j:Bool}:decide (V.bl i=V.bl j)=(i == j):=by
 rw[MP];simp
theorem xr{i j:Str}:decide (V.str i=V.str j)=(i == j):=by
 rw[MP];simp
theorem xu{i j:Array UInt8}:decide (V.byt i=V.byt j)=(i.toList == j.toList):=by
 rw[MP];cases i;cases j;simp
section
variable{X : Cx}{a b c : Expr}{ta tb tc : TE}{pos : N8}
theorem b8{pins:List (Addr×Mu)}{σ:St}{H:Hp}{s:LF}{Q:VK}{k k':Bool}(I:Inv X pins σ H s)(q:Q (.bl k) H)(e:k=k'):EP X pins σ Q (.bool k') s:=by
 subst e;exact⟨.bl k,H,I,rfl,q⟩
theorem Ie:OpR X (MI .Eq) rEq:=by
 intro pins s σ H x y v u Q I rx ry h;obtain⟨hs,q⟩:=h;cases x with
 | non=>
  cases rx;cases y with
  | non=>cases ry;exact PySem.EqNone.eq_none_none (b8 I q (by simp))
  | bl j=>cases ry;exact PySem.EqNone.eq_none_bool (b8 I q (by simp))
  | int j=>obtain⟨t',rfl⟩:=ry;exact PySem.EqNone.eq_none_int (b8 I q (by simp))
  | str j=>obtain⟨t',rfl⟩:=ry;exact PySem.EqNone.eq_none_str (b8 I q (by simp))
  | _=>exact absurd (show false=true from hs) LW
 | bl i=>
  cases rx;cases y with
  | non=>cases ry;exact PySem.EqNone.eq_bool_none (b8 I q (by simp))
  | bl j=>cases ry;exact eq_bool (b8 I q B9)
  | str j=>obtain⟨t',rfl⟩:=ry;exact PySem.EqMixed.eq_bool_str (b8 I q (by simp))
  | _=>exact absurd (show false=true from hs) LW
 | int i=>
  obtain⟨t,rfl⟩:=rx;cases y with
  | non=>cases ry;exact PySem.EqNone.eq_int_none (b8 I q (by simp))
  | int j=>obtain⟨t',rfl⟩:=ry;exact eq_int (b8 I q xt)
  | str j=>obtain⟨t',rfl⟩:=ry;exact PySem.EqMixed.eq_int_str (b8 I q (by simp))
  | _=>exact absurd (show false=true from hs) LW
 | str i=>
  obtain⟨t,rfl⟩:=rx;cases y with
  | non=>cases ry;exact PySem.EqNone.eq_str_none (b8 I q (by simp))
  | bl j=>cases ry;exact PySem.EqMixed.eq_str_bool (b8 I q (by simp))
  | int j=>obtain⟨t',rfl⟩:=ry;exact PySem.EqMixed.eq_str_int (b8 I q (by simp))
  | str j=>obtain⟨t',rfl⟩:=ry;exact eq_str (b8 I q xr)
  | _=>exact absurd (show false=true from hs) LW
 | byt i=>
  obtain⟨t,rfl⟩:=rx;cases y with
  | byt j=>obtain⟨t',rfl⟩:=ry;exact PySem.W.eq_bytes (b8 I q xu)
  | _=>exact absurd (show false=true from hs) LW
 | _=>cases y <;> exact absurd (show false=true from hs) LW
theorem Ia:OpR X (MI .NotEq) rNe:=by
 intro pins s σ H x y v u Q I rx ry h;obtain⟨hs,q⟩:=h;cases x with
 | non=>
  cases rx;cases y with
  | non=>cases ry;exact PySem.EqNone.ne_none_none (b8 I q (by simp))
  | bl j=>cases ry;exact PySem.EqNone.ne_none_bool (b8 I q (by simp))
  | int j=>obtain⟨t',rfl⟩:=ry;exact PySem.EqNone.ne_none_int (b8 I q (by simp))
  | str j=>obtain⟨t',rfl⟩:=ry;exact PySem.EqNone.ne_none_str (b8 I q (by simp))
  | _=>exact absurd (show false=true from hs) LW
 | bl i=>
  cases rx;cases y with
  | non=>cases ry;exact PySem.EqNone.ne_bool_none (b8 I q (by simp))
  | bl j=>cases ry;exact ne_bool (b8 I q (congrArg not B9))
  | str j=>obtain⟨t',rfl⟩:=ry;exact PySem.EqMixed.ne_bool_str (b8 I q (by simp))
  | _=>exact absurd (show false=true from hs) LW
 | int i=>
  obtain⟨t,rfl⟩:=rx;cases y with
  | non=>cases ry;exact PySem.EqNone.ne_int_none (b8 I q (by simp))
  | int j=>obtain⟨t',rfl⟩:=ry;exact ne_int (b8 I q (congrArg not xt))
  | str j=>obtain⟨t',rfl⟩:=ry;exact PySem.EqMixed.ne_int_str (b8 I q (by simp))
  | _=>exact absurd (show false=true from hs) LW
 | str i=>
  obtain⟨t,rfl⟩:=rx;cases y with
  | non=>cases ry;exact PySem.EqNone.ne_str_none (b8 I q (by simp))
  | bl j=>cases ry;exact PySem.EqMixed.ne_str_bool (b8 I q (by simp))
  | int j=>obtain⟨t',rfl⟩:=ry;exact PySem.EqMixed.ne_str_int (b8 I q (by simp))
  | str j=>obtain⟨t',rfl⟩:=ry;exact ne_str (b8 I q (congrArg not xr))
  | _=>exact absurd (show false=true from hs) LW
 | byt i=>
  obtain⟨t,rfl⟩:=rx;cases y with
  | byt j=>obtain⟨t',rfl⟩:=ry;exact PySem.W.ne_bytes (b8 I q (congrArg not xu))
  | _=>exact absurd (show false=true from hs) LW
 | _=>cases y <;> exact absurd (show false=true from hs) LW
theorem Ib:OpR X (MI .Lt) (rI0 fun i j=>.bl (decide (i<j))):=JC fun _ _ _ _ _ _ _ q=>lt_int q
theorem Ic:OpR X (MI .LtE) (rI0 fun i j=>.bl (decide (i<=j))):=JC fun _ _ _ _ _ _ _ q=>le_int q
theorem vO:OpR X (MI .Lt) (fun x y H Q=>∃i j,x=.str i/\y=.str j/\Q (.bl (decide (i.cps.toList<j.cps.toList))) H):=by
 intro pins s σ H x y v u Q I rx ry h;obtain⟨i,j,rfl,rfl,q⟩:=h;obtain⟨t,rfl⟩:=rx;obtain⟨t',rfl⟩:=ry;exact lt_str (b8 I q rfl)
theorem vP:OpR X (MI .In) (fun x y H Q=>∃i j,x=.str i/\y=.str j/\Q (.bl (!(Mw j i 0 j.length 1).isEmpty)) H):=by
 intro pins s σ H x y v u Q I rx ry h;obtain⟨i,j,rfl,rfl,q⟩:=h;obtain⟨t,rfl⟩:=rx;obtain⟨t',rfl⟩:=ry;exact in_str (b8 I q rfl)
theorem F7:OpR X (MI .Is) (fun x y H Q=>y=.non/\Q (.bl (decide (x=.non))) H):=by
 intro pins s σ H x y v u Q I rx ry h;obtain⟨rfl,q⟩:=h;cases ry;refine is_none_gen (b8 I q ?_)
 cases x <;> first
  | (cases rx;rfl)
  | (obtain⟨t,rfl⟩:=rx;rfl)
theorem vS(b:Expr){op:CmpOp}(h:op≠.In:=by decide)(h2:op≠.NotIn:=by decide):Ot op b=false:=by
 have e1:(op == CmpOp.In)=false:=by cases op <;> first | rfl | exact absurd rfl h
 have e2:(op == CmpOp.NotIn)=false:=by cases op <;> first | rfl | exact absurd rfl h2
 cases b <;> simp[Ot,e1,e2]
theorem C2{op:CmpOp}{r:R2}(ho:OpR X (MI op) r)(ha:PE X a ta)(hb:PE X b tb)(hm:Ot op b=false):PE X (.Compare a [op] [b] pos) (tOp r ta tb):=by
 intro pins s σ H Q I h;exact wpAny_Compare1 (Ja ha hb I h fun v u s2 x y H2 I2 rx ry q=>ho pins s2 σ H2 x y v u Q I2 rx ry q) hm
def Ej(t:TE):TT:=fun σ H Q=>t σ H fun x H'=>∃k,x=.bl k/\Q k H'
theorem vp{op:CmpOp}{r:R2}(ho:OpR X (MI op) r)(ha:PE X a ta)(hb:PE X b tb)(hm:Ot op b=false):PT X (.Compare a [op] [b] pos) (Ej (tOp r ta tb)):=by
 intro pins s σ H Q I h
 refine wpAny_isTrue_Compare1 (thn (ha pins s σ H _ I h) fun v s1 ⟨x,H1,I1,r1,q1⟩=>thn (hb pins s1 σ H1 _ I1 q1) fun u s2 ⟨y,H2,I2,r2,q2⟩=>
  thn (ho pins s2 σ H2 x y v u _ I2 r1 r2 q2) fun c s3 ⟨z,H3,I3,r3,k,e,q3⟩=>?_) hm
 subst e;cases r3;exact O0 ⟨H3,I3,q3⟩
def Em(r r':R2)(ta tb tc:TE):TE:=fun σ H Q=>ta σ H fun x H1=>tb σ H1 fun y H2=>r x y H2 fun z H3=>∃k,z=.bl k/\
 (if k=true then tc σ H3 fun w' H4=>r' y w' H4 Q else Q (.bl false) H3)
theorem z7{op op':CmpOp}{r r':R2}(ho:OpR X (MI op) r)(ho':OpR X (MI op') r')(ha:PE X a ta)(hb:PE X b tb)(hc:PE X c tc)
  (hm:lastMarks [op,op'] [b,c]=false:=by with_unfolding_all rfl):PT X (.Compare a [op,op'] [b,c] pos) (Ej (Em r r' ta tb tc)):=by
 intro pins s σ H Q I h
 refine isTrue_chain (thn (ha pins s σ H _ I h) fun v s1 ⟨x,H1,I1,r1,q1⟩=>test_link (thn (hb pins s1 σ H1 _ I1 q1) fun u s2 ⟨y,H2,I2,r2,q2⟩=>
  thn (ho pins s2 σ H2 x y v u _ I2 r1 r2 q2) fun d s3 ⟨z,H3,I3,r3,k,e,q3⟩=>?_)) hm
 subst e;cases r3;refine O0 ?_;cases k with
 | false=>
  obtain⟨k',e',q'⟩:=q3;cases e';exact ite_ff ⟨H3,I3,q'⟩
 | true=>
  refine ite_tt (test_last (thn (hc pins s3 σ H3 _ I3 q3) fun w' s4 ⟨z',H4,I4,r4,q4⟩=>thn (ho' pins s4 σ H4 y z' u w' _ I4 r2 r4 q4) fun d' s5 ⟨z2,H5,I5,r5,k2,e2,q5⟩=>?_));subst e2;cases r5;exact O0 ⟨H5,I5,q5⟩
def L3(K:LA)(x:V)(H:Hp)(k:Bool):Prop:=
 match x with
 | .non=>k=false
 | .bl b=>k=b
 | .int i=>k=(i != 0)
 | .str y=>y.length<=sizeLine/\k=((y.length:Int) != 0)
 | .byt y=>y.size<=sizeLine/\k=((y.size:Int) != 0)
 | .ref p=>(∃xs,SqL K H p xs/\k=!xs.isEmpty)\/(∃xs,SqT K H p xs/\k=!xs.isEmpty)\/∃kvs,H p=some (.dK kvs)/\k=!kvs.isEmpty
 | _=>False
theorem nA{κ:Type}{kvs:List (κ×V)}{vs:List (κ×LB)}(r:KV kvs vs):(!vs.isEmpty)=!kvs.isEmpty:=by
 cases r <;> rfl
theorem ny{xs:List V}{its:List LB}(r:Vals xs its):(!its.toArray.isEmpty)=!xs.isEmpty:=by
 cases r <;> simp
theorem pN:(sizeLine:Nat)<2 ^ 63:=by rw[MC];decide
theorem mQ:JU X (fun x H Q=>∃k,L3 X.K x H k/\Q k H):=by
 intro pins s σ H x v Q I rx h;obtain⟨k,e,q⟩:=h;have hl:=pN;have hs:sizeLine=16777216:=MC;cases x with
 | non=>
  cases rx;have e':k=false:=e;subst e';exact truthy_none ⟨H,I,q⟩
 | bl b=>
  cases rx;have e':k=b:=e;subst e';exact O0 ⟨H,I,q⟩
 | int i=>
  obtain⟨t,rfl⟩:=rx;have e':k=(i != 0):=e;subst e';exact PySem.P.truthy_int ⟨H,I,q⟩
 | str y=>
  obtain⟨t,rfl⟩:=rx;obtain⟨hy,e'⟩:y.length<=sizeLine/\k=((y.length:Int) != 0):=e;subst e';exact PySem.P.truthy_str (by omega) ⟨H,I.tok _,q⟩
 | byt y=>
  obtain⟨t,rfl⟩:=rx;obtain⟨hy,e'⟩:y.size<=sizeLine/\k=((y.size:Int) != 0):=e;subst e';exact PySem.W.truthy_bytes (by omega) ⟨H,I.tok _,q⟩
 | ref p=>
  cases rx;have e':(∃xs,SqL X.K H p xs/\k=!xs.isEmpty)\/(∃xs,SqT X.K H p xs/\k=!xs.isEmpty)\/∃kvs,H p=some (.dK kvs)/\k=!kvs.isEmpty:=e;rcases e' with⟨xs,hx,e'⟩|⟨xs,hx,e'⟩|⟨kvs,hx,e'⟩
  ·subst e'
   obtain⟨its,r,pl,hz⟩:=I.list hx;have hlen:=r.length;exact wpAny_truthy_list pl.isList (by simp only[Lv];omega) ⟨H,I.tok _,by rw[ny r];exact q⟩
  ·subst e'
   obtain⟨its,r,pl,hz⟩:=I.tuple hx;have hlen:=r.length;exact truthy_tuple pl (by simp only[Lv];omega) ⟨H,I.tok _,by rw[ny r];exact q⟩
  ·subst e'
   obtain⟨hz,hS,vs,r,m⟩:kvs.length<=sizeLine/\(p == MH)=false/\∃vs,KV kvs vs/\s.heap.DictOf (aq X.prog X.w) p vs:=I.hok p _ hx;have hlen:kvs.length=vs.length:=MF r;exact wpAny_truthy_dict hS m (by omega) ⟨H,I.tok _,by rw[nA r];exact q⟩
 | _=>exact(show False from e).elim
theorem ue:OpR X (OL .Add) (fun x y H Q=>∃i j,x=.str i/\y=.str j/\i.length+j.length<=sizeLine/\Q (.str (i++j)) H):=by
 intro pins s σ H x y v u Q I rx ry h;obtain⟨i,j,rfl,rfl,hz,q⟩:=h;obtain⟨t,rfl⟩:=rx;obtain⟨t',rfl⟩:=ry;exact add_str (fun t' tk=>⟨.str (i++j),H,I.tok _,⟨_,rfl⟩,q⟩) hz
theorem ri:OpR X (inplaceOp .Add) (fun x y H Q=>∃i j,x=.str i/\y=.str j/\i.length+j.length<=sizeLine/\Q (.str (i++j)) H):=by
 intro pins s σ H x y v u Q I rx ry h;obtain⟨i,j,rfl,rfl,hz,q⟩:=h;obtain⟨t,rfl⟩:=rx;obtain⟨t',rfl⟩:=ry;exact iadd_str (fun t' tk=>⟨.str (i++j),H,I.tok _,⟨_,rfl⟩,q⟩) hz
theorem vals1{x:V}{us:List LB}(r:Vals [x] us):∃u,us=[u]/\RelV x u:=by
 cases r with
 | cons r1 r2=>cases r2;exact⟨_,rfl,r1⟩
theorem vals2{x y:V}{us:List LB}(r:Vals [x,y] us):∃u w',us=[u,w']/\RelV x u/\RelV y w':=by
 cases r with
 | cons r1 r2=>
  cases r2 with
  | cons r3 r4=>cases r4;exact⟨_,_,rfl,r1,r3⟩
theorem qp:i7 X (.type "int") (fun xs H Q=>(∃i,xs=[.int i]/\Q (.int i) H)\/∃k,xs=[.bl k]/\Q (.int (if k then 1 else 0)) H):=by
 intro pins s σ H xs us Q I r h;rcases h with⟨i,rfl,q⟩|⟨k,rfl,q⟩
 ·obtain⟨u,rfl,t,rfl⟩:=vals1 r
  exact call_int_int ⟨.int i,H,I,⟨_,rfl⟩,q⟩
 ·obtain⟨u,rfl,r1⟩:=vals1 r
  cases r1;exact call_int_bool ⟨.int (if k then 1 else 0),H,I.tok _,⟨_,rfl⟩,q⟩
def L5(K:LA)(x:V)(H:Hp)(n:Nat):Prop:=
 match x with
 | .str y=>y.length<=sizeLine/\n=y.length
 | .byt y=>y.size<=sizeLine/\n=y.size
 | .ref p=>(∃xs,SqL K H p xs/\n=xs.length)\/∃xs,SqT K H p xs/\n=xs.length
 | _=>False
theorem oO:i7 X (.builtin "len") (fun xs H Q=>∃x n,xs=[x]/\L5 X.K x H n/\Q (.int n) H):=by
 intro pins s σ H xs us Q I r h;obtain⟨x,n,rfl,e,q⟩:=h;obtain⟨u,rfl,rx⟩:=vals1 r;have hl:=pN;have hs:sizeLine=16777216:=MC;cases x with
 | str y=>
  obtain⟨t,rfl⟩:=rx;obtain⟨hy,e'⟩:y.length<=sizeLine/\n=y.length:=e;subst e';exact len_str (by omega) ⟨.int _,H,I.tok _,⟨_,rfl⟩,q⟩
 | byt y=>
  obtain⟨t,rfl⟩:=rx;obtain⟨hy,e'⟩:y.size<=sizeLine/\n=y.size:=e;subst e';exact PySem.W.len_bytes (by omega) ⟨.int _,H,I.tok _,⟨_,rfl⟩,q⟩
 | ref p=>
  cases rx;have e':(∃xs,SqL X.K H p xs/\n=xs.length)\/∃xs,SqT X.K H p xs/\n=xs.length:=e;rcases e' with⟨xs,hx,e'⟩|⟨xs,hx,e'⟩
  ·subst e'
   obtain⟨its,r',pl,hz⟩:=I.list hx;have hlen:=r'.length;exact Calls.call_len_list pl.isList (by simp only[Lv];omega) ⟨.int xs.length,H,I.tok _,⟨_,by simp only[Lv];rw[hlen]⟩,q⟩
  ·subst e'
   obtain⟨its,r',pl,hz⟩:=I.tuple hx;have hlen:=r'.length;exact len_tuple pl (by simp only[Lv];omega) ⟨.int xs.length,H,I.tok _,⟨_,by simp only[Lv];rw[hlen]⟩,q⟩
 | _=>exact(show False from e).elim
end
end L2
namespace L2
open PySem PySem.Spec PyProof.Rows
def ua(f:Str)(v:V):List (Str×V)->List (Str×V)
 | []=>[(f,v)]
 | (g,x)::r=>if g=f then (g,v)::r else (g,x)::ua f v r
theorem mL.some_of{v:V}{o:Option LB}(r:mL (some v) o):∃u,o=some u/\RelV v u:=by
 cases o with
 | none=>exact(show False from r).elim
 | some u=>exact⟨u,rfl,r⟩
theorem mL.none_of{o:Option LB}(r:mL none o):o=none:=by
 cases o with
 | none=>rfl
 | some u=>exact(show False from r).elim
structure Cls(K:LA)(C:Addr):Prop where
 pg:PySem.W.plainGet K C Str.empty=true
 hd:PySem.W.hasDictIn K C=true
 po:PySem.W.plainOver K C=true
 sa:Sg K (.ref C) "__setattr__"=some (some (.builtin "object.__setattr__"))
structure Con(K:LA)(C:Addr)(f:Str)(v:V)(u:LB):Prop where
 at_:Sg K (.ref C) f=some (some u)
 rel:RelV v u
 get:PySem.W.specialIn K u "__get__"=some none
 cp:PySem.W.copiedNames.contains f=false
end L2
namespace L2
open PySem PySem.Spec PyProof.Rows
structure Room(k:Nat)(A:M6):Prop where
 hd:A.handled=none
 dp:A.depth+3 * k+5<recursionLimit
 un:A.units+16 * k+200<cLine
theorem Room.mono{j k:Nat}{A:M6}(r:Room k A)(h:j<=k):Room j A:=⟨r.hd,by have:=r.dp;omega,by have:=r.un;omega⟩
theorem Room.deeper{k:Nat}{A:M6}(r:Room (k+1) A)(env:QO):Room k (A.deeper env):=
 ⟨r.hd,by have:=r.dp;show A.depth+1+3 * k+5<_;omega,by have:=r.un;show A.units+3+16 * k+200<_;omega⟩
theorem Room.depth{k:Nat}{A:M6}(r:Room k A):A.depth<recursionLimit:=by have:=r.dp;omega
theorem Room.units{k:Nat}{A:M6}(r:Room k A):A.units+64<cLine:=by have:=r.un;omega
def Jz:TA:=fun _ H Q=>Q [] H
def Bq(ta:TE)(tr:TA):TA:=fun σ H Q=>ta σ H fun x H1=>tr σ H1 fun xs H2=>Q (x::xs) H2
section
variable{X : Cx}{e : Expr}{es : List Expr}{te : TE}{t : TA}{pos : N8}
theorem eX:PA X [] Jz:=fun _ _ _ _ H Q I h=>Calls.spliced_nil ⟨[],H,I,.nil,h⟩
theorem bt(ha:PE X e te)(hr:PA X es t)(hs:Lk (e::es) X.env=(false,MZ e X.env)::Lk es X.env:=by rfl):PA X (e::es) (Bq te t):=by
 intro pos pins s σ H Q I h;rw[hs];show Ln _ _ (spliced ((false,MZ e X.env)::OR pos (Lk es X.env))) _ _ s;refine Calls.spliced_cons (thn (ha pins s σ H _ I h) fun u s1 ⟨x,H1,I1,r1,q1⟩=>?_);exact thn (hr pos pins s1 σ H1 _ I1 q1) fun us s2 ⟨xs,H2,I2,r2,q2⟩=>⟨x::xs,H2,I2,.cons r1 r2,q2⟩
def K4(t:TA):TE:=fun σ H Q=>t σ H fun xs H1=>xs.length<=sizeLine/\∀p,H1 p=none->Q (.ref p) (upd H1 p (.tup xs))
def Ka(t:TA):TE:=fun σ H Q=>t σ H fun xs H1=>xs.length<=sizeLine/\∀p,H1 p=none->Q (.ref p) (upd H1 p (.lst xs))
theorem ES{x1}(h:PA X es t):PE X (.Tuple es x1 pos) (K4 t):=by
 intro pins s σ H Q I hq;refine wpAny_Tuple_spliced (thn (h pos pins s σ H _ I hq) fun us s1 ⟨xs,H1,I1,r,z,q⟩=>⟨by rw[← r.length];exact z,?_⟩);have hf:H1 s1.heap.objs.size=none:=I1.hok.fresh (LY _);refine⟨.ref s1.heap.objs.size,upd H1 s1.heap.objs.size (.tup xs),I1.laid (t':=s1.toks) (fun b u e=>LP _ e) (LY _) ?_,rfl,q _ hf⟩;exact⟨z,us,r,⟨_,Ls _ rfl,rfl,⟨_,rfl⟩,fun _=>rfl⟩⟩
theorem EY(h:PA X es t):PE X (.List es pos) (Ka t):=by
 intro pins s σ H Q I hq;refine wpAny_List_spliced (thn (h pos pins s σ H _ I hq) fun us s1 ⟨xs,H1,I1,r,z,q⟩=>⟨by rw[← r.length];exact z,?_⟩);have hf:H1 s1.heap.objs.size=none:=I1.hok.fresh (LY _);refine⟨.ref s1.heap.objs.size,upd H1 s1.heap.objs.size (.lst xs),I1.laid (t':=s1.toks) (fun b u e=>LP _ e) (LY _) ?_,rfl,q _ hf⟩;exact⟨z,us,0,r,Ls _ rfl⟩
end
abbrev Sp:=List V->Hp->VK->XK->Prop
abbrev CXT:=List QO->Hp->LF->XK->LB->LF->Prop
structure Env0(P:Ll)(w:Lx)(K:LA)(mg:Str->Option LB)(base:Heap)(A:M6)(outer:List QO)(s:LF)(H:Hp):Prop where
 frames:A.frames=some outer
 mod:Mod K mg base
 bs:∀b o,base.get? b=some o->s.heap.get? b=some o/\H b=none
 bsz:base.objs.size<=s.heap.objs.size
 funs:s.heap.FunFrames base outer
 frf:∀b∈frs outer,H b=none
 hok:HOk P w H s.heap
 bare:Pm s.gens
def CE(outer:List QO)(P:Ll)(w:Lx)(H:Hp)(s:LF)(Q:VK)(u:LB)(s':LF):Prop:=
 ∃v H',s'.os=s.os/\Pm s'.gens/\Un (frs outer) [] H H' s.heap s'.heap/\HOk P w H' s'.heap/\RelV v u/\Q v H'
def CR(CX:CXT)(outer:List QO)(P:Ll)(w:Lx)(H:Hp)(s:LF)(Q:VK)(E:XK)(r:Result)(s':LF):Prop:=
 match r with
 | .ok (.ret u)=>CE outer P w H s Q u s'
 | .ok _=>False
 | .error e=>CX outer H s E e s'
structure FnOk(P:Ll)(w:Lx)(K:LA)(mg:Str->Option LB)(base:Heap)(CX:CXT)(k:Nat)(f:Addr)(fd:Mx)(ps:List Str)(sp:Sp):Prop where
 len:∀vs H Q E,sp vs H Q E->vs.length=ps.length
 run:∀(A:M6)(outer:List QO)(s:LF)(H:Hp)(args:Args)(us:List LB)(vs:List V)(Q:VK)(E:XK),Room k A->Env0 P w K mg base A outer s H->RC s fd args (ps.zip us)->Vals vs us->sp vs H Q E->
  Oz (M4 P w) A (.call (.ref f) args) (CR CX outer P w H s Q E) s
section
variable{X : Cx}{pins : List (Addr×Mu)}{σ : St}{H : Hp}{s s' : LF}
theorem Inv.env0(I:Inv X pins σ H s):Env0 X.prog X.w X.K X.mg X.base X.A X.stack s H:=
 ⟨I.ok.frames,I.ok.mod,I.bs,Ma I.ok.bsz I.sz,I.stack,I.stkFree,I.hok,I.bare⟩
theorem Inv.after{Q:VK}{u:LB}(I:Inv X pins σ H s)(h:CE X.stack X.prog X.w H s Q u s'):EP X pins σ Q u s':=by
 obtain⟨v,H',os,bare,un,hok,r,q⟩:=h;obtain⟨hh,g,d,t,os'⟩:=s';obtain rfl:os'=s.os:=os;exact⟨v,H',I.call (h':=hh) (g':=g) (d':=d) (t':=t) (ch:=[]) un hok bare (fun b z=>absurd z (by simp)),r,q⟩
end
def HD(sp:Sp)(dvs:List V)(E:XK)(t:TA):TE:=fun σ H Q=>t σ H fun vs H1=>sp (vs++dvs) H1 Q E
def Binds(K:LA)(fd:Mx)(ps:List Str)(ds:List LB):Prop:=
 ∀(s:LF)(us:List LB),K.In s.heap->(us++ds).length=ps.length->RC s fd ⟨us,[]⟩ (ps.zip (us++ds))
theorem Binds.all{K:LA}{fd:Mx}{ps:List Str}(h:∀us:List LB,us.length=ps.length->Qf fd ⟨us,[]⟩=pure (ps.zip us)):Binds K fd ps []:=fun s us _ hl=>by
 rw[Mb] at hl ⊢;exact .of_eq (h us hl)
def Passes(CX:CXT)(X:Cx)(E:XK):Prop:=∀(pins:List (Addr×Mu))(σ:St)(H:Hp)(s:LF)(e:LB)(s':LF),Inv X pins σ H s->CX X.stack H s E e s'->X.xe e s'
section
variable{X : Cx}{CX : CXT}{k : Nat}{f C : Addr}{fd : Mx}{ps : List Str}{sp : Sp}{dvs : List V}{ds : List LB}{E : XK}{x m : Str}{p pos apos : N8}{e o : Expr}{es : List Expr}{ta : TE}{t : TA}
theorem Et{pins:List (Addr×Mu)}{σ:St}{H:Hp}{s:LF}{Q:VK}{us:List LB}{vs:List V}(F:FnOk X.prog X.w X.K X.mg X.base CX k f fd ps sp)(hr:Room k X.A)(hb:Binds X.K fd ps ds)(hd:Vals dvs ds)(hx:Passes CX X E)
  (I:Inv X pins σ H s) (r:Vals vs us) (h:sp (vs++dvs) H Q E):Ln (M4 X.prog X.w) X.A (call (.ref f) us) (EP X pins σ Q) X.xe s:=by
 have r2:Vals (vs++dvs) (us++ds):=r.append hd;have hl:(us++ds).length=ps.length:=by rw[← r2.length];exact F.len _ _ _ _ h
 refine Ra (Oy (F.run X.A X.stack s H ⟨us,[]⟩ (us++ds) (vs++dvs) Q E hr I.env0 (hb s us I.kIn hl) r2 h) fun r s' hq=>?_);cases r with
 | error e=>exact hx pins σ H s e s' I hq
 | ok fl=>
  cases fl with
  | ret u=>exact I.after hq
  | next=>exact LU hq
  | brk=>exact LU hq
  | cont=>exact LU hq
theorem vI(F:FnOk X.prog X.w X.K X.mg X.base CX k f fd ps sp)(hr:Room k X.A)(hg:Gl X x)(hm:X.mg x=some (.ref f))(hk:N5 X.K (.ref f)=true)(hb:Binds X.K fd ps ds)(hd:Vals dvs ds)(hx:Passes CX X E)
  (ha:PA X (e::es) t) (hdb:(x == ("__debug__":Str))=false:=by decide) (he:Lk (e::es) X.env=(false,MZ e X.env)::Lk es X.env:=by rfl) (hpl:(OR pos (Lk es X.env)).any (·.1)=false:=by rfl) :
  PE X (.Call (.Name x p) (e::es) [] pos) (HD sp dvs E t):=by
 intro pins s σ H Q I h;refine OQ (qY I hg hm ?_ hdb);refine Rg (h₀:=X.base) I.ok.mod.kin hk (thn (ha pos pins s σ H _ I h) fun us s1 ⟨vs,H1,I1,r,q⟩=>⟨I1.kIn,?_⟩) he hpl;exact Et F hr hb hd hx I1 r q
end
structure FnScope(N P:List Str)(sc:Scope):Prop where
 kind:sc.kind=.function
 co:sc.isCoroutine=false
 gen:sc.isGenerator=false
 nd:N.Nodup
 pre:N.take P.length=P
 par:∀x∈P,sc.names.lookup x=some .local\/sc.names.lookup x=some .cell
 nofree:∀y∈sc.names,y.2≠.free
theorem qq{kindOf:Str->Option Nl}{x:Str}:∀{binds:List (Str×LB)}{m:Str->Option LB},(∀v,(x,v) ∉ binds)->SL kindOf binds m x=m x
 | [],_,_=>rfl
 | (n,v)::r,m,h=>by
  unfold SL;rw[qq fun w hw=>h w (Lo _ hw)]
  split
  ·have:x≠n:=by rintro rfl;exact h v Lu
   simp[this]
  ·rfl
theorem qt{kindOf:Str->Option Nl}{x:Str}:∀{binds:List (Str×LB)}{m:Str->Option LB},(∀v,(x,v) ∉ binds)->SM kindOf binds m x=m x
 | [],_,_=>rfl
 | (n,v)::r,m,h=>by
  unfold SM;rw[qt fun w hw=>h w (Lo _ hw)]
  split
  ·rfl
  ·have:x≠n:=by rintro rfl;exact h v Lu
   simp[this]
theorem qr{kindOf:Str->Option Nl}{x:Str}{v:LB}:∀{P:List Str}{vs:List LB}{i:Nat}{m:Str->Option LB},P.Nodup->P[i]?=some x->vs[i]?=some v->kindOf x=some .local->
  SL kindOf (P.zip vs) m x=some v
 | [],_,_,_,_,h,_,_=>by simp at h
 | _::_,[],_,_,_,_,h,_=>by simp at h
 | p::P,w::vs,0,m,nd,h1,h2,hk=>by
  simp at h1 h2;subst h1;subst h2;show SL kindOf ((p,w)::P.zip vs) m p=_;unfold SL;rw[qq fun v hv=>(MB.mp nd).1 (Om hv).1,if_pos hk];simp
 | p::P,w::vs,i+1,m,nd,h1,h2,hk=>by
  show SL kindOf ((p,w)::P.zip vs) m x=_;unfold SL;exact qr (i:=i) (MB.mp nd).2 (by simpa using h1) (by simpa using h2) hk
theorem qu{kindOf:Str->Option Nl}{x:Str}{v:LB}:∀{P:List Str}{vs:List LB}{i:Nat}{m:Str->Option LB},P.Nodup->P[i]?=some x->vs[i]?=some v->kindOf x≠some .local->
  SM kindOf (P.zip vs) m x=some v
 | [],_,_,_,_,h,_,_=>by simp at h
 | _::_,[],_,_,_,_,h,_=>by simp at h
 | p::P,w::vs,0,m,nd,h1,h2,hk=>by
  simp at h1 h2;subst h1;subst h2;show SM kindOf ((p,w)::P.zip vs) m p=_;unfold SM;rw[qt fun v hv=>(MB.mp nd).1 (Om hv).1,if_neg hk];simp
 | p::P,w::vs,i+1,m,nd,h1,h2,hk=>by
  show SM kindOf ((p,w)::P.zip vs) m x=_;unfold SM;exact qu (i:=i) (MB.mp nd).2 (by simpa using h1) (by simpa using h2) hk
def start(N:List Str)(vs:List V):St:=vs.map some++Mi (N.length-vs.length) none
def Ba(CX:CXT)(P:Ll)(w:Lx)(K:LA)(mg:Str->Option LB)(base:Heap)(N:List Str)(qual:Str)(scope:Scope)(f:Addr)(cd:LB)(A:M6)(outer:List QO)(s:LF)(H:Hp)(E:XK):Cx where
 prog:=P
 w:=w
 K:=K
 mg:=mg
 base:=base
 A:=A.deeper (Oh qual scope s.heap.objs.size f cd)
 N:=N
 s₀:=s
 H₀:=H
 env:=Oh qual scope s.heap.objs.size f cd
 outer:=outer
 stack:=Oh qual scope s.heap.objs.size f cd::outer
 ex:=[]
 calm:=true
 fn:=fun _=>true
 pn:=[]
 xe:=fun e s'=>Ln (M4 P w) (A.deeper (Oh qual scope s.heap.objs.size f cd)) (leaving (Oh qual scope s.heap.objs.size f cd) e) (fun _ s''=>CX outer H s E e s'') (fun e' s''=>CX outer H s E e' s'') s'
theorem tD{sc:Scope}{n:Nat}{x:Str}(h:sc.names.lookup x=some .cell):∃c,(cellsFrom n sc.names []).lookup x=some c:=by
 have q:=Qq sc.names n [] (.inl h);exact Qk.mp q
theorem wK{CX:CXT}{P:Ll}{w:Lx}{K:LA}{mg:Str->Option LB}{base:Heap}{N ps:List Str}{qual:Str}{scope:Scope}{f:Addr}{cd:LB}{A:M6}{outer:List QO}{s s1:LF}{H:Hp}{E:XK}{us:List LB}{vs:List V}
  (S:FnScope N ps scope) (hd:A.handled=none) (e0:Env0 P w K mg base A outer s H) (hl:vs.length=ps.length) (r:Vals vs us)
  (x:InCallC s s.heap.objs.size (SL (Oh qual scope s.heap.objs.size f cd).kindOf (ps.zip us) fun _=>none) (cellsFrom (s.heap.objs.size+1) scope.names []) (SM (Oh qual scope s.heap.objs.size f cd).kindOf (ps.zip us) fun _=>none) s1) :
  Inv (Ba CX P w K mg base N qual scope f cd A outer s H E) [] (start N vs) H s1:=by
 have hpl:ps.length<=N.length:=by have:=congrArg NT S.pre;rw[N6] at this;omega
 obtain⟨h1,tk,rfl,hk⟩:=x.done;have noA:∀b:Addr,b ∉ (Ba CX P w K mg base N qual scope f cd A outer s H E).ex:=fun b z=>absurd (show b∈([]:List Addr) from z) (by simp)
 refine⟨⟨e0.mod,S.kind,rfl,rfl,LY _,fun y z c h1 h2=>?_,fun y hy=>?_,fun y c _ h=>?_,fun _=>hd,RE e0.frames,.inr ⟨rfl,rfl⟩,fun b z=>absurd z (noA b),e0.bs,e0.bsz,fun b _ _=>noA b,fun b z=>absurd z (noA b),e0.funs,e0.frf⟩,
  rfl,e0.bare,Un.kept hk,⟨_,x.toInCall.ns,fun i y v h1 h2 h3=>?_⟩,fun y c h=>⟨_,x.cell y c h⟩,e0.hok.fresh (LY _),fun y c h=>?_,fun p hp=>absurd (show p∈([]:List (Addr×Mu)) from hp) (by simp),e0.hok.kept hk,?_⟩
 ·exact name_of_addr x.apart (M7 h1) (M7 h2)
 ·have hy:scope.names.lookup y=some .cell\/scope.names.lookup y=some .free:=hy
  rcases hy with hy | hy
  ·exact tD hy
  ·exact absurd rfl (S.nofree _ (M7 hy))
 ·exact QL (x.above y c (M7 h))
 ·have hi:i<vs.length:=by
   unfold start at h2
   by_cases hi:i<vs.length
   ·exact hi
   ·rw[M3 (by simpa using hi)] at h2
    rw[MQ] at h2;split at h2 <;> cases h2
  have ha:vs[i]?=some v:=by
   unfold start at h2;rw[Lp (by simpa using hi),LO] at h2;cases e:vs[i]? with
   | none=>rw[e] at h2;cases h2
   | some a=>rw[e] at h2;cases h2;rfl
  obtain⟨u,hu,rv⟩:=r.get ha
  have hp:ps[i]?=some y:=by
   rw[← S.pre,List.getElem?_take_of_lt (by omega)];exact h1
  have ndP:ps.Nodup:=by rw[← S.pre];exact S.nd.sublist (List.take_sublist _ _)
  refine⟨u,rv,?_⟩;rcases S.par y (M5 hp) with k | k
  ·exact .inl ⟨k,qr ndP hp hu k⟩
  ·obtain⟨c,e⟩:=tD (n:=s.heap.objs.size+1) k
   refine .inr ⟨.inl k,c,e,?_⟩;have q:=x.cell y c e;rw[qu ndP hp hu (by show scope.names.lookup y≠_;rw[k];decide)] at q;exact q
 ·exact e0.hok.fresh (QL (x.above y c (M7 h)))
 ·unfold start
  show _=N.length;rw[Lw,LJ,Pd];omega
theorem G8{CX:CXT}{P:Ll}{w:Lx}{K:LA}{mg:Str->Option LB}{base:Heap}{k:Nat}{f:Addr}{name qual:Str}{params:Arguments}{body:List Stmt}{scope:Scope}{dV kV doc pm cdv ct oc:LB}{an od:Option Addr}
  {osl:Array (Option LB)} {N ps:List Str} {sp:Sp} (lk:K.lookup f=some ⟨oc,od,.func (Mn name qual params body scope dV kV doc pm an cdv ct),osl⟩) (hcd:Nr K cdv qual=true) (S:FnScope N ps scope)
  (len:∀vs H Q E,sp vs H Q E->vs.length=ps.length)
  (hbody:∀(A:M6)(outer:List QO)(s:LF)(H:Hp)(vs:List V)(Q:VK)(E:XK),Room k (A.deeper (Oh qual scope s.heap.objs.size f cdv))->sp vs H Q E->
   ∃t,PSs (Ba CX P w K mg base N qual scope f cdv A outer s H E) body t/\t { nx:=fun _ H'=>Q .non H',rt:=Q } (start N vs) H) :
  FnOk P w K mg base CX (k+1) f (Mn name qual params body scope dV kV doc pm an cdv ct) ps sp:=by
 refine⟨len,fun A outer s H args us vs Q E hr e0 hb r hsp=>?_⟩;have hl:=len _ _ _ _ hsp;have KX:K.In s.heap:=e0.mod.kin.keeps fun b o e=>(e0.bs b o e).1;have lim:s.heap.NoLimit:=e0.mod.nolimit.keeps fun b o e=>(e0.bs b o e).1
 have hkind:∀y∈ps.zip us,scope.names.lookup y.1=some .local\/(scope.names.lookup y.1=some .cell/\((cellsFrom (s.heap.objs.size+1) scope.names []).lookup y.1).isSome=true):=fun ⟨n,v⟩ hy=>by
  rcases S.par n (Om hy).1 with q | q
  ·exact .inl q
  ·exact .inr ⟨q,Qq _ _ _ (.inl q)⟩
 refine codeAny_call_function hr.depth (KX _ _ lk) rfl S.co S.gen rfl (PySem.W.codeRec_of KX hcd) (hb _ _ _ _ ?_);refine wpAny_newFunctionEnv_cells S.kind hkind fun env he s1 x=>?_;subst he;refine⟨lim.keeps x.toInCall.keep,codeAny_func ?_⟩;obtain⟨t,ht,hq⟩:=hbody A outer s H vs Q E (hr.deeper _) hsp;have I:Inv (Ba CX P w K mg base N qual scope f cdv A outer s H E) [] (start N vs) H s1:=wK S hr.hd e0 hl r x;refine Nf (ht [] s1 (start N vs) H _ I hq) (fun fl s' hs=>?_) fun e s' hs=>hs
 have fin:∀{σ':St}{H':Hp}{v:V}{u:LB},Inv (Ba CX P w K mg base N qual scope f cdv A outer s H E) [] σ' H' s'->RelV v u->Q v H'->CE outer P w H s Q u s':=
  fun {σ' H' v u} J rv q=>⟨v,H',J.os,J.bare,J.base,J.hok,rv,q⟩
 cases fl with
 | ret u=>
  obtain⟨v,σ',H',J,rv,q⟩:=hs;exact fin J rv q
 | next=>
  obtain⟨σ',H',J,q⟩:=hs;exact fin (v:=V.non) (u:=OX) J rfl q
 | brk=>
  obtain⟨_,_,_,q⟩:=hs;exact LU q
 | cont=>
  obtain⟨_,_,_,q⟩:=hs;exact LU q
end L2
namespace L2
open PySem PySem.Spec PyProof.Rows
section
variable{X : Cx}{x : Str}{p pos : N8}{e : Expr}{es : List Expr}{t : TA}{id T : String}{r : List V → Hp → VK → Prop}
def tCB(r:List V->Hp->VK->Prop)(t:TA):TE:=fun σ H Q=>t σ H fun vs H1=>r vs H1 Q
theorem om (hc:i7 X (.builtin id) r) (hg:Gl X x) (hm:X.mg x=none) (hv:NB x=some (.builtin id)) (ha:PA X (e::es) t) (hn:x≠"__name__":=by decide) (hdb:(x == ("__debug__":Str))=false:=by decide)
  (he:Lk (e::es) X.env=(false,MZ e X.env)::Lk es X.env:=by rfl) (hpl:(OR pos (Lk es X.env)).any (·.1)=false:=by rfl):PE X (.Call (.Name x p) (e::es) [] pos) (tCB r t):=by
 intro pins s σ H Q I h;refine OQ (kq I hg hm hv ?_ hn hdb);exact PyProof.Rows.callWith_builtin1 (thn (ha pos pins s σ H _ I h) fun us s1 ⟨vs,H1,I1,r1,q1⟩=>hc pins s1 σ H1 vs us Q I1 r1 q1) he hpl
theorem pw (hc:i7 X (.type T) r) (hg:Gl X x) (hm:X.mg x=none) (hv:NB x=some (.type T)) (ha:PA X (e::es) t) (hn:x≠"__name__":=by decide) (hdb:(x == ("__debug__":Str))=false:=by decide)
  (he:Lk (e::es) X.env=(false,MZ e X.env)::Lk es X.env:=by rfl) (hpl:(OR pos (Lk es X.env)).any (·.1)=false:=by rfl):PE X (.Call (.Name x p) (e::es) [] pos) (tCB r t):=by
 intro pins s σ H Q I h;refine OQ (kq I hg hm hv ?_ hn hdb);exact Mg (thn (ha pos pins s σ H _ I h) fun us s1 ⟨vs,H1,I1,r1,q1⟩=>hc pins s1 σ H1 vs us Q I1 r1 q1) he hpl
end
end L2
namespace HT
open PySem PyProof.Rows
def lexLt:List Int->List Int->Bool
 | [],[]=>false
 | [],_::_=>true
 | _::_,[]=>false
 | x::xs,y::ys=>if x=y then lexLt xs ys else decide (x<y)
section
variable{prog : Ll}{w : Lx}{A : M6}{E : LB → LF → Prop}{s : LF}
def sIx(n d:Nat):Option Int->Nat
 | none=>d
 | some v=>if v<0 then (v+(n:Int)).toNat else SR v.toNat n
theorem sIx_nat(n d k:Nat):sIx n d (some (k:Int))=SR k n:=by
 show (if (k:Int)<0 then ((k:Int)+(n:Int)).toNat else SR (k:Int).toNat n)=SR k n;rw[if_neg (by omega),P4]
theorem Er(n d:Nat)(hd:d<=n)(o:Option Int):sIx n d o<=n:=by
 cases o with
 | none=>exact hd
 | some v=>
  show (if v<0 then (v+(n:Int)).toNat else SR v.toNat n)<=n
  by_cases hv:v<0
  ·rw[if_pos hv];omega
  ·rw[if_neg hv];exact Nat.min_le_right _ _
theorem xJ(v:Int)(n d:Nat):(if v<0 then max (v+(n:Int)) 0 else SR v (n:Int))=((sIx n d (some v):Nat):Int):=by
 show (if v<0 then max (v+(n:Int)) 0 else SR v (n:Int))=(((if v<0 then (v+(n:Int)).toNat else SR v.toNat n):Nat):Int)
 by_cases hv:v<0
 ·simp only[if_pos hv];omega
 ·simp only[if_neg hv];omega
theorem uG(lo hi:Option Int)(n:Nat):Og lo hi 1 (n:Int)=(((sIx n 0 lo:Nat):Int),((sIx n n hi:Nat):Int)):=by
 have h1:¬ ((1:Int)<0):=by omega
 unfold Og;simp only[h1,if_false];refine QB ?_ ?_
 ·cases lo with
  | none=>rfl
  | some v=>exact xJ v n 0
 ·cases hi with
  | none=>rfl
  | some v=>exact xJ v n n
theorem ub(i j:Nat):Nm (i:Int) (j:Int) 1=j-i:=by
 unfold Nm;have h1:(1:Int) > 0:=by omega
 simp only[h1,if_true,Int.ediv_one]
 split <;> omega
theorem mS{v:LB}{o:Option Int}{Q:Option Int->LF->Prop}(p:Q4 v o)(h:Q o s):Ln (M4 prog w) A (Builtin.Slice.slicePartIndex v) Q E s:=by
 cases p with
 | none=>exact slicePart_none h
 | int i t=>exact slicePart_int h
theorem gr{sl:Addr}{vl vu:LB}{lo hi:Option Int}{n:Nat}{Q:Int×Int×Nat->LF->Prop}(hs:s.heap.IsSliceOf sl vl vu .none)(pl:Q4 vl lo)(pu:Q4 vu hi)
  (h:Q (((sIx n 0 lo:Nat):Int),1,sIx n n hi-sIx n 0 lo) s):Ln (M4 prog w) A (Px (.ref sl) (pure (n:Int))) Q E s:=by
 obtain⟨os,hos,hcs,hds⟩:=id hs;unfold Px Builtin.Slice.sliceFields;refine LD (LD (PZ hos hds (x:=vl) rfl (LD (PZ hos hds (x:=vu) rfl (LD (PZ hos hds (x:=.none) rfl (LQ ?_)))))));refine LD (slicePart_none ?_);show Ln _ _ (if ((1:Int) == 0)=true then _ else _) _ _ s;rw[if_neg (by decide)];refine LD (mS pl (LD (mS pu (LD (LQ ?_)))));show Ln _ _ (match Og lo hi 1 (n:Int) with | (lo,hi)=>pure (lo,(1:Int),Nm lo hi 1)) _ _ s;rw[uG lo hi n];show Ln _ _ (pure (((sIx n 0 lo:Nat):Int),(1:Int),Nm ((sIx n 0 lo:Nat):Int) ((sIx n n hi:Nat):Int) 1)) _ _ s;rw[ub];exact LQ h
theorem zf(xs:Array LB)(i k:Nat):((LI k).filterMap fun (m:Nat)=>xs[((i:Int)+(m:Int) * 1).toNat]?).toArray=((xs.toList.drop i).take k).toArray:=by
 have e:(fun (m:Nat)=>xs[((i:Int)+(m:Int) * 1).toNat]?)=fun m=>xs[i+m]?:=by
  funext m
  have:((i:Int)+(m:Int) * 1).toNat=i+m:=by omega
  rw[this]
 rw[e];have:=pick_run xs i k;rw[List.filterMap_map] at this;have e2:((fun x=>xs[x]?) ∘ fun x=>i+x)=fun m=>xs[i+m]?:=rfl;rw[e2] at this;rw[this]
theorem getItem_tuple_cut{t sl:Addr}{items:Array LB}{vl vu:LB}{lo hi:Option Int}{Q:LB->LF->Prop}(ht:IsTup s.heap t items)(hs:s.heap.IsSliceOf sl vl vu .none)(pl:Q4 vl lo)(pu:Q4 vu hi)
  (hw:¬ (sIx items.size 0 lo=0/\sIx items.size items.size hi=items.size))
  (h:Q (.ref s.heap.objs.size) { s with heap:=s.heap.push { cls:=.type "tuple",data:=.seq ((items.toList.drop (sIx items.size 0 lo)).take (sIx items.size items.size hi-sIx items.size 0 lo)).toArray } })
  (hsz:items.size<=sizeLine):Ln (M4 prog w) A (Q9 (.ref t) (.ref sl)) Q E s:=by
 have htake:sizeOk (.seq ((items.toList.drop (sIx items.size 0 lo)).take (sIx items.size items.size hi-sIx items.size 0 lo)).toArray):=by
  show ((items.toList.drop (sIx items.size 0 lo)).take (sIx items.size items.size hi-sIx items.size 0 lo)).toArray.size<=sizeLine;rw[Lv,N6,QT,MU];omega
 have hj:sIx items.size items.size hi<=items.size:=Er _ _ (LY _) hi;obtain⟨os,hos,hcs,hds⟩:=id hs;have hTs:s.TypeIs (.ref sl) "slice":=⟨os,hos,hcs⟩;unfold Q9
 try with_reducible refine NC ?_
 first | refine LD (LQ ?_) | skip
 refine LD (wpAny_sequenceKey ht.typeIs (by decide) ?_)
 refine LD (Nk (name:=LS "__getitem__") ht.typeIs MV
  (Nj MV ht.typeIs entry_tuple_getitem ?_ (args_tuple_getitem _ _)))
 show Ln _ _ (OZ (.ref t) >>= _) _ _ s;refine LD (tupleItemsOf_ ht ?_);refine LD (Oe hTs ?_);rw[if_pos (by decide)];refine LD (gr hs pl pu ?_)
 have hno:¬ ((((sIx items.size 0 lo:Nat):Int) == 0 && (1:Int) == 1 && (sIx items.size items.size hi-sIx items.size 0 lo) == items.size)=true):=by
  intro q;rw[MR,MR] at q;have q1:((sIx items.size 0 lo:Nat):Int)=0:=OF q.1.1;have q2:sIx items.size items.size hi-sIx items.size 0 lo=items.size:=OF q.2;exact hw ⟨by omega,by omega⟩
 show Ln _ _ (if (((sIx items.size 0 lo:Nat):Int) == 0 && (1:Int) == 1 && (sIx items.size items.size hi-sIx items.size 0 lo) == items.size)=true then _ else _) _ _ s;rw[if_neg hno,zf]
 first
  | exact LD (m:=Nu _) (NZ (LQ ⟨_,rfl,LQ h⟩) htake)
  | exact LD (m:=Nu _) (NZ (LD (LQ (LQ ⟨_,rfl,LQ h⟩))) htake)
  | exact LD (LD (m:=Nu _) (NZ (LQ (LQ ⟨_,rfl,LQ h⟩)) htake))
  | exact LD (LD (m:=Nu _) (NZ (LQ ⟨_,rfl,LQ h⟩) htake))
end
end HT
namespace L2
open PySem PySem.Spec PyProof.Rows
abbrev TO:=St->Hp->(Option Int->Hp->Prop)->Prop
def PO(X:Cx)(e:Option Expr)(t:TO):Prop:=
 ∀(pins:List (Addr×Mu))(s:LF)(σ:St)(H:Hp)(Q:Option Int->Hp->Prop),Inv X pins σ H s->t σ H Q->
  Ln (M4 X.prog X.w) X.A (evalPart e X.env) (fun u s'=>∃o H',Inv X pins σ H' s'/\Q4 u o/\Q o H') X.xe s
def Bp:TO:=fun _ H Q=>Q none H
def Hz(t:TE):TO:=fun σ H Q=>t σ H fun x H1=>∃i,x=.int i/\Q (some i) H1
section
variable{X : Cx}{e : Expr}{te : TE}{lo hi : Option Expr}{tl th : TO}{pos p2 : N8}
theorem BW:PO X none Bp:=by
 intro pins s σ H Q I h;rw[evalPart_none];exact LQ ⟨none,H,I,.none,h⟩
theorem BV(h:PE X e te):PO X (some e) (Hz te):=by
 intro pins s σ H Q I hw;rw[evalPart_some];refine thn (h pins s σ H _ I hw) fun u s1 ⟨x,H1,I1,r1,q1⟩=>?_;obtain⟨i,rfl,q⟩:=q1;obtain⟨t,rfl⟩:=r1;exact⟨some i,H1,I1,.int i t,q⟩
def SlR(X:Cx)(r:V->Option Int->Option Int->Hp->VK->Prop):Prop:=
 ∀(pins:List (Addr×Mu))(s:LF)(σ:St)(H:Hp)(x:V)(v vl vu:LB)(lo hi:Option Int)(sl:Addr)(Q:VK),Inv X pins σ H s->RelV x v->s.heap.IsSliceOf sl vl vu .none->Q4 vl lo->Q4 vu hi->r x lo hi H Q->
  ∃T id,Rb (.type T) "__getitem__"=pure (some (.builtin id))/\s.TypeIs v T/\Ln (M4 X.prog X.w) X.A (Q9 v (.ref sl)) (EP X pins σ Q) X.xe s
def tSl(r:V->Option Int->Option Int->Hp->VK->Prop)(te:TE)(tl th:TO):TE:=fun σ H Q=>te σ H fun x H1=>tl σ H1 fun l H2=>th σ H2 fun u H3=>r x l u H3 Q
theorem oj{r:V->Option Int->Option Int->Hp->VK->Prop}(hr:SlR X r)(he:PE X e te)(hl:PO X lo tl)(hu:PO X hi th):PE X (.Subscript e (.Slice lo hi none p2) pos) (tSl r te tl th):=by
 intro pins s σ H Q I h;refine Subscript_ (thn (he pins s σ H _ I h) fun v s1 ⟨x,H1,I1,r1,q1⟩=>?_);refine wpAny_Slice (thn (hl pins s1 σ H1 _ I1 q1) fun vl s2 ⟨l,H2,I2,pl,q2⟩=>thn (hu pins s2 σ H2 _ I2 q2) fun vu s3 ⟨u,H3,I3,pu,q3⟩=>?_);rw[evalPart_none];refine LQ ?_;have I4:Inv X pins σ H3 { s3 with heap:=s3.heap.push { cls:=.type "slice",data:=.fields #[vl,vu,.none] } }:=I3.kept (t':=s3.toks) fun b ob q=>LP _ q;obtain⟨T,id,hT,ht,hg⟩:=hr pins { s3 with heap:=s3.heap.push { cls:=.type "slice",data:=.fields #[vl,vu,.none] } } σ H3 x v vl vu l u s3.heap.objs.size Q I4 r1 (Heap.IsSliceOf.new ..) pl pu q3;show Ln (M4 X.prog X.w) X.A (subscriptTail e (.Slice lo hi none p2) v (.ref s3.heap.objs.size)) (EP X pins σ Q) X.xe { s3 with heap:=s3.heap.push { cls:=.type "slice",data:=.fields #[vl,vu,.none] } };exact tail_any (ops:=[.ref s3.heap.objs.size,v]) ht hT hg (by with_unfolding_all rfl)
def zX(xs:List V)(lo hi:Option Int):List V:=(xs.drop (HT.sIx xs.length 0 lo)).take (HT.sIx xs.length xs.length hi-HT.sIx xs.length 0 lo)
theorem ml(xs:List V)(lo hi:Option Int):(zX xs lo hi).length<=xs.length:=by
 unfold zX;rw[N6,QT];omega
def Kj(K:LA):V->Option Int->Option Int->Hp->VK->Prop:=fun x lo hi H Q=>∃a xs,x=.ref a/\SqT K H a xs/\
 ¬ (HT.sIx xs.length 0 lo=0/\HT.sIx xs.length xs.length hi=xs.length)/\∀p,H p=none->Q (.ref p) (upd H p (.tup (zX xs lo hi)))
theorem Aw:SlR X (Kj X.K):=by
 intro pins s σ H x v vl vu lo hi sl Q I rx hs pl pu h;obtain⟨a,xs,rfl,hx,hw,q⟩:=h;cases rx;obtain⟨its,r,ht,hz⟩:=I.tuple hx;have hlen:its.toArray.size=xs.length:=by rw[Lv];exact r.length.symm
 refine⟨"tuple",_,MV.lookup,ht.typeIs,?_⟩;refine HT.getItem_tuple_cut ht hs pl pu (by rw[hlen];exact hw) ?_ (by rw[hlen];exact hz);rw[hlen];refine⟨.ref s.heap.objs.size,_,I.laid (t':=s.toks) (o:=.tup (zX xs lo hi)) (fun b ob q=>LP _ q) (LY _) ?_,rfl,q _ (I.hok.fresh (LY _))⟩;exact⟨Ma (ml xs lo hi) hz,_,(r.drop (HT.sIx xs.length 0 lo)).take (HT.sIx xs.length xs.length hi-HT.sIx xs.length 0 lo),Am.new _ _⟩
end
end L2
namespace L2
open PySem PySem.Spec PyProof.Rows
def ixN(n:Nat)(i:Int):Option Nat:=if 0<=i then (if i<n then some i.toNat else none) else if -(n:Int)<=i then some (i+n).toNat else none
def atI{α:Type}(xs:List α)(i:Int):Option α:=(ixN xs.length i).bind fun j=>xs[j]?
theorem CB{n:Nat}{i:Int}{j:Nat}(h:ixN n i=some j):seqIndex? i n=some j/\j<n/\-(n:Int)<=i/\i<n:=by
 unfold ixN at h
 by_cases h0:0<=i
 ·rw[if_pos h0] at h
  by_cases h1:i<n
  ·rw[if_pos h1] at h
   have e:i.toNat=j:=Ly h;exact⟨by rw[seqIndex_of h0 h1,e],by omega,by omega,h1⟩
  ·rw[if_neg h1] at h;cases h
 ·rw[if_neg h0] at h
  by_cases h1:-(n:Int)<=i
  ·rw[if_pos h1] at h
   have e:(i+n).toNat=j:=Ly h;exact⟨by rw[seqIndex_neg (by omega) h1,e],by omega,h1,by omega⟩
  ·rw[if_neg h1] at h;cases h
theorem rJ{α:Type}{xs:List α}{i:Int}{v:α}(h:atI xs i=some v):∃j,seqIndex? i xs.length=some j/\xs[j]?=some v/\j<xs.length/\-(xs.length:Int)<=i/\i<xs.length:=by
 unfold atI at h;cases e:ixN xs.length i with
 | none=>rw[e] at h;cases h
 | some j=>
  rw[e] at h;obtain⟨h1,h2,h3,h4⟩:=CB e;exact⟨j,h1,h,h2,h3,h4⟩
def xZ(b:Expr):Prop:=∀o i,subscripted b false o i=operate [o,i] (Q9 o i)
def IxR(X:Cx)(r:R2):Prop:=
 ∀(value slice:Expr)(pins:List (Addr×Mu))(s:LF)(σ:St)(H:Hp)(x y:V)(v u:LB)(Q:VK),Inv X pins σ H s->RelV x v->RelV y u->r x y H Q->
  subscripted slice false v u=operate [v,u] (Q9 v u)->Ln (M4 X.prog X.w) X.A (subscriptTail value slice v u) (EP X pins σ Q) X.xe s
def MtR(X:Cx)(id:String)(r:V->List V->Hp->VK->Prop):Prop:=
 ∀(pins:List (Addr×Mu))(s:LF)(σ:St)(H:Hp)(x:V)(xs:List V)(v:LB)(us:List LB)(Q:VK),Inv X pins σ H s->RelV x v->Vals xs us->r x xs H Q->
  Ln (M4 X.prog X.w) X.A (call (.builtin id) (v::us)) (EP X pins σ Q) X.xe s
section
variable{X : Cx}{a b : Expr}{ta tb : TE}{pos : N8}
theorem HZ{r:R2}(hr:IxR X r)(ha:PE X a ta)(hb:PE X b tb)(hs:xZ b):PE X (.Subscript a b pos) (tOp r ta tb):=by
 intro pins s σ H Q I h;exact Subscript_ (Ja ha hb I h fun v u s2 x y H2 I2 rx ry q=>hr a b pins s2 σ H2 x y v u Q I2 rx ry q (hs _ _))
def Kq(K:LA):R2:=fun x y H Q=>∃p xs i v,x=.ref p/\y=.int i/\SqL K H p xs/\atI xs i=some v/\Q v H
def Kn(K:LA):R2:=fun x y H Q=>∃p xs i v,x=.ref p/\y=.int i/\SqT K H p xs/\atI xs i=some v/\Q v H
def Ko:R2:=fun x y H Q=>∃z i c,x=.str z/\y=.int i/\z.length<=sizeLine/\atI z.cps.toList i=some c/\Q (.str ⟨#[c]⟩) H
theorem CA:IxR X (Kq X.K):=by
 intro value slice pins s σ H x y v u Q I rx ry h hs;obtain⟨p,xs,i,z,rfl,rfl,hq,he,q⟩:=h;cases rx;obtain⟨t,rfl⟩:=ry;obtain⟨its,r,pl,hz⟩:=I.list hq;obtain⟨j,h1,h2,h3,h4,h5⟩:=rJ he;obtain⟨w,ew,rw'⟩:=r.get h2;have hl:=r.length;have hn:=pN;have fin:EP X pins σ Q w s:=⟨z,H,I,rw',q⟩
 by_cases h0:0<=i
 ·have hj:i.toNat=j:=by
   rw[seqIndex_of h0 h5] at h1;exact Ly h1
  exact item_listR pl.isList h0 (by omega) (by rw[hj];simpa using ew) fin hs
 ·have hj:(i+(its.toArray.size:Int)).toNat=j:=by
   rw[seqIndex_neg (by omega) h4] at h1;rw[Lv,← hl];exact Ly h1
  exact Sk (x:=w) pl.isList.typeIs slot_list_getitem.lookup
   (wpAny_getItem_list_neg (Q:=fun r s'=>r=w/\EP X pins σ Q r s') pl.isList (by omega) (by rw[Lv] <;> omega) (by omega) (by rw[hj];simpa using ew) ⟨rfl,fin⟩) hs
theorem FK:IxR X (Kn X.K):=by
 intro value slice pins s σ H x y v u Q I rx ry h hs;obtain⟨p,xs,i,z,rfl,rfl,hq,he,q⟩:=h;cases rx;obtain⟨t,rfl⟩:=ry;obtain⟨its,r,pl,hz⟩:=I.tuple hq;obtain⟨j,h1,h2,h3,h4,h5⟩:=rJ he;obtain⟨w,ew,rw'⟩:=r.get h2;have hl:=r.length;have hn:=pN;have fin:EP X pins σ Q w s:=⟨z,H,I,rw',q⟩
 exact Sk (x:=w) pl.typeIs slot_tuple_getitem.lookup
  (getItem_tuple (j:=j) (Q:=fun r s'=>r=w/\EP X pins σ Q r s') pl (by omega) (by omega) (by rw[Lv,← hl];exact h1) (by simpa using ew) ⟨rfl,fin⟩) hs
theorem FN:IxR X Ko:=by
 intro value slice pins s σ H x y v u Q I rx ry h hs;obtain⟨z,i,c,rfl,rfl,hz,he,q⟩:=h;obtain⟨t,rfl⟩:=rx;obtain⟨t',rfl⟩:=ry;obtain⟨j,h1,h2,h3,h4,h5⟩:=rJ he;have hl:z.cps.toList.length=z.length:=by simp[Str.length]
 rw[hl] at h1 h4 h5;have hn:=pN
 exact tail_any (typeIs_str s z t) slot_str_getitem.lookup (getItem_str (c:=c) (by
  have e1:decide (i < -(2 ^ 63:Int))=false:=decide_eq_false (by omega);have e2:decide (i ≥ 2 ^ 63)=false:=decide_eq_false (by omega);rw[e1,e2,Bool.or_false]) (by rw[h1];simpa using h2) ⟨.str ⟨#[c]⟩,H,I.tok _,⟨_,rfl⟩,q⟩) hs
theorem p7(lo hi:Option Int)(n:Nat):(Ou lo hi none n).1=((HT.sIx n 0 lo:Nat):Int)/\(Ou lo hi none n).2.1=((HT.sIx n n hi:Nat):Int)/\(Ou lo hi none n).2.2=1:=by
 refine⟨?_,?_,rfl⟩
 ·cases lo with
  | none=>simp[Ou,HT.sIx]
  | some i=>
   simp only[Ou,HT.sIx,SQ,show (1:Int) > 0 by decide,if_true]
   by_cases h:i<0
   ·simp only[h,if_true] <;> omega
   ·simp only[h,if_false] <;> omega
 ·cases hi with
  | none=>simp[Ou,HT.sIx]
  | some i=>
   simp only[Ou,HT.sIx,SQ,show (1:Int) > 0 by decide,if_true]
   by_cases h:i<0
   ·simp only[h,if_true] <;> omega
   ·simp only[h,if_false] <;> omega
theorem nV(its:List LB)(lo hi:Option Int):slicePick its.toArray lo hi none=((its.drop (HT.sIx its.length 0 lo)).take (HT.sIx its.length its.length hi-HT.sIx its.length 0 lo)).toArray:=by
 obtain⟨h1,h2,h3⟩:=p7 lo hi its.toArray.size;unfold slicePick;rw[h1,h2,h3];simp only[sliceRange_one,pick_run,Lv] <;> rfl
def Kl(K:LA):V->Option Int->Option Int->Hp->VK->Prop:=fun x lo hi H Q=>∃a xs,x=.ref a/\SqL K H a xs/\∀p,H p=none->Q (.ref p) (upd H p (.lst (zX xs lo hi)))
theorem By:SlR X (Kl X.K):=by
 intro pins s σ H x v vl vu lo hi sl Q I rx hs pl pu h;obtain⟨a,xs,rfl,hx,q⟩:=h;cases rx;obtain⟨its,r,ht,hz⟩:=I.list hx;have hlen:=r.length;refine⟨"list",_,slot_list_getitem.lookup,ht.isList.typeIs,?_⟩;refine wpAny_getItem_list_slice ht.isList hs pl pu .none (by simp) ?_ (by rw[Lv] <;> omega)
 rw[nV,← hlen];refine⟨.ref s.heap.objs.size,_,I.laid (t':=s.toks) (o:=.lst (zX xs lo hi)) (fun b ob q=>LP _ q) (LY _) ?_,rfl,q _ (I.hok.fresh (LY _))⟩;exact⟨Ma (ml xs lo hi) hz,_,0,(r.drop (HT.sIx xs.length 0 lo)).take (HT.sIx xs.length xs.length hi-HT.sIx xs.length 0 lo),Ls _ rfl⟩
def mI:V->Bool
 | .non=>true
 | .bl _=>true
 | .int _=>true
 | .str _=>true
 | _=>false
def eqV:V->V->Bool
 | .non,.non=>true
 | .bl a,.bl b=>a == b
 | .bl a,.int b=>(if a then 1 else 0) == b
 | .int a,.bl b=>a == (if b then 1 else 0)
 | .int a,.int b=>a == b
 | .str a,.str b=>a == b
 | _,_=>false
theorem Gc{A:M6}{s:LF}{y x:V}{u v:LB}(ry:RelV y u)(rx:RelV x v)(fy:mI y=true)(fx:mI x=true):OE A s u v (eqV y x):=by
 cases y with
 | non=>
  cases ry;cases x with
  | non=>cases rx;exact Py _
  | bl b=>cases rx;exact SeqAt.EqAt.none_bool b
  | int b=>obtain⟨t,rfl⟩:=rx;exact SeqAt.EqAt.none_int b t
  | str b=>obtain⟨t,rfl⟩:=rx;exact SeqAt.EqAt.none_str b t
  | _=>exact absurd (show false=true from fx) LW
 | bl a=>
  cases ry;cases x with
  | non=>cases rx;exact SeqAt.EqAt.bool_none a
  | bl b=>cases rx;exact SeqAt.EqAt.bool_bool a b
  | int b=>obtain⟨t,rfl⟩:=rx;exact SeqAt.EqAt.bool_int a b t
  | str b=>obtain⟨t,rfl⟩:=rx;exact SeqAt.EqAt.bool_str a b t
  | _=>exact absurd (show false=true from fx) LW
 | int a=>
  obtain⟨t',rfl⟩:=ry;cases x with
  | non=>cases rx;exact SeqAt.EqAt.int_none a t'
  | bl b=>cases rx;exact SeqAt.EqAt.int_bool a t' b
  | int b=>obtain⟨t,rfl⟩:=rx;exact SeqAt.EqAt.int_int a t' b t
  | str b=>obtain⟨t,rfl⟩:=rx;exact Qz a t' b t
  | _=>exact absurd (show false=true from fx) LW
 | str a=>
  obtain⟨t',rfl⟩:=ry;cases x with
  | non=>cases rx;exact SeqAt.EqAt.str_none a t'
  | bl b=>cases rx;exact SeqAt.EqAt.str_bool a t' b
  | int b=>obtain⟨t,rfl⟩:=rx;exact Qx a t' b t
  | str b=>obtain⟨t,rfl⟩:=rx;exact SeqAt.EqAt.str_str a t' b t
  | _=>exact absurd (show false=true from fx) LW
 | _=>exact absurd (show false=true from fy) LW
def eqU(x:V)(u:LB):Bool:=match u with
 | .none=>eqV .non x
 | .bool b=>eqV (.bl b) x
 | .int i _=>eqV (.int i) x
 | .str z _=>eqV (.str z) x
 | _=>false
theorem B5{x y:V}{u:LB}(r:RelV y u)(f:mI y=true):eqU x u=eqV y x:=by
 cases y with
 | non=>cases r;rfl
 | bl b=>cases r;rfl
 | int i=>obtain⟨t,rfl⟩:=r;rfl
 | str z=>obtain⟨t,rfl⟩:=r;rfl
 | _=>exact absurd (show false=true from f) LW
theorem mx{x:V}:∀{xs:List V}{us:List LB},Vals xs us->xs.all mI=true->us.any (eqU x)=xs.any fun y=>eqV y x
 | _,_,.nil,_=>rfl
 | y::xs,u::us,.cons r t,f=>by
  rw[NU,MR] at f;rw[Mp,Mp,B5 r f.1,mx t f.2]
theorem jh{A:M6}{s:LF}{x:V}{v:LB}(rx:RelV x v)(fx:mI x=true):∀{xs:List V}{us:List LB},Vals xs us->xs.all mI=true->∀u∈us,OE A s u v (eqU x u)
 | _,_,.nil,_=>fun u hu=>by cases hu
 | y::xs,u::us,.cons r t,f=>fun u' hu=>by
  rw[NU,MR] at f;rcases LX.mp hu with rfl | hu
  ·rw[B5 r f.1];exact Gc r rx f.1 fx
  ·exact jh rx fx t f.2 u' hu
def inV(x:V)(xs:List V):Bool:=xs.any fun y=>eqV y x
def rIn(K:LA)(neg:Bool):R2:=fun x y H Q=>∃p xs,y=.ref p/\(SqL K H p xs\/SqT K H p xs)/\mI x=true/\xs.all mI=true/\Q (.bl (if neg then !inV x xs else inV x xs)) H
theorem pE:OpR X (MI .In) (rIn X.K false):=by
 intro pins s σ H x y v u Q I rx ry h;obtain⟨p,xs,rfl,hq,fx,fs,q⟩:=h;cases ry;rcases hq with hq | hq
 ·obtain⟨its,r,pl,hz⟩:=I.list hq
  refine SeqAt.in_listAt (eqU x) pl.isList (fun w hw=>jh rx fx r fs w (by simpa using hw)) ⟨.bl _,H,I,rfl,?_⟩;rw[show its.toArray.any (eqU x)=its.any (eqU x) by simp,mx r fs];exact q
 ·obtain⟨its,r,pl,hz⟩:=I.tuple hq
  refine SeqAt.in_tupleAt (eqU x) pl (fun w hw=>jh rx fx r fs w (by simpa using hw)) ⟨.bl _,H,I,rfl,?_⟩;rw[show its.toArray.any (eqU x)=its.any (eqU x) by simp,mx r fs];exact q
theorem ko:OpR X (MI .NotIn) (rIn X.K true):=by
 intro pins s σ H x y v u Q I rx ry h;obtain⟨p,xs,rfl,hq,fx,fs,q⟩:=h;cases ry;rcases hq with hq | hq
 ·obtain⟨its,r,pl,hz⟩:=I.list hq
  refine SeqAt.notIn_listAt (eqU x) pl.isList (fun w hw=>jh rx fx r fs w (by simpa using hw)) ⟨.bl _,H,I,rfl,?_⟩;rw[show its.toArray.any (eqU x)=its.any (eqU x) by simp,mx r fs];exact q
 ·obtain⟨its,r,pl,hz⟩:=I.tuple hq
  refine SeqAt.notIn_tupleAt (eqU x) pl (fun w hw=>jh rx fx r fs w (by simpa using hw)) ⟨.bl _,H,I,rfl,?_⟩;rw[show its.toArray.any (eqU x)=its.any (eqU x) by simp,mx r fs];exact q
theorem pD:OpR X (MI .NotIn) (fun x y H Q=>∃i j,x=.str i/\y=.str j/\Q (.bl (!(!(Mw j i 0 j.length 1).isEmpty))) H):=by
 intro pins s σ H x y v u Q I rx ry h;obtain⟨i,j,rfl,rfl,q⟩:=h;obtain⟨t,rfl⟩:=rx;obtain⟨t',rfl⟩:=ry;exact notIn_str ⟨.bl _,H,I,rfl,q⟩
theorem ky:i7 X (.type "list") (fun xs H Q=>∃p ys,xs=[.ref p]/\(SqL X.K H p ys\/SqT X.K H p ys)/\∀l,H l=none->Q (.ref l) (upd H l (.lst ys))):=by
 intro pins s σ H xs us Q I r h;obtain⟨p,ys,rfl,hq,q⟩:=h;obtain⟨u,rfl,rx⟩:=vals1 r;cases rx
 have fin:∀(its:List LB),Vals ys its->ys.length<=sizeLine->∀(h':Heap)(c':Nat),(∀b o',s.heap.get? b=some o'->h'.get? b=some o')->
   h'.get? s.heap.objs.size=some { cls:=.type "list",dict:=none,data:=.seq its.toArray c',slots:=#[] }->EP X pins σ Q (.ref s.heap.objs.size) { s with heap:=h' }:=fun its r' hz h' c' kp e=>
  ⟨.ref s.heap.objs.size,_,I.laid (t':=s.toks) kp (LY _) (show dU X.prog X.w _ h' _ (.lst ys) from ⟨hz,its,c',r',e⟩),rfl,q _ (I.hok.fresh (LY _))⟩
 rcases hq with hq | hq
 ·obtain⟨its,r',pl,hz⟩:=I.list hq
  have hlen:=r'.length;obtain⟨o,ho,hc,n,hd⟩:=pl.isList;exact call_list_seq p (.inl rfl) ho hc hd (fun h' c' kp e=>fin its r' hz h' c' kp e) (by simp only[Lv] <;> omega)
 ·obtain⟨its,r',pl,hz⟩:=I.tuple hq
  have hlen:=r'.length;obtain⟨o,ho,hc,n,hd⟩:=pl;exact call_list_seq p (.inr rfl) ho hc hd (fun h' c' kp e=>fin its r' hz h' c' kp e) (by simp only[Lv] <;> omega)
theorem jA:i7 X (.type "tuple") (fun xs H Q=>∃p ys,xs=[.ref p]/\((SqL X.K H p ys/\∀l,H l=none->Q (.ref l) (upd H l (.tup ys)))\/(SqT X.K H p ys/\Q (.ref p) H))):=by
 intro pins s σ H xs us Q I r h;obtain⟨p,ys,rfl,h⟩:=h;obtain⟨u,rfl,rx⟩:=vals1 r;cases rx;rcases h with⟨hq,q⟩|⟨hq,q⟩
 ·obtain⟨its,r',pl,hz⟩:=I.list hq
  have hlen:=r'.length;refine call_tuple_list pl.isList (fun h' kp=>?_) (by simp only[Lv] <;> omega)
  have I1:Inv X pins σ H { s with heap:=h' }:=I.kept (t':=s.toks) kp
  have I2:Inv X pins σ (upd H h'.objs.size (.tup ys)) { s with heap:=h'.push { cls:=.type "tuple",data:=.seq its.toArray } }:=
   I1.laid (t':=s.toks) (fun b o e=>LP _ e) (LY _) (show dU X.prog X.w _ _ _ (.tup ys) from ⟨hz,its,r',Am.new _ _⟩)
  exact⟨.ref h'.objs.size,_,I2,rfl,q _ (I1.hok.fresh (LY _))⟩
 ·obtain⟨its,r',pl,hz⟩:=I.tuple hq
  exact call_tuple_same pl ⟨.ref p,H,I,rfl,q⟩
def tyV(K:LA)(T:String)(x:V)(H:Hp):Prop:=match x with
 | .str _=>T="str"
 | .int _=>T="int"
 | .ref p=>(T="list"/\∃xs,SqL K H p xs)\/(T="tuple"/\∃o,K.lookup p=some o/\o.cls=.type "tuple"/\o.dict=none) ∨
   (T="dict"/\((∃kvs,H p=some (.dK kvs))\/∃kvs,H p=some (.dT kvs)))\/(T="set"/\∃S n,H p=some (.set S n))
 | _=>False
theorem Eh{pins:List (Addr×Mu)}{σ:St}{H:Hp}{s:LF}{T:String}{x:V}{v:LB}(I:Inv X pins σ H s)(r:RelV x v)(ty:tyV X.K T x H) :
  s.TypeIs v T/\∀a,v=.ref a->∃ob,s.heap.get? a=some ob/\ob.dict=none:=by
 cases x with
 | str z=>
  obtain⟨t,rfl⟩:=r;cases (show T="str" from ty);exact⟨typeIs_str s z t,fun _ e=>nomatch e⟩
 | int i=>
  obtain⟨t,rfl⟩:=r;cases (show T="int" from ty);exact⟨typeIs_int s i t,fun _ e=>nomatch e⟩
 | ref p=>
  cases r;rcases ty with⟨rfl,xs,hq⟩|⟨rfl,o,hk,hc,hd⟩|⟨rfl,hk⟩|⟨rfl,S,n,hk⟩
  ·obtain⟨its,_,pl,_⟩:=I.list hq
   refine⟨pl.isList.typeIs,fun a e=>?_⟩;cases e;obtain⟨o,n,e,c,hd,_⟩:=pl;exact⟨o,e,hd⟩
  ·refine⟨⟨o,I.kIn p o hk,hc⟩,fun a e=>?_⟩
   cases e;exact⟨o,I.kIn _ o hk,hd⟩
  ·have z:∃o,s.heap.get? p=some o/\o.ExactDict:=by
    rcases hk with⟨kvs,hk⟩|⟨kvs,hk⟩
    ·obtain⟨_,_,_,_,o,_,_,e,ex,_⟩:=I.hok p _ hk
     exact⟨o,e,ex⟩
    ·obtain⟨_,_,_,_,o,_,_,e,ex,_⟩:=I.hok p _ hk
     exact⟨o,e,ex⟩
   obtain⟨o,e,ex⟩:=z;refine⟨⟨o,e,ex.1⟩,fun a e2=>?_⟩;cases e2;exact⟨o,e,ex.2.1⟩
  ·obtain⟨o,_,_,_,e,ex,_⟩:=I.hok p _ hk
   refine⟨⟨o,e,ex.1⟩,fun a e2=>?_⟩;cases e2;exact⟨o,e,ex.2.1⟩
 | _=>exact LU ty
def tBM(K:LA)(T:String)(r:V->List V->Hp->VK->Prop)(to:TE)(t:TA):TE:=fun σ H Q=>to σ H fun x H1=>tyV K T x H1/\t σ H1 fun xs H2=>r x xs H2 Q
variable{o e : Expr}{es : List Expr}{to : TE}{t : TA}{name : Str}{apos cpos : N8}{T id : String}{r : V → List V → Hp → VK → Prop}
theorem vJ (pa:PlainAttrs T) (slot:Slot T name id) (hty:typeOf (.builtin id)=pure (.type "method_descriptor")) (hm:MtR X id r) (ho:PE X o to) (ha:PA X (e::es) t)
  (hbase:OM o name X.env (MZ o X.env)=MZ o X.env:=by rfl)
  (hfew:((OR cpos (Lk (e::es) X.env)).all (fun x=>!x.1) && (backToKw cpos (keywordEach [] X.env)).all (fun x=>x.1.isSome)
   && decide ((e::es).length+([]:List Keyword).length+(if ([]:List Keyword).isEmpty then 0 else 1)<30))=true:=by rfl)
  (hline:(apos.endLine == cpos.line)=true:=by rfl) (hs:Lk (e::es) X.env=(false,MZ e X.env)::Lk es X.env:=by rfl) (hplain:(OR cpos (Lk es X.env)).any (·.1)=false:=by rfl) :
  PE X (.Call (.Attribute o name apos) (e::es) [] cpos) (tBM X.K T r to t):=by
 intro pins s σ H Q I h;refine Sb hbase hfew hline rfl (thn (ho pins s σ H _ I h) fun v s1 ⟨x,H1,I1,r1,ty,q1⟩=>?_);obtain⟨h1,h2⟩:=Eh I1 r1 ty;refine⟨T,id,pa,slot,hty,h1,h2,?_⟩;have hA:=ha cpos pins s1 σ H1 _ I1 q1;rw[hs] at hA ⊢;refine RA (by show (false || (OR cpos (Lk es X.env)).any (·.1))=false;rw[hplain] <;> rfl) (Rm ?_)
 exact thn hA fun us s2 ⟨vs,H2,I2,r2,q2⟩=>hm pins s2 σ H2 x vs v us Q I2 r1 r2 q2
end
end L2
namespace L2
open PySem PySem.Spec PyProof.Rows
def MtM(X:Cx)(id:String)(r:V->List V->Hp->VK->Prop):Prop:=
 ∀(pins:List (Addr×Mu))(s:LF)(σ:St)(H:Hp)(x:V)(xs:List V)(v:LB)(us:List LB)(Q:VK),Inv X pins σ H s->RelV x v->Vals xs us->r x xs H Q->
  Ln (M4 X.prog X.w) X.A (call (.builtin id) (v::us)) (EP X pins σ Q) X.xe s
theorem Vals.one:∀{x:V}{us:List LB},Vals [x] us->∃u,us=[u]/\RelV x u
 | _,_,.cons r .nil=>⟨_,rfl,r⟩
theorem Vals.two:∀{x y:V}{us:List LB},Vals [x,y] us->∃u v,us=[u,v]/\RelV x u/\RelV y v
 | _,_,_,.cons r (.cons q .nil)=>⟨_,_,rfl,r,q⟩
section
variable{X : Cx}{pins : List (Addr×Mu)}{σ : St}{H : Hp}{s : LF}{l b : Addr}{xs ys zs : List V}
theorem Inv.lset{its its':List LB}{n:Nat}{f:Array LB->Array LB}{t':Nat}(I:Inv X pins σ H s)(hH:H l=some (.lst xs))
  (e:s.heap.get? l=some { cls:=.type "list",data:=.seq its.toArray n }) (hf:f its.toArray=its'.toArray) (hv:Vals ys its') (hz:ys.length<=sizeLine) :
  Inv X pins σ (upd H l (.lst ys)) { s with heap:=s.heap.update l (N3 f),toks:=t' }:=by
 have q:=PySem.IsL.update e f;rw[hf] at q;refine I.write (x:=l) (e:=l) (by rw[hH];exact trivial) (.inl rfl) (fun b' u hb hu=>(ON s.heap (N3 f) (OA hb)).trans hu) ⟨_,q⟩ ?_;exact⟨hz,its',_,hv,q⟩
theorem Inv.lnew{its:List LB}{t':Nat}(I:Inv X pins σ H s)(hv:Vals ys its)(hz:ys.length<=sizeLine) :
  Inv X pins σ (upd H s.heap.objs.size (.lst ys)) { s with heap:=s.heap.push { cls:=.type "list",data:=.seq its.toArray },toks:=t' }:=
 I.laid (fun _ _ q=>LP _ q) (LY _) ⟨hz,its,0,hv,Ls _ rfl⟩
theorem Inv.fresh(I:Inv X pins σ H s):H s.heap.objs.size=none:=I.hok.fresh (LY _)
theorem Inv.lstM (I:Inv X pins σ H s) (hH:H l=some (.lst xs)):xs.length<=sizeLine/\∃(its:List LB) (n:Nat),Vals xs its/\xs.length=its.length/\s.heap.get? l=some { cls:=.type "list",data:=.seq its.toArray n }:=by
 obtain⟨z,its,n,r,e⟩:=I.hok l _ hH;exact⟨z,its,n,r,r.length,e⟩
end
section
variable{X : Cx}
def BJ:V->List V->Hp->VK->Prop:=fun x vs H Q=>∃l xs y,x=.ref l/\vs=[y]/\H l=some (.lst xs)/\xs.length<sizeLine/\Q .non (upd H l (.lst (xs++[y])))
theorem pI:MtM X "list.append" BJ:=by
 intro pins s σ H x vs v us Q I rx rv h;obtain⟨l,xs,y,rfl,rfl,hH,hz,q⟩:=h;cases rx;obtain⟨u,rfl,ru⟩:=rv.one;obtain⟨z,its,n,r,hl,e⟩:=I.lstM hH;refine call_meets Rl ⟨_,e,rfl⟩ F.entry_list_append (F.args_list_append_2 _ _) (PySem.list_append l its.toArray n u (by rw[Lv];omega)) ⟨e,?_⟩;refine⟨.non,_,I.lset (its':=its++[u]) hH e (by simp) (r.append (.cons ru .nil)) ?_,rfl,q⟩;rw[Lw,Mh];omega
end
end L2
namespace L2
open PySem PySem.Spec PyProof.Rows
section
variable{κ : Type}[DecidableEq κ]
def jG(kvs:List (κ×V))(k:κ):Option V:=(kvs.find? fun kv=>decide (kv.1=k)).map (·.2)
def putK(kvs:List (κ×V))(k:κ)(v:V):List (κ×V):=
 if (kvs.any fun kv=>decide (kv.1=k))=true then kvs.map (fun kv=>if kv.1=k then (kv.1,v) else kv) else kvs++[(k,v)]
theorem iV{p:κ×V}{r:List (κ×V)}{k:κ}(e:p.1=k):jG (p::r) k=some p.2:=by simp[jG,N2,e]
theorem fP{p:κ×V}{r:List (κ×V)}{k:κ}(e:¬ p.1=k):jG (p::r) k=jG r k:=by simp[jG,N2,e]
theorem kG(k:κ):∀kvs:List (κ×V),(kvs.any fun kv=>decide (kv.1=k))=(jG kvs k).isSome
 | []=>rfl
 | p::r=>by
  rw[Mp]
  by_cases e:p.1=k
  ·simp only[iV e,decide_eq_true e,Bool.true_or,Option.isSome_some]
  ·rw[fP e,decide_eq_false e,Bool.false_or];exact kG k r
theorem dq(kvs:List (κ×V))(k:κ)(v:V):(putK kvs k v).length<=kvs.length+1:=by
 unfold putK
 split
 ·rw[LJ];omega
 ·rw[Lw,Lz,Np];omega
theorem mL.isSome_eq{o:Option V}{u:Option LB}(r:mL o u):o.isSome=u.isSome:=by
 cases o with
 | none=>cases u with
  | none=>rfl
  | some _=>exact(show False from r).elim
 | some _=>cases u with
  | none=>exact(show False from r).elim
  | some _=>rfl
theorem KV.val{kvs:List (κ×V)}{vs:List (κ×LB)}(r:KV kvs vs)(k:κ):mL (jG kvs k) (Mq vs k):=by
 unfold KV at r
 induction r with
 | nil=>exact N7
 | @cons p q ps qs h t ih=>
  obtain⟨h1,h2⟩:=h
  by_cases e:p.1=k
  ·have e':q.1=k:=h1.symm.trans e
   have b:Mq (q::qs) k=some q.2:=by simp[Mq,N2,e']
   rw[iV e,b];exact h2
  ·have e':¬ q.1=k:=fun z=>e (h1.trans z)
   have b:Mq (q::qs) k=Mq qs k:=by simp[Mq,N2,e']
   rw[fP e,b];exact ih
theorem KV.any{kvs:List (κ×V)}{vs:List (κ×LB)}(r:KV kvs vs)(k:κ):(kvs.any fun kv=>decide (kv.1=k))=vs.any fun kv=>decide (kv.1=k):=by
 unfold KV at r
 induction r with
 | nil=>rfl
 | cons h t ih=>rw[Mp,Mp,ih,h.1]
theorem KV.repl{kvs:List (κ×V)}{vs:List (κ×LB)}(r:KV kvs vs)(k:κ){y:V}{u:LB}(ry:RelV y u) :
  KV (kvs.map fun kv=>if kv.1=k then (kv.1,y) else kv) (vs.map fun kv=>if kv.1=k then (kv.1,u) else kv):=by
 unfold KV at r ⊢
 induction r with
 | nil=>exact .nil
 | @cons p q ps qs h t ih=>
  rw[LH,LH];refine .cons ?_ ih;obtain⟨h1,h2⟩:=h
  by_cases e:p.1=k
  ·rw[if_pos e,if_pos (h1.symm.trans e)];exact⟨h1,ry⟩
  ·rw[if_neg e,if_neg (fun z=>e (h1.trans z))];exact⟨h1,h2⟩
theorem KV.put{kvs:List (κ×V)}{vs:List (κ×LB)}(r:KV kvs vs)(k:κ){y:V}{u:LB}(ry:RelV y u):KV (putK kvs k y) (Rc vs k u):=by
 unfold putK Rc;rw[r.any k]
 by_cases e:(vs.any fun kv=>decide (kv.1=k))=true
 ·rw[if_pos e,if_pos e];exact r.repl k ry
 ·rw[if_neg e,if_neg e];exact Paired.snoc r ⟨rfl,ry⟩
theorem KV.length{kvs:List (κ×V)}{vs:List (κ×LB)}(r:KV kvs vs):kvs.length=vs.length:=MF r
end
theorem lR{P:Ll}{w:Lx}{k:Key}{u:LB}(r:RelV (kV k) u):(aq P w).is k u=true:=by
 cases k with
 | inl i=>obtain⟨t,e⟩:=(show ∃t,u=Si i t from r);subst e;exact qW P w i t
 | inr x=>obtain⟨t,e⟩:=(show ∃t,u=Sh x t from r);subst e;exact gb P w x t
theorem pR{P:Ll}{w:Lx}:∀{ks:List Key}{us:List LB},Vals (ks.map kV) us->ItemsAre (aq P w) ks us
 | [],_,r=>by rw[NR] at r;cases r;exact .nil
 | k::ks,_,r=>by
  rw[LH] at r;cases r with
  | cons h t=>exact .cons (lR h) (pR t)
abbrev KT(H:Hp):List (bW×V)->List (bW×Addr×LB)->Prop:=Ri fun p q=>p.1=q.1/\fm H q.2.1 p.1/\RelV p.2 q.2.2
theorem KT.val{H:Hp}{kvs:List (bW×V)}{xs:List (bW×Addr×LB)}(r:KT H kvs xs)(k:bW):mL (jG kvs k) ((Pb xs k).map (·.2)):=by
 induction r with
 | nil=>exact N7
 | @cons p q ps qs h t ih=>
  obtain⟨h1,_,h2⟩:=h
  by_cases e:p.1=k
  ·have e':q.1=k:=h1.symm.trans e
   have b:Pb (q::qs) k=some q.2:=by simp[Pb,N2,e']
   rw[iV e,b];exact h2
  ·have e':¬ q.1=k:=fun z=>e (h1.trans z)
   have b:Pb (q::qs) k=Pb qs k:=by simp[Pb,N2,e']
   rw[fP e,b];exact ih
theorem KT.repl{H:Hp}{kvs:List (bW×V)}{xs:List (bW×Addr×LB)}(r:KT H kvs xs)(k:bW){y:V}{u:LB}(ry:RelV y u) :
  KT H (kvs.map fun kv=>if kv.1=k then (kv.1,y) else kv) (xs.map (putAt k u)):=by
 induction r with
 | nil=>exact .nil
 | @cons p q ps qs h t ih=>
  rw[LH,LH];refine .cons ?_ ih;obtain⟨h1,h2,h3⟩:=h;unfold putAt
  by_cases e:p.1=k
  ·rw[if_pos e,if_pos (h1.symm.trans e)];exact⟨h1,h2,ry⟩
  ·rw[if_neg e,if_neg (fun z=>e (h1.trans z))];exact⟨h1,h2,h3⟩
theorem KT.put{H:Hp}{kvs:List (bW×V)}{xs:List (bW×Addr×LB)}(r:KT H kvs xs)(k:bW){b:Addr}{y:V}{u:LB}(hb:fm H b k)(ry:RelV y u) :
  KT H (putK kvs k y) (storedH xs k b u):=by
 have e:(kvs.any fun kv=>decide (kv.1=k))=(Pb xs k).isSome:=by
  rw[kG,(r.val k).isSome_eq,Pz]
 unfold putK storedH;rw[e]
 by_cases q:(Pb xs k).isSome=true
 ·rw[if_pos q,if_pos q];exact r.repl k ry
 ·rw[if_neg q,if_neg q];exact Paired.snoc r ⟨rfl,hb,ry⟩
theorem KT.keeps{H H':Hp}{kvs:List (bW×V)}{xs:List (bW×Addr×LB)}(r:KT H kvs xs)(ht:∀b ys,H b=some (.tup ys)->H' b=some (.tup ys)):KT H' kvs xs:=
 Paired.mapP r fun _ _ z=>⟨z.1,z.2.1.keeps ht,z.2.2⟩
section
variable{P : Ll}{w : Lx}{H : Hp}{h : Heap}{a : Addr}
theorem Ey{u:HO}(ok:HOk P w H h)(e:Rd H a u):dU P w H h a u:=e.ok ok
theorem xn{kvs:List (Key×V)}(ok:HOk P w H h)(e:Rd H a (.dK kvs)):kvs.length<=sizeLine/\(a == MH)=false/\∃vs,KV kvs vs/\h.DictOf (aq P w) a vs:=
 show dU P w H h a (.dK kvs) from Ey ok e
theorem Dg{kvs:List (Key×V)}(ok:HOk P w H h)(e:H a=some (.dK kvs)):kvs.length<=sizeLine/\(a == MH)=false/\∃vs,KV kvs vs/\h.DictOf (aq P w) a vs:=xn ok (.inl e)
theorem D3{ks:List Key}(ok:HOk P w H h)(e:H a=some (.tup (ks.map kV))):QW (aq P w) h ks a:=by
 obtain⟨_,its,r,o,h1,h2,⟨n,h3⟩,_⟩:=(show dU P w H h a (.tup (ks.map kV)) from ok a _ e);exact⟨o,its.toArray,n,h1,h2,h3,by simpa using pR r⟩
theorem lK(ok:HOk P w H h):∀{ks:bW}{vs:List V}{us:List LB},NV H ks vs->Vals vs us->NItems (aq P w) h ks us
 | [],_,_,e,r=>by cases e;cases r;exact .nil
 | .inl k::ks,_,_,⟨t,e,m⟩,r=>by
  subst e;cases r with
  | cons h1 h2=>exact .sc (lR h1) (lK ok m h2)
 | .inr l::ks,_,_,⟨c,t,e,hc,m⟩,r=>by
  subst e;cases r with
  | cons h1 h2=>cases h1;exact .tp (D3 ok hc) (lK ok m h2)
theorem key_of{ks:bW}(ok:HOk P w H h)(e:fm H a ks):(g8 P w).is h ks a:=by
 obtain⟨vs,e,m⟩:=e;obtain⟨_,its,r,o,h1,h2,⟨n,h3⟩,_⟩:=(show dU P w H h a (.tup vs) from ok a _ e);exact⟨o,its.toArray,n,h1,h2,h3,by simpa using lK ok m r⟩
theorem jg{A:M6}(hu:A.units+16<cLine):A.in1.units+8<cLine:=show A.units+1+8<cLine by omega
theorem rG{kvs:List (bW×V)}(ok:HOk P w H h)(e:Rd H a (.dT kvs)):kvs.length<=sizeLine/\(a == MH)=false/\
  ∃xs,KT H kvs xs/\h.DictOfH (g8 P w) a xs:=by
 obtain⟨z,y,xs,r,o,es,ep,h1,h2,h3,h4,h5⟩:=(show dU P w H h a (.dT kvs) from Ey ok e);refine⟨z,y,xs,r,o,es,ep,h1,h2,h3,h4,fun x hx=>?_,h5⟩
 have all:∀{l:List (bW×V)}{m:List (bW×Addr×LB)},KT H l m->∀x∈m,(g8 P w).is h x.1 x.2.1:=by
  intro l m q
  induction q with
  | nil=>intro x hx;exact nomatch hx
  | @cons p q ps qs hq t ih=>
   intro x hx;rcases LX.mp hx with e | hx
   ·subst e
    exact key_of ok (by rw[← hq.1];exact hq.2.1)
   ·exact ih x hx
 exact all r x hx
theorem Df{kvs:List (bW×V)}(ok:HOk P w H h)(e:H a=some (.dT kvs)):kvs.length<=sizeLine/\(a == MH)=false/\
  ∃xs,KT H kvs xs/\h.DictOfH (g8 P w) a xs:=rG ok (.inl e)
end
def GB(H:Hp)(a:Addr)(y:V)(r:Option V):Prop:=
 (∃kvs k,Rd H a (.dK kvs)/\y=kV k/\r=jG kvs k)\/∃kvs k b,Rd H a (.dT kvs)/\y=.ref b/\fm H b k/\r=jG kvs k
def Bj(H:Hp)(a:Addr)(y v:V)(H':Hp):Prop:=
 (∃kvs k,H a=some (.dK kvs)/\y=kV k/\kvs.length<sizeLine/\H'=upd H a (.dK (putK kvs k v))) ∨
 ∃kvs k b,H a=some (.dT kvs)/\y=.ref b/\fm H b k/\kvs.length<sizeLine/\H'=upd H a (.dT (putK kvs k v))
theorem Bj.k{H:Hp}{a:Addr}{kvs:List (Key×V)}{k:Key}{v:V}(e:H a=some (.dK kvs))(hl:kvs.length<sizeLine):Bj H a (kV k) v (upd H a (.dK (putK kvs k v))):=.inl ⟨kvs,k,e,rfl,hl,rfl⟩
theorem Bj.t{H:Hp}{a b:Addr}{kvs:List (bW×V)}{k:bW}{v:V}(e:H a=some (.dT kvs))(eb:fm H b k)(hl:kvs.length<sizeLine) :
  Bj H a (.ref b) v (upd H a (.dT (putK kvs k v))):=.inr ⟨kvs,k,b,e,rfl,eb,hl,rfl⟩
section
variable{X : Cx}{pins : List (Addr×Mu)}{σ : St}{H : Hp}{s : LF}{a : Addr}{y v : V}{u r : LB}{o : Option V}{A : M6}{E : LB → LF → Prop}
theorem Inv.big(I:Inv X pins σ H s):MH<s.heap.objs.size:=by
 have h:mainGlobals<s.heap.objs.size:=(I.mod.glob.keeps I.bk).lt;exact Nat.lt_trans (by decide) h
theorem xx{Q:LB->LF->Prop}(hu:A.units+16<cLine)(I:Inv X pins σ H s)(g:GB H a y (some v))(ry:RelV y u)(h:∀w' s',Inv X pins σ H s'->RelV v w'->Q w' s') :
  Ln (M4 X.prog X.w) A (Q9 (.ref a) u) Q E s:=by
 rcases g with⟨kvs,k,e,ey,l⟩|⟨kvs,k,b,e,ey,eb,l⟩
 ·subst ey
  obtain⟨z,hd,vs,rel,dd⟩:=xn I.hok e;obtain⟨w',hw,rw'⟩:=mL.some_of (v:=v) (o:=Mq vs k) (by rw[l];exact rel.val k);exact wpAny_getItem_of (lR ry) dd.mapOf hw (h w' _ (I.tok _) rw')
 ·subst ey
  cases (show u=Mv b from ry);obtain⟨z,hd,xs,rel,dd⟩:=rG I.hok e;obtain⟨w',hw,rw'⟩:=mL.some_of (v:=v) (o:=(Pb xs k).map (·.2)) (by rw[l];exact rel.val k);obtain⟨p,hp,hp2⟩:=LK.mp hw;refine wpAny_getItem_heap (jg hu) (key_of I.hok eb) dd hp ?_;rw[hp2];exact h w' _ (I.tok _) rw'
theorem Di{Q:LB->LF->Prop}(hu:A.units+16<cLine)(I:Inv X pins σ H s)(g:GB H a y o)(ry:RelV y u)(h:∀s',Inv X pins σ H s'->Q (.bool (!o.isSome)) s') :
  Ln (M4 X.prog X.w) A (MI .NotIn u (.ref a)) Q E s:=by
 rcases g with⟨kvs,k,e,ey,l⟩|⟨kvs,k,b,e,ey,eb,l⟩
 ·subst ey
  obtain⟨z,hd,vs,rel,dd⟩:=xn I.hok e;refine wpAny_notIn_of (lR ry) hd dd.mapOf ?_;rw[← (rel.val k).isSome_eq,← l];exact h _ (I.tok _)
 ·subst ey
  cases (show u=Mv b from ry);obtain⟨z,hd,xs,rel,dd⟩:=rG I.hok e;refine wpAny_notIn_heap (jg hu) (key_of I.hok eb) hd dd ?_;have q:=(rel.val k).isSome_eq;rw[Pz] at q;rw[← q,← l];exact h _ (I.tok _)
theorem kf{h':Heap}{t':Nat}{ob:HO}(I:Inv X pins σ H s)(mu:Mut (H a))(hs:NK a s.heap h')(he:∃q,h'.get? a=some q)(new:dU X.prog X.w (upd H a ob) h' a ob) :
  Inv X pins σ (upd H a ob) { s with heap:=h',toks:=t' }:=
 I.write (x:=a) (e:=a) mu (.inl rfl) (fun b q hb z=>(hs.2 b hb).trans z) he new
theorem xo{P:Ll}{w:Lx}{H':Hp}{h':Heap}{kvs:List (Key×V)}{vs:List (Key×LB)}(z:kvs.length<=sizeLine)(hd:(a == MH)=false)(rel:KV kvs vs)(dd:h'.DictOf (aq P w) a vs) :
  dU P w H' h' a (.dK kvs):=⟨z,hd,vs,rel,dd⟩
theorem xw{H':Hp}{Q:Unit->LF->Prop}(hu:A.units+16<cLine)(I:Inv X pins σ H s)(g:Bj H a y v H')(ry:RelV y u)(rv:RelV v r)(h:∀s',Inv X pins σ H' s'->Q () s') :
  Ln (M4 X.prog X.w) A (setItem (.ref a) u r) Q E s:=by
 rcases g with⟨kvs,k,e,ey,l,eH⟩|⟨kvs,k,b,e,ey,eb,l,eH⟩
 ·subst ey eH
  obtain⟨z,hd,vs,rel,dd⟩:=Dg I.hok e;have hz:vs.length<=sizeLine:=by rw[← rel.length];exact z
  have hl:(putK kvs k v).length<=sizeLine:=by have:=dq kvs k v;omega
  refine wpAny_setItem_pairs (hsz:=hz) (lR ry) dd fun h' dd' hs=>h _ ?_;have he:∃q,h'.get? a=some q:=let ⟨q,_,_,hq,_⟩:=dd';⟨q,hq⟩
  exact kf I (by rw[e];exact N7) hs he (xo hl hd (rel.put k rv) dd')
 ·subst ey eH
  cases (show u=Mv b from ry);obtain⟨z,hd,xs,rel,dd⟩:=Df I.hok e;have hz:xs.length<=sizeLine:=by rw[← MF rel];exact z
  have hl:(putK kvs k v).length<=sizeLine:=by have:=dq kvs k v;omega
  refine wpAny_setItem_heap (hsz:=hz) (jg hu) (key_of I.hok eb) dd fun h' dd' hs=>h _ ?_;obtain⟨q,es,ep,hq,h2,h3,h4,_,h5⟩:=dd';refine kf I (by rw[e];exact N7) hs ⟨q,hq⟩ ⟨hl,hd,_,(rel.put k eb rv).keeps fun c ys ec=>?_,q,es,ep,hq,h2,h3,h4,h5⟩;rw[aA (Ci ec e (fun z=>nomatch z))];exact ec
end
theorem rH {X:Cx} {pins:List (Addr×Mu)} {σ:St} {H:Hp} {s:LF} {a:Addr} {y:V} {o:Option V} (I:Inv X pins σ H s) (g:GB H a y o):s.TypeIs (.ref a) "dict":=by
 rcases g with⟨kvs,k,e,_,_⟩|⟨kvs,k,b,e,_,_,_⟩
 ·obtain⟨_,_,vs,_,dd⟩:=xn I.hok e
  exact dd.typeIs
 ·obtain⟨_,_,xs,_,dd⟩:=rG I.hok e
  exact dd.typeIs
def HK(td ty tv:TE):TS:=fun D σ H=>tv σ H fun v H1=>td σ H1 fun x H2=>ty σ H2 fun y H3=>∃a H4,x=.ref a/\Bj H3 a y v H4/\D.nx σ H4
section
variable{X : Cx}{o i e value : Expr}{pos pos' tpos : N8}{td ty tv : TE}
theorem vy(hu:X.A.units+16<cLine)(ho:PE X o td)(hi:PE X i ty)(hv:PE X value tv)(hs:P3 value (some (.Subscript o i pos')) pos.line X.env=pure false) :
  PS X (.Assign [.Subscript o i pos'] value pos) (HK td ty tv):=by
 intro pins s σ H D I h;refine wpAny_Assign_Subscript (thn (hv pins s σ H _ I h) fun r s1 ⟨v,H1,I1,rv,q1⟩=>thn (ho pins s1 σ H1 _ I1 q1) fun u s2 ⟨x,H2,I2,rx,q2⟩=>thn (hi pins s2 σ H2 _ I2 q2) fun iv s3 ⟨y,H3,I3,ry,a,H4,ex,g,q3⟩=>?_) hs;subst ex;obtain rfl:u=Mv a:=rx;exact xw hu I3 g ry rv fun s4 I4=>⟨σ,H4,I4,q3⟩
end
theorem tm {P:Ll} {w:Lx} {H:Hp} (h:Heap) (hb:MH<h.objs.size):dU P w H (h.push { cls:=.type "dict",data:=.dict #[] }) h.objs.size (.dK []):=
 ⟨N0 _,beq_eq_false_iff_ne.mpr (OA (M1 hb)),[],.nil,RB h⟩
theorem tf {P:Ll} {w:Lx} {H:Hp} (h:Heap) (hb:MH<h.objs.size):dU P w H (h.push { cls:=.type "dict",data:=.dict #[] }) h.objs.size (.dT []):=
 ⟨N0 _,beq_eq_false_iff_ne.mpr (OA (M1 hb)),[],.nil,_,#[],0,Ls _ rfl,⟨rfl,rfl,rfl⟩,rfl,rfl,List.nodup_nil⟩
def El:TE:=fun _ H Q=>∀p,H p=none->Q (.ref p) (upd H p (.dK []))
def Ek:TE:=fun _ H Q=>∀p,H p=none->Q (.ref p) (upd H p (.dT []))
section
variable{X : Cx}{pos : N8}
theorem zk:PE X (.Dict [] [] pos) El:=fun pins s σ H Q I h=>
 wpAny_Dict_empty ⟨.ref s.heap.objs.size,_,I.laid (a:=s.heap.objs.size) (o:=.dK []) (t':=s.toks) (fun _ _ q=>LP _ q) (LY _) (tm s.heap I.big),rfl,h _ (I.hok.fresh (LY _))⟩
theorem zj:PE X (.Dict [] [] pos) Ek:=fun pins s σ H Q I h=>
 wpAny_Dict_empty ⟨.ref s.heap.objs.size,_,I.laid (a:=s.heap.objs.size) (o:=.dT []) (t':=s.toks) (fun _ _ q=>LP _ q) (LY _) (tf s.heap I.big),rfl,h _ (I.hok.fresh (LY _))⟩
end
def rV:List (TE×TE)->St->Hp->(List (V×V)->Hp->Prop)->Prop
 | [],_,H,Q=>Q [] H
 | (tk,tv)::r,σ,H,Q=>tk σ H fun x H1=>tv σ H1 fun y H2=>rV r σ H2 fun ps H3=>Q ((x,y)::ps) H3
abbrev VV:List (V×V)->List (LB×LB)->Prop:=Ri fun p q=>RelV p.1 q.1/\RelV p.2 q.2
def PPs(X:Cx)(pos:N8)(keys:List (Option Expr))(values:List Expr)(trs:List (TE×TE)):Prop:=
 ∀(pins:List (Addr×Mu))(s:LF)(σ:St)(H:Hp)(Q:List (V×V)->Hp->Prop),Inv X pins σ H s->rV trs σ H Q->
  Ln (M4 X.prog X.w) X.A (evalPairs (pairTrees keys values X.env pos)) (fun vs s'=>∃ps H',Inv X pins σ H' s'/\VV ps vs/\Q ps H') X.xe s
theorem vz{X:Cx}{pos:N8}:PPs X pos [] [] []:=fun pins s σ H Q I h=>pairTrees_nil_walk ⟨[],H,I,.nil,h⟩
theorem sh{X:Cx}{pos:N8}{k v:Expr}{ks:List (Option Expr)}{vs:List Expr}{tk tv:TE}{trs:List (TE×TE)}(hk:PE X k tk)(hv:PE X v tv)(hr:PPs X pos ks vs trs) :
  PPs X pos (some k::ks) (v::vs) ((tk,tv)::trs):=fun pins s σ H Q I h=>
 pairTrees_cons_walk (thn (hk pins s σ H _ I h) fun u s1 ⟨x,H1,I1,rx,q1⟩=>thn (hv pins s1 σ H1 _ I1 q1) fun w2 s2 ⟨y,H2,I2,ry,q2⟩=>
  thn (hr pins s2 σ H2 _ I2 q2) fun ws s3 ⟨ps,H3,I3,rel,q3⟩=>⟨(x,y)::ps,H3,I3,.cons ⟨rx,ry⟩ rel,q3⟩)
def fH(kvs more:List (Key×V)):List (Key×V):=more.foldl (fun acc kv=>putK acc kv.1 kv.2) kvs
theorem KV.merge:∀{more:List (Key×V)}{rs:List (Key×LB)}{kvs:List (Key×V)}{vs:List (Key×LB)},KV more rs->KV kvs vs->KV (fH kvs more) (merged vs rs):=by
 intro more rs kvs vs r;unfold KV at r
 induction r generalizing kvs vs with
 | nil=>intro q;exact q
 | @cons p q ps qs h t ih=>
  intro r0
  have e:KV (putK kvs p.1 p.2) (Rc vs q.1 q.2):=by
   have:=r0.put p.1 h.2;rw[← h.1];exact this
  exact ih e
theorem jj:∀(more kvs:List (Key×V)),(fH kvs more).length<=kvs.length+more.length
 | [],kvs=>by show kvs.length<=kvs.length+0;omega
 | p::r,kvs=>by
  have h1:=jj r (putK kvs p.1 p.2);have h2:=dq kvs p.1 p.2;show (fH (putK kvs p.1 p.2) r).length<=_;rw[Lz];omega
theorem nM{P:Ll}{w:Lx}:∀{kvs:List (Key×V)}{ws:List (LB×LB)},VV (kvs.map fun kv=>(kV kv.1,kv.2)) ws->∃rs,Carries (aq P w) ws rs/\KV kvs rs
 | [],_,r=>by rw[NR] at r;cases r;exact⟨[],N7,.nil⟩
 | p::kvs,_,r=>by
  rw[LH] at r;cases r with
  | @cons a b as bs h t=>
   obtain⟨rs,c,q⟩:=nM (P:=P) (w:=w) t;obtain⟨b1,b2⟩:=b;exact⟨(p.1,b2)::rs,⟨lR h.1,rfl,c⟩,.cons ⟨rfl,h.2⟩ q⟩
def HC(trs:List (TE×TE)):TE:=fun σ H Q=>∀p,H p=none->rV trs σ (upd H p (.dK [])) fun ps H2=>H2 p=some (.dK [])/\∃kvs:List (Key×V),ps=kvs.map (fun kv=>(kV kv.1,kv.2))/\kvs.length<=15/\Q (.ref p) (upd H2 p (.dK (fH [] kvs)))
theorem BZ{X:Cx}{pos:N8}{keys:List (Option Expr)}{values:List Expr}{trs:List (TE×TE)}(h:PPs X pos keys values trs)(hall:keys.all (·.isSome)=true)(hl:keys.length=values.length)(h0:keys≠[])
  (h15:keys.length<=15):PE X (.Dict keys values pos) (HC trs):=by
 intro pins s σ H Q I q;have hn:=I.hok.fresh (LY s.heap.objs.size);have I1:=I.laid (a:=s.heap.objs.size) (o:=.dK []) (h':=s.heap.push { cls:=.type "dict",data:=.dict #[] }) (t':=s.toks) (fun _ _ q=>LP _ q) (LY _) (tm s.heap I.big);refine wpAny_Dict_walk (knd:=aq X.prog X.w) hall hl h0 h15 (thn (h pins _ σ _ _ I1 (q _ hn)) fun ws s2 ⟨ps,H2,I2,rel,e,kvs,ep,lk,q2⟩=>?_);subst ep;obtain⟨rs,c,rk⟩:=nM (P:=X.prog) (w:=X.w) rel;obtain⟨z,hd,vs0,r0,dd⟩:=Dg I2.hok e;cases r0;refine⟨rs,c,dd,fun h' dd' hs=>⟨.ref s.heap.objs.size,_,?_,rfl,q2⟩⟩
 have hz:(fH [] kvs).length<=sizeLine:=by
  have h1:=jj kvs [];rw[Np] at h1;rw[MC];omega
 have he:∃q,h'.get? s.heap.objs.size=some q:=let ⟨q,_,_,hq,_⟩:=dd';⟨q,hq⟩
 exact kf I2 (by rw[e];exact N7) hs he (xo hz hd (rk.merge .nil) dd')
end L2
namespace Att
open PySem PySem.W PySem.Calls PyProof.Rows
theorem lT{P:Params}{h:Heap}:∀(ns:List Int)(vs:List LB),WellAll P h vs (ns.map WData.int)->Sm vs ns:=by
 intro ns
 induction ns with
 | nil=>
  intro vs w;rw[NR] at w;cases w;exact .nil
 | cons n ns ih=>
  intro vs w;rw[LH] at w;cases w with
  | cons a b=>
   cases a;exact .cons _ _ (ih _ b)
theorem vd{l:OpenLaw}{n:Nat}(hn:l.most=some n){P:Params}{h:Heap}{args:List WData}{vals:List LB}
  (hpre:l.row.toRowW.claim.pre args=true) (hwl:WellAll P h vals args) :
  ∃a vs ns,vals=[Mv a]/\args=[WData.list (ns.map WData.int)]/\h.get? a=some { cls:=.type "list",data:=.seq vs.toArray }/\Sm vs ns/\ns.length<=n:=by
 have hsh:WShape.hasAll [] args [.list .int]=true:=(pre_splitW hpre).1;have hc:l.pre.holds [] { args:=args }=true:=(pre_splitW hpre).2;obtain⟨d,r,rfl,h1,h2⟩:=hasAllW_cons hsh;obtain rfl:=hasAllW_nil h2;obtain⟨xs,rfl,h3⟩:=hasW_list h1;obtain⟨ns,rfl⟩:=items_int h3
 have hlen:ns.length<=n:=by
  unfold OpenLaw.pre at hc
  have h4:(WTm.not (.lt (.lit (.int (n:Int))) (.len (.arg 0)))).holds [] { args:=[.list (ns.map .int)] }=true:=by
   have h4:=(holds_andW hc).1;rw[hn] at h4;exact h4
  have h5:=condW_of h4 (w_not (w_lt w_lit (w_len_list (w_arg rfl))));rw[LJ] at h5;refine Nat.le_of_not_lt fun q=>?_;have q':(n:Int)<((ns.length:Nat):Int):=by omega
  first
   | (rw[decide_eq_true q'] at h5;exact absurd h5 (by decide))
   | (simp at h5;omega)
 cases hwl with
 | cons w1 w2=>
  cases w2;cases w1 with
  | list ho hall=>exact⟨_,_,ns,rfl,rfl,ho,lT ns _ hall,hlen⟩
theorem vA(l:OpenLaw)(args:List WData):l.row.toRowW.claim.post args (.bool true) args=true:=
 postW_of (r:=l.row.toRowW) (X:=(true == true))
  (show WShape.has [] (.bool true) .bool=true by first | rfl | decide | simp[WShape.has,WShape.arms,WShape.armsAll])
  (show (WTm.eq .res (.lit (.bool true))).value [] { args:=args,res:=some (.bool true),after:=args }=some (.bool (true == true)) from w_eq_bool (w_res rfl) w_lit) rfl
theorem attach_call{l:OpenLaw}{n:Nat}{q:Ll}{loose:List Str}{XP:(Str->Option LB)->Heap->Prop}{YP:Lx->Heap->Prop}{d:DefRec}
  (hn:l.most=some n) (hdf:d.params.defaults=[])
  (call:∀(w:Lx)(s₀ s₁:LF)(mg mb:Str->Option LB)(fa:Addr)(o:Mu)(pm cd doc:LB)(a:Addr)(vs:List LB)(ns:List Int),
   Ground q loose [] XP w s₀ mg mb s₁.heap->YP w s₁.heap->
   s₁.heap.get? fa=some o->o.data=.func (docDef d.name d.params d.body d.scope pm cd doc)->s₁.heap.CodeRec cd d.name->mg d.name=some (.ref fa)->
   s₁.heap.get? a=some { cls:=.type "list",data:=.seq vs.toArray }->Sm vs ns->ns.length<=n->s₁.gens=#[]->
   Oz (M4 l.prog w) Qd (.call (.ref fa) ⟨[.ref a],[]⟩) (fun r s'=>r=.ok (.ret (.bool true))/\OldK s₁.heap s'.heap/\s'.os=s₁.os/\Pm s'.gens) s₁) :
  WalkO q loose XP YP l.row.toRowW d [] (fun f vs=>SA f vs):=by
 intro w s₀ s₁ mg mb G Y fa o pm cd doc dV kV ho hd hcd hD hmg hg args vals as hpre hlay hrd hwl hlo;obtain rfl:dV=.none:=Dflts.none hD hdf;obtain rfl:kV=.none:=Dflts.noKw hD;obtain⟨a,vs,ns,rfl,rfl,hobj,hints,hlen⟩:=vd hn hpre hwl;refine enter_call (Oy (call w s₀ s₁ mg mb fa o pm cd doc a vs ns G Y ho (fd_plain hd) hcd hmg hobj hints hlen hg) fun r s' hq=>?_);obtain⟨rfl,h2,h3,h4⟩:=hq;exact⟨.inl ⟨.bool true,.bool true,[],rfl,fun _=>rfl,.bool true,vA l _,fun _=>⟨List.Pairwise.nil,fun _ hm=>(nomatch hm)⟩⟩,h2,h3,h4⟩
end Att
namespace L2
open PySem PySem.Spec PyProof.Rows
theorem oU:∀{vs:List LB}{ns:List Int},Sm vs ns->Vals (ns.map V.int) vs
 | _,_,.nil=>.nil
 | _,_,.cons n t h=>.cons ⟨t,rfl⟩ (oU h)
end L2
namespace L2
open PySem PySem.Spec PyProof.Rows
def eR(s:Stmt):Arguments:=match s with
 | .FunctionDef _ a _ _ _ _ _ _ _ _=>a
 | _=>{ posonlyargs:=[],args:=[],vararg:=none,kwonlyargs:=[],kw_defaults:=[],kwarg:=none,defaults:=[] }
def bH(s:Stmt):List Stmt:=match s with
 | .FunctionDef _ _ b _ _ _ _ _ _ _=>b
 | _=>[]
def aa(s:Stmt):Scope:=match s with
 | .FunctionDef _ _ _ _ _ _ sc _ _ _=>sc
 | _=>{ kind:=.function,names:=[],isGenerator:=false,isCoroutine:=false }
abbrev CX0:CXT:=fun _ _ _ _ _ _=>False
abbrev E0:XK:=fun _ _ _=>False
theorem F3{X:Cx}:Passes CX0 X E0:=fun _ _ _ _ _ _ _ h=>h.elim
structure Fun(K:LA)(x qual:Str)(st:Stmt)(f:Addr)(fd:Mx):Prop where
 ex:∃(oc:LB)(od:Option Addr)(kV doc pm:LB)(an:Option Addr)(cdv ct:LB)(osl:Array (Option LB)),
  fd=Mn x qual (eR st) (bH st) (aa st) .none kV doc pm an cdv ct/\K.lookup f=some ⟨oc,od,.func fd,osl⟩/\Nr K cdv qual=true
 kp:N5 K (.ref f)=true
section
variable{P : Ll}{w : Lx}{K : LA}{mg : Str → Option LB}{base : Heap}
theorem Fun.ok{x qual:Str}{st:Stmt}{f:Addr}{fd:Mx}{N ps:List Str}{k:Nat}{sp:Sp}(F:Fun K x qual st f fd)(S:FnScope N ps (aa st))(len:∀vs H Q E,sp vs H Q E->vs.length=ps.length)
  (hbody:∀(cdv:LB)(A:M6)(outer:List QO)(s:LF)(H:Hp)(vs:List V)(Q:VK)(E:XK),Room k (A.deeper (Oh qual (aa st) s.heap.objs.size f cdv))->sp vs H Q E->
   ∃t,PSs (Ba CX0 P w K mg base N qual (aa st) f cdv A outer s H E).nox (bH st) t/\t { nx:=fun _ H'=>Q .non H',rt:=Q } (start N vs) H):FnOk P w K mg base CX0 (k+1) f fd ps sp:=by
 obtain⟨oc,od,kV,doc,pm,an,cdv,ct,osl,rfl,lk,hcd⟩:=F.ex;refine G8 lk hcd S len fun A outer s H vs Q E hr hsp=>?_;obtain⟨t,h,q⟩:=hbody cdv A outer s H vs Q E hr hsp;exact⟨t,h.nox,q⟩
theorem Fun.binds{x qual:Str}{st:Stmt}{f:Addr}{fd:Mx}{ps:List Str}(F:Fun K x qual st f fd)
  (h:∀(kV doc pm:LB)(an:Option Addr)(cdv ct:LB)(us:List LB),us.length=ps.length->Qf (Mn x qual (eR st) (bH st) (aa st) .none kV doc pm an cdv ct) ⟨us,[]⟩=pure (ps.zip us)):Binds K fd ps []:=by
 obtain⟨oc,od,kV,doc,pm,an,cdv,ct,osl,rfl,lk,hcd⟩:=F.ex;exact .all (h kV doc pm an cdv ct)
theorem wW{x qual:Str}{st:Stmt}{f:Addr}{oc:LB}{od an:Option Addr}{osl:Array (Option LB)}{kV doc pm cdv ct:LB}(l:K.lookup f=some ⟨oc,od,.func (Mn x qual (eR st) (bH st) (aa st) .none kV doc pm an cdv ct),osl⟩)
  (c:Nr K cdv qual=true) (k:N5 K (.ref f)=true):Fun K x qual st f (Mn x qual (eR st) (bH st) (aa st) .none kV doc pm an cdv ct):=⟨⟨oc,od,kV,doc,pm,an,cdv,ct,osl,rfl,l,c⟩,k⟩
end
theorem DL{A B:Prop}(h:B):if false=true then A else B:=by
 rw[if_neg LW];exact h
theorem DK{A B:Prop}(h:A):if true=true then A else B:=by
 rw[if_pos rfl];exact h
end L2
end
namespace PU
theorem zH(s:PySem.Str)(l:List PySem.Str):PySem.Txt.join s l=Pk s l:=PySem.StrLaws.glued_eq_join s l
end PU
section
namespace PU
open PySem L2
structure Lam where
 qual:Str
 args:Arguments
 body:Expr
 scope:Scope
 kept:List Str
inductive PV where
 | non | bl (b:Bool) | int (i:Int) | str (x:Str)
 | tup (ps:List PV) | lst (ps:List PV)
 | dct (ks:List Key) (ps:List PV) | dtt (ks:List bW) (ps:List PV)
 | fn (L:Lam) (cs:List PV)
structure PX where
 cls:Str
 args:List PV
inductive R (α:Type) where
 | ok (a:α) | er (x:PX) | no
namespace R
protected def bind{α β:Type}:R α->(α->R β)->R β
 | ok a,f=>f a
 | er x,_=>er x
 | no,_=>no
instance:Monad R where
 pure:=R.ok
 bind:=R.bind
@[simp] theorem ok_bind{α β:Type}(a:α)(f:α->R β):(R.ok a >>= f)=f a:=rfl
@[simp] theorem IV{α β:Type}(x:PX)(f:α->R β):((R.er x:R α) >>= f)=R.er x:=rfl
@[simp] theorem Im{α β:Type}(f:α->R β):((R.no:R α) >>= f)=R.no:=rfl
@[simp] theorem HV{α:Type}(a:α):(pure a:R α)=R.ok a:=rfl
def ofO{α:Type}:Option α->R α
 | some a=>ok a
 | none=>no
@[simp] theorem ofO_some{α:Type}(a:α):ofO (some a)=R.ok a:=rfl
@[simp] theorem ofO_none{α:Type}:ofO (none:Option α)=R.no:=rfl
theorem bind_assoc{α β γ:Type}(r:R α)(f:α->R β)(g:β->R γ):((r >>= f) >>= g)=(r >>= fun a=>f a >>= g):=by cases r <;> rfl
end R
inductive Sl where
 | no | val (p:PV) | own (p:PV) | pin (ps:List PV) (a:Nat)
abbrev PSt:=List Sl
def a8(i:Nat)(ρ:PSt):R PV:=match ρ[i]? with
 | some (.val p)=>.ok p
 | _=>.no
def lX(i:Nat)(ρ:PSt):R PV:=match ρ[i]? with
 | some (.val p)=>.ok p
 | some (.own p)=>.ok p
 | some (.pin ps _)=>.ok (.lst ps)
 | _=>.no
def kI(i:Int):PSt->R PV:=fun _=>.ok (.int i)
def kB(b:Bool):PSt->R PV:=fun _=>.ok (.bl b)
def kN:PSt->R PV:=fun _=>.ok .non
def kS(x:Str):PSt->R PV:=fun _=>.ok (.str x)
def kP(p:PV):PSt->R PV:=fun _=>.ok p
def aM:PSt->R (List PV):=fun _=>.ok []
def a7(f:PSt->R PV)(fs:PSt->R (List PV)):PSt->R (List PV):=fun ρ=>f ρ >>= fun p=>fs ρ >>= fun ps=>.ok (p::ps)
def iz(ps:List PV):R (List PV):=if ps.length<=16777216 then .ok ps else .no
def fD(fs:PSt->R (List PV)):PSt->R PV:=fun ρ=>fs ρ >>= fun ps=>iz ps >>= fun ps=>.ok (.tup ps)
def pJ(fs:PSt->R (List PV)):PSt->R PV:=fun ρ=>fs ρ >>= fun ps=>iz ps >>= fun ps=>.ok (.lst ps)
def ah(fa fb:PSt->R PV)(g:PV->PV->Option PV):PSt->R PV:=fun ρ=>fa ρ >>= fun p=>fb ρ >>= fun q=>R.ofO (g p q)
def qm(fa fb fc:PSt->R PV)(g g':PV->PV->Option PV):PSt->R PV:=fun ρ=>fa ρ >>= fun p=>fb ρ >>= fun q=>R.ofO (g p q) >>= fun z=>match z with
 | .bl true=>fc ρ >>= fun r=>R.ofO (g' q r)
 | .bl false=>.ok (.bl false)
 | _=>.no
def yd:PV->Option Bool
 | .non=>some false
 | .bl b=>some b
 | .int i=>some (i != 0)
 | .str y=>if y.length<=16777216 then some ((y.length:Int) != 0) else none
 | .tup ps=>some (!ps.isEmpty)
 | .lst ps=>some (!ps.isEmpty)
 | .dct ks _=>some (!ks.isEmpty)
 | .dtt _ _=>none
 | .fn _ _=>none
def di(f:PSt->R PV):PSt->R Bool:=fun ρ=>f ρ >>= fun p=>R.ofO (yd p)
def fI:PV->PV->Option PV
 | .int i,.int j=>some (.int (i+j))
 | .str x,.str y=>if x.length+y.length<=16777216 then some (.str (x++y)) else none
 | .lst ps,.lst qs=>if ps.length+qs.length<=16777216 then some (.lst (ps++qs)) else none
 | .tup ps,.tup qs=>if ps.length+qs.length<=16777216 then some (.tup (ps++qs)) else none
 | _,_=>none
def JP:PV->PV->Option PV
 | .int i,.int j=>some (.int (i-j))
 | _,_=>none
def wU:PV->PV->Option PV
 | .int i,.int j=>if i.natAbs<18446744073709551616\/j.natAbs<18446744073709551616 then some (.int (i * j)) else none
 | _,_=>none
def CZ:PV->PV->Option PV
 | .int i,.int j=>if 0<j/\j<1073741824 then some (.int (i / j)) else none
 | _,_=>none
def dS:PV->PV->Option PV
 | .int i,.int j=>if 0<j then some (.int (i % j)) else none
 | _,_=>none
inductive Fl where
 | next (ρ:PSt) | brk (ρ:PSt) | cont (ρ:PSt) | ret (p:PV)
def aI(g g':PSt->R Fl):PSt->R Fl:=fun ρ=>g ρ >>= fun fl=>match fl with
 | .next ρ'=>g' ρ'
 | .brk ρ'=>.ok (.brk ρ')
 | .cont ρ'=>.ok (.cont ρ')
 | .ret p=>.ok (.ret p)
def cL:PSt->R Fl:=fun ρ=>.ok (.next ρ)
def cb(f:PSt->R PV):PSt->R Fl:=fun ρ=>f ρ >>= fun p=>.ok (.ret p)
def ifF(t:PSt->R Bool)(g g':PSt->R Fl):PSt->R Fl:=fun ρ=>t ρ >>= fun k=>if k=true then g ρ else g' ρ
def bK(i:Nat)(f:PSt->R PV):PSt->R Fl:=fun ρ=>f ρ >>= fun p=>.ok (.next (ρ.set i (.val p)))
def mC(i:Nat)(f:PSt->R PV):PSt->R Fl:=fun ρ=>f ρ >>= fun p=>.ok (.next (ρ.set i (.own p)))
def J9:PSt->R Fl:=fun ρ=>.ok (.brk ρ)
def ux(i:Nat)(ρ:PSt):PSt:=match ρ[i]? with
 | some (.own p)=>ρ.set i (.val p)
 | _=>ρ
def qA(i:Nat)(g:PSt->R Fl):PSt->R Fl:=fun ρ=>g (ux i ρ)
abbrev Tgt:=PV->PSt->Option PSt
abbrev xY:=List PV->PSt->Option PSt
def ai(i:Nat):Tgt:=fun p ρ=>some (ρ.set i (.val p))
def gw:xY:=fun ps ρ=>match ps with
 | []=>some ρ
 | _::_=>none
def aJ(h:Tgt)(h':xY):xY:=fun ps ρ=>match ps with
 | p::r=>(h p ρ).bind fun ρ1=>h' r ρ1
 | []=>none
def gv(n:Nat)(h:xY):Tgt:=fun p ρ=>match p with
 | .tup ps=>if ps.length=n then h ps ρ else none
 | _=>none
def gh(h:PV->PSt->Option PSt)(g:PSt->R Fl):List PV->PSt->R Fl
 | [],ρ=>.ok (.next ρ)
 | p::ps,ρ=>R.ofO (h p ρ) >>= fun ρ1=>g ρ1 >>= fun fl=>match fl with
  | .next ρ2=>gh h g ps ρ2
  | .cont ρ2=>gh h g ps ρ2
  | .brk ρ2=>.ok (.next ρ2)
  | .ret q=>.ok (.ret q)
def iB(fi:PSt->R (List PV))(h:Tgt)(g:PSt->R Fl):PSt->R Fl:=fun ρ=>fi ρ >>= fun ps=>gh h g ps ρ
def aK(fs:PSt->R (List PV))(F:List PV->Option PV):PSt->R PV:=fun ρ=>fs ρ >>= fun ps=>R.ofO (F ps)
def start(n:Nat)(ps:List PV):PSt:=ps.map Sl.val++Mi (n-ps.length) .no
def eD(m n:Nat)(g:PSt->R Fl)(ps:List PV):Option PV:=if ps.length=m then (match g (start n ps) with
 | .ok (.ret p)=>some p
 | .ok (.next _)=>some .non
 | _=>none) else none
def roS:Option Sl->Sl
 | some (.val p)=>.val p
 | _=>.no
def bY(nt:Nat)(idx:List Nat)(ρ:PSt):PSt:=Mi nt .no++idx.map fun i=>roS ρ[i]?
def c8(h:Tgt)(t:PSt->R Bool)(fe:PSt->R PV)(ρ:PSt):List PV->R (List PV)
 | []=>.ok []
 | p::ps=>R.ofO (h p ρ) >>= fun ρ1=>t ρ1 >>= fun b=>if b=true then fe ρ1 >>= fun q=>c8 h t fe ρ ps >>= fun qs=>.ok (q::qs) else c8 h t fe ρ ps
def C9{α:Type}:R α->R α
 | .ok a=>.ok a
 | _=>.no
def gm(fi:PSt->R (List PV))(h:Tgt)(t:PSt->R Bool)(fe:PSt->R PV)(nt:Nat)(idx:List Nat):PSt->R PV:=
 fun ρ=>fi ρ >>= fun ps=>C9 (c8 h t fe (bY nt idx ρ) ps) >>= fun qs=>iz qs >>= fun qs=>.ok (.lst qs)
def iT:PSt->R Bool:=fun _=>.ok true
mutual
def bp:PV->PV->Option Bool
 | .non,q=>match q with
  | .non=>some true | .bl _=>some false | .int _=>some false | .str _=>some false | .tup _=>some false | .lst _=>some false | _=>none
 | .bl a,q=>match q with
  | .bl b=>some (a == b) | .int b=>some ((if a then 1 else 0) == b) | .non=>some false | .str _=>some false | .tup _=>some false | .lst _=>some false | _=>none
 | .int a,q=>match q with
  | .int b=>some (a == b) | .bl b=>some (a == (if b then 1 else 0)) | .non=>some false | .str _=>some false | .tup _=>some false | .lst _=>some false | _=>none
 | .str a,q=>match q with
  | .str b=>some (a == b) | .non=>some false | .bl _=>some false | .int _=>some false | .tup _=>some false | .lst _=>some false | _=>none
 | .tup ps,q=>match q with
  | .tup qs=>bg ps qs | .non=>some false | .bl _=>some false | .int _=>some false | .str _=>some false | .lst _=>some false | _=>none
 | .lst ps,q=>match q with
  | .lst qs=>bg ps qs | .non=>some false | .bl _=>some false | .int _=>some false | .str _=>some false | .tup _=>some false | _=>none
 | _,_=>none
def bg:List PV->List PV->Option Bool
 | [],[]=>some true
 | [],_::_=>some false
 | _::_,[]=>some false
 | p::ps,q::qs=>(bp p q).bind fun a=>(bg ps qs).bind fun b=>some (a && b)
end
mutual
def vK:PV->Nat
 | .tup ps=>dj ps+1
 | .lst ps=>dj ps+1
 | .dct _ ps=>dj ps+1
 | .dtt _ ps=>dj ps+1
 | .fn _ ps=>dj ps+1
 | _=>0
def dj:List PV->Nat
 | []=>0
 | p::ps=>max (vK p) (dj ps)
end
def iK(ps qs:List PV)(j:Nat):Bool:=match ps[j]?,qs[j]? with
 | some p,some q=>(bp p q).getD false
 | _,_=>false
def mD:PV->Bool
 | .non=>true | .bl _=>true | .int _=>true | .str _=>true
 | _=>false
def scV:PV->V
 | .bl b=>.bl b | .int i=>.int i | .str x=>.str x
 | _=>.non
def bJ:List Key->List PV->Key->Option PV
 | k::ks,p::ps,j=>if k=j then some p else bJ ks ps j
 | _,_,_=>none
def lV(e:PV->PV->Option Bool):List Key->List PV->List Key->List PV->Option Bool
 | k::ks,p::ps,ls,qs=>match bJ ls qs k with
  | none=>some false
  | some q=>(e p q).bind fun a=>(lV e ks ps ls qs).bind fun b=>some (a && b)
 | [],[],_,_=>some true
 | _,_,_,_=>none
def yi:Nat->PV->PV->Option Bool
 | n+1,.dct ks ps,.dct ls qs=>if ks.length=ls.length then lV (yi n) ks ps ls qs else some false
 | _,p,q=>bp p q
def gEq:PV->PV->Option PV
 | .dct ks ps,.dct ls qs=>if dj ps<=60 then (yi 3 (.dct ks ps) (.dct ls qs)).map .bl else none
 | .tup ps,.tup qs=>if dj ps<=60 then (bg ps qs).map .bl else none
 | .lst ps,.lst qs=>if dj ps<=60 then (bg ps qs).map .bl else none
 | p,q=>if mD p=true/\mD q=true/\yP (scV p) (scV q)=true then some (.bl (decide (scV p=scV q))) else none
def gNe:PV->PV->Option PV
 | .tup ps,.tup qs=>if dj ps<=60 then (bg ps qs).map fun b=>.bl (!b) else none
 | .lst ps,.lst qs=>if dj ps<=60 then (bg ps qs).map fun b=>.bl (!b) else none
 | p,q=>if mD p=true/\mD q=true/\yP (scV p) (scV q)=true then some (.bl (!decide (scV p=scV q))) else none
def gLt:PV->PV->Option PV
 | .int i,.int j=>some (.bl (decide (i<j)))
 | .str x,.str y=>some (.bl (decide (x.cps.toList<y.cps.toList)))
 | _,_=>none
def gLe:PV->PV->Option PV
 | .int i,.int j=>some (.bl (decide (i<=j)))
 | .str x,.str y=>some (.bl (!decide (y.cps.toList<x.cps.toList)))
 | _,_=>none
def gGt:PV->PV->Option PV
 | .int i,.int j=>some (.bl (decide (j<i)))
 | _,_=>none
def gGe:PV->PV->Option PV
 | .int i,.int j=>some (.bl (decide (j<=i)))
 | _,_=>none
def FV:PV->Bool
 | .non=>true
 | _=>false
def pV:PV->PV->Option PV
 | p,.non=>some (.bl (FV p))
 | _,_=>none
def eF:PV->Option Key
 | .int i=>some (.inl i)
 | .str x=>some (.inr x)
 | _=>none
def gIx:PV->PV->Option PV
 | .lst ps,.int i=>atI ps i
 | .tup ps,.int i=>atI ps i
 | .str z,.int i=>if z.length<=16777216 then (atI z.cps.toList i).map fun c=>.str ⟨#[c]⟩ else none
 | .dct ks ps,k=>(eF k).bind fun k=>bJ ks ps k
 | _,_=>none
def inS(x y:Str):Bool:=!(Mw y x 0 y.length 1).isEmpty
def gIn:PV->PV->Option PV
 | .str x,.str y=>some (.bl (inS x y))
 | p,.lst qs=>if mD p=true/\qs.all mD=true then some (.bl (inV (scV p) (qs.map scV))) else none
 | p,.tup qs=>if mD p=true/\qs.all mD=true then some (.bl (inV (scV p) (qs.map scV))) else none
 | p,.dct ks _=>(eF p).map fun k=>.bl (ks.any fun j=>decide (j=k))
 | _,_=>none
def iA(p q:PV):Option PV:=(gIn p q).bind fun z=>match z with
 | .bl b=>some (.bl (!b))
 | _=>none
def DO(t u:PSt->R Bool):PSt->R Bool:=fun ρ=>t ρ >>= fun c=>if c=true then u ρ else .ok false
def orB(t u:PSt->R Bool):PSt->R Bool:=fun ρ=>t ρ >>= fun c=>if c=true then .ok true else u ρ
def ym(t:PSt->R Bool):PSt->R Bool:=fun ρ=>t ρ >>= fun c=>.ok (!c)
def ifV(t:PSt->R Bool)(fa fb:PSt->R PV):PSt->R PV:=fun ρ=>t ρ >>= fun c=>if c=true then fa ρ else fb ρ
def un1(f:PSt->R PV)(g:PV->Option PV):PSt->R PV:=fun ρ=>f ρ >>= fun p=>R.ofO (g p)
def kD:PV->Option PV
 | .lst ps=>some (.int ps.length)
 | .tup ps=>some (.int ps.length)
 | .str x=>if x.length<=16777216 then some (.int x.length) else none
 | .dct ks _=>some (.int ks.length)
 | _=>none
def Hb:PV->Option PV
 | .int i=>some (.int i)
 | .bl b=>some (.int (if b then 1 else 0))
 | _=>none
def nB:PV->Option PV
 | .lst ps=>some (.tup ps)
 | .tup ps=>some (.tup ps)
 | _=>none
def zG:Key->PV
 | .inl i=>.int i
 | .inr x=>.str x
def gz(x:Str):List PV:=x.cps.toList.map fun c=>.str ⟨#[c]⟩
def eN:PV->Option (List PV)
 | .lst ps=>some ps
 | .tup ps=>some ps
 | .dct ks _=>some (ks.map zG)
 | .str x=>some (gz x)
 | _=>none
def itF(f:PSt->R PV):PSt->R (List PV):=fun ρ=>f ρ >>= fun p=>R.ofO (eN p)
def cg(lo:Int)(n:Nat):List PV:=(LI n).map fun i=>.int (lo+(i:Nat))
def Ax(f:PSt->R PV):PSt->R (List PV):=fun ρ=>f ρ >>= fun p=>match p with
 | .int j=>if j.natAbs<1000000000 then .ok (cg 0 j.toNat) else .no
 | _=>.no
def DH(f f2:PSt->R PV):PSt->R (List PV):=fun ρ=>f ρ >>= fun p=>f2 ρ >>= fun q=>match p,q with
 | .int i,.int j=>if i.natAbs<1000000000/\j.natAbs<1000000000 then .ok (cg i (j-i).toNat) else .no
 | _,_=>.no
def qB(i:Nat)(f:PSt->R PV):PSt->R Fl:=fun ρ=>match ρ[i]? with
 | some (.own (.lst ps))=>f ρ >>= fun p=>if ps.length<16777216 then .ok (.next (ρ.set i (.own (.lst (ps++[p]))))) else .no
 | _=>.no
def yk(ps:List PV):List (List PV):=(LI ps.length).zipWith (fun (i:Nat) p=>[.int (i:Int),p]) ps
def rC:PV->Option (List PV)
 | .lst ps=>some ((yk ps).map .tup)
 | .str x=>some ((yk (gz x)).map .tup)
 | _=>none
def rD(f:PSt->R PV):PSt->R (List PV):=fun ρ=>f ρ >>= fun p=>R.ofO (rC p)
def tyN:PV->String
 | .non=>"NoneType" | .bl _=>"bool" | .int _=>"int" | .str _=>"str" | .tup _=>"tuple" | .lst _=>"list" | .dct _ _=>"dict" | .dtt _ _=>"dict" | .fn _ _=>"function"
def FR (t c:String):Bool:=t == c || (t == "bool" && c == "int")
def zO(c:String):PV->Option PV
 | .fn _ _=>none
 | p=>some (.bl (FR (tyN p) c))
def JQ:PV->Option PV
 | .int i=>if i.natAbs.log2<1920 then some (.str (toString i)) else none
 | .str x=>some (.str x)
 | _=>none
def qz:PV->Option PV
 | .int i=>some (.int (-i))
 | _=>none
def FT:PV->Bool
 | .str _=>true
 | _=>false
def qX(fo fe:PSt->R PV)(g:PV->PV->Option PV):PSt->R PV:=fun ρ=>fo ρ >>= fun p=>if FT p=true then fe ρ >>= fun q=>R.ofO (g p q) else .no
def kz:List PV->Option (List Str)
 | []=>some []
 | .str x::r=>(kz r).map (x::·)
 | _::_=>none
def rm:PV->PV->Option PV
 | .str x,.lst ps=>(kz ps).bind fun ys=>if (ys.map (·.length)).sum+ys.length * x.length<=16777216 then some (.str (Txt.join x ys)) else none
 | .str x,.tup ps=>(kz ps).bind fun ys=>if (ys.map (·.length)).sum+ys.length * x.length<=16777216 then some (.str (Txt.join x ys)) else none
 | _,_=>none
def jD{α:Type}(xs:List α)(lo hi:Option Int):List α:=(xs.drop (HT.sIx xs.length 0 lo)).take (HT.sIx xs.length xs.length hi-HT.sIx xs.length 0 lo)
def gSl:PV->Option Int->Option Int->Option PV
 | .lst ps,lo,hi=>some (.lst (jD ps lo hi))
 | .tup ps,lo,hi=>if HT.sIx ps.length 0 lo=0/\HT.sIx ps.length ps.length hi=ps.length then none else some (.tup (jD ps lo hi))
 | _,_,_=>none
def fG:PSt->R (Option Int):=fun _=>.ok none
def i6(f:PSt->R PV):PSt->R (Option Int):=fun ρ=>f ρ >>= fun p=>match p with
 | .int i=>.ok (some i)
 | _=>.no
def lj(f:PSt->R PV)(l h:PSt->R (Option Int)):PSt->R PV:=fun ρ=>f ρ >>= fun p=>l ρ >>= fun lo=>h ρ >>= fun hi=>R.ofO (gSl p lo hi)
def kC(ks:List Key)(ps:List PV)(k:Key)(p:PV):List PV:=ks.zipWith (fun j q=>if j=k then p else q) ps
def kO(ks:List Key)(ps:List PV)(k:Key)(p:PV):PV:=if (ks.any fun j=>decide (j=k))=true then .dct ks (kC ks ps k p) else .dct (ks++[k]) (ps++[p])
def ua(i:Nat)(fk fv:PSt->R PV):PSt->R Fl:=fun ρ=>match ρ[i]? with
 | some (.own (.dct ks ps))=>fv ρ >>= fun p=>fk ρ >>= fun kp=>R.ofO (eF kp) >>= fun k=>if ks.length<16777216 then .ok (.next (ρ.set i (.own (kO ks ps k p)))) else .no
 | _=>.no
def newD:PSt->R PV:=fun _=>.ok (.dct [] [])
def Ff:PSt->R (List (Key×PV)):=fun _=>.ok []
def oJ(fk fv:PSt->R PV)(f:PSt->R (List (Key×PV))):PSt->R (List (Key×PV)):=fun ρ=>fk ρ >>= fun kp=>R.ofO (eF kp) >>= fun k=>fv ρ >>= fun p=>f ρ >>= fun r=>.ok ((k,p)::r)
def gR(kps:List (Key×PV)):PV:=kps.foldl (fun d kp=>match d with
 | .dct ks ps=>kO ks ps kp.1 kp.2
 | d=>d) (.dct [] [])
def xq(f:PSt->R (List (Key×PV))):PSt->R PV:=fun ρ=>f ρ >>= fun kps=>if kps.length<=15 then .ok (gR kps) else .no
end PU
end
namespace PU
open PySem PySem.Spec PyProof.Rows L2
def jU:Expr->Bool
 | .Starred ..=>false
 | _=>true
theorem cq{e:Expr}{es:List Expr}{env:QO}(h:jU e=true):Lk (e::es) env=(false,MZ e env)::Lk es env:=by
 cases e <;> first | rfl | cases h
theorem bz{e:Expr}{env:QO}(h:jU e=true):Lk [e] env=[(false,MZ e env)]:=cq h
theorem nU{e e2:Expr}{env:QO}(h:jU e=true)(h2:jU e2=true):Lk [e,e2] env=[(false,MZ e env),(false,MZ e2 env)]:=(cq h).trans (congrArg _ (bz h2))
theorem kK{pos:N8}{es:List Expr}{env:QO}(h:es.all jU=true):(OR pos (Lk es env)).any (·.1)=false:=by
 have:∀es:List Expr,es.all jU=true->(Lk es env).any (·.1)=false:=by
  intro es
  induction es with
  | nil=>intro _;rfl
  | cons e es ih=>
   intro h;simp only[NU,MR] at h;rw[cq h.1,Mp,ih h.2];rfl
 have h2:=this es h
 have h3:(OR pos (Lk es env)).map (·.1)=(Lk es env).map (·.1):=by
  unfold OR;simp[Lh,Rq]
 have:(OR pos (Lk es env)).any (·.1)=((OR pos (Lk es env)).map (·.1)).any id:=by rw[O6];rfl
 rw[this,h3,O6];exact h2
class TW where
 w:Lx
 tabs:List Addr:=[]
 qual:Nat->Nat->Str:=fun _ _=>⟨#[]⟩
variable[TW]
def jC(c:Addr)(q:Str):HO:=.ext fun h=>h.CodeRec (.ref c) q
def TOk(H:Hp)(ps:Array LB):Prop:=TriplesOk ps.toList/\∀pos v,OU pos ps.toList=some v->∃c,v=.ref c/\H c=some (jC c (TW.qual pos.line pos.col))
def DM:HO->Bool
 | .tbl _=>true
 | _=>false
structure Same(H H':Hp):Prop where
 at_:∀b o,H b=some o->∀(n:DM o=false:=by rfl),H' b=some o
 tb:∀b ps,H b=some (.tbl ps)->∃ps',H' b=some (.tbl ps')/\(TOk H ps->TOk H' ps')
instance {H H':Hp}:CoeFun (Same H H') (fun _=>∀b o,H b=some o->∀(n:DM o=false:=by rfl),H' b=some o):=⟨@Same.at_ _ H H'⟩
theorem TOk.same{H H':Hp}{ps:Array LB}(h:∀b o,H b=some o->DM o=false->H' b=some o)(t:TOk H ps):TOk H' ps:=
 ⟨t.1,fun pos v e=>let ⟨c,e1,e2⟩:=t.2 pos v e;⟨c,e1,h _ _ e2 rfl⟩⟩
theorem Same.of{H H':Hp}(h:∀b o,H b=some o->H' b=some o):Same H H':=
 ⟨fun b o e _=>h b o e,fun b ps e=>⟨ps,h b _ e,TOk.same fun b o e _=>h b o e⟩⟩
theorem Same.refl(H:Hp):Same H H:=.of fun _ _ h=>h
theorem Same.trans{H H1 H2:Hp}(a:Same H H1)(b:Same H1 H2):Same H H2:=
 ⟨fun c o h n=>b.at_ c o (a.at_ c o h n) n,fun c ps e=>by
  obtain⟨p1,e1,k1⟩:=a.tb c ps e;obtain⟨p2,e2,k2⟩:=b.tb c p1 e1;exact⟨p2,e2,fun t=>k2 (k1 t)⟩⟩
theorem Same.free{H H':Hp}(e:Same H H'){l:Addr}(h:H' l=Option.none):H l=Option.none:=by
 cases q:H l with
 | none=>rfl
 | some o=>
  cases ho:DM o with
  | false=>rw[e.at_ l o q ho] at h;cases h
  | true=>
   cases o <;> cases ho
   obtain⟨p1,e1,_⟩:=e.tb l _ q;rw[e1] at h;cases h
def uN(H:Hp):Prop:=∀P∈TW.tabs,∃ps,H P=some (.tbl ps)/\TOk H ps
theorem Same.tabs{H H':Hp}(s:Same H H')(t:uN H):uN H':=fun P hP=>by
 obtain⟨ps,e,k⟩:=t P hP;obtain⟨p1,e1,k1⟩:=s.tb P ps e;exact⟨p1,e1,k1 k⟩
def Gz(K:LA)(a:Addr)(xs:List V):Prop:=
 ∃(its:List LB) (n:Nat),K.lookup a=some { cls:=.type "list",data:=.seq its.toArray n }/\xs.length<=sizeLine/\Vals xs its
def yb(K:LA)(a:Addr)(kvs:List (Key×V)):Prop:=
 kvs.length<=sizeLine/\(a == MH)=false/\∃(o:Mu)(es:Array DictEntry)(ep:Nat),K.lookup a=some o/\o.ExactDict/\o.data=.dict es ep/\
  ∀P:Ll,∃vs,KV kvs vs/\PySem.KeysOf (aq P TW.w) es/\Pairs (aq P TW.w) es.toList vs/\(vs.map (·.1)).Nodup
theorem yb.at{K:LA}{a:Addr}{kvs:List (Key×V)}(h:yb K a kvs)(P:Ll)(w:Lx)(hw:w=TW.w)(hp:Heap)(hk:K.In hp):∃vs,KV kvs vs/\hp.DictOf (aq P w) a vs:=by
 subst hw;obtain⟨_,_,o,es,ep,e,x,d,r⟩:=h;obtain⟨vs,r1,r2⟩:=r P;exact⟨vs,r1,o,es,ep,hk _ _ e,x,d,r2⟩
def SqO(K:LA)(H:Hp)(a:Addr)(xs:List V):Prop:=Rd H a (.lst xs)\/Gz K a xs
theorem SqO.l{K:LA}{H:Hp}{a:Addr}{xs:List V}(h:SqO K H a xs):SqL K H a xs:=by
 rcases h with h | ⟨its,n,e,z,r⟩
 ·exact .inl h
 ·exact .inr ⟨_,its.toArray,n,e,rfl,rfl,rfl,by rw[Lv,← r.length];exact z,by simpa using r⟩
theorem SqO.is{X:Cx}{pins:List (Addr×Mu)}{σ:L2.St}{H:Hp}{s:LF}{a:Addr}{xs:List V}(I:Inv X pins σ H s)(h:SqO X.K H a xs) :
  xs.length<=sizeLine/\∃(its:List LB) (n:Nat),Vals xs its/\s.heap.get? a=some { cls:=.type "list",data:=.seq its.toArray n }:=by
 rcases h with h | ⟨its,n,e,z,r⟩
 ·obtain⟨z,its,n,r,e⟩:=h.ok I.hok
  exact⟨z,its,n,r,e⟩
 ·exact⟨z,its,n,r,I.kIn _ _ e⟩
def SqF(K:LA)(H:Hp)(a:Addr)(xs:List V):Prop:=(∃o,H a=some (.frz o (.lst xs)))\/Gz K a xs
def DkF(K:LA)(H:Hp)(a:Addr)(kvs:List (Key×V)):Prop:=(∃o,H a=some (.frz o (.dK kvs)))\/yb K a kvs
def DkR(K:LA)(H:Hp)(a:Addr)(kvs:List (Key×V)):Prop:=Rd H a (.dK kvs)\/yb K a kvs
theorem SqF.l{K:LA}{H:Hp}{a:Addr}{xs:List V}(h:SqF K H a xs):SqO K H a xs:=by
 rcases h with h | h
 ·exact .inl (.inr h)
 ·exact .inr h
theorem DkF.r{K:LA}{H:Hp}{a:Addr}{kvs:List (Key×V)}(h:DkF K H a kvs):DkR K H a kvs:=by
 rcases h with h | h
 ·exact .inl (.inr h)
 ·exact .inr h
def FnAt(f:Addr)(o:Mu):HO:=.ext fun h=>h.get? f=some o
def fC(H:Hp):List (Str×Addr)->List V->Prop
 | [],xs=>xs=[]
 | p::cl,xs=>∃x r o u,xs=x::r/\H p.2=some (.frz o (.own 0))/\o.data=.cell (some u)/\RelV x u/\fC H cl r
mutual
def Rep(K:LA)(H:Hp):PV->V->Prop
 | .non,v=>v=.non
 | .bl b,v=>v=.bl b
 | .int i,v=>v=.int i
 | .str x,v=>v=.str x
 | .tup ps,v=>∃a xs,v=.ref a/\H a=some (.tup xs)/\aF K H ps xs
 | .lst ps,v=>∃a xs,v=.ref a/\SqF K H a xs/\aF K H ps xs
 | .dct ks ps,v=>∃a kvs,v=.ref a/\DkF K H a kvs/\kvs.map (·.1)=ks/\aF K H ps (kvs.map (·.2))
 | .dtt ks ps,v=>∃a o kvs,v=.ref a/\H a=some (.frz o (.dT kvs))/\kvs.map (·.1)=ks/\aF K H ps (kvs.map (·.2))
 | .fn L cs,v=>∃f c cl pm ct xs,v=.ref f/\H f=some (FnAt f (Of "<lambda>" L.qual L.args L.body L.scope cl pm c ct))/\H c=some (jC c L.qual)/\cl.map (·.1)=L.kept/\(cl.map (·.2)).Nodup/\fC H cl xs/\aF K H cs xs
def aF(K:LA)(H:Hp):List PV->List V->Prop
 | [],xs=>xs=[]
 | p::ps,xs=>∃x r,xs=x::r/\Rep K H p x/\aF K H ps r
end
def aX(K:LA)(H:Hp):PV->V->Prop
 | .lst ps,v=>∃a xs,v=.ref a/\SqO K H a xs/\aF K H ps xs
 | .dct ks ps,v=>∃a kvs,v=.ref a/\DkR K H a kvs/\kvs.map (·.1)=ks/\aF K H ps (kvs.map (·.2))
 | .dtt ks ps,v=>∃a kvs,v=.ref a/\Rd H a (.dT kvs)/\kvs.map (·.1)=ks/\aF K H ps (kvs.map (·.2))
 | p,v=>Rep K H p v
def cD(K:LA)(H:Hp)(a:Addr):PV->Prop
 | .lst ps=>∃xs,H a=some (.lst xs)/\aF K H ps xs
 | .dct ks ps=>∃kvs,H a=some (.dK kvs)/\kvs.map (·.1)=ks/\aF K H ps (kvs.map (·.2))
 | .dtt ks ps=>∃kvs,H a=some (.dT kvs)/\kvs.map (·.1)=ks/\aF K H ps (kvs.map (·.2))
 | _=>False
def B0:HO->Bool
 | .frz _ _=>true
 | .tup _=>true
 | .ext _=>true
 | _=>false
def Kp(H H':Hp):Prop:=∀b u,H b=some u->B0 u=true->H' b=some u
theorem Same.kp{H H':Hp}(h:Same H H'):Kp H H':=fun b u e f=>h.at_ b u e (by cases u <;> first | rfl | cases f)
theorem Kp.refl(H:Hp):Kp H H:=fun _ _ e _=>e
theorem Kp.trans{H H1 H2:Hp}(h:Kp H H1)(k:Kp H1 H2):Kp H H2:=fun b u e f=>k b u (h b u e f) f
theorem Kp.upd{H:Hp}{a:Addr}{u o:HO}(h:H a=some u)(f:B0 u=false):Kp H (upd H a o):=fun b w e g=>by
 have:b≠a:=fun z=>by
  subst z;rw[h] at e;cases e;rw[f] at g;cases g
 rw[aA this];exact e
theorem Kp.sqT{K:LA}{H H':Hp}(k:Kp H H'){a:Addr}{xs:List V}(h:SqT K H a xs):SqT K H' a xs:=by
 rcases h with (h | ⟨o,h⟩) | h
 ·exact .inl (.inl (k _ _ h rfl))
 ·exact .inl (.inr ⟨o,k _ _ h rfl⟩)
 ·exact .inr h
theorem Kp.sqF{K:LA}{H H':Hp}(k:Kp H H'){a:Addr}{xs:List V}(h:SqF K H a xs):SqF K H' a xs:=by
 rcases h with⟨o,h⟩ | h
 ·exact .inl ⟨o,k _ _ h rfl⟩
 ·exact .inr h
theorem Kp.dkF{K:LA}{H H':Hp}(k:Kp H H'){a:Addr}{kvs:List (Key×V)}(h:DkF K H a kvs):DkF K H' a kvs:=by
 rcases h with⟨o,h⟩ | h
 ·exact .inl ⟨o,k _ _ h rfl⟩
 ·exact .inr h
theorem TOk.kp{H H':Hp}{ps:Array LB}(k:Kp H H')(t:TOk H ps):TOk H' ps:=
 ⟨t.1,fun pos v e=>let ⟨c,e1,e2⟩:=t.2 pos v e;⟨c,e1,k _ _ e2 rfl⟩⟩
theorem Kp.but{H H':Hp}{a:Addr}(na:∀u,H a=some u->B0 u=false)(oth:∀b,b≠a->H' b=H b):Kp H H':=fun b u e f=>by
 have:b≠a:=fun z=>by
  subst z;rw[na u e] at f;cases f
 rw[oth b this];exact e
theorem Same.but{B H H':Hp}{a:Addr}(s:Same B H)(fa:B a=none)(na:∀u,H a=some u->B0 u=false)(oth:∀b,b≠a->H' b=H b):Same B H':=
 ⟨fun b o e n=>by rw[oth b (bu e fa)];exact s.at_ b o e n,fun b ps e=>by
  obtain⟨p1,e1,k1⟩:=s.tb b ps e;exact⟨p1,by rw[oth b (bu e fa)];exact e1,fun t=>(k1 t).kp (Kp.but na oth)⟩⟩
theorem uN.but{H H':Hp}{a:Addr}(t:uN H)(na:∀u,H a=some u->B0 u=false/\DM u=false)(oth:∀b,b≠a->H' b=H b):uN H':=fun P hP=>by
 obtain⟨ps,e,k⟩:=t P hP
 have:P≠a:=fun z=>by
  subst z;have:=(na _ e).2;cases this
 exact⟨ps,by rw[oth P this];exact e,k.kp (Kp.but (fun u h=>(na u h).1) oth)⟩
theorem tq{K:LA}{H:Hp}{a:Addr}{xs:List V}(h:H a=some (.tup xs)):SqT K H a xs:=.inl (.inl h)
theorem fC.kp{H H':Hp}(k:Kp H H'):∀{cl:List (Str×Addr)}{xs:List V},fC H cl xs->fC H' cl xs
 | [],_,h=>h
 | p::cl,_,⟨x,r,o,u,e,h,d,v,t⟩=>⟨x,r,o,u,e,k _ _ h rfl,d,v,fC.kp k t⟩
mutual
theorem Rep.kp{K:LA}{H H':Hp}(k:Kp H H'):∀(p:PV){v:V},Rep K H p v->Rep K H' p v
 | .non,_,h=>h
 | .bl _,_,h=>h
 | .int _,_,h=>h
 | .str _,_,h=>h
 | .tup ps,_,⟨a,xs,e,h,r⟩=>⟨a,xs,e,k _ _ h rfl,aF.kp k ps r⟩
 | .lst ps,_,⟨a,xs,e,h,r⟩=>⟨a,xs,e,k.sqF h,aF.kp k ps r⟩
 | .dct ks ps,_,⟨a,kvs,e,h,ek,r⟩=>⟨a,kvs,e,k.dkF h,ek,aF.kp k ps r⟩
 | .dtt ks ps,_,⟨a,o,kvs,e,h,ek,r⟩=>⟨a,o,kvs,e,k _ _ h rfl,ek,aF.kp k ps r⟩
 | .fn L cs,_,⟨f,c,cl,pm,ct,xs,e,h1,h2,h3,h5,h4,r⟩=>⟨f,c,cl,pm,ct,xs,e,k _ _ h1 rfl,k _ _ h2 rfl,h3,h5,fC.kp k h4,aF.kp k cs r⟩
theorem aF.kp{K:LA}{H H':Hp}(k:Kp H H'):∀(ps:List PV){xs:List V},aF K H ps xs->aF K H' ps xs
 | [],_,h=>h
 | p::ps,_,⟨x,r,e,h,t⟩=>⟨x,r,e,Rep.kp k p h,aF.kp k ps t⟩
end
section
variable{K : LA}{H H' : Hp}{p : PV}{ps qs : List PV}{v : V}{xs ys : List V}{a : Addr}
theorem Rep.same(h:Rep K H p v)(s:Same H H'):Rep K H' p v:=Rep.kp (Same.kp s) p h
theorem aF.same(h:aF K H ps xs)(s:Same H H'):aF K H' ps xs:=aF.kp (Same.kp s) ps h
theorem aX.same(h:aX K H p v)(s:Same H H'):aX K H' p v:=by
 cases p with
 | lst ps=>
  obtain⟨a,xs,e,q,r⟩:=h;refine⟨a,xs,e,?_,r.same s⟩;rcases q with (q | ⟨o,q⟩) | q
  ·exact .inl (.inl (s _ _ q))
  ·exact .inl (.inr ⟨o,s _ _ q⟩)
  ·exact .inr q
 | dct ks ps=>
  obtain⟨a,kvs,e,q,ek,r⟩:=h;refine⟨a,kvs,e,?_,ek,r.same s⟩;rcases q with (q | ⟨o,q⟩) | q
  ·exact .inl (.inl (s _ _ q))
  ·exact .inl (.inr ⟨o,s _ _ q⟩)
  ·exact .inr q
 | dtt ks ps=>
  obtain⟨a,kvs,e,q,ek,r⟩:=h;refine⟨a,kvs,e,?_,ek,r.same s⟩;rcases q with q | ⟨o,q⟩
  ·exact .inl (s _ _ q)
  ·exact .inr ⟨o,s _ _ q⟩
 | _=>exact Rep.same h s
theorem cD.same(h:cD K H a p)(s:Same H H'):cD K H' a p:=by
 cases p with
 | lst ps=>
  obtain⟨xs,q,r⟩:=h;exact⟨xs,s _ _ q,r.same s⟩
 | dct ks ps=>
  obtain⟨kvs,q,ek,r⟩:=h;exact⟨kvs,s _ _ q,ek,r.same s⟩
 | dtt ks ps=>
  obtain⟨kvs,q,ek,r⟩:=h;exact⟨kvs,s _ _ q,ek,r.same s⟩
 | _=>exact h
theorem Rep.o(h:Rep K H p v):aX K H p v:=by
 cases p with
 | lst ps=>
  obtain⟨a,xs,e,q,r⟩:=h;exact⟨a,xs,e,q.l,r⟩
 | dct ks ps=>
  obtain⟨a,kvs,e,q,ek,r⟩:=h;exact⟨a,kvs,e,q.r,ek,r⟩
 | dtt ks ps=>
  obtain⟨a,o,kvs,e,q,ek,r⟩:=h;exact⟨a,kvs,e,.inr ⟨o,q⟩,ek,r⟩
 | _=>exact h
theorem cD.o(h:cD K H a p):aX K H p (.ref a):=by
 cases p with
 | lst ps=>
  obtain⟨xs,q,r⟩:=h;exact⟨a,xs,rfl,.inl (.inl q),r⟩
 | dct ks ps=>
  obtain⟨kvs,q,ek,r⟩:=h;exact⟨a,kvs,rfl,.inl (.inl q),ek,r⟩
 | dtt ks ps=>
  obtain⟨kvs,q,ek,r⟩:=h;exact⟨a,kvs,rfl,.inl q,ek,r⟩
 | _=>exact LU h
theorem aF.length:∀{ps:List PV}{xs:List V},aF K H ps xs->ps.length=xs.length
 | [],_,h=>by cases h;rfl
 | p::ps,_,⟨x,r,e,_,t⟩=>by subst e;simp[aF.length t]
theorem aF.nil:aF K H [] []:=rfl
theorem aF.cons(h:Rep K H p v)(t:aF K H ps xs):aF K H (p::ps) (v::xs):=⟨v,xs,rfl,h,t⟩
theorem aF.append:∀{ps qs:List PV}{xs ys:List V},aF K H ps xs->aF K H qs ys->aF K H (ps++qs) (xs++ys)
 | [],_,_,_,h,k=>by cases h;exact k
 | p::ps,_,_,_,⟨x,r,e,h,t⟩,k=>by subst e;exact⟨x,_,rfl,h,aF.append t k⟩
theorem aF.get:∀{ps:List PV}{xs:List V}{i:Nat}{p:PV},aF K H ps xs->ps[i]?=some p->∃x,xs[i]?=some x/\Rep K H p x
 | [],_,_,_,_,e=>by simp at e
 | p::ps,_,0,_,⟨x,r,e,h,t⟩,q=>by
  subst e;simp at q;subst q;exact⟨x,rfl,h⟩
 | p::ps,_,i+1,q,⟨x,r,e,h,t⟩,z=>by
  subst e;obtain⟨y,h1,h2⟩:=aF.get (i:=i) (p:=q) t (by simpa using z);exact⟨y,by simpa using h1,h2⟩
theorem aF.take:∀{ps:List PV}{xs:List V}(n:Nat),aF K H ps xs->aF K H (ps.take n) (xs.take n)
 | _,_,0,_=>by simp;rfl
 | [],_,n+1,h=>by cases h;rfl
 | p::ps,_,n+1,⟨x,r,e,h,t⟩=>by subst e;exact⟨x,_,rfl,h,aF.take n t⟩
theorem aF.drop:∀{ps:List PV}{xs:List V}(n:Nat),aF K H ps xs->aF K H (ps.drop n) (xs.drop n)
 | _,_,0,h=>by simpa using h
 | [],_,n+1,h=>by cases h;rfl
 | p::ps,_,n+1,⟨x,r,e,h,t⟩=>by subst e;simpa using aF.drop n t
end
theorem _root_.L2.Inv.reH{X:Cx}{pins:List (Addr×Mu)}{σ:L2.St}{H H':Hp}{s:LF}(I:Inv X pins σ H s){a:Addr}{u u':HO}(hu:H a=some u)(h':H'=upd H a u')
  (nf:B0 u=false) (nt:∀ps,u≠.tbl ps) (no:∀x,u≠.own x) (hok:dU X.prog X.w H' s.heap a u'):Inv X pins σ H' s:=by
 subst h';have keepT:∀b xs,H b=some (.tup xs)->(upd H a u') b=some (.tup xs):=fun b xs e=>Kp.upd hu nf b _ e rfl
 have keepO:∀b x,H b=some (.own x)->(upd H a u') b=some (.own x):=fun b x e=>by
  have:b≠a:=fun z=>by
   subst z;rw[hu] at e;cases e;exact no x rfl
  rw[aA this];exact e
 have hn:∀b,H b=none->(upd H a u') b=none:=fun b e=>by
  have:b≠a:=fun z=>by
   subst z;rw[hu] at e;cases e
  rw[aA this];exact e
 refine⟨I.ok,I.os,I.bare,⟨I.base.keep,I.base.slot,fun b o e n x=>hn b (I.base.free b o e n x),I.base.there,fun b xs e=>keepT b xs (I.base.tups b xs e),
  fun b o w e=>Kp.upd hu nf b _ (I.base.frzs b o w e) rfl,fun b ps e=>?_⟩,I.loc,I.cell,hn _ I.free,fun x c e=>hn c (I.freeC x c e),fun p hp=>?_,fun b o e=>?_,I.len⟩
 ·obtain⟨more,q⟩:=I.base.tbls b ps e
  have:b≠a:=fun z=>by
   subst z;rw[hu] at q;cases q;exact nt _ rfl
  exact⟨more,by rw[aA this];exact q⟩
 ·obtain⟨h1,h2,h3⟩:=I.pin p hp
  exact⟨h1,hn _ h2,h3⟩
 ·by_cases hb:b=a
  ·subst hb
   rw[az] at e;cases e;exact hok
  ·rw[aA hb] at e
   exact(I.hok b o e).stay (fun c v _ r=>r) (fun c r=>keepO c b r) keepT
theorem _root_.L2.Inv.frz{X:Cx}{pins:List (Addr×Mu)}{σ:L2.St}{H:Hp}{s:LF}{a:Addr}{p:PV}(I:Inv X pins σ H s)(n:cD X.K H a p) :
  ∃H',Inv X pins σ H' s/\Rep X.K H' p (.ref a)/\∀b,b≠a->H' b=H b:=by
 cases p with
 | lst ps=>
  obtain⟨xs,q,r⟩:=n;obtain⟨z,its,m,rv,e⟩:=I.hok a _ q;refine⟨upd H a (.frz _ (.lst xs)),I.reH q rfl rfl (by intro _ h;cases h) (by intro _ h;cases h) ⟨e,z,its,m,rv,e⟩,⟨a,xs,rfl,.inl ⟨_,az⟩,r.kp (Kp.upd q rfl)⟩,fun b hb=>aA hb⟩
 | dct ks ps=>
  obtain⟨kvs,q,ek,r⟩:=n;obtain⟨z,hs,vs,rv,o,es,ep,e,rest⟩:=I.hok a _ q;refine⟨upd H a (.frz o (.dK kvs)),I.reH q rfl rfl (by intro _ h;cases h) (by intro _ h;cases h) ⟨e,z,hs,vs,rv,o,es,ep,e,rest⟩,⟨a,kvs,rfl,.inl ⟨_,az⟩,ek,r.kp (Kp.upd q rfl)⟩,fun b hb=>aA hb⟩
 | dtt ks ps=>
  obtain⟨kvs,q,ek,r⟩:=n;obtain⟨z,hs,ys,rv,o,es,ep,e,rest⟩:=I.hok a _ q;refine⟨upd H a (.frz o (.dT kvs)),I.reH q rfl rfl (by intro _ h;cases h) (by intro _ h;cases h) ⟨e,z,hs,ys,?_,o,es,ep,e,rest⟩,⟨a,o,kvs,rfl,az,ek,r.kp (Kp.upd q rfl)⟩,fun b hb=>aA hb⟩;exact Paired.mapP rv fun p1 q1 ⟨h1,h2,h3⟩=>⟨h1,h2.keeps fun b ys hb=>Kp.upd q rfl _ _ hb rfl,h3⟩
 | _=>exact LU n
theorem cD.nt{K:LA}{H:Hp}{a:Addr}{p:PV}(h:cD K H a p):∀u,H a=some u->B0 u=false/\DM u=false:=fun u e=>by
 cases p with
 | lst ps=>obtain⟨_,w,_⟩:=h;rw[w] at e;cases e;exact⟨rfl,rfl⟩
 | dct ks ps=>obtain⟨_,w,_⟩:=h;rw[w] at e;cases e;exact⟨rfl,rfl⟩
 | dtt ks ps=>obtain⟨_,w,_⟩:=h;rw[w] at e;cases e;exact⟨rfl,rfl⟩
 | _=>exact LU h
end PU
namespace PU
open PySem PySem.Spec PyProof.Rows L2
variable[TW]
structure Cn where
 X:Cx
 Ac:PX->Hp->Prop
def DP(K:LA)(H:Hp)(x:Option (Option V)):Sl->Prop
 | .no=>True
 | .val p=>∃v,x=some (some v)/\Rep K H p v
 | .own p=>∃a,x=some (some (.ref a))/\cD K H a p
 | .pin ps a=>x=some (some (.ref a))/\cD K H a (.lst ps)
structure View(K:LA)(H:Hp)(σ:L2.St)(ρ:PSt):Prop where
 at_:∀(i:Nat)(l:Sl),ρ[i]?=some l->DP K H σ[i]? l
 tb:uN H
instance {K:LA} {H:Hp} {σ:L2.St} {ρ:PSt}:CoeFun (View K H σ ρ) (fun _=>∀(i:Nat)(l:Sl),ρ[i]?=some l->DP K H σ[i]? l):=⟨@View.at_ _ K H σ ρ⟩
theorem DP.same{K:LA}{H H':Hp}{x:Option (Option V)}{l:Sl}(h:DP K H x l)(s:Same H H'):DP K H' x l:=by
 cases l with
 | no=>exact trivial
 | val p=>obtain⟨v,e,r⟩:=h;exact⟨v,e,r.same s⟩
 | own p=>obtain⟨a,e,r⟩:=h;exact⟨a,e,r.same s⟩
 | pin ps a=>exact⟨h.1,cD.same h.2 s⟩
theorem View.same{K:LA}{H H':Hp}{σ:L2.St}{ρ:PSt}(h:View K H σ ρ)(s:Same H H'):View K H' σ ρ:=⟨fun i l e=>(h i l e).same s,s.tabs h.tb⟩
def RQ(C:Cn)(H:Hp){α:Type}(r:R α)(k:α->Prop):Prop:=
 match r with
 | .ok a=>k a
 | .er x=>∀H',Same H H'->C.Ac x H'
 | .no=>False
section
variable{C : Cn}{H H' : Hp}{α β : Type}{r : R α}{k k' : α → Prop}
theorem RQ.imp(h:RQ C H r k)(f:∀a,r=.ok a->k a->k' a):RQ C H r k':=by
 cases r with
 | ok a=>exact f a rfl h
 | er x=>exact h
 | no=>exact h
theorem RQ.same(h:RQ C H r k)(s:Same H H'):RQ C H' r k:=by
 cases r with
 | ok a=>exact h
 | er x=>exact fun H2 s2=>h H2 (s.trans s2)
 | no=>exact h
theorem RQ.bind{f:α->R β}{m:β->Prop}(h:RQ C H (r >>= f) m):RQ C H r fun a=>RQ C H (f a) m:=by
 cases r <;> exact h
theorem RQ.ofO{o:Option α}(h:RQ C H (R.ofO o) k):∃a,o=some a/\k a:=by
 cases o with
 | none=>exact LU h
 | some a=>exact⟨a,rfl,h⟩
end
def tV(C:Cn)(f:PSt->R PV):TE:=fun σ H Q=>∃ρ,View C.X.K H σ ρ/\RQ C H (f ρ) fun p=>∀v H',Same H H'->Rep C.X.K H' p v->Q v H'
def tO(C:Cn)(f:PSt->R PV):TE:=fun σ H Q=>∃ρ,View C.X.K H σ ρ/\RQ C H (f ρ) fun p=>∀v H',Same H H'->aX C.X.K H' p v->Q v H'
def tN(C:Cn)(f:PSt->R PV):TE:=fun σ H Q=>∃ρ,View C.X.K H σ ρ/\RQ C H (f ρ) fun p=>∀a H',Same H H'->H a=none->cD C.X.K H' a p->Q (.ref a) H'
def tAs(C:Cn)(f:PSt->R (List PV)):TA:=fun σ H Q=>∃ρ,View C.X.K H σ ρ/\RQ C H (f ρ) fun ps=>∀vs H',Same H H'->aF C.X.K H' ps vs->Q vs H'
def tBl(C:Cn)(f:PSt->R Bool):TT:=fun σ H Q=>∃ρ,View C.X.K H σ ρ/\RQ C H (f ρ) fun b=>∀H',Same H H'->Q b H'
def EV(C:Cn)(e:Expr)(f:PSt->R PV):Prop:=PE C.X e (tV C f)
def EO(C:Cn)(e:Expr)(f:PSt->R PV):Prop:=PE C.X e (tO C f)
def EN(C:Cn)(e:Expr)(f:PSt->R PV):Prop:=PE C.X e (tN C f)
def EA(C:Cn)(es:List Expr)(f:PSt->R (List PV)):Prop:=PA C.X es (tAs C f)
def ET(C:Cn)(e:Expr)(f:PSt->R Bool):Prop:=PT C.X e (tBl C f)
def EW(C:Cn)(e:Expr)(f:PSt->R Bool):Prop:=PW C.X e (tBl C f)
section
variable{C : Cn}{e a b c : Expr}{es : List Expr}{f fa fb fc : PSt → R PV}{fs : PSt → R (List PV)}{pos : N8}
theorem EV.o(h:EV C e f):EO C e f:=fun pins s σ H Q I ⟨ρ,vw,q⟩=>h pins s σ H Q I ⟨ρ,vw,q.imp fun _ _ k v H' sm r=>k v H' sm r.o⟩
theorem EN.o(h:EN C e f):EO C e f:=fun pins s σ H Q I ⟨ρ,vw,q⟩=>h pins s σ H Q I ⟨ρ,vw,q.imp fun _ _ k a H' sm _ r=>k (.ref a) H' sm r.o⟩
theorem EN.v(h:EN C e f):EV C e f:=by
 intro pins s σ H Q I ⟨ρ,vw,q⟩;cases hf:f ρ with
 | ok p=>
  rw[hf] at q;refine thn (h pins s σ H (fun v H'=>∃a,v=.ref a/\Same H H'/\H a=none/\cD C.X.K H' a p) I ⟨ρ,vw,by rw[hf];exact fun a H' sm n w=>⟨a,rfl,sm,n,w⟩⟩) fun u s' ⟨v,H',I',rv,a,ev,sm,na,w⟩=>?_;obtain⟨H2,I2,rp,oth⟩:=I'.frz w;subst ev;exact⟨.ref a,H2,I2,rv,q _ H2 (sm.but na (fun u h=>(w.nt u h).1) oth) rp⟩
 | er x=>
  rw[hf] at q;exact h pins s σ H Q I ⟨ρ,vw,by rw[hf];exact q⟩
 | no=>
  rw[hf] at q;exact LU q
theorem G9 (i:Nat) {x:Str} (hN:C.X.N[i]?=some x) (hv:Vis C.X.env.scope x) (hd:(x == ("__debug__":Str))=false:=by decide) (hcd:(x == ("__classdict__":Str))=false:=by decide):EV C (.Name x pos) (a8 i):=by
 intro pins s σ H Q I ⟨ρ,vw,q⟩;unfold a8 at q;split at q
 ·rename_i p e
  obtain⟨v,ev,r⟩:=vw i _ e;exact gM hN hv hd hcd pins s σ H Q I ⟨v,ev,q v H (Same.refl H) r⟩
 ·exact LU q
theorem Ge (i:Nat) {x:Str} (hN:C.X.N[i]?=some x) (hv:Vis C.X.env.scope x) (hd:(x == ("__debug__":Str))=false:=by decide) (hcd:(x == ("__classdict__":Str))=false:=by decide):EO C (.Name x pos) (lX i):=by
 intro pins s σ H Q I ⟨ρ,vw,q⟩;unfold lX at q;split at q
 ·rename_i p e
  obtain⟨v,ev,r⟩:=vw i _ e;exact gM hN hv hd hcd pins s σ H Q I ⟨v,ev,q v H (Same.refl H) r.o⟩
 ·rename_i p e
  obtain⟨v,ev,r⟩:=vw i _ e;exact gM hN hv hd hcd pins s σ H Q I ⟨_,ev,q _ H (Same.refl H) r.o⟩
 ·rename_i ps a e
  obtain⟨ev,r⟩:=vw i _ e;exact gM hN hv hd hcd pins s σ H Q I ⟨_,ev,q _ H (Same.refl H) r.o⟩
 ·exact LU q
theorem aO{i j}:EV C (.Constant (.int i) j pos) (kI i):=fun pins s σ H Q I ⟨_,_,q⟩=>F0 pins s σ H Q I (q _ H (Same.refl H) rfl)
theorem k8{i j}:EV C (.Constant (.bool i) j pos) (kB i):=fun pins s σ H Q I ⟨_,_,q⟩=>I8 pins s σ H Q I (q _ H (Same.refl H) rfl)
theorem ju{j}:EV C (.Constant .none j pos) kN:=fun pins s σ H Q I ⟨_,_,q⟩=>EX pins s σ H Q I (q _ H (Same.refl H) rfl)
theorem aL{x j}:EV C (.Constant (.str x) j pos) (kS x):=fun pins s σ H Q I ⟨_,_,q⟩=>EU pins s σ H Q I (q _ H (Same.refl H) rfl)
theorem D8 {x:Str} {v:V} {u:LB} {p:PV} (hg:Gl C.X x) (hm:C.X.mg x=some u) (r:RelV v u) (rp:∀H,Rep C.X.K H p v) (hd:(x == ("__debug__":Str))=false:=by decide):EV C (.Name x pos) (kP p):=
 fun pins s σ H Q I ⟨_,_,q⟩=>BY hg hm r hd pins s σ H Q I (q _ H (Same.refl H) (rp H))
theorem ae:EA C [] aM:=fun pos pins s σ H Q I ⟨_,_,q⟩=>eX pos pins s σ H Q I (q [] H (Same.refl H) aF.nil)
theorem a5(ha:EV C e f)(hr:EA C es fs)(hs:Lk (e::es) C.X.env=(false,MZ e C.X.env)::Lk es C.X.env:=by exact cq rfl):EA C (e::es) (a7 f fs):=by
 intro pos pins s σ H Q I ⟨ρ,vw,q⟩;refine bt ha hr hs pos pins s σ H Q I ⟨ρ,vw,q.bind.imp fun p _ k v H1 s1 r1=>⟨ρ,vw.same s1,(k.bind.same s1).imp fun ps _ k2 vs H2 s2 r2=>?_⟩⟩;exact k2 (v::vs) H2 (s1.trans s2) (aF.cons (r1.same s2) r2)
def tA1(C:Cn)(f:PSt->R PV):TA:=fun σ H Q=>∃ρ,View C.X.K H σ ρ/\RQ C H (f ρ) fun p=>∀v H',Same H H'->aX C.X.K H' p v->Q [v] H'
theorem qf(ha:EO C e f)(hs:Lk [e] C.X.env=[(false,MZ e C.X.env)]:=by exact bz rfl):PA C.X [e] (tA1 C f):=by
 intro pos pins s σ H Q I ⟨ρ,vw,q⟩;exact bt ha eX hs pos pins s σ H Q I ⟨ρ,vw,q⟩
theorem Same.new{H:Hp}{a:Addr}{o:HO}(h:H a=none):Same H (upd H a o):=.of fun b u e=>by
 rw[aA (bu e h)];exact e
theorem lW{C:Cn}{H:Hp}{ps:List PV}{β:Type}{g:List PV->R β}{k:β->Prop}(h:RQ C H (iz ps >>= g) k):ps.length<=sizeLine/\RQ C H (g ps) k:=by
 unfold iz at h
 by_cases hz:ps.length<=16777216
 ·rw[if_pos hz] at h
  exact⟨by rw[MC];exact hz,h⟩
 ·rw[if_neg hz] at h
  exact LU h
theorem aR{k}(h:EA C es fs):EV C (.Tuple es k pos) (fD fs):=by
 intro pins s σ H Q I ⟨ρ,vw,q⟩;refine ES h pins s σ H Q I ⟨ρ,vw,q.bind.imp fun ps _ k vs H1 s1 r1=>?_⟩;obtain⟨z,k⟩:=lW k;refine⟨by rw[← r1.length];exact z,fun p hp=>?_⟩;exact k _ _ (s1.trans (Same.new hp)) ⟨p,vs,rfl,az,r1.same (Same.new hp)⟩
theorem fg(h:EA C es fs):EN C (.List es pos) (pJ fs):=by
 intro pins s σ H Q I ⟨ρ,vw,q⟩;refine EY h pins s σ H Q I ⟨ρ,vw,q.bind.imp fun ps _ k vs H1 s1 r1=>?_⟩;obtain⟨z,k⟩:=lW k;refine⟨by rw[← r1.length];exact z,fun p hp=>?_⟩;exact k p _ (s1.trans (Same.new hp)) (s1.free hp) ⟨vs,az,r1.same (Same.new hp)⟩
def rP(K:LA)(g:PV->PV->Option PV):R2:=fun v u H Q=>∃p q z,aX K H p v/\aX K H q u/\g p q=some z/\∀w H',Same H H'->Rep K H' z w->Q w H'
theorem t2{σ:L2.St}{H:Hp}{Q:VK}{ρ:PSt}{g:PV->PV->Option PV}{r:R2}(vw:View C.X.K H σ ρ)(q:RQ C H (ah fa fb g ρ) fun p=>∀v H',Same H H'->Rep C.X.K H' p v->Q v H')
  (hr:∀v u H' Q',rP C.X.K g v u H' Q'->r v u H' Q'):tOp r (tO C fa) (tO C fb) σ H Q:=by
 refine⟨ρ,vw,q.bind.imp fun p _ k v H1 s1 r1=>⟨ρ,vw.same s1,(k.bind.same s1).imp fun p2 _ k2 u H2 s2 r2=>?_⟩⟩;obtain⟨z,ez,k3⟩:=k2.ofO;exact hr _ _ _ _ ⟨p,p2,z,r1.same s2,r2,ez,fun w H3 s3 r3=>k3 w H3 ((s1.trans s2).trans s3) r3⟩
theorem aw{op:Operator}{g:PV->PV->Option PV}(ho:OpR C.X (OL op) (rP C.X.K g))(ha:EO C a fa)(hb:EO C b fb):EV C (.BinOp a op b pos) (ah fa fb g):=by
 intro pins s σ H Q I ⟨ρ,vw,q⟩;exact HY ho ha hb pins s σ H Q I (t2 vw q fun _ _ _ _ h=>h)
theorem md{op:CmpOp}{g:PV->PV->Option PV}(ho:OpR C.X (MI op) (rP C.X.K g))(ha:EO C a fa)(hb:EO C b fb)(hm:Ot op b=false:=by first | exact vS _ | with_unfolding_all rfl):EV C (.Compare a [op] [b] pos) (ah fa fb g):=by
 intro pins s σ H Q I ⟨ρ,vw,q⟩;exact C2 ho ha hb hm pins s σ H Q I (t2 vw q fun _ _ _ _ h=>h)
theorem af{g:PV->PV->Option PV}(ho:IxR C.X (rP C.X.K g))(ha:EO C a fa)(hb:EO C b fb)(hs:xZ b:=by exact fun _ _=>rfl):EV C (.Subscript a b pos) (ah fa fb g):=by
 intro pins s σ H Q I ⟨ρ,vw,q⟩;exact HZ ho ha hb hs pins s σ H Q I (t2 vw q fun _ _ _ _ h=>h)
end
end PU
namespace PU
open PySem PySem.Spec PyProof.Rows L2
variable[TW]
section
variable{X : Cx}{pins : List (Addr×Mu)}{σ : L2.St}{H : Hp}{s : LF}
theorem DkR.at{a:Addr}{kvs:List (Key×V)}(hw:X.w=TW.w)(I:Inv X pins σ H s)(h:DkR X.K H a kvs) :
  kvs.length<=sizeLine/\(a == MH)=false/\∃vs,KV kvs vs/\s.heap.DictOf (aq X.prog X.w) a vs:=by
 rcases h with h | h
 ·exact xn I.hok h
 ·exact⟨h.1,h.2.1,h.at _ _ hw _ I.kIn⟩
theorem Cd{ys:List V}{its:List LB}{ps:List PV}(I:Inv X pins σ H s)(hv:Vals ys its)(hz:ys.length<=sizeLine)(hr:aF X.K H ps ys)(t':Nat) :
  ∃H',Inv X pins σ H' { s with heap:=s.heap.push { cls:=.type "list",data:=.seq its.toArray },toks:=t' }/\Same H H'/\Rep X.K H' (.lst ps) (.ref s.heap.objs.size):=by
 have I1:=I.lnew (t':=t') hv hz;have nf:H s.heap.objs.size=none:=I.fresh;obtain⟨H',I2,rp,oth⟩:=L2.Inv.frz (a:=s.heap.objs.size) (p:=.lst ps) I1 ⟨ys,az,hr.same (Same.new nf)⟩;refine⟨H',I2,.of fun b o e=>?_,rp⟩;have hb:=bu e nf;rw[oth b hb,aA hb];exact e
theorem aX.lst_inv{K:LA}{H:Hp}{ps:List PV}{v:V}(h:aX K H (.lst ps) v):∃a xs,v=.ref a/\SqO K H a xs/\aF K H ps xs:=h
theorem aX.tup_inv{K:LA}{H:Hp}{ps:List PV}{v:V}(h:aX K H (.tup ps) v):∃a xs,v=.ref a/\SqT K H a xs/\aF K H ps xs:=by
 obtain⟨a,xs,e,q,r⟩:=(show ∃a xs,v=.ref a/\H a=some (.tup xs)/\aF K H ps xs from h);exact⟨a,xs,e,.inl (.inl q),r⟩
end
theorem A0{prog:Ll}{w:Lx}{A:M6}{E:LB->LF->Prop}{s:LF}{t b:Addr}{vs ws:List LB}{Q:LB->LF->Prop}(ht:IsTup s.heap t vs.toArray)(hb:IsTup s.heap b ws.toArray)
  (h0:vs=[]->Q (.ref b) s) (h1:ws=[]->Q (.ref t) s) (h2:Q (.ref s.heap.objs.size) { s with heap:=s.heap.push { cls:=.type "tuple",data:=.seq (vs++ws).toArray } })
  (hsz:vs.length+ws.length<=sizeLine):Ln (M4 prog w) A (OL .Add (.ref t) (.ref b)) Q E s:=by
 obtain⟨⟨cls,dd,data,sl⟩,ho,hc,n,hd⟩:=id ht;obtain⟨⟨cls2,dd2,data2,sl2⟩,ho2,hc2,n2,hd2⟩:=id hb;simp only at hc hd hc2 hd2;subst hc hd hc2 hd2;have e:vs.toArray++ws.toArray=(vs++ws).toArray:=by simp
 by_cases hv:vs=[]
 ·exact Se ⟨_,ho,rfl⟩ ⟨_,ho2,rfl⟩ Qm S8 P8 P2 (Ox _ _)
   (tuple_addW0 t b vs.toArray ws.toArray n n2 dd dd2 sl sl2 (by simp[hv])) ⟨ho,ho2,h0 hv⟩
 ·by_cases hw:ws=[]
  ·exact Se ⟨_,ho,rfl⟩ ⟨_,ho2,rfl⟩ Qm S8 P8 P2 (Ox _ _)
    (tuple_addW1 t b vs.toArray ws.toArray n n2 dd dd2 sl sl2 (by simpa using hv) (by simp[hw])) ⟨ho,ho2,h1 hw⟩
  ·refine Se ⟨_,ho,rfl⟩ ⟨_,ho2,rfl⟩ Qm S8 P8 P2 (Ox _ _)
    (tuple_addW2 t b vs.toArray ws.toArray n n2 dd dd2 sl sl2 (by simpa using hv) (by simpa using hw) (by rw[Lv,Lv];exact hsz)) ⟨ho,ho2,?_⟩
   rw[e];exact h2
section
variable{X : Cx}
theorem vk{f:LB->LB->Sem LB}{g:PV->PV->Option PV}{r:R2}(h:OpR X f r)
  (hg:∀(p q z:PV),g p q=some z->∃i j,p=.int i/\q=.int j/\∃w:V,(∀K H,Rep K H z w)/\∀H Q,Q w H->r (.int i) (.int j) H Q):OpR X f (rP X.K g):=by
 intro pins s σ H x y v u Q I rx ry ⟨p,q,z,hp,hq,e,k⟩;obtain⟨i,j,rfl,rfl,w,hw,hr⟩:=hg p q z e;cases (show x=.int i from hp);cases (show y=.int j from hq);exact h pins s σ H _ _ v u Q I rx ry (hr H Q (k w H (Same.refl H) (hw _ _)))
theorem zp:OpR X (OL .Mult) (rP X.K wU):=vk F5 fun p q z e=>by
 unfold wU at e;split at e
 ·rename_i i j
  split at e
  ·rename_i hc
   cases e;exact⟨i,j,rfl,rfl,_,fun _ _=>rfl,fun H Q q=>⟨i,j,rfl,rfl,hc.imp (fun h=>⟨by omega,by omega⟩) (fun h=>⟨by omega,by omega⟩),q⟩⟩
  ·cases e
 ·cases e
theorem C6:OpR X (OL .FloorDiv) (rP X.K CZ):=vk C4 fun p q z e=>by
 unfold CZ at e;split at e
 ·rename_i i j
  split at e
  ·rename_i hc
   cases e;exact⟨i,j,rfl,rfl,_,fun _ _=>rfl,fun H Q q=>⟨i,j,rfl,rfl,hc,q⟩⟩
  ·cases e
 ·cases e
theorem bV:OpR X (OL .Mod) (rP X.K dS):=vk F6 fun p q z e=>by
 unfold dS at e;split at e
 ·rename_i i j
  split at e
  ·rename_i hc
   cases e;exact⟨i,j,rfl,rfl,_,fun _ _=>rfl,fun H Q q=>⟨i,j,rfl,rfl,hc,q⟩⟩
  ·cases e
 ·cases e
theorem fw:OpR X (OL .Add) (rP X.K fI):=by
 intro pins s σ H x y v u Q I rx ry ⟨p,q,z,hp,hq,e,k⟩;have hs:=MC;unfold fI at e;split at e
 ·rename_i i j
  cases e;cases (show x=.int i from hp);cases (show y=.int j from hq);exact F8 pins s σ H _ _ v u Q I rx ry ⟨i,j,rfl,rfl,k _ H (Same.refl H) rfl⟩
 ·rename_i i j
  split at e
  ·rename_i hc
   cases e;cases (show x=.str i from hp);cases (show y=.str j from hq);exact ue pins s σ H _ _ v u Q I rx ry ⟨i,j,rfl,rfl,by omega,k _ H (Same.refl H) rfl⟩
  ·cases e
 ·rename_i ps qs
  split at e
  ·rename_i hc
   cases e;obtain⟨a,xs,rfl,hx,r1⟩:=hp;obtain⟨b,ys,rfl,hy,r2⟩:=hq;cases rx;cases ry;obtain⟨hz,its,n,rv,e1⟩:=hx.is I;obtain⟨hz2,its2,n2,rv2,e2⟩:=hy.is I;have l1:=r1.length;have l2:=r2.length;have l3:=rv.length;have l4:=rv2.length;have ea:its.toArray++its2.toArray=(its++its2).toArray:=by simp
   refine PySem.P.add_list e1 e2 ?_ (by simp only[Lv];omega);rw[ea];obtain⟨H',I',sm,rp⟩:=Cd I (rv.append rv2) (by rw[Lw];omega) (r1.append r2) s.toks;exact⟨.ref _,H',I',rfl,k _ H' sm rp⟩
  ·cases e
 ·rename_i ps qs
  split at e
  ·rename_i hc
   cases e;obtain⟨a,xs,rfl,hx,r1⟩:=aX.tup_inv hp;obtain⟨b,ys,rfl,hy,r2⟩:=aX.tup_inv hq;cases rx;cases ry;obtain⟨its,rv,pl,hz⟩:=I.tuple hx;obtain⟨its2,rv2,pl2,hz2⟩:=I.tuple hy;have l1:=r1.length;have l2:=r2.length;have l3:=rv.length;have l4:=rv2.length;refine A0 pl pl2 (fun z=>?_) (fun z=>?_) ?_ (by omega)
   ·subst z
    have:ps=[]:=Mz (by rw[l1,l3];rfl);subst this;exact⟨.ref b,H,I,rfl,k _ H (Same.refl H) hq⟩
   ·subst z
    have:qs=[]:=Mz (by rw[l2,l4];rfl);subst this;rw[Mb] at k;exact⟨.ref a,H,I,rfl,k _ H (Same.refl H) hp⟩
   ·have nf:H s.heap.objs.size=none:=I.fresh
    refine⟨.ref s.heap.objs.size,_,I.laid (t':=s.toks) (o:=.tup (xs++ys)) (fun b ob q=>LP _ q) (LY _) ?_,rfl,k _ _ (Same.new nf) ⟨_,xs++ys,rfl,az,(r1.append r2).same (Same.new nf)⟩⟩;exact⟨by rw[Lw];omega,_,rv.append rv2,Am.new _ _⟩
  ·cases e
 ·cases e
end
end PU
namespace PU
open PySem PySem.Spec PyProof.Rows L2
variable[TW]
structure StOk(K:LA)(B:Hp×Hp)(H:Hp)(σ:L2.St)(ρ:PSt):Prop where
 len:ρ.length=σ.length
 same:Same B.1 H
 kp:Kp B.2 H
 vw:View K H σ ρ
 fresh:∀(i:Nat)(p:PV)(a:Addr),ρ[i]?=some (.own p)->σ[i]?=some (some (.ref a))->B.1 a=none
 apart:∀(i j:Nat)(p q:PV)(a:Addr),ρ[i]?=some (.own p)->ρ[j]?=some (.own q)->σ[i]?=some (some (.ref a))->σ[j]?=some (some (.ref a))->i=j
 pinned:∀(i:Nat)(ps:List PV)(a:Addr),ρ[i]?=some (.pin ps a)->B.1 a≠none
section
variable{K : LA}{B : Hp×Hp}{H H' : Hp}{σ : L2.St}{ρ : PSt}{i : Nat}{p q : PV}{v : V}{a : Addr}
theorem StOk.grow(S:StOk K B H σ ρ)(s:Same H H'):StOk K B H' σ ρ:=⟨S.len,S.same.trans s,S.kp.trans (Same.kp s),S.vw.same s,S.fresh,S.apart,S.pinned⟩
theorem cj{α:Type}{l:List α}{i j:Nat}{x y:α}(h:(l.set i x)[j]?=some y):(j=i/\y=x/\i<l.length)\/(j≠i/\l[j]?=some y):=by
 rw[QC] at h
 by_cases e:i=j
 ·subst e
  rw[if_pos rfl] at h;split at h
  ·rename_i hl
   cases h;exact .inl ⟨rfl,rfl,hl⟩
  ·cases h
 ·rw[if_neg e] at h
  exact .inr ⟨fun z=>e z.symm,h⟩
theorem bw{α:Type}{l:List α}{i j:Nat}{x:α}(h:j≠i):(l.set i x)[j]?=l[j]?:=by
 rw[QC,if_neg fun z=>h z.symm]
theorem eE{α:Type}{l:List α}{i:Nat}{x:α}(h:i<l.length):(l.set i x)[i]?=some x:=by
 rw[QC,if_pos rfl,if_pos h]
theorem StOk.setV(S:StOk K B H σ ρ)(r:Rep K H p v):StOk K B H (σ.set i (some v)) (ρ.set i (.val p)):=by
 refine⟨by simp[S.len],S.same,S.kp,⟨fun j l e=>?_,S.vw.tb⟩,fun j q b e f=>?_,fun j k q q' b e1 e2 f1 f2=>?_,fun j qs b e=>?_⟩
 ·rcases cj e with⟨rfl,rfl,hl⟩|⟨hj,e⟩
  ·exact⟨v,eE (by rw[← S.len];exact hl),r⟩
  ·rw[bw hj]
   exact S.vw j l e
 ·rcases cj e with⟨_,z,_⟩|⟨hj,e⟩
  ·cases z
  ·rw[bw hj] at f
   exact S.fresh j q b e f
 ·rcases cj e1 with⟨_,z,_⟩|⟨hj,e1⟩
  ·cases z
  ·rcases cj e2 with⟨_,z,_⟩|⟨hk,e2⟩
   ·cases z
   ·rw[bw hj] at f1
    rw[bw hk] at f2;exact S.apart j k q q' b e1 e2 f1 f2
 ·rcases cj e with⟨_,z,_⟩|⟨hj,e⟩
  ·cases z
  ·exact S.pinned j qs b e
theorem StOk.setN(S:StOk K B H σ ρ)(s:Same H H')(n:H a=none)(r:cD K H' a p):StOk K B H' (σ.set i (some (.ref a))) (ρ.set i (.own p)):=by
 have other:∀(j:Nat)(q:PV),ρ[j]?=some (.own q)->σ[j]?≠some (some (.ref a)):=fun j q e f=>by
  obtain⟨b,e2,w⟩:=S.vw j _ e;rw[f] at e2;cases e2;cases q with
  | lst ps=>obtain⟨_,w,_⟩:=w;rw[n] at w;cases w
  | dct ks ps=>obtain⟨_,w,_⟩:=w;rw[n] at w;cases w
  | dtt ks ps=>obtain⟨_,w,_⟩:=w;rw[n] at w;cases w
  | _=>exact w
 refine⟨by simp[S.len],S.same.trans s,S.kp.trans (Same.kp s),⟨fun j l e=>?_,s.tabs S.vw.tb⟩,fun j q b e f=>?_,fun j k q q' b e1 e2 f1 f2=>?_,fun j qs b e=>?_⟩
 ·rcases cj e with⟨rfl,rfl,hl⟩|⟨hj,e⟩
  ·exact⟨a,eE (by rw[← S.len];exact hl),r⟩
  ·rw[bw hj]
   exact(S.vw j l e).same s
 ·rcases cj e with⟨rfl,_,hl⟩|⟨hj,e⟩
  ·rw[eE (by rw[← S.len];exact hl)] at f
   cases f;exact S.same.free n
  ·rw[bw hj] at f
   exact S.fresh j q b e f
 ·rcases cj e1 with⟨h1,_,hl⟩|⟨hj,d1⟩
  ·rcases cj e2 with⟨h2,_,_⟩|⟨hk,d2⟩
   ·rw[h1,h2]
   ·subst h1
    rw[eE (by rw[← S.len];exact hl)] at f1;cases f1;rw[bw hk] at f2;exact absurd f2 (other k q' d2)
  ·rcases cj e2 with⟨h2,_,hl⟩|⟨hk,d2⟩
   ·subst h2
    rw[eE (by rw[← S.len];exact hl)] at f2;cases f2;rw[bw hj] at f1;exact absurd f1 (other j q d1)
   ·rw[bw hj] at f1
    rw[bw hk] at f2;exact S.apart j k q q' b d1 d2 f1 f2
 ·rcases cj e with⟨_,z,_⟩|⟨hj,e⟩
  ·cases z
  ·exact S.pinned j qs b e
theorem cD.obj(h:cD K H a p):∃u,H a=some u/\B0 u=false:=by
 cases p with
 | lst ps=>obtain⟨_,w,_⟩:=h;exact⟨_,w,rfl⟩
 | dct ks ps=>obtain⟨_,w,_⟩:=h;exact⟨_,w,rfl⟩
 | dtt ks ps=>obtain⟨_,w,_⟩:=h;exact⟨_,w,rfl⟩
 | _=>exact LU h
theorem cD.kp(k:Kp H H')(e:H' a=H a)(h:cD K H a p):cD K H' a p:=by
 cases p with
 | lst ps=>obtain⟨xs,w,r⟩:=h;exact⟨xs,by rw[e];exact w,r.kp k⟩
 | dct ks ps=>obtain⟨xs,w,z,r⟩:=h;exact⟨xs,by rw[e];exact w,z,r.kp k⟩
 | dtt ks ps=>obtain⟨xs,w,z,r⟩:=h;exact⟨xs,by rw[e];exact w,z,r.kp k⟩
 | _=>exact h
theorem StOk.turn{l':Sl}(S:StOk K B H σ ρ)(e:ρ[i]?=some (.own p))(f:σ[i]?=some (some (.ref a)))(oth:∀b,b≠a->H' b=H b)(hl:DP K H' (some (some (.ref a))) l')(hn:∀ps b,l'≠.pin ps b:=by intro _ _ h;cases h):StOk K B H' σ (ρ.set i l'):=by
 obtain⟨b,f2,w⟩:=S.vw i _ e;rw[f] at f2;cases f2;obtain⟨u,hu,nf⟩:=w.obj;have fa:=S.fresh i p a e f
 have k:Kp H H':=fun b u' eb fb=>by
  have:b≠a:=fun z=>by
   subst z;rw[hu] at eb;cases eb;rw[nf] at fb;cases fb
  rw[oth b this];exact eb
 have ne:∀(j:Nat)(q:PV)(b:Addr),j≠i->ρ[j]?=some (.own q)->σ[j]?=some (some (.ref b))->b≠a:=fun j q b hj e2 f2 z=>by
  subst z;exact hj (S.apart j i q p b e2 e f2 f)
 refine⟨by simp[S.len],S.same.but fa (fun u h=>(w.nt u h).1) oth,S.kp.trans k,⟨fun j l ej=>?_,S.vw.tb.but w.nt oth⟩,fun j q b ej fj=>?_,fun j m q q' b e1 e2 f1 f2=>?_,fun j qs b e=>?_⟩
 ·rcases cj ej with⟨rfl,rfl,hl2⟩|⟨hj,ej⟩
  ·rw[f]
   exact hl
  ·have:=S.vw j l ej
   cases l with
   | no=>exact trivial
   | val q=>obtain⟨v,e1,r⟩:=this;exact⟨v,e1,r.kp k⟩
   | own q=>
    obtain⟨b,e1,r⟩:=this;exact⟨b,e1,r.kp k (oth b (ne j q b hj ej e1))⟩
   | pin qs b=>
    exact⟨this.1,this.2.kp k (oth b fun z=>S.pinned j qs b ej (by rw[z];exact fa))⟩
 ·rcases cj ej with⟨rfl,_,_⟩|⟨hj,ej⟩
  ·rw[f] at fj
   cases fj;exact fa
  ·exact S.fresh j q b ej fj
 ·have fix:∀(j:Nat)(q:PV),(ρ.set i l')[j]?=some (.own q)->∃q',ρ[j]?=some (.own q'):=fun j q ej=>by
   rcases cj ej with⟨rfl,_,_⟩|⟨hj,ej⟩
   ·exact⟨p,e⟩
   ·exact⟨q,ej⟩
  obtain⟨q1,g1⟩:=fix j q e1;obtain⟨q2,g2⟩:=fix m q' e2;exact S.apart j m q1 q2 b g1 g2 f1 f2
 ·rcases cj e with⟨_,z,_⟩|⟨hj,e⟩
  ·exact absurd z.symm (hn qs b)
  ·exact S.pinned j qs b e
theorem StOk.rebase{B':Hp}(S:StOk K B H σ ρ)(k:Kp B' H):StOk K (B.1,B') H σ ρ:=⟨S.len,S.same,k,S.vw,S.fresh,S.apart,S.pinned⟩
end
def RS(C:Cn)(B:Hp×Hp)(D:Ends):R Fl->Prop
 | .ok (.next ρ)=>∀σ H,StOk C.X.K B H σ ρ->D.nx σ H
 | .ok (.brk ρ)=>∀σ H,StOk C.X.K B H σ ρ->D.bk σ H
 | .ok (.cont ρ)=>∀σ H,StOk C.X.K B H σ ρ->D.ct σ H
 | .ok (.ret p)=>∀v H,Same B.1 H->Rep C.X.K H p v->D.rt v H
 | .er x=>∀H,Same B.1 H->C.Ac x H
 | .no=>False
def tS(C:Cn)(g:PSt->R Fl):TS:=fun D σ H=>∃ρ B,StOk C.X.K B H σ ρ/\RS C B D (g ρ)
def SV(C:Cn)(st:Stmt)(g:PSt->R Fl):Prop:=PS C.X st (tS C g)
def SVs(C:Cn)(st:List Stmt)(g:PSt->R Fl):Prop:=PSs C.X st (tS C g)
section
variable{C : Cn}{B : Hp×Hp}{D : Ends}{H : Hp}{α : Type}
theorem RS.bind{r:R α}{g:α->R Fl}(h:RS C B D (r >>= g))(s:Same B.1 H):RQ C H r fun a=>RS C B D (g a):=by
 cases r with
 | ok a=>exact h
 | er x=>exact fun H' s'=>h H' (s.trans s')
 | no=>exact h
theorem RS.ofO{o:Option α}{g:α->R Fl}(h:RS C B D (R.ofO o >>= g)):∃a,o=some a/\RS C B D (g a):=by
 cases o with
 | none=>exact LU h
 | some a=>exact⟨a,rfl,h⟩
end
section
variable{C : Cn}{st : Stmt}{sts a b body : List Stmt}{e tg iter c : Expr}{f fk : PSt → R PV}{g g' : PSt → R Fl}{pos : N8}{t : PSt → R Bool}
theorem aW:SVs C [] cL:=fun pins s σ H D I ⟨ρ,B,S,h⟩=>vq pins s σ H D I (h σ H S)
theorem a6(h1:SV C st g)(h2:SVs C sts g'):SVs C (st::sts) (aI g g'):=by
 intro pins s σ H D I ⟨ρ,B,S,h⟩;refine sf h1 h2 pins s σ H D I ⟨ρ,B,S,?_⟩;unfold aI at h;cases hg:g ρ with
 | ok fl=>
  rw[hg] at h;cases fl with
  | next ρ'=>exact fun σ' H' S'=>⟨ρ',B,S',h⟩
  | brk ρ'=>exact h
  | cont ρ'=>exact h
  | ret p=>exact h
 | er x=>rw[hg] at h;exact h
 | no=>rw[hg] at h;exact h
theorem ab(h1:SV C st g):SVs C [st] g:=by
 intro pins s σ H D I ⟨ρ,B,S,h⟩;exact qO h1 pins s σ H D I ⟨ρ,B,S,h⟩
theorem yN:SV C (.Break pos) J9:=fun pins s σ H D I ⟨ρ,B,S,h⟩=>zb pins s σ H D I (h σ H S)
theorem aB(he:EV C e f):SV C (.Return (some e) pos) (cb f):=by
 intro pins s σ H D I ⟨ρ,B,S,h⟩;exact vt he pins s σ H D I ⟨ρ,S.vw,(h.bind S.same).imp fun p _ k v H' s' r=>k v H' (S.same.trans s') r⟩
theorem dG(hc:ET C c t)(ha:SVs C a g)(hb:SVs C b g'):SV C (.If c a b pos) (ifF t g g'):=by
 intro pins s σ H D I ⟨ρ,B,S,h⟩;refine EG hc ha hb pins s σ H D I ⟨ρ,S.vw,(h.bind S.same).imp fun k _ q H' s'=>?_⟩;cases k with
 | true=>exact DK ⟨ρ,B,S.grow s',q⟩
 | false=>exact DL ⟨ρ,B,S.grow s',q⟩
theorem ar(i:Nat){x:Str}{pos':N8}(hN:C.X.N.Nodup)(he:EV C e f)(hs:P3 e (some (.Name x pos')) pos.line C.X.env=pure false:=by rfl)
  (hf:C.X.fn x=true\/C.X.env.scope.names.lookup x=some .local:=by first | exact .inl rfl | exact .inr rfl | assumption) (hi:C.X.N[i]?=some x:=by rfl) (hx:Loc C.X.env.scope x:=by first | exact .inl rfl | exact .inr rfl) :
  SV C (.Assign [.Name x pos'] e pos) (bK i f):=by
 intro pins s σ H D I ⟨ρ,B,S,h⟩;exact AG hN hi hx he hs hf pins s σ H D I ⟨ρ,S.vw,(h.bind S.same).imp fun p _ k v H' s' r=>k _ H' ((S.grow s').setV r)⟩
theorem dW(i:Nat){x:Str}{pos':N8}(hN:C.X.N.Nodup)(he:EN C e f)(hs:P3 e (some (.Name x pos')) pos.line C.X.env=pure false:=by rfl)
  (hf:C.X.fn x=true\/C.X.env.scope.names.lookup x=some .local:=by first | exact .inl rfl | exact .inr rfl | assumption) (hi:C.X.N[i]?=some x:=by rfl) (hx:Loc C.X.env.scope x:=by first | exact .inl rfl | exact .inr rfl) :
  SV C (.Assign [.Name x pos'] e pos) (mC i f):=by
 intro pins s σ H D I ⟨ρ,B,S,h⟩;exact AG hN hi hx he hs hf pins s σ H D I ⟨ρ,S.vw,(h.bind S.same).imp fun p _ k a H' s' n r=>k _ H' (S.setN s' n r)⟩
theorem G5{pins:List (Addr×Mu)}{s:LF}{σ:L2.St}{H:Hp}{B:Hp×Hp}{ρ:PSt}(i:Nat)(I:Inv C.X pins σ H s)(S:StOk C.X.K B H σ ρ):∃H',Inv C.X pins σ H' s/\StOk C.X.K B H' σ (ux i ρ):=by
 unfold ux
 split
 ·rename_i p e
  obtain⟨a,f,w⟩:=S.vw i _ e;obtain⟨H',I',rp,oth⟩:=L2.Inv.frz I w;exact⟨H',I',S.turn e f oth ⟨_,rfl,rp⟩⟩
 ·exact⟨H,I,S⟩
theorem SV.frz(i:Nat)(h:SV C st g):SV C st (qA i g):=by
 intro pins s σ H D I ⟨ρ,B,S,q⟩;obtain⟨H',I',S'⟩:=G5 i I S;exact h pins s σ H' D I' ⟨_,B,S',q⟩
def tTg(C:Cn)(h:PV->PSt->Option PSt):TG:=fun v σ H Q=>∃ρ B p ρ',StOk C.X.K B H σ ρ/\Rep C.X.K H p v/\h p ρ=some ρ'/\∀σ',StOk C.X.K B H σ' ρ'->Q σ' H
def TGt(C:Cn)(tg:Expr)(h:PV->PSt->Option PSt):Prop:=PG C.X tg (tTg C h)
def K5(C:Cn)(h:List PV->PSt->Option PSt):TGs:=fun vs σ H Q=>∃ρ B ps ρ',StOk C.X.K B H σ ρ/\aF C.X.K H ps vs/\h ps ρ=some ρ'/\∀σ',StOk C.X.K B H σ' ρ'->Q σ' H
def Dz(C:Cn)(ts:List Expr)(h:List PV->PSt->Option PSt):Prop:=PGs C.X ts (K5 C h)
theorem aH(i:Nat){x:Str}(hN:C.X.N.Nodup)(hf:C.X.fn x=true\/C.X.env.scope.names.lookup x=some .local:=by first | exact .inl rfl | exact .inr rfl | assumption)(hi:C.X.N[i]?=some x:=by rfl)(hx:Loc C.X.env.scope x:=by first | exact .inl rfl | exact .inr rfl) :
  TGt C (.Name x pos) (ai i):=by
 intro pins s σ H v u Q I r ⟨ρ,B,p,ρ',S,rp,e,k⟩;cases e;exact qP hN hi hx hf pins s σ H v u Q I r (k _ (S.setV rp))
theorem fq:Dz C [] gw:=by
 intro pins s σ H vs us Q I r ⟨ρ,B,ps,ρ',S,rp,e,k⟩;cases ps with
 | nil=>cases e;cases rp;exact vF pins s σ H _ us Q I r ⟨rfl,k _ S⟩
 | cons _ _=>cases e
theorem aT{es:List Expr}{h:PV->PSt->Option PSt}{h':List PV->PSt->Option PSt}(h1:TGt C e h)(h2:Dz C es h')(hs:(NI (e::es) C.X.env).map (·.2)=Qp e C.X.env::(NI es C.X.env).map (·.2):=by rfl):Dz C (e::es) (aJ h h'):=by
 intro pins s σ H vs us Q I r ⟨ρ,B,ps,ρ',S,rp,ee,k⟩;cases ps with
 | nil=>cases ee
 | cons p qs=>
  obtain⟨x,xs,rfl,rp1,rp2⟩:=rp;have ee:(h p ρ).bind (fun ρ1=>h' qs ρ1)=some ρ':=ee;obtain⟨ρ1,e1,e2⟩:=LR.mp ee;exact sj h1 h2 hs pins s σ H _ us Q I r ⟨x,xs,rfl,ρ,B,p,ρ1,S,rp1,e1,fun σ1 S1=>⟨ρ1,B,qs,ρ',S1,rp2,e2,k⟩⟩
end
end PU
namespace PU
open PySem PySem.Spec PyProof.Rows L2
variable[TW]
section
variable{C : Cn}{st : Stmt}{sts a b body : List Stmt}{e tg iter c : Expr}{f fk : PSt → R PV}{g g' : PSt → R Fl}{pos : N8}{t : PSt → R Bool}
theorem iu{es:List Expr}{k n:Nat}{h:List PV->PSt->Option PSt}(hc:C.X.calm=true)(hh:Dz C es h)
  (hn:(NI es C.X.env).length=n:=by rfl) (hst:(NI es C.X.env).findIdx? (·.1)=none:=by rfl):TGt C (.Tuple es k pos) (gv n h):=by
 intro pins s σ H v u Q I r ⟨ρ,B,p,ρ',S,rp,e,k⟩;cases p with
 | tup ps=>
  have e:(if ps.length=n then h ps ρ else none)=some ρ':=e
  by_cases hl:ps.length=n
  ·rw[if_pos hl] at e
   obtain⟨a,xs,rfl,hq,r1⟩:=rp;exact AI hc hh hn hst pins s σ H _ u Q I r ⟨a,xs,rfl,tq hq,by rw[← r1.length];exact hl,ρ,B,ps,ρ',S,r1,e,k⟩
  ·rw[if_neg hl] at e
   cases e
 | _=>cases e
def ItP(K:LA)(J:It)(H₁:Hp)(ps:List PV):Prop:=
 ∀(i:Nat)(H:Hp),Kp H₁ H->(i=ps.length->J.stop i H)/\∀p,ps[i]?=some p->J.go i H/\∀x H',J.yld i H x H'->Same H H'/\Rep K H' p x
def tI(C:Cn)(f:PSt->R (List PV)):TI:=fun σ H Q=>∃ρ,View C.X.K H σ ρ/\RQ C H (f ρ) fun ps=>∀J H',Same H H'->ItP C.X.K J H' ps->Q J H'
def EI(C:Cn)(tg iter:Expr)(f:PSt->R (List PV)):Prop:=PI C.X tg iter (tI C f)
theorem tj{α:Type}{l:List α}{i:Nat}{x:α}(h:l[i]?=some x):l.drop i=x::l.drop (i+1):=by
 obtain⟨hl,e⟩:=LM.mp h;rw[Me hl,e]
theorem bR{fi:PSt->R (List PV)}{h:PV->PSt->Option PSt}(hi:EI C tg iter fi)(hg:TGt C tg h)(hb:SVs C body g)
  (hs:∀x,Pa iter C.X.env x=pure x:=by intro _;rfl) (hp:SN (M4 C.X.prog C.X.w) C.X.A C.X.env C.X.xe:=by exact Rt) (hc:C.X.calm=true:=by rfl):SV C (.For tg iter body [] pos) (iB fi h g):=by
 intro pins s σ H D I ⟨ρ,B,S,q⟩;refine EH hp hc hi hg hb hs pins s σ H D I ⟨ρ,S.vw,(q.bind S.same).imp fun ps _ k J H1 s1 it=>?_⟩;refine⟨fun i m σ' H'=>∃ρ',m=ps.length-i/\i<=ps.length/\StOk C.X.K (B.1,H1) H' σ' ρ'/\RS C B D (gh h g (ps.drop i) ρ'),⟨ps.length,ρ,rfl,N0 _,(S.grow s1).rebase (Kp.refl H1),by simpa using k⟩,?_⟩;rintro i m σ' H' ⟨ρ',rfl,hi',S',q'⟩;have back:∀{σ2:L2.St}{H2:Hp}{ρ2:PSt},StOk C.X.K (B.1,H1) H2 σ2 ρ2->StOk C.X.K B H2 σ2 ρ2:=fun {σ2 H2 ρ2} S2=>⟨S2.len,S2.same,(S.kp.trans (Same.kp s1)).trans S2.kp,S2.vw,S2.fresh,S2.apart,S2.pinned⟩;obtain⟨stp,stepp⟩:=it i H' S'.kp
 by_cases hlt:i<ps.length
 ·have ei:ps[i]?=some ps[i]:=by simp[hlt]
  obtain⟨go,yl⟩:=stepp _ ei;rw[tj ei] at q';obtain⟨ρ1,e1,q1⟩:=RS.ofO q';refine .inr ⟨go,fun σ2 H2=>∃ρ2,StOk C.X.K (B.1,H1) H2 σ2 ρ2/\RS C B D (gh h g (ps.drop (i+1)) ρ2),fun σ2 H2 ⟨ρ2,S2,r2⟩=>⟨ps.length-(i+1),by omega,ρ2,rfl,hlt,S2,r2⟩,fun x H2 y=>?_⟩;obtain⟨s2,rp⟩:=yl x H2 y;refine⟨ρ',(B.1,H1),ps[i],ρ1,S'.grow s2,rp,e1,fun σ3 S3=>⟨ρ1,(B.1,H1),S3,?_⟩⟩;cases hgr:g ρ1 with
  | ok fl=>
   rw[hgr] at q1;cases fl with
   | next ρ2=>exact fun σ4 H4 S4=>⟨ρ2,S4,q1⟩
   | cont ρ2=>exact fun σ4 H4 S4=>⟨ρ2,S4,q1⟩
   | brk ρ2=>exact fun σ4 H4 S4=>q1 σ4 H4 (back S4)
   | ret p=>exact q1
  | er x=>rw[hgr] at q1;exact q1
  | no=>rw[hgr] at q1;exact q1
 ·have e:i=ps.length:=by omega
  subst e;rw[PK] at q';exact .inl ⟨stp rfl,q' σ' H' (back S')⟩
end
end PU
namespace PU
open PySem PySem.Spec PyProof.Rows L2
variable[TW]
def spP(K:LA)(n:Nat)(F:List PV->Option PV):Sp:=fun vs H Q _=>vs.length=n/\uN H/\∃ps p,aF K H ps vs/\F ps=some p/\∀v H',Same H H'->Rep K H' p v->Q v H'
structure PF(P:Ll)(w:Lx)(K:LA)(mg:Str->Option LB)(base:Heap)(k:Nat)(x:Str)(F:List PV->Option PV):Prop where
 ex:∃(f:Addr)(fd:Mx)(ps:List Str),FnOk P w K mg base CX0 k f fd ps (spP K ps.length F)/\mg x=some (.ref f)/\N5 K (.ref f)=true/\Binds K fd ps []/\∀qs p,F qs=some p->qs.length=ps.length
section
variable{C : Cn}{e : Expr}{es : List Expr}{fs : PSt → R (List PV)}{x : Str}{k : Nat}{F : List PV → Option PV}{p pos : N8}
theorem aj(G:PF C.X.prog C.X.w C.X.K C.X.mg C.X.base k x F){kr:Nat}(hr:Room kr C.X.A)(ha:EA C (e::es) fs)
  (hdb:(x == ("__debug__":Str))=false:=by decide) (he:Lk (e::es) C.X.env=(false,MZ e C.X.env)::Lk es C.X.env:=by exact cq rfl) (hpl:(OR pos (Lk es C.X.env)).any (·.1)=false:=by exact kK rfl) (hk:k<=kr:=by decide) (hg:Gl C.X x:=by exact rfl) :
  EV C (.Call (.Name x p) (e::es) [] pos) (aK fs F):=by
 replace hr:=hr.mono hk;obtain⟨f,fd,ps,a,b,c,d,l⟩:=G.ex;intro pins s σ H Q I ⟨ρ,vw,q⟩;refine vI (dvs:=[]) (ds:=[]) (E:=E0) a hr hg b c d .nil F3 ha hdb he hpl pins s σ H Q I ⟨ρ,vw,q.bind.imp fun qs _ k vs H1 s1 r1=>?_⟩;obtain⟨z,ez,k⟩:=k.ofO;rw[Mb];exact⟨by rw[← r1.length];exact l qs z ez,s1.tabs vw.tb,qs,z,r1,ez,fun v H' s' r'=>k v H' (s1.trans s') r'⟩
end
section
variable{P : Ll}{w : Lx}{K : LA}{mg : Str → Option LB}{base : Heap}
abbrev DN(P:Ll)(w:Lx)(K:LA)(mg:Str->Option LB)(base:Heap)(N:List Str)(qual:Str)(sc:Scope)(f:Addr)(cdv:LB)(A:M6)(outer:List QO)(s:LF)(H:Hp)(E:XK):Cn:=
 ⟨(Ba CX0 P w K mg base N qual sc f cdv A outer s H E).nox,fun _ _=>False⟩
theorem AL{ps:List PV}{n i:Nat}{p:PV}(e:(start n ps)[i]?=some (.own p)):False:=by
 unfold start at e
 by_cases hi:i<ps.length
 ·rw[Lp (by simpa using hi),LO] at e
  cases h:ps[i]? with
  | none=>rw[h] at e;cases e
  | some p=>rw[h] at e;cases e
 ·rw[M3 (by simpa using hi),MQ] at e
  split at e <;> cases e
theorem Fb{n i:Nat}{ps qs:List PV}{a:Addr}(e:(start n ps)[i]?=some (.pin qs a)):False:=by
 unfold start at e
 by_cases hi:i<ps.length
 ·rw[Lp (by simpa using hi),LO] at e
  cases h:ps[i]? with
  | none=>rw[h] at e;cases e
  | some p=>rw[h] at e;cases e
 ·rw[M3 (by simpa using hi),MQ] at e
  split at e <;> cases e
theorem kJ{K:LA}{H:Hp}{N:List Str}{ps:List PV}{vs:List V}(tb:uN H)(r:aF K H ps vs):StOk K (H,H) H (L2.start N vs) (start N.length ps):=by
 have hl:=r.length;refine⟨by simp[start,L2.start,hl],Same.refl H,Kp.refl H,⟨fun i l e=>?_,tb⟩,fun i p a e f=>?_,fun i j p q a e1 e2 f1 f2=>?_,fun i qs a e=>?_⟩
 ·unfold start at e
  by_cases hi:i<ps.length
  ·rw[Lp (by simpa using hi),LO] at e
   cases h:ps[i]? with
   | none=>rw[h] at e;cases e
   | some p=>
    rw[h] at e;cases e;obtain⟨v,ev,rp⟩:=r.get h;refine⟨v,?_,rp⟩;unfold L2.start;rw[Lp (by rw[LJ,← hl];exact hi),LO,ev];rfl
  ·rw[M3 (by simpa using hi),MQ] at e
   split at e
   ·cases e
    exact trivial
   ·cases e
 all_goals exfalso
 ·exact AL e
 ·exact AL e1
 ·exact Fb e
theorem HW{x qual:Str}{st:Stmt}{f:Addr}{fd:Mx}{N ps:List Str}{k:Nat}{g:PSt->R Fl}(F:Fun K x qual st f fd)(S:FnScope N ps (aa st))(hm:mg x=some (.ref f))(hb:Binds K fd ps [])
  (hbody:∀(cdv:LB)(A:M6)(outer:List QO)(s:LF)(H:Hp)(E:XK),Room k (A.deeper (Oh qual (aa st) s.heap.objs.size f cdv))->SVs (DN P w K mg base N qual (aa st) f cdv A outer s H E) (bH st) g) :
  PF P w K mg base (k+1) x (eD ps.length N.length g):=by
 refine⟨f,fd,ps,F.ok S (fun vs H Q E h=>h.1) (fun cdv A outer s H vs Q E hr h=>?_),hm,F.kp,hb,fun qs p h=>?_⟩
 ·obtain⟨hl,tb,qs,p,r,e,k⟩:=h
  refine⟨_,hbody cdv A outer s H E hr,start N.length qs,(H,H),kJ tb r,?_⟩;unfold eD at e;rw[if_pos (by rw[r.length];exact hl)] at e;cases hg:g (start N.length qs) with
  | ok fl=>
   rw[hg] at e;cases fl with
   | next ρ=>cases e;exact fun σ H' S'=>k .non H' S'.same rfl
   | ret q=>cases e;exact fun v H' s' r'=>k v H' s' r'
   | brk ρ=>cases e
   | cont ρ=>cases e
  | er x=>rw[hg] at e;cases e
  | no=>rw[hg] at e;cases e
 ·unfold eD at h
  split at h
  ·rename_i hl;exact hl
  ·cases h
end
end PU
namespace PU
open PySem PySem.Spec PyProof.Rows L2
variable[TW]
def gu(X:Cx)(N':List Str)(scope:Scope)(cl:List (Str×Addr))(L:Addr)(s₂:LF)(H₂:Hp)(fp:List Addr):Cx where
 prog:=X.prog
 w:=X.w
 K:=X.K
 mg:=X.mg
 base:=X.base
 A:=X.A
 N:=N'
 s₀:=s₂
 H₀:=H₂
 env:=compEnvC scope cl L X.env
 outer:=X.stack
 stack:=X.stack
 ex:=fp
 fn:=fun _=>false
 calm:=true
 pn:=[]
 xe:=fun _ _=>False
abbrev fL(C:Cn)(N':List Str)(scope:Scope)(cl:List (Str×Addr))(L:Addr)(s₂:LF)(H₂:Hp)(fp:List Addr):Cn:=⟨gu C.X N' scope cl L s₂ H₂ fp,fun _ _=>False⟩
def tTc(C:Cn)(h:Tgt):TG:=fun v σ H Q=>∃ρ p ρ',ρ.length=σ.length/\View C.X.K H σ ρ/\Rep C.X.K H p v/\h p ρ=some ρ'/\∀σ',ρ'.length=σ'.length->View C.X.K H σ' ρ'->Q σ' H
def TCt(C:Cn)(tg:Expr)(h:Tgt):Prop:=PG C.X tg (tTc C h)
def K6(C:Cn)(h:xY):TGs:=fun vs σ H Q=>∃ρ ps ρ',ρ.length=σ.length/\View C.X.K H σ ρ/\aF C.X.K H ps vs/\h ps ρ=some ρ'/\∀σ',ρ'.length=σ'.length->View C.X.K H σ' ρ'->Q σ' H
def DA(C:Cn)(ts:List Expr)(h:xY):Prop:=PGs C.X ts (K6 C h)
theorem View.setV{K:LA}{H:Hp}{σ:L2.St}{ρ:PSt}{i:Nat}{p:PV}{v:V}(vw:View K H σ ρ)(hl:ρ.length=σ.length)(r:Rep K H p v):View K H (σ.set i (some v)) (ρ.set i (.val p)):=by
 refine⟨fun j l e=>?_,vw.tb⟩;rcases cj e with⟨rfl,rfl,hl2⟩|⟨hj,e⟩
 ·exact⟨v,eE (by rw[← hl];exact hl2),r⟩
 ·rw[bw hj]
  exact vw j l e
section
variable{C : Cn}{e : Expr}{pos : N8}
theorem Bo(i:Nat){x:Str}(hN:C.X.N.Nodup)(hi:C.X.N[i]?=some x)(hx:Loc C.X.env.scope x)(hf:C.X.fn x=true\/C.X.env.scope.names.lookup x=some .local:=by first | exact .inl rfl | exact .inr rfl | assumption) :
  TCt C (.Name x pos) (ai i):=by
 intro pins s σ H v u Q I r ⟨ρ,p,ρ',hl,vw,rp,e,k⟩;cases e;exact qP hN hi hx hf pins s σ H v u Q I r (k _ (by simp[hl]) (vw.setV hl rp))
theorem qH:DA C [] gw:=by
 intro pins s σ H vs us Q I r ⟨ρ,ps,ρ',hl,vw,rp,e,k⟩;cases ps with
 | nil=>cases e;cases rp;exact vF pins s σ H _ us Q I r ⟨rfl,k _ hl vw⟩
 | cons _ _=>cases e
theorem ia{es:List Expr}{h:Tgt}{h':xY}(h1:TCt C e h)(h2:DA C es h')(hs:(NI (e::es) C.X.env).map (·.2)=Qp e C.X.env::(NI es C.X.env).map (·.2):=by rfl):DA C (e::es) (aJ h h'):=by
 intro pins s σ H vs us Q I r ⟨ρ,ps,ρ',hl,vw,rp,ee,k⟩;cases ps with
 | nil=>cases ee
 | cons p qs=>
  obtain⟨x,xs,rfl,rp1,rp2⟩:=rp;have ee:(h p ρ).bind (fun ρ1=>h' qs ρ1)=some ρ':=ee;obtain⟨ρ1,e1,e2⟩:=LR.mp ee;exact sj h1 h2 hs pins s σ H _ us Q I r ⟨x,xs,rfl,ρ,p,ρ1,hl,vw,rp1,e1,fun σ1 hl1 vw1=>⟨ρ1,qs,ρ',hl1,vw1,rp2,e2,k⟩⟩
theorem va{es:List Expr}{k n:Nat}{h:xY}(hc:C.X.calm=true)(hh:DA C es h)
  (hn:(NI es C.X.env).length=n:=by rfl) (hst:(NI es C.X.env).findIdx? (·.1)=none:=by rfl):TCt C (.Tuple es k pos) (gv n h):=by
 intro pins s σ H v u Q I r ⟨ρ,p,ρ',hl,vw,rp,e,k⟩;cases p with
 | tup ps=>
  have e:(if ps.length=n then h ps ρ else none)=some ρ':=e
  by_cases hl2:ps.length=n
  ·rw[if_pos hl2] at e
   obtain⟨a,xs,rfl,hq,r1⟩:=rp;exact AI hc hh hn hst pins s σ H _ u Q I r ⟨a,xs,rfl,tq hq,by rw[← r1.length];exact hl2,ρ,ps,ρ',hl,vw,r1,e,k⟩
  ·rw[if_neg hl2] at e
   cases e
 | _=>cases e
end
def DR(n:Nat)(h:Tgt):Prop:=∀p ρ ρ1,h p ρ=some ρ1->ρ1.length=ρ.length/\∀i,n<=i->ρ1[i]?=ρ[i]?
def Al(n:Nat)(h:xY):Prop:=∀p ρ ρ1,h p ρ=some ρ1->ρ1.length=ρ.length/\∀i,n<=i->ρ1[i]?=ρ[i]?
theorem sI{n i:Nat}(h:i<n):DR n (ai i):=fun p ρ ρ1 e=>by
 cases e;exact⟨by simp,fun j hj=>bw (by omega)⟩
theorem wc{n:Nat}:Al n gw:=fun ps ρ ρ1 e=>by
 cases ps with
 | nil=>cases e;exact⟨rfl,fun _ _=>rfl⟩
 | cons _ _=>cases e
theorem sJ{n:Nat}{h:Tgt}{h':xY}(a:DR n h)(b:Al n h'):Al n (aJ h h'):=fun ps ρ ρ2 e=>by
 cases ps with
 | nil=>cases e
 | cons p qs=>
  have e:(h p ρ).bind (fun ρ1=>h' qs ρ1)=some ρ2:=e;obtain⟨ρ1,e1,e2⟩:=LR.mp e;obtain⟨l1,g1⟩:=a p ρ ρ1 e1;obtain⟨l2,g2⟩:=b qs ρ1 ρ2 e2;exact⟨l2.trans l1,fun i hi=>(g2 i hi).trans (g1 i hi)⟩
theorem wb{n m:Nat}{h:xY}(a:Al n h):DR n (gv m h):=fun p ρ ρ1 e=>by
 cases p with
 | tup ps=>
  have e:(if ps.length=m then h ps ρ else none)=some ρ1:=e;split at e
  ·exact a ps ρ ρ1 e
  ·cases e
 | _=>cases e
def ETs(C:Cn)(ifs:List Expr)(t:PSt->R Bool):Prop:=(ifs=[]/\t=iT)\/∃c,ifs=[c]/\ET C c t
theorem xi{C:Cn}:ETs C [] iT:=.inl ⟨rfl,rfl⟩
def eU(cells:List (Str×Addr)):List (Str×Nl)->List (Str×Addr)->List (Str×Addr)
 | [],acc=>acc
 | (n,k)::r,acc=>if (k == .free)=true then (match cells.lookup n with
  | some c=>eU cells r ((n,c)::acc)
  | none=>eU cells r acc) else eU cells r acc
theorem d8{scope:Scope}{env:QO}(h:∀y∈scope.names,y.2=.free->∃c,env.cells.lookup y.1=some c):closureFor scope env=pure (eU env.cells scope.names []):=by
 have gen:∀(l:List (Str×Nl))(acc:List (Str×Addr)),(∀y∈l,y.2=.free->∃c,env.cells.lookup y.1=some c)->
   (forIn l acc fun x r=>(match x with | (name,kind)=>if (kind == MO)=true then do let a<- Rf env name;pure (NA ((name,a)::r)) else pure (NA r):Sem (ForInStep (List (Str×Addr)))))=pure (eU env.cells l acc):=by
  intro l
  induction l with
  | nil=>intro acc _;rfl
  | cons y r ih=>
   intro acc hy;obtain⟨n,k⟩:=y;rw[List.forIn_cons];have hr:=fun z hz=>hy z (Lo _ hz)
   by_cases hk:(k == MO)=true
   ·obtain⟨c,hc⟩:=hy (n,k) Lu (by simpa using hk)
    have hc:env.cells.lookup n=some c:=hc;have e1:Rf env n=pure c:=by unfold Rf;rw[hc]
    simp only[hk,if_true,e1,eU,hc];exact ih _ hr
   ·simp only[hk,if_false,eU]
    exact ih _ hr
 have:=gen scope.names [] h;have e:closureFor scope env=((forIn scope.names ([]:List (Str×Addr)) fun x r=>(match x with | (name,kind)=>if (kind == MO)=true then do let a<- Rf env name;pure (NA ((name,a)::r)) else pure (NA r):Sem (ForInStep (List (Str×Addr))))) >>= fun cs=>pure cs):=rfl;rw[e,this];rfl
theorem dy{cells:List (Str×Addr)}{x:Str}{c:Addr}:∀{l:List (Str×Nl)}{acc:List (Str×Addr)},(eU cells l acc).lookup x=some c->cells.lookup x=some c\/acc.lookup x=some c
 | [],acc,h=>.inr h
 | (n,k)::r,acc,h=>by
  unfold eU at h;split at h
  ·split at h
   ·rename_i d hd
    rcases dy h with z | z
    ·exact .inl z
    ·rw[M8] at z
     by_cases e:(x == n)=true
     ·rw[e] at z
      cases z;rw[OF e];exact .inl hd
     ·simp only[Od] at e
      rw[e] at z;exact .inr z
   ·exact dy h
  ·exact dy h
theorem jw{cells:List (Str×Addr)}{x:Str}:∀{l:List (Str×Nl)}{acc:List (Str×Addr)},(acc.lookup x).isSome=true->((eU cells l acc).lookup x).isSome=true
 | [],acc,h=>h
 | (n,k)::r,acc,h=>by
  unfold eU
  split
  ·split
   ·refine jw ?_
    rw[M8]
    split
    ·rfl
    ·exact h
   ·exact jw h
  ·exact jw h
theorem tB{cells:List (Str×Addr)}{x:Str}{c:Addr}(hc:cells.lookup x=some c):∀{l:List (Str×Nl)}{acc:List (Str×Addr)},(x,MO)∈l->(eU cells l acc).lookup x=some c:=by
 have fin:∀{l:List (Str×Nl)}{acc:List (Str×Addr)},(∀d,acc.lookup x=some d->d=c)->((eU cells l acc).lookup x).isSome=true->(eU cells l acc).lookup x=some c:=fun {l acc} ha h=>by
  obtain⟨d,hd⟩:=Qk.mp h;rcases dy hd with z | z
  ·rw[hc] at z;cases z;exact hd
  ·rw[hd,ha d z]
 intro l
 induction l with
 | nil=>intro acc h;cases h
 | cons y r ih=>
  intro acc h;obtain⟨n,k⟩:=y;have rest:∀acc,(x,MO)∈r->(eU cells r acc).lookup x=some c:=fun acc hr=>ih hr;rcases LX.mp h with z | z
  ·cases z
   unfold eU;rw[if_pos (show (MO == MO)=true from rfl),hc];show (eU cells r ((x,c)::acc)).lookup x=some c;have hs:(((x,c)::acc).lookup x)=some c:=by rw[M8,beq_self_eq_true]
   exact fin (fun d hd=>by rw[hs] at hd;cases hd;rfl) (jw (by rw[hs];rfl))
  ·unfold eU
   split
   ·split
    ·exact rest _ z
    ·exact rest _ z
   ·exact rest _ z
theorem iy{env:QO}{x:Str}:∀{names:List (Str×Nl)},names.lookup x=some .free->
  (names.map fun (n,k)=>if (k == MO && env.scope.kind == .function && env.kindOf n == some .cell) then (n,Pi) else (n,k)).lookup x=some .cell ∨
  (names.map fun (n,k)=>if (k == MO && env.scope.kind == .function && env.kindOf n == some .cell) then (n,Pi) else (n,k)).lookup x=some .free
 | [],h=>by simp at h
 | (n,k)::r,h=>by
  have ih:=@iy env x r;cases hx:x == n with
  | true=>
   simp only[M8,hx] at h;cases h
   by_cases hc:(MO == MO && env.scope.kind == .function && env.kindOf n == some .cell)=true
   ·left
    simp only[LH,hc,if_true,M8,hx]
   ·right
    simp only[Od] at hc;simp only[LH,hc,ME,if_false,M8,hx]
  | false=>
   simp only[M8,hx] at h
   by_cases hc:(k == MO && env.scope.kind == .function && env.kindOf n == some .cell)=true
   ·simp only[LH,hc,if_true,M8,hx]
    exact ih h
   ·simp only[Od] at hc
    simp only[LH,hc,M8,ME,if_false,hx];exact ih h
theorem qj{prog:Ll}{w:Lx}{A:M6}{R:Result->LF->Prop}{s:LF}{elt target iter:Expr}{ifs:List Expr}{scope:Scope}{pos:N8}{it acc:LB}{env:QO}(I:Nat->LF->Prop)
  (turn:∀n s,I n s->Ln (M4 prog w) A (QU it) (fun r s₁=>match r with
   | none=>R (.ok .next) s₁
   | some v=>Ln (M4 prog w) A (Pr target it v) (fun _ s₁=>Ln (M4 prog w) A (Qp target env v) (fun _ s₂=>
     Ln (M4 prog w) A (forIn ifs true fun c r=>if r=true then do let ok<- isTrue c env (MZ c env);pure (NA ok) else pure (NA r)) (fun ok s₃=>
      if ok=true then Ln (M4 prog w) A (MZ elt env) (fun x s₄=>
       Ln (M4 prog w) A (call (.builtin "list.append") [acc,x]) (fun _ s₅=>∃m,m<n/\I m s₅) (fun _ _=>False) s₄) (fun _ _=>False) s₃
      else ∃m,m<n/\I m s₃) (fun _ _=>False) s₂) (fun _ _=>False) s₁) (fun _ _=>False) s₁) (fun _ _=>False) s)
  (n:Nat) (h:I n s) :
  Oz (M4 prog w) A (.compLoop (.ListComp elt [⟨target,iter,ifs,0⟩] scope pos) 0 it acc env) R s:=by
 refine codeAny_loop rfl I (fun n s hI=>?_) n h;show Ln _ A ((compTurn (.ListComp elt [⟨target,iter,ifs,0⟩] scope pos) 0 it acc env).onRaise (fun x=>do noteFrame x env;theTreesLotGoes x)) _ _ s;refine wpAny_noted ?_;rw[compTurn_list];refine LD (wpAny_standAt (LD (Nf (turn n s hI) (fun r s₁ h₁=>?_) fun _ _ h'=>h'.elim)));cases r with
 | none=>exact LQ h₁
 | some v=>
  refine LD (Nf h₁ (fun _ s₁ h₁=>?_) fun _ _ h'=>h'.elim);refine LD (Nf h₁ (fun _ s₂ h₂=>LD (Nf h₂ (fun ok s₃ h₃=>?_) fun _ _ h'=>h'.elim)) fun _ _ h'=>h'.elim);cases ok with
  | false=>exact LQ ⟨rfl,h₃⟩
  | true=>
   exact LD (LD (Nf h₃ (fun x s₄ h₄=>LD (Nf h₄ (fun _ s₅ h₅=>LQ (LQ ⟨rfl,h₅⟩)) fun _ _ h'=>h'.elim)) fun _ _ h'=>h'.elim))
end PU
namespace PU
open PySem PySem.Spec PyProof.Rows L2
variable[TW]
structure CompOk(NX:List Str)(scX:Scope)(scope:Scope)(N':List Str)(nt:Nat)(idx:List Nat):Prop where
 kind:scope.kind=.function
 cell:∀y∈scope.names,y.2≠.cell
 names:∀y∈scope.names,y.2=.local->scope.names.lookup y.1=some .local
 free:∀y∈scope.names,y.2=.free->scX.names.lookup y.1=some .cell\/scX.names.lookup y.1=some .free
 len:N'.length=nt+idx.length
 ix:(idx.zip (N'.drop nt)).all (fun p=>decide (NX[p.1]?=some p.2) && decide (scope.names.lookup p.2=some .free))=true
theorem CompOk.at{NX:List Str}{scX:Scope}{scope:Scope}{N':List Str}{nt:Nat}{idx:List Nat}(O:CompOk NX scX scope N' nt idx){k:Nat}{x:Str}(h:N'[nt+k]?=some x) :
  ∃i,idx[k]?=some i/\NX[i]?=some x/\scope.names.lookup x=some .free:=by
 have hk:k<idx.length:=by
  have:=(LM.mp h).1;have:=O.len;omega
 have e1:idx[k]?=some idx[k]:=by simp[hk]
 have e2:(N'.drop nt)[k]?=some x:=by rw[List.getElem?_drop];exact h
 have e3:(idx.zip (N'.drop nt))[k]?=some (idx[k],x):=by
  rw[Qu];exact⟨e1,e2⟩
 have:=Nd.mp O.ix _ (M5 e3);simp only[MR,decide_eq_true_eq] at this;exact⟨_,e1,this.1,this.2⟩
section
variable{C : Cn}{elt tg iter : Expr}{ifs : List Expr}{scope : Scope}{pos : N8}{N' : List Str}{nt : Nat}{idx : List Nat}{h : Tgt}{t : PSt → R Bool}{fe : PSt → R PV}
theorem uC{pins:List (Addr×Mu)}{σ:L2.St}{H₂:Hp}{s₂:LF}{J:It}{fp:List Addr}{it:Addr}{tn:Nat->Heap->Prop}{ρ:PSt}(O:CompOk C.X.N C.X.env.scope scope N' nt idx)(hc:C.X.calm=true)
  (I:Inv C.X pins σ H₂ s₂) (T:Turn C.X.prog C.X.w C.X.K tg J fp it tn) (st:tn 0 s₂.heap) (hf:∀b∈fp,tG C.X pins H₂ b) (vw:View C.X.K H₂ σ ρ)
  {L D:Addr} {h₁:Heap} {tk:Nat} (hD:D=s₂.heap.objs.size) (hL:s₂.heap.objs.size<=L) (hDL:D≠L) (ns:h₁.Ns L (fun _=>none)) (keep:∀b o,s₂.heap.get? b=some o->h₁.get? b=some o)
  (acc:h₁.get? D=some { cls:=.type "list",data:=.seq ([]:List LB).toArray }) :
  ∃σ',Inv (gu C.X N' scope (eU C.X.env.cells scope.names []) L s₂ H₂ fp) [] σ' (upd H₂ D (.lst [])) { s₂ with heap:=h₁,toks:=tk }/\View C.X.K (upd H₂ D (.lst [])) σ' (bY nt idx ρ)/\(bY nt idx ρ).length=σ'.length/\
   ∀b∈fp,b<s₂.heap.objs.size:=by
 have fl:∀b∈fp,b<s₂.heap.objs.size:=fun b hb=>by
  obtain⟨o,e,_⟩:=T.obj 0 _ st b hb;exact LZ e
 have nD:H₂ D=none:=by rw[hD];exact I.fresh
 have frC:∀y∈scope.names,y.2=.free->∃c,C.X.env.cells.lookup y.1=some c:=fun y hy hk=>I.ok.has y.1 (O.free y hy hk)
 have clS:∀x c,(eU C.X.env.cells scope.names []).lookup x=some c->C.X.env.cells.lookup x=some c:=fun x c e=>by
  rcases dy e with z | z
  ·exact z
  ·cases z
 have cne:∀x c,(eU C.X.env.cells scope.names []).lookup x=some c->c<s₂.heap.objs.size:=fun x c e=>by
  obtain⟨v,q⟩:=I.cell x c (clS x c e);exact q.lt
 refine⟨Mi nt none++idx.map (fun i=>(σ[i]?).getD none),⟨⟨I.ok.mod,O.kind,I.ok.glob,I.ok.blt,hL,fun x y c e1 e2=>I.ok.inj x y c (clS x c e1) (clS y c e2),fun x hx=>?_,(fun x c z=>absurd (show false=true from z) LW),fun _=>I.ok.hd hc,I.ok.frames,.inl rfl,
  fun b hb=>⟨M1 (Lj (fl b hb) hL),fun x c e=>(hf b hb).2.2.2.2.1 x c (clS x c e)⟩,I.bs,Ma I.ok.bsz I.sz,fun b o e hb=>?_,fun b hb z=>?_,I.stack,I.stkFree⟩,
  rfl,I.bare,Un.laid keep (Ro hD.symm) nD,⟨_,ns,fun i x v hN hσ hv=>?_⟩,fun x c e=>?_,?_,fun x c e=>?_,fun p hp=>absurd (show p∈([]:List (Addr×Mu)) from hp) (by simp),?_,?_⟩,?_,?_,fl⟩
 ·-- has
  have hx:(relabel scope C.X.env).names.lookup x=some .cell\/(relabel scope C.X.env).names.lookup x=some .free:=hx
  have:scope.names.lookup x=some .free:=by
   have gen:∀(l:List (Str×Nl)),(∀y∈l,y.2≠.cell)->((l.map fun (n,k)=>if (k == MO && C.X.env.scope.kind == .function && C.X.env.kindOf n == some .cell) then (n,Pi) else (n,k)).lookup x=some .cell ∨
     (l.map fun (n,k)=>if (k == MO && C.X.env.scope.kind == .function && C.X.env.kindOf n == some .cell) then (n,Pi) else (n,k)).lookup x=some .free)->l.lookup x=some .free:=by
    intro l
    induction l with
    | nil=>intro _ z;simp at z
    | cons y r ih=>
     intro hy z;obtain⟨n,k⟩:=y;have hk:k≠.cell:=hy (n,k) Lu;have ih:=ih fun y' hy'=>hy y' (Lo _ hy');rw[M8]
     by_cases hc':(k == MO && C.X.env.scope.kind == .function && C.X.env.kindOf n == some .cell)=true
     ·simp only[LH,hc',if_true,M8] at z
      cases hx':x == n with
      | true=>
       have:k=.free:=by
        simp only[MR] at hc';exact OF hc'.1.1
       rw[this]
      | false=>
       rw[hx'] at z;exact ih z
     ·simp only[Od] at hc'
      simp only[LH,hc',ME,if_false,M8] at z;cases hx':x == n with
      | true=>
       rw[hx'] at z;rcases z with z | z
       ·cases z;exact absurd rfl hk
       ·cases z;rfl
      | false=>
       rw[hx'] at z;exact ih z
   exact gen scope.names O.cell hx
  obtain⟨c,e⟩:=frC (x,.free) (M7 this) rfl;exact⟨c,tB e (M7 this)⟩
 ·-- noex
  obtain⟨e1,e2⟩:=I.bs b o e;obtain⟨g1,g2,g3,g4,_⟩:=hf b hb;rcases g4 with z | z
  ·exact I.ok.noex b o e z
  ·exact absurd (LZ (I.ok.bs b o e).1) (Qr.mpr z)
 ·-- exfs
  obtain⟨g1,g2,g3,_⟩:=hf b hb;exact(LX.mp (I.stkSub b z)).elim g2 g3
 ·-- loc
  by_cases hi:i<nt
  ·rw[Lp (by simpa using hi),MQ,if_pos hi] at hσ
   cases hσ
  ·obtain⟨k,rfl⟩:∃k,i=nt+k:=⟨i-nt,by omega⟩
   have hN:N'[nt+k]?=some x:=hN;obtain⟨j,ej,ex,el⟩:=O.at hN;rw[M3 (by simp),Pd,RF,LO,ej] at hσ;have hσ:some ((σ[j]?).getD none)=some (some v):=hσ
   have hσ:σ[j]?=some (some v):=by
    cases q:σ[j]? with
    | none=>rw[q] at hσ;cases hσ
    | some z=>rw[q] at hσ;cases hσ;rfl
   obtain⟨m,hn,hl⟩:=I.loc;have hfr:=O.free (x,.free) (M7 el) rfl;obtain⟨u,ru,lk⟩:=hl j x v ex hσ (by rcases hfr with z | z;exact .inr (.inl z);exact .inr (.inr z));refine⟨u,ru,.inr ?_⟩;rcases lk with⟨z,_⟩|⟨_,c,ec,hcell⟩
   ·exfalso
    have z:C.X.env.scope.names.lookup x=some .local:=z;rcases hfr with q | q <;> (rw[show C.X.env.scope.names.lookup x=_ from q] at z;cases z)
   ·refine⟨iy (env:=C.X.env) el,c,tB ec (M7 el),?_⟩
    obtain⟨o,ho,hd⟩:=hcell;exact⟨o,keep c o ho,hd⟩
 ·obtain⟨v,o,ho,hd⟩:=I.cell x c (clS x c e)
  exact⟨v,o,keep c o ho,hd⟩
 ·-- free
  show upd H₂ D _ L=none;rw[aA (OA hDL)];exact I.hok.fresh hL
 ·show upd H₂ D _ c=none
  rw[aA (by rw[hD];exact M1 (cne x c e))];exact I.freeC x c (clS x c e)
 ·exact I.hok.laid keep (Ro hD.symm) ⟨by simp,[],0,.nil,acc⟩
 ·show _=N'.length
  rw[O.len];simp
 ·refine⟨fun i l e=>?_,(Same.new (o:=.lst []) nD).tabs vw.tb⟩
  unfold bY at e
  by_cases hi:i<nt
  ·rw[Lp (by simpa using hi),MQ,if_pos hi] at e
   cases e;exact trivial
  ·obtain⟨k,rfl⟩:∃k,i=nt+k:=⟨i-nt,by omega⟩
   rw[M3 (by simp),Pd,RF,LO] at e ⊢;cases ej:idx[k]? with
   | none=>rw[ej] at e;cases e
   | some j=>
    rw[ej] at e;have e:some (roS ρ[j]?)=some l:=e;cases e;cases q:ρ[j]? with
    | none=>exact trivial
    | some l'=>
     have:=(vw j l' q).same (Same.new (o:=.lst []) nD);cases l' with
     | no=>exact trivial
     | val p=>
      obtain⟨v,ev,r⟩:=this;exact⟨v,by show some ((σ[j]?).getD none)=_;rw[ev];rfl,r⟩
     | own p=>exact trivial
     | pin qs a=>exact trivial
 ·simp[bY]
theorem uD{ρ:PSt}{p:PV}{ps rest:List PV}(e:c8 h t fe ρ (p::ps)=.ok rest):∃ρ1 b,h p ρ=some ρ1/\t ρ1=.ok b/\
  ((b=true/\∃q r,fe ρ1=.ok q/\c8 h t fe ρ ps=.ok r/\rest=q::r)\/(b=false/\c8 h t fe ρ ps=.ok rest)):=by
 unfold c8 at e;cases h1:h p ρ with
 | none=>rw[h1] at e;cases e
 | some ρ1=>
  rw[h1] at e;simp only[R.ofO_some,R.ok_bind] at e;cases h2:t ρ1 with
  | ok b=>
   rw[h2] at e;simp only[R.ok_bind] at e;refine⟨ρ1,b,rfl,h2,?_⟩;cases b with
   | true=>
    rw[if_pos rfl] at e;cases h3:fe ρ1 with
    | ok q=>
     rw[h3] at e;simp only[R.ok_bind] at e;cases h4:c8 h t fe ρ ps with
     | ok r=>
      rw[h4] at e;cases e;exact .inl ⟨rfl,q,r,rfl,rfl,rfl⟩
     | er x=>rw[h4] at e;cases e
     | no=>rw[h4] at e;cases e
    | er x=>rw[h3] at e;cases e
    | no=>rw[h3] at e;cases e
   | false=>
    rw[if_neg LW] at e;exact .inr ⟨rfl,e⟩
  | er x=>rw[h2] at e;cases e
  | no=>rw[h2] at e;cases e
theorem View.weak{K:LA}{H:Hp}{σ:L2.St}{ρ ρ1:PSt}{n:Nat}(vw:View K H σ ρ1)(low:∀i,n<=i->ρ1[i]?=ρ[i]?)(no:∀i l,i<n->ρ[i]?=some l->l=.no):View K H σ ρ:=by
 refine⟨fun i l e=>?_,vw.tb⟩
 by_cases hi:i<n
 ·rw[no i l hi e];exact trivial
 ·exact vw i l (by rw[low i (by omega)];exact e)
theorem xF{idx:List Nat}{nt:Nat}{ρ:PSt}{i:Nat}{l:Sl}(hi:i<nt)(e:(bY nt idx ρ)[i]?=some l):l=.no:=by
 unfold bY at e;rw[Lp (by simpa using hi),MQ,if_pos hi] at e;cases e;rfl
theorem xE{idx:List Nat}{nt:Nat}{ρ:PSt}{i:Nat}{p:PV}(e:(bY nt idx ρ)[i]?=some (.own p)):False:=by
 unfold bY at e
 by_cases hi:i<nt
 ·rw[Lp (by simpa using hi),MQ,if_pos hi] at e
  cases e
 ·rw[M3 (by simpa using hi),LO] at e
  cases q:idx[i-(Mi nt Sl.no).length]? with
  | none=>rw[q] at e;cases e
  | some j=>
   rw[q] at e;have e:some (roS ρ[j]?)=some (Sl.own p):=e;unfold roS at e;split at e <;> cases e
theorem xD{idx:List Nat}{nt:Nat}{ρ:PSt}{i:Nat}{p:List PV}{a:Addr}(e:(bY nt idx ρ)[i]?=some (.pin p a)):False:=by
 unfold bY at e
 by_cases hi:i<nt
 ·rw[Lp (by simpa using hi),MQ,if_pos hi] at e
  cases e
 ·rw[M3 (by simpa using hi),LO] at e
  cases q:idx[i-(Mi nt Sl.no).length]? with
  | none=>rw[q] at e;cases e
  | some j=>
   rw[q] at e;have e:some (roS ρ[j]?)=some (Sl.pin p a):=e;unfold roS at e;split at e <;> cases e
theorem View.noOwn{K:LA}{H H':Hp}{σ:L2.St}{ρ:PSt}(vw:View K H σ ρ)(no:∀(i:Nat)(p:PV),ρ[i]?≠some (Sl.own p))(np:∀(i:Nat)(ps:List PV)(a:Addr),ρ[i]?≠some (Sl.pin ps a))(k:Kp H H')(tb:uN H'):View K H' σ ρ:=by
 refine⟨fun i l e=>?_,tb⟩;have:=vw i l e;cases l with
 | no=>exact trivial
 | val p=>obtain⟨v,ev,r⟩:=this;exact⟨v,ev,r.kp k⟩
 | own p=>exact absurd e (no i p)
 | pin ps a=>exact absurd e (np i ps a)
theorem qh{pins:List (Addr×Mu)}{σ:L2.St}{H₂:Hp}{s₂:LF}{J:It}{fp:List Addr}{it:Addr}{tn:Nat->Heap->Prop}{ρ:PSt}{ps qs:List PV}{RR:LB->Addr->Result->LF->Prop}{E:LB->LF->Prop}
  (O:CompOk C.X.N C.X.env.scope scope N' nt idx) (hc:C.X.calm=true)
  (hg:∀cl L s H fp,TCt (fL C N' scope cl L s H fp) tg h) (hlow:DR nt h) (ht:∀cl L s H fp,ETs (fL C N' scope cl L s H fp) ifs t) (he:∀cl L s H fp,EV (fL C N' scope cl L s H fp) elt fe)
  (I:Inv C.X pins σ H₂ s₂) (T:Turn C.X.prog C.X.w C.X.K tg J fp it tn) (st:tn 0 s₂.heap) (hf:∀b∈fp,tG C.X pins H₂ b) (vw:View C.X.K H₂ σ ρ) (ip:ItP C.X.K J H₂ ps)
  (hq:c8 h t fe (bY nt idx ρ) ps=.ok qs) (hz:qs.length<=sizeLine)
  (hRR:∀D L σ' H' s' xs,Inv (gu C.X N' scope (eU C.X.env.cells scope.names []) L s₂ H₂ fp) [] σ' H' s'->Same H₂ H'->H₂ D=none->H' D=some (.lst xs)->aF C.X.K H' qs xs->s₂.heap.objs.size<=L->RR (.ref D) L (.ok .next) s') :
  Ln (M4 C.X.prog C.X.w) C.X.A (newList []) (fun acc s₃=>Ln (M4 C.X.prog C.X.w) C.X.A (newFunctionEnv scope C.X.env.globals (eU C.X.env.cells scope.names []) [] C.X.env.qual none .none (some C.X.env)) (fun cenv s₄=>
   Oz (M4 C.X.prog C.X.w) C.X.A (.compStart (.ListComp elt [⟨tg,iter,ifs,0⟩] scope pos) 0 (.ref it) acc { cenv with scope:=relabel scope C.X.env }) (RR acc cenv.locals) s₄) E s₃) E s₂:=by
 refine NZ (wpAny_newFunctionEnv O.cell (by intro y hy;simp at hy) (fun h₁ hns₁ hsb₁=>?_) O.kind);dsimp only at hns₁ hsb₁ ⊢;generalize hG:s₂.heap.push { cls:=.type "list",dict:=none,data:=.seq ([]:List LB).toArray }=G at hns₁ hsb₁ ⊢;have hC:G.objs.size=s₂.heap.objs.size+1:=by rw[← hG,Heap.size_push]
 have hDL:s₂.heap.objs.size≠G.objs.size:=by rw[hC];exact M1 (Nat.lt_succ_self _)
 have keep:∀b o,s₂.heap.get? b=some o->h₁.get? b=some o:=fun b o e=>
  hsb₁.extBut b o (by rw[hC];exact M1 (QK (LZ e))) (LP _ (hG▸LP _ e))
 have acc:h₁.get? s₂.heap.objs.size=some { cls:=.type "list",data:=.seq ([]:List LB).toArray }:=hsb₁.extBut _ _ hDL (LP _ (hG▸Ls _ rfl));have nD:H₂ s₂.heap.objs.size=none:=I.fresh;have hGe:s₂.heap.objs.size<=G.objs.size:=by rw[hC];exact SE _
 obtain⟨σ0,I0,vw0,hl0,fl⟩:=uC O hc I T st hf vw (L:=G.objs.size) (tk:=s₂.toks+([]:List (Str×LB)).length) rfl hGe hDL (by simpa using hns₁) keep acc
 have fpk:∀{H':Hp}{pins':List (Addr×Mu)},(∀b∈fp,H' b=none)->(∀p∈pins',p.1 ∉ fp)->∀b∈fp,tG (gu C.X N' scope (eU C.X.env.cells scope.names []) G.objs.size s₂ H₂ fp) pins' H' b:=fun {H' pins'} hn hp b hb=>by
  obtain⟨g1,g2,g3,g4,g5,g6⟩:=hf b hb;refine⟨hn b hb,M1 (Lj (fl b hb) hGe),fun z=>?_,.inl hb,fun x c e=>?_,fun p hp' z=>?_⟩
  ·exact(LX.mp (I.stkSub b z)).elim g2 g3
  ·rcases dy e with z | z
   ·exact g5 x c z
   ·cases z
  ·subst z
   exact hp p ((show p∈([]:List (Addr×Mu))++pins' from hp')) hb
 have loop:Oz (M4 C.X.prog C.X.w) C.X.A (.compLoop (.ListComp elt [⟨tg,iter,ifs,0⟩] scope pos) 0 (.ref it) (.ref s₂.heap.objs.size) (compEnvC scope (eU C.X.env.cells scope.names []) G.objs.size C.X.env))
   (RR (.ref s₂.heap.objs.size) G.objs.size) { s₂ with heap:=h₁,toks:=s₂.toks+([]:List (Str×LB)).length }:=by
  refine qj (fun n s=>∃i σ' H' xs dn rest,n=ps.length-i/\i<=ps.length/\Inv (gu C.X N' scope (eU C.X.env.cells scope.names []) G.objs.size s₂ H₂ fp) [] σ' H' s/\tn i s.heap/\(∀b∈fp,H' b=none)/\Same H₂ H'/\
   H' s₂.heap.objs.size=some (.lst xs)/\aF C.X.K H' dn xs/\View C.X.K H' σ' (bY nt idx ρ)/\(bY nt idx ρ).length=σ'.length/\c8 h t fe (bY nt idx ρ) (ps.drop i)=.ok rest/\dn++rest=qs) ?_ ps.length
   ⟨0,σ0,_,[],[],qs,rfl,N0 _,I0,T.keep _ _ _ st fun b _ o e=>keep b o e,fun b hb=>?_,Same.new nD,az,aF.nil,vw0,hl0,by simpa using hq,rfl⟩
  ·rintro n s ⟨i,σ',H',xs,dn,rest,rfl,hi,I',st',fr',sm',hD',rp',vw',hl',e',ea⟩
   obtain⟨stp,stepp⟩:=ip i H' (Same.kp sm')
   by_cases hlt:i<ps.length
   ·have ei:ps[i]?=some ps[i]:=by simp[hlt]
    obtain⟨go,yl⟩:=stepp _ ei;rw[tj ei] at e';obtain⟨ρ1,b,e1,e2,e3⟩:=uD e';obtain⟨l1,low1⟩:=hlow _ _ _ e1;refine thn (T.item (gu C.X N' scope (eU C.X.env.cells scope.names []) G.objs.size s₂ H₂ fp) rfl rfl rfl rfl i [] s σ' H' _ I' (fpk fr' (by simp)) st' go) fun r s1 ⟨u,hr,h4⟩=>?_;subst hr;refine thn h4 fun _ s2 ⟨x,H3,I3,r3,y3,st3,fr3⟩=>?_;obtain⟨sm3,rp3⟩:=yl x H3 y3;have I3':=I3.pinned (fpk fr3 (by simp)) (T.obj _ _ st3);refine thn (hg _ _ _ _ _ _ s2 σ' H3 x u (fun σ4 H4=>H4=H3/\ρ1.length=σ4.length/\View C.X.K H4 σ4 ρ1) I3' r3 ⟨_,_,ρ1,hl',vw'.same sm3,rp3,e1,fun σ4 hl4 vw4=>⟨rfl,hl4,vw4⟩⟩) fun _ s4 ⟨σ4,H4,I4,q4⟩=>?_;obtain⟨rfl,hl4,vw4⟩:=q4
    have tests:Ln (M4 C.X.prog C.X.w) C.X.A (forIn ifs true fun c r=>if r=true then do let ok<- isTrue c (compEnvC scope (eU C.X.env.cells scope.names []) G.objs.size C.X.env) (MZ c (compEnvC scope (eU C.X.env.cells scope.names []) G.objs.size C.X.env));pure (NA ok) else pure (NA r))
      (TP (gu C.X N' scope (eU C.X.env.cells scope.names []) G.objs.size s₂ H₂ fp) ([]++mX fp s2.heap) σ4 (fun b' H5=>b'=b/\Same H4 H5)) (fun _ _=>False) s4:=by
     rcases ht (eU C.X.env.cells scope.names []) G.objs.size s₂ H₂ fp with⟨ez,et⟩|⟨c,ez,et⟩
     ·subst ez
      subst et;cases e2;exact wpAny_tests_nil ⟨H4,I4,rfl,Same.refl _⟩
     ·subst ez
      exact wpAny_tests_one (et _ s4 σ4 H4 _ I4 ⟨ρ1,vw4,by rw[e2];exact fun H' s'=>⟨rfl,s'⟩⟩)
    refine thn tests fun b' s5 ⟨H5,I5,eb,sm5⟩=>?_;subst eb
    have fin:∀{H7:Hp}{s7:LF},Inv (gu C.X N' scope (eU C.X.env.cells scope.names []) G.objs.size s₂ H₂ fp) ([]++mX fp s2.heap) σ4 H7 s7->Inv (gu C.X N' scope (eU C.X.env.cells scope.names []) G.objs.size s₂ H₂ fp) [] σ4 H7 s7/\tn (i+1) s7.heap/\∀b∈fp,H7 b=none:=fun {H7 s7} I7=>by
     refine⟨I7.unpinned,T.keep _ _ _ st3 fun b hb o e=>(I7.pin (b,o) (M9 _ (M9 _ (ie hb e)))).1,fun b hb=>?_⟩;obtain⟨o,e,_⟩:=T.obj _ _ st3 b hb;exact(I7.pin (b,o) (M9 _ (M9 _ (ie hb e)))).2.1
    have sm25:Same H₂ H5:=(sm'.trans sm3).trans sm5;have smd:Same H' H5:=sm3.trans sm5;have vw5:View C.X.K H5 σ4 (bY nt idx ρ):=View.weak (vw4.same sm5) low1 fun i l hi e=>xF hi e;have hl5:(bY nt idx ρ).length=σ4.length:=by rw[← l1];exact hl4
    rcases e3 with⟨rfl,q,r,e4,e5,rfl⟩|⟨rfl,e4⟩
    ·rw[if_pos rfl]
     refine thn (he _ _ _ _ _ _ s5 σ4 H5 (fun v H6=>Same H5 H6/\Rep C.X.K H6 q v) I5 ⟨ρ1,vw4.same sm5,by rw[e4];exact fun v H' s' r=>⟨s',r⟩⟩) fun u6 s6 ⟨v,H6,I6,r6,sm6,rp6⟩=>?_;have hD6:H6 s₂.heap.objs.size=some (.lst xs):=sm6 _ _ (smd _ _ hD')
     have hx:xs.length<sizeLine:=by
      have a1:=rp'.length;have a2:qs.length=dn.length+(r.length+1):=by rw[← ea];simp
      omega
     refine thn (pI (X:=gu C.X N' scope (eU C.X.env.cells scope.names []) G.objs.size s₂ H₂ fp) _ s6 σ4 H6 (.ref s₂.heap.objs.size) [v] (.ref s₂.heap.objs.size) [u6] (fun _ H7=>H7=upd H6 s₂.heap.objs.size (.lst (xs++[v]))) I6 rfl (.cons r6 .nil) ⟨_,xs,v,rfl,rfl,hD6,hx,rfl⟩) fun _ s7 ⟨_,H7,I7,_,e7⟩=>?_;subst e7;obtain⟨J7,st7,fr7⟩:=fin I7;have kp7:Kp H6 (upd H6 s₂.heap.objs.size (.lst (xs++[v]))):=Kp.upd hD6 rfl;refine⟨ps.length-(i+1),by omega,i+1,σ4,_,xs++[v],dn++[q],r,rfl,hlt,J7,st7,fr7,(sm25.trans sm6).but nD (fun u h=>by rw[hD6] at h;cases h;rfl) (fun b hb=>aA hb),az,?_,?_,hl5,e5,by rw[← ea];simp⟩
     ·exact aF.append (aF.kp kp7 _ ((rp'.same smd).same sm6)) (aF.cons (Rep.kp kp7 _ rp6) aF.nil)
     ·exact(vw5.same sm6).noOwn (fun i p e=>xE e) (fun i p a e=>xD e) kp7 ((vw5.same sm6).tb.but (fun u h=>by rw[hD6] at h;cases h;exact⟨rfl,rfl⟩) (fun b hb=>aA hb))
    ·rw[if_neg LW]
     obtain⟨J7,st7,fr7⟩:=fin I5;exact⟨ps.length-(i+1),by omega,i+1,σ4,H5,xs,dn,rest,rfl,hlt,J7,st7,fr7,sm25,smd _ _ hD',rp'.same smd,vw5,hl5,e4,ea⟩
   ·have e:i=ps.length:=by omega
    subst e;rw[PK] at e';cases e';rw[Mb] at ea;subst ea;refine thn (T.done (gu C.X N' scope (eU C.X.env.cells scope.names []) G.objs.size s₂ H₂ fp) rfl rfl rfl rfl ps.length [] s σ' H' _ I' (fpk fr' (by simp)) st' (stp rfl)) fun r s1 ⟨hr,I1⟩=>?_;subst hr;exact hRR _ _ σ' H' s1 xs I1 sm' nD hD' rp' hGe
  ·show upd H₂ _ _ b=none
   rw[aA (M1 (fl b hb))];exact(hf b hb).1
 exact codeAny_compStart_list loop (T.self _ 0 _ _ _ (T.keep _ _ _ st fun b _ o e=>keep b o e) loop)
end
end PU
namespace PU
open PySem PySem.Spec PyProof.Rows L2
variable[TW]
section
variable{C : Cn}{elt tg iter : Expr}{ifs : List Expr}{scope : Scope}{pos : N8}{N' : List Str}{nt : Nat}{idx : List Nat}{fi : PSt → R (List PV)}{h : Tgt}{t : PSt → R Bool}{fe : PSt → R PV}
theorem qi{pins:List (Addr×Mu)}{σ σ':L2.St}{H₂ H':Hp}{s₂ s':LF}{fp:List Addr}{cl:List (Str×Addr)}{L:Addr}(I:Inv C.X pins σ H₂ s₂)(hf:∀b∈fp,tG C.X pins H₂ b)
  (I':Inv (gu C.X N' scope cl L s₂ H₂ fp) [] σ' H' s'):Inv C.X pins σ H' s':=
 I.call' (ch:=fp) I'.os I'.base I'.hok I'.bare fun b hb=>by
  obtain⟨g1,g2,g3,g4,g5,g6⟩:=hf b hb;exact⟨g4,g2,g5,g6⟩
theorem C8{α:Type}{H:Hp}{r:R α}{k:α->Prop}(q:RQ C H (C9 r) k):∃a,r=.ok a/\k a:=by
 cases r with
 | ok a=>exact⟨a,rfl,q⟩
 | er x=>exact LU q
 | no=>exact LU q
theorem qg{pins:List (Addr×Mu)}{σ:L2.St}{H:Hp}{s:LF}{L:Addr}{h':Heap}(I:Inv C.X pins σ H s)(hn:H L=none)(hL:L≠C.X.env.locals)(h1:C.X.s₀.heap.objs.size<=L)(h2:∀x c,C.X.env.cells.lookup x=some c->c≠L)
  (h3:∀p∈C.X.pn++pins,p.1≠L) (sb:NK L s.heap h'):Inv C.X pins σ H { s with heap:=h' }:=
 I.turned (t':=s.toks) (fun b o hb e=>(sb.2 b hb).trans e) hn hL (.inr h1) h2 h3
theorem iR(O:CompOk C.X.N C.X.env.scope scope N' nt idx)(hi:EI C tg iter fi)
  (hg:∀cl L s H fp,TCt (fL C N' scope cl L s H fp) tg h) (he:∀cl L s H fp,EV (fL C N' scope cl L s H fp) elt fe)
  (hs:∀x,Pa iter C.X.env x=pure x:=by intro _;rfl) (hc:C.X.calm=true:=by rfl) (hlow:DR nt h:=by repeat' (first | exact wc | exact sI (by decide) | apply wb | apply sJ)) (ht:∀cl L s H fp,ETs (fL C N' scope cl L s H fp) ifs t:=by exact fun _ _ _ _ _=>xi):EN C (.ListComp elt [⟨tg,iter,ifs,0⟩] scope pos) (gm fi h t fe nt idx):=by
 intro pins s σ H Q I ⟨ρ,vw,q⟩;rw[eval_ListComp];refine S7 (use:=none) rfl hs (d8 fun y hy hk=>I.ok.has y.1 (O.free y hy hk)) O.kind O.names ?_
 refine thn (hi pins s σ H (fun J H'=>∃ps qs,Same H H'/\ItP C.X.K J H' ps/\c8 h t fe (bY nt idx ρ) ps=.ok qs/\qs.length<=sizeLine/\∀a H'',Same H H''->H a=none->cD C.X.K H'' a (.lst qs)->Q (.ref a) H'') I
  ⟨ρ,vw,q.bind.imp fun ps _ k J H' s' ip=>?_⟩) fun v s1 h1=>thn h1 fun itv s2 h2=>?_
 ·obtain⟨qs,e1,k⟩:=C8 k.bind
  obtain⟨z,k⟩:=lW k;exact⟨ps,qs,s',ip,e1,z,k⟩
 ·obtain⟨it,fp,tn,J,H2,e,I2,T,st2,f2,ps,qs,sm,ip,e1,hz,k⟩:=h2
  subst e;refine qh O hc hg hlow ht he I2 T st2 f2 (vw.same sm) ip e1 hz fun D L σ' H' s' xs I' sm' nD hD rp hL=>?_;obtain⟨m,hn,_⟩:=id I'.loc;have IB:=qi I2 f2 I';refine⟨m,hn,fun h' sb=>⟨.ref D,H',qg IB I'.free ?_ (Ma I2.sz hL) ?_ ?_ sb,rfl,k D H' (sm.trans sm') (sm.free nD) ⟨xs,hD,rp⟩⟩⟩
  ·exact O8 (Lj I2.lt hL)
  ·intro x c ec z
   obtain⟨v,qc⟩:=I2.cell x c ec;have z:c=L:=z;exact My _ (Lj (z▸qc.lt) hL)
  ·intro p hp z
   have z:p.1=L:=z;exact My _ (Lj (z▸LZ (I2.pin p hp).1) hL)
theorem RS.bind'{C:Cn}{B:Hp×Hp}{D:Ends}{H:Hp}{fi:PSt->R (List PV)}{h:Tgt}{t:PSt->R Bool}{fe:PSt->R PV}{nt:Nat}{idx:List Nat}{ρ:PSt}{g:PV->Sl}{i:Nat}
  (q:RS C B D (gm fi h t fe nt idx ρ >>= fun p=>.ok (.next (ρ.set i (g p))))) (s:Same B.1 H) :
  RQ C H (fi ρ) fun ps=>∃qs,c8 h t fe (bY nt idx ρ) ps=.ok qs/\qs.length<=sizeLine/\∀σ' H'',StOk C.X.K B H'' σ' (ρ.set i (g (.lst qs)))->D.nx σ' H'':=by
 unfold gm at q;rw[R.bind_assoc] at q;refine(q.bind s).imp fun ps _ k=>?_;rw[R.bind_assoc] at k;cases hc:c8 h t fe (bY nt idx ρ) ps with
 | ok qs=>
  rw[hc] at k;have k:RS C B D ((iz qs >>= fun qs=>R.ok (.lst qs)) >>= fun p=>.ok (.next (ρ.set i (g p)))):=k;unfold iz at k
  by_cases hz:qs.length<=16777216
  ·rw[if_pos hz] at k
   exact⟨qs,rfl,by rw[MC];exact hz,k⟩
  ·rw[if_neg hz] at k
   exact LU k
 | er x=>rw[hc] at k;exact LU k
 | no=>rw[hc] at k;exact LU k
theorem nQ(own:Bool)(i:Nat){x:Str}{px:N8}{spos:N8}(hN:C.X.N.Nodup)(O:CompOk C.X.N C.X.env.scope scope N' nt idx)(hi:EI C tg iter fi)
  (hg:∀cl L s H fp,TCt (fL C N' scope cl L s H fp) tg h) (he:∀cl L s H fp,EV (fL C N' scope cl L s H fp) elt fe)
  (hsw:P3 (.ListComp elt [⟨tg,iter,ifs,0⟩] scope pos) (some (.Name x px)) spos.line C.X.env=pure true:=by rfl)
  (hs:∀x,Pa iter C.X.env x=pure x:=by intro _;rfl)
  (hf:C.X.fn x=true\/C.X.env.scope.names.lookup x=some .local:=by first | exact .inl rfl | exact .inr rfl | assumption) (hc:C.X.calm=true:=by rfl) (hlow:DR nt h:=by repeat' (first | exact wc | exact sI (by decide) | apply wb | apply sJ)) (ht:∀cl L s H fp,ETs (fL C N' scope cl L s H fp) ifs t:=by exact fun _ _ _ _ _=>xi) (hi':C.X.N[i]?=some x:=by rfl) (hx:Loc C.X.env.scope x:=by first | exact .inl rfl | exact .inr rfl) :
  SV C (.Assign [.Name x px] (.ListComp elt [⟨tg,iter,ifs,0⟩] scope pos) spos) ((if own=true then mC else bK) i (gm fi h t fe nt idx)):=by
 intro pins s σ H D I ⟨ρ,B,S,q⟩;rw[exec_Assign_Name_used _ _ _ _ hsw];refine LD (wpAny_standAt (LD ?_));show Ln _ C.X.A (do let _<- comprehension (.ListComp elt [⟨tg,iter,ifs,0⟩] scope pos) scope C.X.env _ (newList []) false (MZ iter C.X.env) (some (Qp (.Name x px) C.X.env))) _ _ s
 refine LD (Nf (S7 (use:=some (Qp (.Name x px) C.X.env)) (Q:=fun _ s'=>SP C.X pins D .next s') rfl hs (d8 fun y hy hk=>I.ok.has y.1 (O.free y hy hk)) O.kind O.names ?_)
  (fun _ s' hq=>LQ (LQ hq)) fun _ _ e=>e)
 have q':RS C B D (gm fi h t fe nt idx ρ >>= fun p=>.ok (.next (ρ.set i (if own=true then .own p else .val p)))):=by
  cases own with
  | true=>exact q
  | false=>exact q
 refine thn (hi pins s σ H (fun J H'=>∃ps qs,Same H H'/\ItP C.X.K J H' ps/\c8 h t fe (bY nt idx ρ) ps=.ok qs/\qs.length<=sizeLine/\∀σ' H'',StOk C.X.K B H'' σ' (ρ.set i (if own=true then .own (.lst qs) else .val (.lst qs)))->D.nx σ' H'') I
  ⟨ρ,S.vw,(RS.bind' q' S.same).imp fun ps _ k J H' s' ip=>?_⟩) fun v s1 h1=>thn h1 fun itv s2 h2=>?_
 ·obtain⟨qs,e1,z,k⟩:=k
  exact⟨ps,qs,s',ip,e1,z,k⟩
 ·obtain⟨it,fp,tn,J,H2,e,I2,T,st2,f2,ps,qs,sm,ip,e1,hz,k⟩:=h2
  subst e;refine qh O hc hg hlow ht he I2 T st2 f2 (S.vw.same sm) ip e1 hz fun Da L σ' H' s' xs I' sm' nD hD rp hL=>?_;obtain⟨m,⟨o,es,ep,ho,hrest⟩,_⟩:=id I'.loc;have IB:=qi I2 f2 I';have nL:L≠C.X.env.locals:=O8 (Lj I2.lt hL)
  have nC:∀x c,C.X.env.cells.lookup x=some c->c≠L:=fun x c ec z=>by
   obtain⟨v,qc⟩:=I2.cell x c ec;have z:c=L:=z;exact My _ (Lj (z▸qc.lt) hL)
  have nP:∀p∈C.X.pn++pins,p.1≠L:=fun p hp z=>by
   have z:p.1=L:=z;exact My _ (Lj (z▸LZ (I2.pin p hp).1) hL)
  have IP:Inv C.X (pins++[(L,o)]) σ H' s':=IB.pins_of fun p hp=>by
   rcases MA.mp hp with z | z
   ·exact IB.pin p (M9 _ z)
   ·have:p=(L,o):=by simpa using z
    subst this;exact⟨ho,I'.free,nL,I2.nofs hL,fun v z=>by rw[hrest.1] at z;cases z⟩
  have S2:=S.grow (sm.trans sm')
  have fin:∀{H3:Hp}{v:V},Inv C.X (pins++[(L,o)]) σ H3 s'->v=.ref Da->(∀σ3,σ3=σ.set i (some v)->D.nx σ3 H3)->
    Ln (M4 C.X.prog C.X.w) C.X.A (Qp (.Name x px) C.X.env (.ref Da)) (fun _ s''=>∃m,s''.heap.Ns L m/\∀h',NK L s''.heap h'->SP C.X pins D .next { s'' with heap:=h' }) C.X.xe s':=fun {H3 v} I3 ev k3=>by
   refine thn (qP hN hi' hx hf (pins++[(L,o)]) s' σ H3 v (.ref Da) (fun σ4 H4=>σ4=σ.set i (some v)/\H4=H3) I3 (by subst ev;rfl) ⟨rfl,rfl⟩) fun _ s4 ⟨σ4,H4,I4,e4,e5⟩=>?_;have hp:=I4.pin (L,o) (by simp);have IU:Inv C.X pins σ4 H4 s4:=I4.unpinned;refine⟨m,⟨o,es,ep,hp.1,hrest⟩,fun h' sb=>⟨σ4,H4,qg IU hp.2.1 nL (Ma I2.sz hL) nC nP sb,?_⟩⟩;subst e5;exact k3 σ4 e4
  cases own with
  | true=>
   exact fin IP rfl fun σ3 e3=>by
    subst e3;exact k _ _ (S.setN (sm.trans sm') (sm.free nD) ⟨xs,hD,rp⟩)
  | false=>
   obtain⟨H3,I3,rp3,oth⟩:=L2.Inv.frz (a:=Da) (p:=.lst qs) IP ⟨xs,hD,rp⟩;refine fin I3 rfl fun σ3 e3=>?_;subst e3;exact k _ _ ((S.grow ((sm.trans sm').but (sm.free nD) (fun u h=>by rw[hD] at h;cases h;rfl) oth)).setV rp3)
end
end PU
namespace PU
open PySem PySem.Spec PyProof.Rows L2 PySem.SeqAt
variable[TW]
section
variable{X : Cx}{pins : List (Addr×Mu)}{σ : L2.St}{H : Hp}{s : LF}
theorem km{a:Addr}{xs ys:List V}(I:Inv X pins σ H s)(h1:SqT X.K H a xs)(h2:SqO X.K H a ys):False:=by
 obtain⟨its,_,⟨o,e,c,_⟩,_⟩:=I.tuple h1;obtain⟨_,its2,n,_,e2⟩:=h2.is I;rw[e] at e2;cases e2;have c:Ny "list"=Ny "tuple":=c;exact absurd c (by decide)
theorem Bx{a:Addr}{xs ys:List V}(I:Inv X pins σ H s)(h1:SqO X.K H a xs)(h2:SqO X.K H a ys):xs=ys:=I.list_inj h1.l h2.l
mutual
theorem jf(I:Inv X pins σ H s):∀(p q:PV)(v:V)(b:Bool),aX X.K H p v->aX X.K H q v->bp p q=some b->b=true
 | .non,q,v,b,h1,h2,e=>by
  cases (show v=.non from h1);cases q with
  | non=>simpa [bp] using e.symm
  | bl j=>cases (show V.non=.bl j from h2)
  | int j=>cases (show V.non=.int j from h2)
  | str j=>cases (show V.non=.str j from h2)
  | tup qs=>obtain⟨a,xs,z,_⟩:=aX.tup_inv h2;cases z
  | lst qs=>obtain⟨a,xs,z,_⟩:=aX.lst_inv h2;cases z
  | _=>simp[bp] at e
 | .bl i,q,v,b,h1,h2,e=>by
  cases (show v=.bl i from h1);cases q with
  | bl j=>cases (show V.bl i=.bl j from h2);simpa [bp] using e.symm
  | non=>cases (show V.bl i=.non from h2)
  | int j=>cases (show V.bl i=.int j from h2)
  | str j=>cases (show V.bl i=.str j from h2)
  | tup qs=>obtain⟨a,xs,z,_⟩:=aX.tup_inv h2;cases z
  | lst qs=>obtain⟨a,xs,z,_⟩:=aX.lst_inv h2;cases z
  | _=>simp[bp] at e
 | .int i,q,v,b,h1,h2,e=>by
  cases (show v=.int i from h1);cases q with
  | int j=>cases (show V.int i=.int j from h2);simpa [bp] using e.symm
  | bl j=>cases (show V.int i=.bl j from h2)
  | non=>cases (show V.int i=.non from h2)
  | str j=>cases (show V.int i=.str j from h2)
  | tup qs=>obtain⟨a,xs,z,_⟩:=aX.tup_inv h2;cases z
  | lst qs=>obtain⟨a,xs,z,_⟩:=aX.lst_inv h2;cases z
  | _=>simp[bp] at e
 | .str i,q,v,b,h1,h2,e=>by
  cases (show v=.str i from h1);cases q with
  | str j=>cases (show V.str i=.str j from h2);simpa [bp] using e.symm
  | bl j=>cases (show V.str i=.bl j from h2)
  | non=>cases (show V.str i=.non from h2)
  | int j=>cases (show V.str i=.int j from h2)
  | tup qs=>obtain⟨a,xs,z,_⟩:=aX.tup_inv h2;cases z
  | lst qs=>obtain⟨a,xs,z,_⟩:=aX.lst_inv h2;cases z
  | _=>simp[bp] at e
 | .tup ps,q,v,b,h1,h2,e=>by
  obtain⟨a,xs,rfl,g1,r1⟩:=aX.tup_inv h1;cases q with
  | tup qs=>
   obtain⟨a2,ys,z,g2,r2⟩:=aX.tup_inv h2;cases z;cases I.tuple_inj g1 g2;exact lH I ps qs xs b r1 r2 (by simpa [bp] using e)
  | lst qs=>
   obtain⟨a2,ys,z,g2,r2⟩:=aX.lst_inv h2;cases z;exact(km I g1 g2).elim
  | non=>cases (show V.ref a=.non from h2)
  | bl j=>cases (show V.ref a=.bl j from h2)
  | int j=>cases (show V.ref a=.int j from h2)
  | str j=>cases (show V.ref a=.str j from h2)
  | _=>simp[bp] at e
 | .lst ps,q,v,b,h1,h2,e=>by
  obtain⟨a,xs,rfl,g1,r1⟩:=aX.lst_inv h1;cases q with
  | lst qs=>
   obtain⟨a2,ys,z,g2,r2⟩:=aX.lst_inv h2;cases z;cases Bx I g1 g2;exact lH I ps qs xs b r1 r2 (by simpa [bp] using e)
  | tup qs=>
   obtain⟨a2,ys,z,g2,r2⟩:=aX.tup_inv h2;cases z;exact(km I g2 g1).elim
  | non=>cases (show V.ref a=.non from h2)
  | bl j=>cases (show V.ref a=.bl j from h2)
  | int j=>cases (show V.ref a=.int j from h2)
  | str j=>cases (show V.ref a=.str j from h2)
  | _=>simp[bp] at e
 | .dct _ _,_,_,_,_,_,e=>by simp[bp] at e
 | .dtt _ _,_,_,_,_,_,e=>by simp[bp] at e
 | .fn _ _,_,_,_,_,_,e=>by simp[bp] at e
theorem lH(I:Inv X pins σ H s):∀(ps qs:List PV)(xs:List V)(b:Bool),aF X.K H ps xs->aF X.K H qs xs->bg ps qs=some b->b=true
 | [],qs,xs,b,r1,r2,e=>by
  cases r1;cases qs with
  | nil=>simpa [bg] using e.symm
  | cons q qs=>obtain⟨x,r,z,_⟩:=r2;cases z
 | p::ps,qs,xs,b,r1,r2,e=>by
  obtain⟨x,r,rfl,h1,t1⟩:=r1;cases qs with
  | nil=>cases (show x::r=[] from r2)
  | cons q qs=>
   obtain⟨x2,r2',z,h2,t2⟩:=r2;cases z;simp only[bg] at e;obtain⟨b1,e1,e⟩:=LR.mp e;obtain⟨b2,e2,e⟩:=LR.mp e;cases e;rw[jf I p q x b1 h1.o h2.o e1,lH I ps qs r b2 t1 t2 e2];rfl
end
theorem mZ{p q:PV}{ps qs:List PV}{j:Nat}:iK (p::ps) (q::qs) (j+1)=iK ps qs j:=by simp[iK]
theorem kQ:∀(ps qs:List PV)(b:Bool),bg ps qs=some b->((LI (SR ps.length qs.length)).all (iK ps qs) && ps.length == qs.length)=b
 | [],[],b,e=>by simp[bg] at e;simp[e]
 | [],_::_,b,e=>by simp[bg] at e;simp[e]
 | _::_,[],b,e=>by simp[bg] at e;simp[e]
 | p::ps,q::qs,b,e=>by
  simp only[bg] at e;obtain⟨b1,e1,e⟩:=LR.mp e;obtain⟨b2,e2,e⟩:=LR.mp e;cases e;have ih:=kQ ps qs b2 e2;have hm:SR (p::ps).length (q::qs).length=SR ps.length qs.length+1:=by simp only[Lz];omega
  rw[hm,OO,NU,RU];have h0:iK (p::ps) (q::qs) 0=b1:=by simp[iK,e1]
  have hs:(iK (p::ps) (q::qs) ∘ Nat.succ)=iK ps qs:=by funext j;exact mZ
  rw[h0,hs,← ih,Lz,Lz];simp[Bool.and_assoc]
theorem oq:∀{ps:List PV}{j:Nat}{p:PV},ps[j]?=some p->vK p<=dj ps
 | [],_,_,h=>by simp at h
 | p::ps,0,_,h=>by simp at h;subst h;simp only[dj];omega
 | p::ps,j+1,q,h=>by
  have:=oq (ps:=ps) (j:=j) (p:=q) (by simpa using h);simp only[dj];omega
mutual
theorem xj(I:Inv X pins σ H s):∀(p q:PV)(A:M6)(v u:V)(v' u':LB)(b:Bool),aX X.K H p v->aX X.K H q u->RelV v v'->RelV u u'->bp p q=some b->A.units+vK p<cLine->EqAt A s v' u' b
 | .non,q,A,v,u,v',u',b,h1,h2,e1,e2,e,hu=>by
  cases (show v=.non from h1);cases e1;have hu:=OH (PR _ _) hu;cases q with
  | non=>cases (show u=.non from h2);cases e2;simp[bp] at e;subst e;exact EqAt.same _
  | bl j=>cases (show u=.bl j from h2);cases e2;simp[bp] at e;subst e;exact EqAt.none_bool j
  | int j=>cases (show u=.int j from h2);obtain⟨t,rfl⟩:=e2;simp[bp] at e;subst e;exact EqAt.none_int j t
  | str j=>cases (show u=.str j from h2);obtain⟨t,rfl⟩:=e2;simp[bp] at e;subst e;exact EqAt.none_str j t
  | tup qs=>obtain⟨a,xs,rfl,g,_⟩:=aX.tup_inv h2;cases e2;obtain⟨its,_,pl,_⟩:=I.tuple g;simp[bp] at e;subst e;exact EqAt.none_tuple pl hu
  | lst qs=>obtain⟨a,xs,rfl,g,_⟩:=aX.lst_inv h2;cases e2;obtain⟨its,_,pl,_⟩:=I.list g.l;simp[bp] at e;subst e;exact EqAt.none_list pl.isList hu
  | _=>simp[bp] at e
 | .bl i,q,A,v,u,v',u',b,h1,h2,e1,e2,e,hu=>by
  cases (show v=.bl i from h1);cases e1;have hu:=OH (PR _ _) hu;cases q with
  | non=>cases (show u=.non from h2);cases e2;simp[bp] at e;subst e;exact EqAt.bool_none i
  | bl j=>cases (show u=.bl j from h2);cases e2;simp only[bp,Mj] at e;subst e;exact EqAt.bool_bool i j
  | int j=>cases (show u=.int j from h2);obtain⟨t,rfl⟩:=e2;simp only[bp,Mj] at e;subst e;exact EqAt.bool_int i j t
  | str j=>cases (show u=.str j from h2);obtain⟨t,rfl⟩:=e2;simp[bp] at e;subst e;exact EqAt.bool_str i j t
  | tup qs=>obtain⟨a,xs,rfl,g,_⟩:=aX.tup_inv h2;cases e2;obtain⟨its,_,pl,_⟩:=I.tuple g;simp[bp] at e;subst e;exact EqAt.bool_tuple i pl hu
  | lst qs=>obtain⟨a,xs,rfl,g,_⟩:=aX.lst_inv h2;cases e2;obtain⟨its,_,pl,_⟩:=I.list g.l;simp[bp] at e;subst e;exact EqAt.bool_list i pl.isList hu
  | _=>simp[bp] at e
 | .int i,q,A,v,u,v',u',b,h1,h2,e1,e2,e,hu=>by
  cases (show v=.int i from h1);obtain⟨t',rfl⟩:=e1;have hu:=OH (PR _ _) hu;cases q with
  | non=>cases (show u=.non from h2);cases e2;simp[bp] at e;subst e;exact EqAt.int_none i t'
  | bl j=>cases (show u=.bl j from h2);cases e2;simp only[bp,Mj] at e;subst e;exact EqAt.int_bool i t' j
  | int j=>cases (show u=.int j from h2);obtain⟨t,rfl⟩:=e2;simp only[bp,Mj] at e;subst e;exact EqAt.int_int i t' j t
  | str j=>cases (show u=.str j from h2);obtain⟨t,rfl⟩:=e2;simp[bp] at e;subst e;exact EqAt.int_str i t' j t
  | tup qs=>obtain⟨a,xs,rfl,g,_⟩:=aX.tup_inv h2;cases e2;obtain⟨its,_,pl,_⟩:=I.tuple g;simp[bp] at e;subst e;exact EqAt.int_tuple i t' pl hu
  | lst qs=>obtain⟨a,xs,rfl,g,_⟩:=aX.lst_inv h2;cases e2;obtain⟨its,_,pl,_⟩:=I.list g.l;simp[bp] at e;subst e;exact EqAt.int_list i t' pl.isList hu
  | _=>simp[bp] at e
 | .str i,q,A,v,u,v',u',b,h1,h2,e1,e2,e,hu=>by
  cases (show v=.str i from h1);obtain⟨t',rfl⟩:=e1;have hu:=OH (PR _ _) hu;cases q with
  | non=>cases (show u=.non from h2);cases e2;simp[bp] at e;subst e;exact EqAt.str_none i t'
  | bl j=>cases (show u=.bl j from h2);cases e2;simp[bp] at e;subst e;exact EqAt.str_bool i t' j
  | int j=>cases (show u=.int j from h2);obtain⟨t,rfl⟩:=e2;simp[bp] at e;subst e;exact EqAt.str_int i t' j t
  | str j=>cases (show u=.str j from h2);obtain⟨t,rfl⟩:=e2;simp only[bp,Mj] at e;subst e;exact EqAt.str_str i t' j t
  | tup qs=>obtain⟨a,xs,rfl,g,_⟩:=aX.tup_inv h2;cases e2;obtain⟨its,_,pl,_⟩:=I.tuple g;simp[bp] at e;subst e;exact EqAt.str_tuple i t' pl hu
  | lst qs=>obtain⟨a,xs,rfl,g,_⟩:=aX.lst_inv h2;cases e2;obtain⟨its,_,pl,_⟩:=I.list g.l;simp[bp] at e;subst e;exact EqAt.str_list i t' pl.isList hu
  | _=>simp[bp] at e
 | .tup ps,q,A,v,u,v',u',b,h1,h2,e1,e2,e,hu=>by
  obtain⟨a,xs,rfl,g1,r1⟩:=aX.tup_inv h1;cases e1;obtain⟨its,rv,pl,_⟩:=I.tuple g1;simp only[vK] at hu;have hu0:A.units<cLine:=by omega
  cases q with
  | non=>cases (show u=.non from h2);cases e2;simp[bp] at e;subst e;exact EqAt.tuple_none pl hu0
  | bl j=>cases (show u=.bl j from h2);cases e2;simp[bp] at e;subst e;exact EqAt.tuple_bool j pl hu0
  | int j=>cases (show u=.int j from h2);obtain⟨t,rfl⟩:=e2;simp[bp] at e;subst e;exact EqAt.tuple_int j t pl hu0
  | str j=>cases (show u=.str j from h2);obtain⟨t,rfl⟩:=e2;simp[bp] at e;subst e;exact EqAt.tuple_str j t pl hu0
  | lst qs=>obtain⟨a2,ys,rfl,g,_⟩:=aX.lst_inv h2;cases e2;obtain⟨its2,_,pl2,_⟩:=I.list g.l;simp[bp] at e;subst e;exact EqAt.tuple_list pl pl2.isList hu0
  | tup qs=>
   by_cases hv:V.ref a=u
   ·subst hv
    rw[jf I _ _ _ b h1 h2 e];cases e2;exact EqAt.same _
   ·obtain⟨a2,ys,rfl,g2,r2⟩:=aX.tup_inv h2
    cases e2;obtain⟨its2,rv2,pl2,_⟩:=I.tuple g2;have l1:=r1.length;have l2:=r2.length;have l3:=rv.length;have l4:=rv2.length;have e':bg ps qs=some b:=by simpa [bp] using e
    rw[← kQ ps qs b e',show ps.length=its.toArray.size by simp;omega,show qs.length=its2.toArray.size by simp;omega];refine EqAt.of_refs (fun z=>hv (by rw[z])) (RcAt.tuples pl pl2 hu0 fun j j1 j2=>?_);have:=me I ps qs A.in1 xs ys its its2 b r1 r2 rv rv2 e' (by show A.units+1+_<_;omega) j (by simpa using j1) (by simpa using j2);simpa using this
  | _=>simp[bp] at e
 | .lst ps,q,A,v,u,v',u',b,h1,h2,e1,e2,e,hu=>by
  obtain⟨a,xs,rfl,g1,r1⟩:=aX.lst_inv h1;cases e1;obtain⟨its,rv,pl,_⟩:=I.list g1.l;simp only[vK] at hu;have hu0:A.units<cLine:=by omega
  cases q with
  | non=>cases (show u=.non from h2);cases e2;simp[bp] at e;subst e;exact EqAt.list_none pl.isList hu0
  | bl j=>cases (show u=.bl j from h2);cases e2;simp[bp] at e;subst e;exact EqAt.list_bool j pl.isList hu0
  | int j=>cases (show u=.int j from h2);obtain⟨t,rfl⟩:=e2;simp[bp] at e;subst e;exact EqAt.list_int j t pl.isList hu0
  | str j=>cases (show u=.str j from h2);obtain⟨t,rfl⟩:=e2;simp[bp] at e;subst e;exact EqAt.list_str j t pl.isList hu0
  | tup qs=>obtain⟨a2,ys,rfl,g,_⟩:=aX.tup_inv h2;cases e2;obtain⟨its2,_,pl2,_⟩:=I.tuple g;simp[bp] at e;subst e;exact EqAt.list_tuple pl.isList pl2 hu0
  | lst qs=>
   by_cases hv:V.ref a=u
   ·subst hv
    rw[jf I _ _ _ b h1 h2 e];cases e2;exact EqAt.same _
   ·obtain⟨a2,ys,rfl,g2,r2⟩:=aX.lst_inv h2
    cases e2;obtain⟨its2,rv2,pl2,_⟩:=I.list g2.l;have l1:=r1.length;have l2:=r2.length;have l3:=rv.length;have l4:=rv2.length;have e':bg ps qs=some b:=by simpa [bp] using e
    have hp:=kQ ps qs b e';refine EqAt.of_refs (fun z=>hv (by rw[z])) ?_
    by_cases hl:ps.length=qs.length
    ·have hb:(LI its.toArray.size).all (iK ps qs)=b:=by
      rw[← hp,hl,QJ,beq_self_eq_true,R6,show its.toArray.size=qs.length by simp;omega]
     rw[← hb];refine RcAt.lists pl.isList pl2.isList (by simp;omega) hu0 fun j j1 j2=>?_;have:=me I ps qs A.in1 xs ys its its2 b r1 r2 rv rv2 e' (by show A.units+1+_<_;omega) j (by simpa using j1) (by simpa using j2);simpa using this
    ·have hb:b=false:=by
      rw[← hp,beq_eq_false_iff_ne.mpr hl,Pj]
     rw[hb];exact RcAt.lists_lengths pl.isList pl2.isList (by simp;omega) hu0
  | _=>simp[bp] at e
 | .dct _ _,_,_,_,_,_,_,_,_,_,_,_,e,_=>by simp[bp] at e
 | .dtt _ _,_,_,_,_,_,_,_,_,_,_,_,e,_=>by simp[bp] at e
 | .fn _ _,_,_,_,_,_,_,_,_,_,_,_,e,_=>by simp[bp] at e
theorem me(I:Inv X pins σ H s):∀(ps qs:List PV)(A:M6)(xs ys:List V)(vs ws:List LB)(b:Bool),aF X.K H ps xs->aF X.K H qs ys->Vals xs vs->Vals ys ws->bg ps qs=some b->A.units+dj ps<cLine->
  ∀j (h1:j<vs.length) (h2:j<ws.length),EqAt A s vs[j] ws[j] (iK ps qs j)
 | [],qs,A,xs,ys,vs,ws,b,r1,r2,rv,rw',e,hu,j,h1,h2=>by
  cases r1;cases rv;exact absurd h1 (N4 _)
 | p::ps,[],A,xs,ys,vs,ws,b,r1,r2,rv,rw',e,hu,j,h1,h2=>by
  cases r2;cases rw';exact absurd h2 (N4 _)
 | p::ps,q::qs,A,xs,ys,vs,ws,b,r1,r2,rv,rw',e,hu,j,h1,h2=>by
  obtain⟨x,r,rfl,p1,t1⟩:=r1;obtain⟨y,r',rfl,p2,t2⟩:=r2;cases rv with
  | cons a1 c1=>
   cases rw' with
   | cons a2 c2=>
    simp only[bg] at e;obtain⟨b1,e1,e⟩:=LR.mp e;obtain⟨b2,e2,e⟩:=LR.mp e;simp only[dj] at hu;cases j with
    | zero=>
     have:iK (p::ps) (q::qs) 0=b1:=by simp[iK,e1]
     rw[this];exact xj I p q A x y _ _ b1 p1.o p2.o a1 a2 e1 (by omega)
    | succ j=>
     rw[mZ];exact me I ps qs A r r' _ _ b2 t1 t2 c1 c2 e2 (by omega) j (Rn h1) (Rn h2)
end
end
end PU
namespace PU
open PySem PySem.Spec PyProof.Rows L2 PySem.SeqAt PySem.Calls PyProof.V
variable[TW]
def EqW(P:Ll)(w:Lx)(A:M6)(s:LF)(y x:LB)(b:Bool):Prop:=∀(E:LB->LF->Prop)(Q:Bool->LF->Prop),Q b s->Ln (M4 P w) A (eqBool y x) Q E s
theorem EqW.of{P:Ll}{w:Lx}{A:M6}{s:LF}{y x:LB}{b:Bool}(h:EqAt A s y x b):EqW P w A s y x b:=fun E Q q=>h P w E Q q
section
variable{P : Ll}{w : Lx}{κ : Type}[DecidableEq κ]{kd : KeyKind P w κ}{A : M6}{E : LB → LF → Prop}{s : LF}
inductive HitW (P:Ll) (w:Lx) (A:M6) (s:LF) (other:List (κ×LB)):List (κ×LB)->Bool->Prop
 | done:HitW P w A s other [] true
 | lacks {k:κ} {v:LB} {t:List (κ×LB)}:Mq other k=none->HitW P w A s other ((k,v)::t) false
 | meets {k:κ} {v y:LB} {t:List (κ×LB)} {e b:Bool}:Mq other k=some y->EqW P w A s v y e->HitW P w A s other t b->HitW P w A s other ((k,v)::t) (e && b)
theorem HitW.split{other:List (κ×LB)}{k:κ}{v:LB}{t:List (κ×LB)}{b:Bool}(h:HitW P w A s other ((k,v)::t) b) :
  (Mq other k=none/\b=false)\/∃y e c,Mq other k=some y/\EqW P w A s v y e/\HitW P w A s other t c/\b=(e && c):=by
 cases h with
 | lacks n=>exact .inl ⟨n,rfl⟩
 | meets y1 y2 y3=>exact .inr ⟨_,_,_,y1,y2,y3,rfl⟩
theorem tZ{nm:String}{d1 d2:Addr}{l1 l2:List (κ×LB)}{r:Bool}{Q:Bool->LF->Prop}(n1:(d1 == MH)=false)(n2:(d2 == MH)=false)(D1:s.heap.DictOf kd d1 l1)(D2:s.heap.DictOf kd d2 l2)
  (hh:l1.length=l2.length->HitW P w A s l2 l1 r) (q:Q (l1.length == l2.length && r) s):Ln (M4 P w) A (QQ nm d1 d2) Q E s:=by
 obtain⟨o1,es1,c1,get1,_,dat1,ks1,prs1,_⟩:=D1;obtain⟨o2,es2,c2,get2,_,dat2,ks2,prs2,_⟩:=D2;have len1:l1.length=es1.size:=by rw[← prs1.length];exact MU
 have len2:l2.length=es2.size:=by rw[← prs2.length];exact MU
 have seek:∀k,findBy kd.is es2 k=Mq l2 k:=fun k=>by
  rw[← prs2.find k];clear len2 prs2 ks2 dat2 get2;cases es2;simp[findBy]
 rw[len1,len2] at q;unfold QQ Builtin.Dict.showsAll;rw[if_neg (by rw[n1];exact LW),if_neg (by rw[n2];exact LW)];refine LD (LQ (LD (LQ (LD (O1 get1 dat1 ?_)))));dsimp only;refine LD (O1 get2 dat2 ?_)
 by_cases sz:es1.size=es2.size
 case neg=>
  rw[if_pos (by simpa using sz)];have no:(es1.size == es2.size)=false:=by simpa using sz
  rw[no,Ql] at q;exact LD (Oq (LQ q))
 case pos=>
  have q':Q r s:=by simpa [sz] using q
  have hh':=hh (by rw[len1,len2];exact sz);rw[if_neg (by rw[sz];simp)];refine LD (wpAny_dictEpoch get1 dat1 (LD ?_));rw[Std.Legacy.Range.forIn_eq_forIn_range'];simp only[Std.Legacy.Range.size,Nat.sub_zero,Nat.add_sub_cancel,Nat.div_one];refine Pg _ (fun todo z s'=>s'=s/\z=(none,())/\∃j,todo=Rw j (es1.size-j)/\j<=es1.size/\HitW P w A s l2 (l1.drop j) r) _ ?_ ?_ _ _ ⟨rfl,rfl,0,by simp,N0 _,hh'⟩
  ·rintro x todo z s' ⟨rfl,rfl,j,et,hj,rest⟩
   have lt:j<es1.size:=by
    rcases O9 j es1.size with g | g
    ·exact g
    ·rw[Nat.sub_eq_zero_of_le g] at et;simp at et
   have e1:es1.size-j=(es1.size-(j+1))+1:=by omega
   rw[e1,List.range'_succ] at et;injection et with ex et;subst ex;refine LD (O1 get1 dat1 ?_);rw[O7 lt];have lt':x<l1.length:=by rw[len1];exact lt
   obtain⟨k,v,ekv⟩:∃k v,l1[x]=(k,v):=⟨_,_,rfl⟩;have cut:l1.drop x=(k,v)::l1.drop (x+1):=by rw[← ekv];exact Me lt'
   obtain⟨isk,isv⟩:=prs1.get? (i:=x) (e:=es1[x]) (k:=k) (v:=v) (by rw[RV];exact O7 lt) (by rw[LG lt',ekv]);obtain⟨k',isk',hs⟩:=ks1 es1[x] (Array.getElem_mem lt);have ek:k'=k:=kd.inj _ _ _ isk' isk;rw[ek] at hs;rw[cut] at rest;show Ln _ _ (holding [es1[x].key,es1[x].val] _ >>= _) _ _ _;rw[hs];refine LD (NC (LD (wpAny_dictFind_of isk get2 dat2 ks2 ?_)));cases at2:es2.findIdx? fun e=>kd.is k e.key with
   | none=>
    have nn:Mq l2 k=none:=by rw[← seek k,findBy_of_findIdx?,at2]
    rcases rest.split with⟨_,er⟩|⟨y,_,_,hy,_⟩
    ·rw[er] at q'
     refine LQ ?_;show Ln _ _ (if (!false)=true then _ else _) _ _ _;rw[if_pos (by decide)];exact LQ (LQ q')
    ·rw[nn] at hy;cases hy
   | some m=>
    obtain⟨mlt,_,_⟩:=Array.findIdx?_eq_some_iff_getElem.mp at2
    have vv:Mq l2 k=some es2[m].val:=by
     rw[← seek k,findBy_of_findIdx?,at2];simp[O7 mlt]
    refine LD (O1 get2 dat2 ?_);rw[O7 mlt];rcases rest.split with⟨nn,_⟩|⟨y,e,c,hy,he,ht,er⟩
    ·rw[vv] at nn;cases nn
    ·have ey:es2[m].val=y:=Ly (vv.symm.trans hy)
     rw[← ey,← isv] at he;refine NC (he _ _ ?_);cases e with
     | false=>
      rw[er,Ql] at q';show Ln _ _ (if (!false)=true then _ else _) _ _ _;rw[if_pos (by decide)];exact LQ (LQ q')
     | true=>
      rw[R4] at er;rw[← er] at ht;show Ln _ _ (if (!true)=true then _ else _) _ _ _;rw[if_neg (by decide)];refine LD (wpAny_dictEpoch get1 dat1 ?_);rw[if_neg (by simp)];exact LQ ⟨rfl,rfl,x+1,et,lt,ht⟩
  ·rintro z s' ⟨rfl,rfl,j,et,hj,rest⟩
   have ej:j=es1.size:=by
    rcases O9 j es1.size with g | g
    ·have e1:es1.size-j=(es1.size-(j+1))+1:=by omega
     rw[e1,List.range'_succ] at et;cases et
    ·exact Nat.le_antisymm hj g
   refine LQ ?_;rw[ej,← len1,PK] at rest;cases rest;exact q'
theorem l5{d1 d2:Addr}{l1 l2:List (κ×LB)}{r:Bool}{Q:LB->LF->Prop}(n1:(d1 == MH)=false)(n2:(d2 == MH)=false)(D1:s.heap.DictOf kd d1 l1)(D2:s.heap.DictOf kd d2 l2)(hu:A.units<cLine)
  (hh:l1.length=l2.length->HitW P w A.in1 s l2 l1 r) (q:Q (.bool (l1.length == l2.length && r)) s):Ln (M4 P w) A (richCompare .Eq (.ref d1) (.ref d2)) Q E s:=by
 refine wpAny_richCompare_same_room (op:=.Eq) D1.typeIs D2.typeIs R9 (Nj R9 D1.typeIs PySem.F.entry_dict_eq ?_ (PySem.F.args_dict_eq_2 _ _)) hu;show Ln _ _ (Q6 "__eq__" ⟨[.ref d1,.ref d2],[]⟩ >>= _) _ _ s;unfold Q6;refine LD (LD (Pv D1.typeIs ?_));show Ln _ _ (pure (Mv d1,Mv d2)) _ _ s;refine LQ (LD (Pf (T:="dict") D2.typeIs PySem.F.sub_dict_dict ?_));simp only[R5,ME,if_false];refine LD (LQ (LD (LQ (LD (tZ n1 n2 D1 D2 hh (LQ ⟨_,rfl,(fun z=>nomatch z),?_⟩))))));simpa using q
end
section
variable{X : Cx}{pins : List (Addr×Mu)}{σ : L2.St}{H : Hp}{s : LF}
theorem mO{kvs:List (Key×V)}{vs:List (Key×LB)}(r:KV kvs vs)(k:Key):(jG kvs k=none/\Mq vs k=none)\/∃v u,jG kvs k=some v/\Mq vs k=some u/\RelV v u:=by
 induction r with
 | nil=>exact .inl ⟨rfl,rfl⟩
 | @cons p q ps qs h t ih=>
  obtain⟨h1,h2⟩:=h
  by_cases e:p.1=k
  ·refine .inr ⟨p.2,q.2,iV e,?_,h2⟩
   simp[Mq,N2,← h1,e]
  ·rw[fP e]
   have e2:Mq (q::qs) k=Mq qs k:=by simp[Mq,N2,← h1,e]
   rw[e2];exact ih
theorem nu{k:Key}:∀{ks:List Key}{ps:List PV}{kvs:List (Key×V)},kvs.map (·.1)=ks->ps.length=kvs.length->bJ ks ps k=none->jG kvs k=none
 | [],_,kvs,e,_,_=>by
  have:kvs=[]:=by simpa using e
  subst this;rfl
 | j::ks,[],kvs,e,hl,_=>by
  have:kvs.length=0:=by simpa using hl.symm
  have:kvs=[]:=Mz this;subst this;cases e
 | j::ks,p::ps,kv::kvs,e,hl,h=>by
  have e1:kv.1=j:=by simpa using congrArg Q1 e
  have e2:kvs.map (·.1)=ks:=by simpa using congrArg QR e
  have h:(if j=k then some p else bJ ks ps k)=none:=h;split at h
  ·cases h
  ·rename_i hn
   rw[fP (by rw[e1];exact hn)];exact nu e2 (by simpa using hl) h
 | j::ks,p::ps,[],e,_,_=>by cases e
theorem gS{K:LA}{H:Hp}{k:Key}:∀{ks:List Key}{ps:List PV}{kvs:List (Key×V)}{p:PV},kvs.map (·.1)=ks->aF K H ps (kvs.map (·.2))->bJ ks ps k=some p->∃v,jG kvs k=some v/\Rep K H p v
 | _,_,[],_,h1,h2,e=>by
  subst h1;simp only[NR,bJ] at e;cases e
 | _,[],kv::kvs,_,h1,h2,e=>by
  cases h2
 | _,q::ps,kv::kvs,p,h1,h2,e=>by
  subst h1;obtain⟨x,r,ex,hx,ht⟩:=h2;simp only[LH,N9] at ex;obtain⟨rfl,rfl⟩:=ex;simp only[LH,bJ] at e
  by_cases hk:kv.1=k
  ·rw[if_pos hk] at e
   cases e;exact⟨kv.2,iV hk,hx⟩
  ·rw[if_neg hk] at e
   rw[fP hk];exact gS rfl ht e
theorem oB(A:M6)(eqf:PV->PV->Option Bool)(I:Inv X pins σ H s){ls:List Key}{qs:List PV}{kvs2:List (Key×V)}{vs2:List (Key×LB)}(e2:kvs2.map (·.1)=ls)(r2:aF X.K H qs (kvs2.map (·.2)))(kv2:KV kvs2 vs2) :
  ∀(ks:List Key)(ps:List PV)(kvs1:List (Key×V))(vs1:List (Key×LB))(b:Bool),kvs1.map (·.1)=ks->aF X.K H ps (kvs1.map (·.2))->KV kvs1 vs1->lV eqf ks ps ls qs=some b->
   (∀p∈ps,∀(q:PV)(v u:V)(v' u':LB)(c:Bool),aX X.K H p v->aX X.K H q u->RelV v v'->RelV u u'->eqf p q=some c->EqW X.prog X.w A s v' u' c)->HitW X.prog X.w A s vs2 vs1 b
 | [],[],kvs1,vs1,b,e1,r1,kv1,h,_=>by
  have:kvs1=[]:=by simpa using e1
  subst this;cases kv1;have h:some true=some b:=h;cases h;exact .done
 | k::ks,p::ps,kvs1,vs1,b,e1,r1,kv1,h,he=>by
  cases kvs1 with
  | nil=>cases e1
  | cons kv kvs=>
   have ek:kv.1=k:=by simpa using congrArg Q1 e1
   have et:kvs.map (·.1)=ks:=by simpa using congrArg QR e1
   obtain⟨x,r,ex,rp,rt⟩:=r1;have exx:kv.2=x:=by simpa using congrArg Q1 ex
   have err:kvs.map (·.2)=r:=by simpa using congrArg QR ex
   cases kv1 with
   | @cons _ q _ qs' hd tl=>
    obtain⟨k',u1⟩:=q;obtain⟨h1,h2⟩:=hd;have h1:kv.1=k':=h1;have h2:RelV kv.2 u1:=h2;subst err;rw[← h1,ek];unfold lV at h;cases hl:bJ ls qs k with
    | none=>
     rw[hl] at h;have h:some false=some b:=h;cases h;have:=nu e2 (by rw[r2.length,LJ]) hl;rcases mO kv2 k with⟨_,z⟩|⟨v,u,z,_⟩
     ·exact .lacks z
     ·rw[this] at z;cases z
    | some q2=>
     rw[hl] at h;have h:((eqf p q2).bind fun a=>(lV eqf ks ps ls qs).bind fun b=>some (a && b))=some b:=h;obtain⟨c1,g1,h⟩:=LR.mp h;obtain⟨c2,g2,h⟩:=LR.mp h;cases h;obtain⟨v2,ev2,rp2⟩:=gS e2 r2 hl;rcases mO kv2 k with⟨z,_⟩|⟨v,u,z,z2,z3⟩
     ·rw[ev2] at z;cases z
     ·rw[ev2] at z
      cases z;exact .meets z2 (he p Lu q2 kv.2 v2 u1 u c1 (exx▸rp.o) rp2.o h2 z3 g1) (oB A eqf I e2 r2 kv2 ks ps kvs qs' c2 et rt tl g2 fun p' hp'=>he p' (Lo _ hp'))
 | [],_::_,_,_,_,_,_,_,h,_=>by cases h
 | _::_,[],_,_,_,_,_,_,h,_=>by cases h
theorem we{k:Key}{r:PV}:∀(ks:List Key)(ps:List PV),ks.length=ps.length->k ∉ ks->∀(ls:List Key)(qs:List PV),bJ (ks++k::ls) (ps++r::qs) k=some r
 | [],[],_,_,ls,qs=>by
  show (if k=k then some r else _)=_;rw[if_pos rfl]
 | j::ks,p::ps,hl,hn,ls,qs=>by
  show (if j=k then some p else bJ (ks++k::ls) (ps++r::qs) k)=_;rw[if_neg (fun e=>hn (by rw[e];exact Lu))];exact we ks ps (by simpa using hl) (fun h=>hn (Lo _ h)) ls qs
 | [],_::_,h,_,_,_=>by simp at h
 | _::_,[],h,_,_,_=>by simp at h
theorem pz{P:Ll}{w:Lx}{κ:Type}[DecidableEq κ]{kd:KeyKind P w κ}:∀{es:List DictEntry}{l1 l2:List (κ×LB)},Pairs kd es l1->Pairs kd es l2->l1=l2
 | _,_,_,.nil,.nil=>rfl
 | _,_,_,.cons a b c,.cons a' b' c'=>by
  rw[pz c c'];have h1:=kd.inj _ _ _ a a';have h2:=b.symm.trans b';rw[QB h1 h2]
theorem uA{P:Ll}{w:Lx}{κ:Type}[DecidableEq κ]{kd:KeyKind P w κ}{h:Heap}{a:Addr}{l1 l2:List (κ×LB)}(d1:h.DictOf kd a l1)(d2:h.DictOf kd a l2):l1=l2:=by
 obtain⟨o1,es1,c1,get1,_,dat1,_,prs1,_⟩:=d1;obtain⟨o2,es2,c2,get2,_,dat2,_,prs2,_⟩:=d2;rw[get1] at get2;cases get2;rw[dat1] at dat2;cases dat2;exact pz prs1 prs2
theorem AV:∀{l1 l2:List (Key×V)}{vs:List (Key×LB)},KV l1 vs->KV l2 vs->l1=l2
 | _,_,_,.nil,.nil=>rfl
 | _,_,_,.cons a c,.cons a' c'=>by
  rw[AV c c'];rw[QB (a.1.trans a'.1.symm) (RelV.inj a.2 a'.2)]
theorem wy:∀{l:List (Key×V)}{vs:List (Key×LB)},KV l vs->l.map (·.1)=vs.map (·.1)
 | _,_,.nil=>rfl
 | _,_,.cons a c=>by rw[LH,LH,wy c,a.1]
theorem pU(eqf:PV->PV->Option Bool)(he:∀(p q:PV)(v:V)(c:Bool),Rep X.K H p v->Rep X.K H q v->eqf p q=some c->c=true):∀(kvs kvs0:List (Key×V))(qs0 qs ps:List PV)(b:Bool),
  ((kvs0++kvs).map (·.1)).Nodup->aF X.K H qs0 (kvs0.map (·.2))->aF X.K H qs (kvs.map (·.2))->aF X.K H ps (kvs.map (·.2))->lV eqf (kvs.map (·.1)) ps ((kvs0++kvs).map (·.1)) (qs0++qs)=some b->b=true
 | [],kvs0,qs0,qs,ps,b,nd,r0,rq,rp,h=>by
  have:ps=[]:=Mz (by rw[rp.length];rfl);subst this;have h:some true=some b:=h;cases h;rfl
 | kv::kvs,kvs0,qs0,[],ps,b,nd,r0,rq,rp,h=>by
  have:=rq.length;simp at this
 | kv::kvs,kvs0,qs0,q::qs,[],b,nd,r0,rq,rp,h=>by
  have:=rp.length;simp at this
 | kv::kvs,kvs0,qs0,q::qs,p::ps,b,nd,r0,rq,rp,h=>by
  obtain⟨x,r,ex,rp1,rpt⟩:=rp;obtain⟨y,r',ey,rq1,rqt⟩:=rq;have exx:kv.2=x:=by simpa using congrArg Q1 ex
  have err:kvs.map (·.2)=r:=by simpa using congrArg QR ex
  have eyy:kv.2=y:=by simpa using congrArg Q1 ey
  have err':kvs.map (·.2)=r':=by simpa using congrArg QR ey
  subst exx eyy err;rw[← err'] at rqt
  have nk:kv.1 ∉ kvs0.map (·.1):=fun z=>by
   rw[Lq,N1] at nd;exact nd.2.2 _ z _ (by simp) rfl
  have lk:bJ ((kvs0++kv::kvs).map (·.1)) (qs0++q::qs) kv.1=some q:=by
   rw[Lq,LH];exact we _ _ (by rw[LJ,r0.length,LJ]) nk _ _
  rw[LH] at h;unfold lV at h;rw[lk] at h;have h:((eqf p q).bind fun a=>(lV eqf (kvs.map (·.1)) ps ((kvs0++kv::kvs).map (·.1)) (qs0++q::qs)).bind fun b=>some (a && b))=some b:=h;obtain⟨c1,g1,h⟩:=LR.mp h;obtain⟨c2,g2,h⟩:=LR.mp h;cases h;rw[he p q kv.2 c1 rp1 rq1 g1];have:=pU eqf he kvs (kvs0++[kv]) (qs0++[q]) qs ps c2 (by simpa using nd) (by rw[Lq];exact r0.append (aF.cons rq1 aF.nil)) rqt rpt (by simpa using g2);rw[this];rfl
theorem vH(hw:X.w=TW.w)(I:Inv X pins σ H s):∀(n:Nat)(p q:PV)(v:V)(b:Bool),aX X.K H p v->aX X.K H q v->yi n p q=some b->b=true:=by
 intro n
 induction n with
 | zero=>
  intro p q v b h1 h2 e;have e:bp p q=some b:=by cases p <;> exact e
  exact jf I p q v b h1 h2 e
 | succ n ih=>
  intro p q v b h1 h2 e
  by_cases hd:∃ks ps ls qs,p=.dct ks ps/\q=.dct ls qs
  ·obtain⟨ks,ps,ls,qs,rfl,rfl⟩:=hd
   have e:(if ks.length=ls.length then lV (yi n) ks ps ls qs else some false)=some b:=e;obtain⟨a1,kvs1,rfl,d1,k1,r1⟩:=h1;obtain⟨a2,kvs2,ea,d2,k2,r2⟩:=h2;cases ea;obtain⟨_,n1,vs1,kv1,D1⟩:=DkR.at hw I d1;obtain⟨_,n2,vs2,kv2,D2⟩:=DkR.at hw I d2;have:=uA D1 D2;subst this;have:=AV kv1 kv2;subst this;subst k1;subst k2;rw[if_pos rfl] at e;obtain⟨_,_,_,_,_,_,_,_,nd⟩:=D1;exact pU (yi n) (fun p q v c g1 g2 g=>ih p q v c g1.o g2.o g) kvs1 [] [] qs ps b (by rw[Pc,wy kv1];exact nd) aF.nil r2 r1 (by simpa using e)
  ·have e:bp p q=some b:=by
    rw[← e];cases p with
    | dct ks ps=>
     cases q with
     | dct ls qs=>exact absurd ⟨ks,ps,ls,qs,rfl,rfl⟩ hd
     | _=>rfl
    | _=>rfl
   exact jf I p q v b h1 h2 e
theorem Dc(hw:X.w=TW.w)(I:Inv X pins σ H s):∀(n:Nat)(p q:PV)(A:M6)(v u:V)(v' u':LB)(b:Bool),aX X.K H p v->aX X.K H q u->RelV v v'->RelV u u'->yi n p q=some b->A.units+vK p<cLine->EqW X.prog X.w A s v' u' b:=by
 intro n
 induction n with
 | zero=>
  intro p q A v u v' u' b h1 h2 e1 e2 e hu;have e:bp p q=some b:=by cases p <;> exact e
  exact .of (xj I p q A v u v' u' b h1 h2 e1 e2 e hu)
 | succ n ih=>
  intro p q A v u v' u' b h1 h2 e1 e2 e hu
  by_cases hd:∃ks ps ls qs,p=.dct ks ps/\q=.dct ls qs
  ·obtain⟨ks,ps,ls,qs,rfl,rfl⟩:=hd
   have e0:=e;have h10:=h1;have h20:=h2;have e:(if ks.length=ls.length then lV (yi n) ks ps ls qs else some false)=some b:=e;obtain⟨a1,kvs1,rfl,d1,k1,r1⟩:=h1;obtain⟨a2,kvs2,rfl,d2,k2,r2⟩:=h2;cases e1;cases e2;obtain⟨_,n1,vs1,kv1,D1⟩:=DkR.at hw I d1;obtain⟨_,n2,vs2,kv2,D2⟩:=DkR.at hw I d2;have l1:vs1.length=ks.length:=by rw[← k1,LJ];exact(MF kv1).symm
   have l2:vs2.length=ls.length:=by rw[← k2,LJ];exact(MF kv2).symm
   simp only[vK] at hu;have hu0:A.units<cLine:=by omega
   have dep:∀p∈ps,vK p<=dj ps:=fun p hp=>by
    obtain⟨j,hj⟩:=Ob.mp hp;exact oq hj
   by_cases same:a1=a2
   ·subst same
    rw[vH hw I (n+1) _ _ _ b h10 h20 e0];exact .of (EqAt.same _)
   ·intro E Q hq
    unfold eqBool;refine NC (wpAny_ite_split (fun hab=>absurd (by have:=OF hab;injection this) same) fun _=>LD ?_)
    by_cases hl:ks.length=ls.length
    ·rw[if_pos hl] at e
     refine l5 (r:=b) n1 n2 D1 D2 hu0 (fun _=>oB A.in1 (yi n) I k2 r2 kv2 ks ps kvs1 vs1 b k1 r1 kv1 e fun p hp q v u v' u' c g1 g2 g3 g4 g5=>ih p q A.in1 v u v' u' c g1 g2 g3 g4 g5 ?_) (O0 ?_)
     ·have:=dep p hp
      show A.units+1+_<_;omega
     ·have:(vs1.length == vs2.length)=true:=by rw[l1,l2,hl];simp
      rw[this,R4];exact hq
    ·rw[if_neg hl] at e
     cases e;refine l5 (r:=false) n1 n2 D1 D2 hu0 (fun z=>absurd (by rw[← l1,← l2];exact z) hl) (O0 ?_);rw[Pj];exact hq
  ·have e:bp p q=some b:=by
    rw[← e];cases p with
    | dct ks ps=>
     cases q with
     | dct ls qs=>exact absurd ⟨ks,ps,ls,qs,rfl,rfl⟩ hd
     | _=>rfl
    | _=>rfl
   exact .of (xj I p q A v u v' u' b h1 h2 e1 e2 e hu)
end
end PU
namespace PU
open PySem PySem.Spec PyProof.Rows L2 PySem.SeqAt
variable[TW]
theorem c7{K:LA}{H:Hp}{p:PV}{v:V}(h:mD p=true)(r:aX K H p v):v=scV p:=by
 cases p with
 | non=>exact r
 | bl b=>exact r
 | int i=>exact r
 | str x=>exact r
 | _=>cases h
section
variable{X : Cx}
theorem rW{pins:List (Addr×Mu)}{σ:L2.St}{H:Hp}{s:LF}{ps qs:List PV}{v u:V}{v' u':LB}{b:Bool}(hu:X.A.units+64<cLine)(I:Inv X pins σ H s)(e:bg ps qs=some b)(hd:dj ps<=60) :
  (aX X.K H (.tup ps) v->aX X.K H (.tup qs) u->RelV v v'->RelV u u'->RcAt X.A s v' u' b/\RcNeAt X.A s v' u' (!b))/\
  (aX X.K H (.lst ps) v->aX X.K H (.lst qs) u->RelV v v'->RelV u u'->RcAt X.A s v' u' b/\RcNeAt X.A s v' u' (!b)):=by
 have hu0:X.A.units<cLine:=by omega
 have hp:=kQ ps qs b e;constructor
 ·intro h1 h2 e1 e2
  obtain⟨a,xs,rfl,g1,r1⟩:=aX.tup_inv h1;obtain⟨a2,ys,rfl,g2,r2⟩:=aX.tup_inv h2;cases e1;cases e2;obtain⟨its,rv,pl,_⟩:=I.tuple g1;obtain⟨its2,rv2,pl2,_⟩:=I.tuple g2;have l1:=r1.length;have l2:=r2.length;have l3:=rv.length;have l4:=rv2.length
  have each:∀j (j1:j<its.toArray.size) (j2:j<its2.toArray.size),EqAt X.A.in1 s its.toArray[j] its2.toArray[j] (iK ps qs j):=fun j j1 j2=>by
   have:=me I ps qs X.A.in1 xs ys its its2 b r1 r2 rv rv2 e (by show X.A.units+1+_<_;omega) j (by simpa using j1) (by simpa using j2);simpa using this
  rw[← hp,show ps.length=its.toArray.size by simp;omega,show qs.length=its2.toArray.size by simp;omega];exact⟨RcAt.tuples pl pl2 hu0 each,RcNeAt.tuples pl pl2 hu0 each⟩
 ·intro h1 h2 e1 e2
  obtain⟨a,xs,rfl,g1,r1⟩:=aX.lst_inv h1;obtain⟨a2,ys,rfl,g2,r2⟩:=aX.lst_inv h2;cases e1;cases e2;obtain⟨its,rv,pl,_⟩:=I.list g1.l;obtain⟨its2,rv2,pl2,_⟩:=I.list g2.l;have l1:=r1.length;have l2:=r2.length;have l3:=rv.length;have l4:=rv2.length
  have each:∀j (j1:j<its.toArray.size) (j2:j<its2.toArray.size),EqAt X.A.in1 s its.toArray[j] its2.toArray[j] (iK ps qs j):=fun j j1 j2=>by
   have:=me I ps qs X.A.in1 xs ys its its2 b r1 r2 rv rv2 e (by show X.A.units+1+_<_;omega) j (by simpa using j1) (by simpa using j2);simpa using this
  by_cases hl:ps.length=qs.length
  ·have hb:(LI its.toArray.size).all (iK ps qs)=b:=by
    rw[← hp,hl,QJ,beq_self_eq_true,R6,show its.toArray.size=qs.length by simp;omega]
   rw[← hb];exact⟨RcAt.lists pl.isList pl2.isList (by simp;omega) hu0 each,RcNeAt.lists pl.isList pl2.isList (by simp;omega) hu0 each⟩
  ·have hb:b=false:=by
    rw[← hp,beq_eq_false_iff_ne.mpr hl,Pj]
   rw[hb];exact⟨RcAt.lists_lengths pl.isList pl2.isList (by simp;omega) hu0,RcNeAt.lists_lengths pl.isList pl2.isList (by simp;omega) hu0⟩
theorem ou(hu:X.A.units+64<cLine)(hw:X.w=TW.w:=by rfl):OpR X (MI .Eq) (rP X.K gEq):=by
 intro pins s σ H x y v u Q I rx ry ⟨p,q,z,hp,hq,e,k⟩;unfold gEq at e;split at e
 ·rename_i ks ps ls qs
  split at e
  ·rename_i hd
   obtain⟨b,eb,ez⟩:=LK.mp e;subst ez;have eb:(if ks.length=ls.length then lV (yi 2) ks ps ls qs else some false)=some b:=eb;obtain⟨a1,kvs1,rfl,d1,k1,r1⟩:=hp;obtain⟨a2,kvs2,rfl,d2,k2,r2⟩:=hq;cases rx;cases ry;obtain⟨_,n1,vs1,kv1,D1⟩:=DkR.at hw I d1;obtain⟨_,n2,vs2,kv2,D2⟩:=DkR.at hw I d2;have l1:vs1.length=ks.length:=by rw[← k1,LJ];exact(MF kv1).symm
   have l2:vs2.length=ls.length:=by rw[← k2,LJ];exact(MF kv2).symm
   have fin:EP X pins σ Q (.bool b) s:=⟨.bl b,H,I,rfl,k _ H (Same.refl H) rfl⟩;have hu0:X.A.units<cLine:=by omega
   by_cases hl:ks.length=ls.length
   ·rw[if_pos hl] at eb
    refine l5 (r:=b) n1 n2 D1 D2 hu0 (fun _=>oB X.A.in1 (yi 2) I k2 r2 kv2 ks ps kvs1 vs1 b k1 r1 kv1 eb fun p hp q v u v' u' c g1 g2 g3 g4 g5=>Dc hw I 2 p q X.A.in1 v u v' u' c g1 g2 g3 g4 g5 ?_) ?_
    ·obtain⟨j,hj⟩:=Ob.mp hp
     have:=oq hj;show X.A.units+1+_<_;omega
    ·have:(vs1.length == vs2.length)=true:=by rw[l1,l2,hl];simp
     rw[this,R4];exact fin
   ·rw[if_neg hl] at eb
    cases eb;refine l5 (r:=false) n1 n2 D1 D2 hu0 (fun z=>absurd (by rw[← l1,← l2];exact z) hl) ?_;rw[Pj];exact fin
  ·cases e
 ·split at e
  ·rename_i hd
   obtain⟨b,eb,ez⟩:=LK.mp e;subst ez;exact((rW hu I eb hd).1 hp hq rx ry).1 _ _ _ _ ⟨.bl b,H,I,rfl,k _ H (Same.refl H) rfl⟩
  ·cases e
 ·split at e
  ·rename_i hd
   obtain⟨b,eb,ez⟩:=LK.mp e;subst ez;exact((rW hu I eb hd).2 hp hq rx ry).1 _ _ _ _ ⟨.bl b,H,I,rfl,k _ H (Same.refl H) rfl⟩
  ·cases e
 ·split at e
  ·rename_i hc
   obtain⟨h1,h2,h3⟩:=hc;cases e;rw[c7 h1 hp] at rx;rw[c7 h2 hq] at ry;exact Ie pins s σ H _ _ v u Q I rx ry ⟨h3,k _ H (Same.refl H) rfl⟩
  ·cases e
theorem AK(hu:X.A.units+64<cLine):OpR X (MI .NotEq) (rP X.K gNe):=by
 intro pins s σ H x y v u Q I rx ry ⟨p,q,z,hp,hq,e,k⟩;unfold gNe at e;split at e
 ·split at e
  ·rename_i hd
   obtain⟨b,eb,ez⟩:=LK.mp e;subst ez;exact((rW hu I eb hd).1 hp hq rx ry).2 _ _ _ _ ⟨.bl (!b),H,I,rfl,k _ H (Same.refl H) rfl⟩
  ·cases e
 ·split at e
  ·rename_i hd
   obtain⟨b,eb,ez⟩:=LK.mp e;subst ez;exact((rW hu I eb hd).2 hp hq rx ry).2 _ _ _ _ ⟨.bl (!b),H,I,rfl,k _ H (Same.refl H) rfl⟩
  ·cases e
 ·split at e
  ·rename_i hc
   obtain⟨h1,h2,h3⟩:=hc;cases e;rw[c7 h1 hp] at rx;rw[c7 h2 hq] at ry;exact Ia pins s σ H _ _ v u Q I rx ry ⟨h3,k _ H (Same.refl H) rfl⟩
  ·cases e
theorem Ih:OpR X (MI .Lt) (rP X.K gLt):=by
 intro pins s σ H x y v u Q I rx ry ⟨p,q,z,hp,hq,e,k⟩;unfold gLt at e;split at e
 ·rename_i i j
  cases e;cases (show x=.int i from hp);cases (show y=.int j from hq);exact Ib pins s σ H _ _ v u Q I rx ry ⟨i,j,rfl,rfl,k _ H (Same.refl H) rfl⟩
 ·rename_i i j
  cases e;cases (show x=.str i from hp);cases (show y=.str j from hq);exact vO pins s σ H _ _ v u Q I rx ry ⟨i,j,rfl,rfl,k _ H (Same.refl H) rfl⟩
 ·cases e
theorem Ii:OpR X (MI .LtE) (rP X.K gLe):=by
 intro pins s σ H x y v u Q I rx ry ⟨p,q,z,hp,hq,e,k⟩;unfold gLe at e;split at e
 ·rename_i i j
  cases e;cases (show x=.int i from hp);cases (show y=.int j from hq);exact Ic pins s σ H _ _ v u Q I rx ry ⟨i,j,rfl,rfl,k _ H (Same.refl H) rfl⟩
 ·rename_i i j
  cases e;cases (show x=.str i from hp);cases (show y=.str j from hq);obtain⟨t,rfl⟩:=rx;obtain⟨t',rfl⟩:=ry;exact PySem.P.le_str ⟨.bl _,H,I,rfl,k _ H (Same.refl H) rfl⟩
 ·cases e
theorem BH{K:LA}{H:Hp}{p:PV}{v:V}(r:aX K H p v):decide (v=.non)=FV p:=by
 cases p with
 | non=>cases (show v=.non from r);rfl
 | bl b=>cases (show v=.bl b from r);rfl
 | int b=>cases (show v=.int b from r);rfl
 | str b=>cases (show v=.str b from r);rfl
 | tup ps=>obtain⟨a,xs,rfl,_⟩:=aX.tup_inv r;rfl
 | lst ps=>obtain⟨a,xs,rfl,_⟩:=aX.lst_inv r;rfl
 | dct ks ps=>obtain⟨a,kvs,rfl,_⟩:=r;rfl
 | dtt ks ps=>obtain⟨a,kvs,rfl,_⟩:=r;rfl
 | fn L cs=>obtain⟨f,_,_,_,_,_,rfl,_⟩:=(show Rep K H (.fn L cs) v from r);rfl
theorem zr:OpR X (MI .Is) (rP X.K pV):=by
 intro pins s σ H x y v u Q I rx ry ⟨p,q,z,hp,hq,e,k⟩;unfold pV at e;split at e
 ·cases e
  cases (show y=.non from hq);refine F7 pins s σ H _ _ v u Q I rx ry ⟨rfl,?_⟩;rw[BH hp];exact k _ H (Same.refl H) rfl
 ·cases e
end
end PU
namespace PU
open PySem PySem.Spec PyProof.Rows L2 PySem.SeqAt
variable[TW]
theorem dF{K:LA}{H:Hp}{p:PV}{v:V}{k:Key}(e:eF p=some k)(r:aX K H p v):v=kV k:=by
 cases p with
 | int i=>cases e;exact r
 | str i=>cases e;exact r
 | _=>cases e
theorem rY{K:LA}{H:Hp}{ps:List PV}{xs:List V}{i:Int}{p:PV}(r:aF K H ps xs)(e:atI ps i=some p):∃v,atI xs i=some v/\Rep K H p v:=by
 unfold atI at e ⊢;rw[← r.length];obtain⟨j,ej,e2⟩:=LR.mp e;obtain⟨v,ev,rp⟩:=r.get e2;exact⟨v,by rw[ej];exact ev,rp⟩
section
variable{X : Cx}
theorem ixP(hu:X.A.units+64<cLine)(hw:X.w=TW.w:=by rfl):IxR X (rP X.K gIx):=by
 intro value slice pins s σ H x y v u Q I rx ry ⟨p,q,z,hp,hq,e,k⟩ hs;have h16:=MC;unfold gIx at e;split at e
 ·rename_i ps i
  obtain⟨a,xs,rfl,g,r⟩:=aX.lst_inv hp;cases (show y=.int i from hq);obtain⟨w,ew,rp⟩:=rY r e;exact CA value slice pins s σ H _ _ v u Q I rx ry ⟨a,xs,i,w,rfl,rfl,g.l,ew,k w H (Same.refl H) rp⟩ hs
 ·rename_i ps i
  obtain⟨a,xs,rfl,g,r⟩:=aX.tup_inv hp;cases (show y=.int i from hq);obtain⟨w,ew,rp⟩:=rY r e;exact FK value slice pins s σ H _ _ v u Q I rx ry ⟨a,xs,i,w,rfl,rfl,g,ew,k w H (Same.refl H) rp⟩ hs
 ·rename_i t i
  split at e
  ·rename_i hl
   obtain⟨c,ec,ez⟩:=LK.mp e;subst ez;cases (show x=.str t from hp);cases (show y=.int i from hq);exact FN value slice pins s σ H _ _ v u Q I rx ry ⟨t,i,c,rfl,rfl,by omega,ec,k _ H (Same.refl H) rfl⟩ hs
  ·cases e
 ·rename_i ks ps
  obtain⟨kk,ek,e⟩:=LR.mp e;obtain⟨a,kvs,rfl,g,e1,r⟩:=hp;cases rx;have hy:=dF ek hq;subst hy;obtain⟨w,ew,rp⟩:=gS e1 r e;obtain⟨zz,hd,vs,rel,dd⟩:=DkR.at hw I g;obtain⟨w',hw,rw'⟩:=mL.some_of (v:=w) (o:=Mq vs kk) (by rw[← ew];exact rel.val kk);exact tail_any dd.typeIs QZ.lookup (wpAny_getItem_of (lR ry) dd.mapOf hw ⟨w,H,I.tok _,rw',k w H (Same.refl H) rp⟩) hs
 ·cases e
theorem mz{K:LA}{H:Hp}:∀{qs:List PV}{xs:List V},qs.all mD=true->aF K H qs xs->xs=qs.map scV/\xs.all mI=true
 | [],_,_,r=>by cases r;exact⟨rfl,rfl⟩
 | q::qs,_,h,⟨x,t,e,h1,h2⟩=>by
  subst e;simp only[NU,MR] at h;obtain⟨e1,e2⟩:=mz h.2 h2;have hx:=c7 h.1 h1.o;refine⟨by rw[LH,hx,e1],?_⟩;rw[NU,e2,R6,hx];cases q <;> first | rfl | cases h.1
theorem nW{p:PV}(h:mD p=true):mI (scV p)=true:=by
 cases p <;> first | rfl | cases h
theorem JB(hu:X.A.units+64<cLine)(hw:X.w=TW.w:=by rfl):OpR X (MI .In) (rP X.K gIn):=by
 intro pins s σ H x y v u Q I rx ry ⟨p,q,z,hp,hq,e,k⟩;unfold gIn at e;split at e
 ·rename_i i j
  cases e;cases (show x=.str i from hp);cases (show y=.str j from hq);exact vP pins s σ H _ _ v u Q I rx ry ⟨i,j,rfl,rfl,k _ H (Same.refl H) rfl⟩
 ·rename_i qs _
  split at e
  ·rename_i hc
   cases e;obtain⟨a,xs,rfl,g,r⟩:=aX.lst_inv hq;obtain⟨e1,e2⟩:=mz hc.2 r;refine pE pins s σ H _ _ v u Q I rx ry ⟨a,xs,rfl,.inl g.l,by rw[c7 hc.1 hp];exact nW hc.1,e2,?_⟩;rw[c7 hc.1 hp,e1];exact k _ H (Same.refl H) rfl
  ·cases e
 ·rename_i qs _
  split at e
  ·rename_i hc
   cases e;obtain⟨a,xs,rfl,g,r⟩:=aX.tup_inv hq;obtain⟨e1,e2⟩:=mz hc.2 r;refine pE pins s σ H _ _ v u Q I rx ry ⟨a,xs,rfl,.inr g,by rw[c7 hc.1 hp];exact nW hc.1,e2,?_⟩;rw[c7 hc.1 hp,e1];exact k _ H (Same.refl H) rfl
  ·cases e
 ·rename_i ks ps _
  obtain⟨kk,ek,ez⟩:=LK.mp e;subst ez;obtain⟨a,kvs,rfl,g,e1,r⟩:=hq;cases ry;have hx:=dF ek hp;subst hx;obtain⟨zz,hd,vs,rel,dd⟩:=DkR.at hw I g;refine wpAny_in_of (lR rx) hd dd.mapOf ?_;rw[← (rel.val kk).isSome_eq,← kG];refine⟨.bl _,H,I.tok _,rfl,k _ H (Same.refl H) ?_⟩;subst e1;rw[O6];rfl
 ·cases e
theorem C5(hu:X.A.units+64<cLine)(hw:X.w=TW.w:=by rfl):OpR X (MI .NotIn) (rP X.K iA):=by
 intro pins s σ H x y v u Q I rx ry ⟨p,q,z,hp,hq,e,k⟩;have e:=e;obtain⟨z0,e1,ez⟩:=LR.mp e;clear e;have e:=e1;clear e1;unfold gIn at e;split at e
 ·rename_i i j _
  cases e;cases ez;cases (show x=.str i from hp);cases (show y=.str j from hq);exact pD pins s σ H _ _ v u Q I rx ry ⟨i,j,rfl,rfl,k _ H (Same.refl H) rfl⟩
 ·rename_i qs _
  split at e
  ·rename_i hc
   cases e;cases ez;obtain⟨a,xs,rfl,g,r⟩:=aX.lst_inv hq;obtain⟨e1,e2⟩:=mz hc.2 r;refine ko pins s σ H _ _ v u Q I rx ry ⟨a,xs,rfl,.inl g.l,by rw[c7 hc.1 hp];exact nW hc.1,e2,?_⟩;rw[c7 hc.1 hp,e1];exact k _ H (Same.refl H) rfl
  ·cases e
 ·rename_i qs _
  split at e
  ·rename_i hc
   cases e;cases ez;obtain⟨a,xs,rfl,g,r⟩:=aX.tup_inv hq;obtain⟨e1,e2⟩:=mz hc.2 r;refine ko pins s σ H _ _ v u Q I rx ry ⟨a,xs,rfl,.inr g,by rw[c7 hc.1 hp];exact nW hc.1,e2,?_⟩;rw[c7 hc.1 hp,e1];exact k _ H (Same.refl H) rfl
  ·cases e
 ·rename_i ks ps _
  obtain⟨kk,ek,ez'⟩:=LK.mp e;subst ez';cases ez;obtain⟨a,kvs,rfl,g,e1,r⟩:=hq;cases ry;have hx:=dF ek hp;subst hx;obtain⟨zz,hd,vs,rel,dd⟩:=DkR.at hw I g;refine wpAny_notIn_of (lR rx) hd dd.mapOf ?_;rw[← (rel.val kk).isSome_eq,← kG];refine⟨.bl _,H,I.tok _,rfl,k _ H (Same.refl H) ?_⟩;subst e1;rw[O6];rfl
 ·cases e
theorem Bn(hw:X.w=TW.w):JU X (fun v H Q=>∃p b,aX X.K H p v/\yd p=some b/\Q b H):=by
 intro pins s σ H x v Q I rx ⟨p,b,rp,e,q⟩;have h16:=MC;cases p with
 | non=>
  cases (show x=.non from rp);cases e;exact mQ pins s σ H _ v Q I rx ⟨_,rfl,q⟩
 | bl i=>
  cases (show x=.bl i from rp);cases e;exact mQ pins s σ H _ v Q I rx ⟨_,rfl,q⟩
 | int i=>
  cases (show x=.int i from rp);cases e;exact mQ pins s σ H _ v Q I rx ⟨_,rfl,q⟩
 | str i=>
  cases (show x=.str i from rp);simp only[yd] at e;split at e
  ·cases e
   exact mQ pins s σ H _ v Q I rx ⟨_,⟨by omega,rfl⟩,q⟩
  ·cases e
 | tup ps=>
  obtain⟨a,xs,rfl,g,r⟩:=aX.tup_inv rp;cases e;have:ps.isEmpty=xs.isEmpty:=by have:=r.length;cases ps <;> cases xs <;> simp_all
  exact mQ pins s σ H _ v Q I rx ⟨_,.inr (.inl ⟨xs,g,by rw[this]⟩),q⟩
 | lst ps=>
  obtain⟨a,xs,rfl,g,r⟩:=aX.lst_inv rp;cases e;have:ps.isEmpty=xs.isEmpty:=by have:=r.length;cases ps <;> cases xs <;> simp_all
  exact mQ pins s σ H _ v Q I rx ⟨_,.inl ⟨xs,g.l,by rw[this]⟩,q⟩
 | dct ks ps=>
  obtain⟨a,kvs,rfl,g,e1,r⟩:=rp;cases rx;cases e;obtain⟨hz,hS,vs,rel,m⟩:=DkR.at hw I g;have hlen:kvs.length=vs.length:=MF rel;refine wpAny_truthy_dict hS m (by omega) ⟨H,I.tok _,?_⟩;rw[nA rel];subst e1;have:(kvs.map (·.1)).isEmpty=kvs.isEmpty:=by cases kvs <;> rfl
  rw[this] at q;exact q
 | dtt ks ps=>cases e
 | fn L cs=>cases e
end
section
variable{C : Cn}{a b c e : Expr}{f fa fb fc : PSt → R PV}{t u : PSt → R Bool}{rest : List Expr}{pos : N8}
theorem ff(ha:EO C a f)(he:∀whole,isTrue a C.X.env whole=(do let v<- whole;standAt a.pos;holding [v] (truthy v)):=by intro _;rfl)(hw:C.X.w=TW.w:=by rfl):ET C a (di f):=by
 intro pins s σ H Q I ⟨ρ,vw,q⟩;refine isTrue_plain (thn (ha pins s σ H (fun v H'=>∃p b,aX C.X.K H' p v/\yd p=some b/\Q b H') I ⟨ρ,vw,q.bind.imp fun p _ k v H' s' r=>?_⟩) fun v s1 ⟨x,H1,I1,r1,q1⟩=>Bn hw pins s1 σ H1 x v Q I1 r1 q1) (he _);obtain⟨b,eb,k⟩:=k.ofO;exact⟨p,b,r,eb,k H' s'⟩
def wJ(g:PV->PV->Option PV):Prop:=∀p q z,g p q=some z->∃b,z=.bl b
theorem bq{op:CmpOp}{g:PV->PV->Option PV}(ho:OpR C.X (MI op) (rP C.X.K g))(hg:wJ g)(ha:EO C a fa)(hb:EO C b fb)(hm:Ot op b=false:=by first | exact vS _ | with_unfolding_all rfl):ET C (.Compare a [op] [b] pos) (di (ah fa fb g)):=by
 intro pins s σ H Q I ⟨ρ,vw,q⟩;refine vp ho ha hb hm pins s σ H Q I ?_;refine t2 vw (g:=g) (q.bind.imp fun p e k v H' s' r=>?_) fun _ _ _ _ h=>h
 have:∃b,p=.bl b:=by
  unfold ah at e;cases h1:fa ρ with
  | ok x=>
   rw[h1] at e;cases h2:fb ρ with
   | ok y=>
    rw[h2] at e;cases h3:g x y with
    | some z=>
     simp only[R.ok_bind,h3,R.ofO_some] at e;cases e;exact hg x y _ h3
    | none=>simp only[R.ok_bind,h3,R.ofO_none] at e;cases e
   | er x=>rw[h2] at e;cases e
   | no=>rw[h2] at e;cases e
  | er x=>rw[h1] at e;cases e
  | no=>rw[h1] at e;cases e
 obtain⟨b,rfl⟩:=this;cases (show v=.bl b from r);exact⟨b,rfl,k H' s'⟩
theorem EW.et(h:EW C e t):ET C e t:=PW.pt h
theorem xg(ha:ET C a t):EW C (.BoolOp .And [a] pos) t:=BQ ha
theorem qd(ha:ET C a t):EW C (.BoolOp .Or [a] pos) t:=Ez ha
theorem B4(ha:ET C a t)(hb:EW C (.BoolOp .And (b::rest) pos) u):EW C (.BoolOp .And (a::b::rest) pos) (DO t u):=by
 intro wh pins s σ H Q I ⟨ρ,vw,q⟩;refine EC ha hb wh pins s σ H Q I ⟨ρ,vw,q.bind.imp fun c _ k H' s'=>?_⟩;cases c with
 | true=>exact DK ⟨ρ,vw.same s',(k.same s').imp fun b _ k2 H2 s2=>k2 H2 (s'.trans s2)⟩
 | false=>exact DL (k H' s')
theorem uz(ha:ET C a t)(hb:EW C (.BoolOp .Or (b::rest) pos) u):EW C (.BoolOp .Or (a::b::rest) pos) (orB t u):=by
 intro wh pins s σ H Q I ⟨ρ,vw,q⟩;refine HS ha hb wh pins s σ H Q I ⟨ρ,vw,q.bind.imp fun c _ k H' s'=>?_⟩;cases c with
 | true=>exact DK (k H' s')
 | false=>exact DL ⟨ρ,vw.same s',(k.same s').imp fun b _ k2 H2 s2=>k2 H2 (s'.trans s2)⟩
theorem nH(ha:ET C a t):ET C (.UnaryOp .Not a pos) (ym t):=by
 intro pins s σ H Q I ⟨ρ,vw,q⟩;exact EF ha pins s σ H Q I ⟨ρ,vw,q.bind.imp fun c _ k H' s'=>k H' s'⟩
theorem Gb(hc:ET C c t)(ha:EV C a fa)(hb:EV C b fb):EV C (.IfExp c a b pos) (ifV t fa fb):=by
 intro pins s σ H Q I ⟨ρ,vw,q⟩;refine zi hc ha hb pins s σ H Q I ⟨ρ,vw,q.bind.imp fun c _ k H' s'=>?_⟩;cases c with
 | true=>exact DK ⟨ρ,vw.same s',(RQ.same k s').imp fun z _ k2 v2 H2 s2 r2=>k2 v2 H2 (s'.trans s2) r2⟩
 | false=>exact DL ⟨ρ,vw.same s',(RQ.same k s').imp fun z _ k2 v2 H2 s2 r2=>k2 v2 H2 (s'.trans s2) r2⟩
end
theorem cn:wJ gEq:=fun p q z e=>by
 unfold gEq at e;split at e
 ·split at e
  ·obtain⟨b,_,ez⟩:=LK.mp e
   exact⟨b,ez.symm⟩
  ·cases e
 ·split at e
  ·obtain⟨b,_,ez⟩:=LK.mp e
   exact⟨b,ez.symm⟩
  ·cases e
 ·split at e
  ·obtain⟨b,_,ez⟩:=LK.mp e
   exact⟨b,ez.symm⟩
  ·cases e
 ·split at e
  ·cases e
   exact⟨_,rfl⟩
  ·cases e
theorem jY:wJ gNe:=fun p q z e=>by
 unfold gNe at e;split at e
 ·split at e
  ·obtain⟨b,_,ez⟩:=LK.mp e;exact⟨_,ez.symm⟩
  ·cases e
 ·split at e
  ·obtain⟨b,_,ez⟩:=LK.mp e;exact⟨_,ez.symm⟩
  ·cases e
 ·split at e
  ·cases e;exact⟨_,rfl⟩
  ·cases e
theorem rf:wJ gLt:=fun p q z e=>by unfold gLt at e;split at e <;> cases e <;> exact⟨_,rfl⟩
theorem rh:wJ gLe:=fun p q z e=>by unfold gLe at e;split at e <;> cases e <;> exact⟨_,rfl⟩
theorem oz:wJ pV:=fun p q z e=>by unfold pV at e;split at e <;> cases e <;> exact⟨_,rfl⟩
theorem wI:wJ gIn:=fun p q z e=>by
 unfold gIn at e;split at e
 ·cases e;exact⟨_,rfl⟩
 ·split at e <;> cases e;exact⟨_,rfl⟩
 ·split at e <;> cases e;exact⟨_,rfl⟩
 ·obtain⟨b,_,ez⟩:=LK.mp e;exact⟨_,ez.symm⟩
 ·cases e
theorem uo:wJ iA:=fun p q z e=>by
 obtain⟨z0,e,ez⟩:=LR.mp e;cases z0 <;> cases ez
 exact⟨_,rfl⟩
end PU
namespace PU
open PySem PySem.Spec PyProof.Rows L2 PySem.SeqAt
variable[TW]
def r1(K:LA)(g:PV->Option PV):List V->Hp->VK->Prop:=fun vs H Q=>∃v p z,vs=[v]/\aX K H p v/\g p=some z/\∀w H',Same H H'->Rep K H' z w->Q w H'
def rn1(K:LA)(g:PV->Option PV):List V->Hp->VK->Prop:=fun vs H Q=>∃v p z,vs=[v]/\aX K H p v/\g p=some z/\∀a H',Same H H'->H a=none->cD K H' a z->Q (.ref a) H'
section
variable{C : Cn}{e : Expr}{f : PSt → R PV}{g : PV → Option PV}{x : Str}{p pos : N8}{id T : String}
theorem t1{σ:L2.St}{H:Hp}{Q:VK}{ρ:PSt}(vw:View C.X.K H σ ρ)(q:RQ C H (un1 f g ρ) fun p=>∀v H',Same H H'->Rep C.X.K H' p v->Q v H'):tCB (r1 C.X.K g) (tA1 C f) σ H Q:=by
 refine⟨ρ,vw,q.bind.imp fun p _ k v H1 s1 r1=>?_⟩;obtain⟨z,ez,k⟩:=k.ofO;exact⟨v,p,z,rfl,r1,ez,fun w H' s' r'=>k w H' (s1.trans s') r'⟩
theorem tn1{σ:L2.St}{H:Hp}{Q:VK}{ρ:PSt}(vw:View C.X.K H σ ρ)(q:RQ C H (un1 f g ρ) fun p=>∀a H',Same H H'->H a=none->cD C.X.K H' a p->Q (.ref a) H'):tCB (rn1 C.X.K g) (tA1 C f) σ H Q:=by
 refine⟨ρ,vw,q.bind.imp fun p _ k v H1 s1 r1=>?_⟩;obtain⟨z,ez,k⟩:=k.ofO;exact⟨v,p,z,rfl,r1,ez,fun a H' s' n' r'=>k a H' (s1.trans s') (s1.free n') r'⟩
theorem kE (hc:i7 C.X (.builtin id) (r1 C.X.K g)) (hg:Gl C.X x) (hm:C.X.mg x=none) (hv:NB x=some (.builtin id)) (ha:EO C e f) (hn:x≠"__name__":=by decide) (hdb:(x == ("__debug__":Str))=false:=by decide)
  (hs:Lk [e] C.X.env=[(false,MZ e C.X.env)]:=by exact bz rfl):EV C (.Call (.Name x p) [e] [] pos) (un1 f g):=by
 intro pins s σ H Q I ⟨ρ,vw,q⟩;exact om hc hg hm hv (qf ha hs) hn hdb hs (by rfl) pins s σ H Q I (t1 vw q)
theorem D5 (hc:i7 C.X (.type T) (r1 C.X.K g)) (hg:Gl C.X x) (hm:C.X.mg x=none) (hv:NB x=some (.type T)) (ha:EO C e f) (hn:x≠"__name__":=by decide) (hdb:(x == ("__debug__":Str))=false:=by decide)
  (hs:Lk [e] C.X.env=[(false,MZ e C.X.env)]:=by exact bz rfl):EV C (.Call (.Name x p) [e] [] pos) (un1 f g):=by
 intro pins s σ H Q I ⟨ρ,vw,q⟩;exact pw hc hg hm hv (qf ha hs) hn hdb hs (by rfl) pins s σ H Q I (t1 vw q)
theorem Dd (hc:i7 C.X (.type T) (rn1 C.X.K g)) (hg:Gl C.X x) (hm:C.X.mg x=none) (hv:NB x=some (.type T)) (ha:EO C e f) (hn:x≠"__name__":=by decide) (hdb:(x == ("__debug__":Str))=false:=by decide)
  (hs:Lk [e] C.X.env=[(false,MZ e C.X.env)]:=by exact bz rfl):EN C (.Call (.Name x p) [e] [] pos) (un1 f g):=by
 intro pins s σ H Q I ⟨ρ,vw,q⟩;exact pw hc hg hm hv (qf ha hs) hn hdb hs (by rfl) pins s σ H Q I (tn1 vw q)
end
section
variable{X : Cx}
theorem xN (hw:X.w=TW.w:=by rfl):i7 X (.builtin "len") (r1 X.K kD):=by
 intro pins s σ H xs us Q I r ⟨v,p,z,e1,rp,ez,k⟩;have h16:=MC;subst e1;cases p with
 | lst ps=>
  obtain⟨a,xs,rfl,g,rr⟩:=aX.lst_inv rp;cases ez;exact oO pins s σ H _ us Q I r ⟨_,_,rfl,.inl ⟨xs,g.l,rfl⟩,by rw[← rr.length];exact k _ H (Same.refl H) rfl⟩
 | tup ps=>
  obtain⟨a,xs,rfl,g,rr⟩:=aX.tup_inv rp;cases ez;exact oO pins s σ H _ us Q I r ⟨_,_,rfl,.inr ⟨xs,g,rfl⟩,by rw[← rr.length];exact k _ H (Same.refl H) rfl⟩
 | str x=>
  simp only[kD] at ez;split at ez
  ·cases ez
   cases (show v=.str x from rp);exact oO pins s σ H _ us Q I r ⟨_,_,rfl,⟨by omega,rfl⟩,k _ H (Same.refl H) rfl⟩
  ·cases ez
 | dct ks ps=>
  obtain⟨a,kvs,rfl,g,e1,rr⟩:=rp;cases ez;obtain⟨u,rfl,ru⟩:=vals1 r;cases ru;obtain⟨hz,hS,vs,rel,m⟩:=DkR.at hw I g;have hlen:kvs.length=vs.length:=MF rel;subst e1;rw[LJ,hlen] at k;exact call_len_dict hS m (by omega) ⟨.int vs.length,H,I.tok _,⟨_,rfl⟩,k _ H (Same.refl H) rfl⟩
 | _=>cases ez
theorem cInt:i7 X (.type "int") (r1 X.K Hb):=by
 intro pins s σ H xs us Q I r ⟨v,p,z,e1,rp,ez,k⟩;subst e1;cases p with
 | int i=>cases ez;cases (show v=.int i from rp);exact qp pins s σ H _ us Q I r (.inl ⟨i,rfl,k _ H (Same.refl H) rfl⟩)
 | bl i=>cases ez;cases (show v=.bl i from rp);exact qp pins s σ H _ us Q I r (.inr ⟨i,rfl,k _ H (Same.refl H) rfl⟩)
 | _=>cases ez
theorem Bc:i7 X (.type "tuple") (r1 X.K nB):=by
 intro pins s σ H xs us Q I r ⟨v,p,z,e1,rp,ez,k⟩;subst e1;cases p with
 | lst ps=>
  obtain⟨a,xs,rfl,g,rr⟩:=aX.lst_inv rp;cases ez;exact jA pins s σ H _ us Q I r ⟨a,xs,rfl,.inl ⟨g.l,fun l hl=>k _ _ (Same.new hl) ⟨l,xs,rfl,az,rr.same (Same.new hl)⟩⟩⟩
 | tup ps=>
  obtain⟨a,xs,rfl,g,rr⟩:=aX.tup_inv rp;cases ez;exact jA pins s σ H _ us Q I r ⟨a,xs,rfl,.inr ⟨g,k _ H (Same.refl H) rp⟩⟩
 | _=>cases ez
end
section
variable{C : Cn}{e tg : Expr}{f : PSt → R PV}{pos : N8}
theorem CD{K:LA}{H:Hp}{a:Addr}{xs:List V}{ps:List PV}(g:SqF K H a xs)(r:aF K H ps xs):ItP K (Itl K a) H ps:=fun i H' k=>by
 have g':=(k.sqF g).l.l;have r':=aF.kp k ps r;have hl:=r'.length;refine⟨fun h=>⟨xs,g',by omega⟩,fun p e=>?_⟩;obtain⟨x,ex,rp⟩:=r'.get e
 exact⟨⟨xs,x,g',ex⟩,fun y H2 ⟨eh,hy⟩=>by
  subst eh;have:=hy xs g';rw[ex] at this;cases this;exact⟨Same.refl _,rp⟩⟩
theorem FO{K:LA}{H:Hp}{a:Addr}{xs:List V}{ps:List PV}(g:SqT K H a xs)(r:aF K H ps xs):ItP K (Itt K a) H ps:=fun i H' k=>by
 have g':=k.sqT g;have r':=aF.kp k ps r;have hl:=r'.length;refine⟨fun h=>⟨xs,g',by omega⟩,fun p e=>?_⟩;obtain⟨x,ex,rp⟩:=r'.get e
 exact⟨⟨xs,x,g',ex⟩,fun y H2 ⟨eh,hy⟩=>by
  subst eh;have:=hy xs g';rw[ex] at this;cases this;exact⟨Same.refl _,rp⟩⟩
theorem sS{K:LA}{H:Hp}{lo:Int}{n:Nat}:ItP K (Itr lo n) H (cg lo n):=fun i H' k=>by
 refine⟨fun h=>?_,fun p e=>?_⟩
 ·have:n<=i:=by simp[cg] at h;omega
  exact this
 ·unfold cg at e
  rw[LO] at e
  have hi:i<n:=by
   by_cases hi:i<n
   ·exact hi
   ·rw[MY (by simpa using hi)] at e
    cases e
  rw[MW hi] at e;cases e;exact⟨hi,fun y H2 ⟨eh,hy⟩=>by subst eh hy;exact⟨Same.refl _,rfl⟩⟩
theorem hV {p:N8} (hg:Gl C.X "range") (hm:C.X.mg "range"=none) (he:EV C e f) (hs:Lk [e] C.X.env=[(false,MZ e C.X.env)]:=by exact bz rfl):EI C tg (.Call (.Name "range" p) [e] [] pos) (Ax f):=by
 intro pins s σ H Rk I ⟨ρ,vw,q⟩;refine vE hg hm (bt he eX hs) hs pins s σ H Rk I ⟨ρ,vw,q.bind.imp fun p _ k v H1 s1 r1=>?_⟩;cases p with
 | int j=>
  cases (show v=.int j from r1)
  by_cases hj:j.natAbs<1000000000
  ·have k:RQ C H (if j.natAbs<1000000000 then R.ok (cg 0 j.toNat) else R.no) fun ps=>∀J H',Same H H'->ItP C.X.K J H' ps->Rk J H':=k
   rw[if_pos hj] at k;exact⟨j,rfl,by omega,by omega,k _ H1 s1 sS⟩
  ·have k:RQ C H (if j.natAbs<1000000000 then R.ok (cg 0 j.toNat) else R.no) fun ps=>∀J H',Same H H'->ItP C.X.K J H' ps->Rk J H':=k
   rw[if_neg hj] at k;exact LU k
 | _=>exact LU k
end
section
variable{C : Cn}{e : Expr}{f : PSt → R PV}{pos apos cpos : N8}
theorem dH(i:Nat){x:Str}{np:N8}(he:EV C e f)(hs:Lk [e] C.X.env=[(false,MZ e C.X.env)]:=by exact bz rfl)
  (hb:OM (.Name x np) "append" C.X.env (MZ (.Name x np) C.X.env)=MZ (.Name x np) C.X.env:=by rfl) (hline:(apos.endLine == cpos.line)=true:=by rfl)
  (hd:(x == ("__debug__":Str))=false:=by decide) (hcd:(x == ("__classdict__":Str))=false:=by decide) (hN:C.X.N[i]?=some x:=by rfl) (hv:Vis C.X.env.scope x:=by first | exact .inl rfl | exact .inr (.inl rfl) | exact .inr (.inr rfl)):SV C (.Expr (.Call (.Attribute (.Name x np) "append" apos) [e] [] cpos) pos) (qB i f):=by
 intro pins s σ H D I ⟨ρ,B,S,q⟩;unfold qB at q;split at q
 ·rename_i ps e1
  obtain⟨a,e2,xs,hx,rr⟩:=S.vw i _ e1;refine vx (vJ Qj Rl PySem.F.type_list_append pI (gM hN hv hd hcd) (bt he eX hs) hb (by rw[hs];rfl) hline hs (by rfl)) (by rfl) pins s σ H D I ?_;refine⟨_,e2,.inl ⟨rfl,xs,SqL.of hx⟩,ρ,S.vw,(RS.bind q S.same).imp fun p _ q' v H1 s1 r1=>?_⟩
  by_cases hl:ps.length<16777216
  ·rw[if_pos hl] at q'
   refine⟨a,xs,v,rfl,rfl,s1 _ _ hx,by rw[MC,← rr.length];exact hl,?_⟩;refine q' σ _ ((S.grow s1).turn e1 e2 (fun b hb=>aA hb) ?_);have kp:Kp H1 (upd H1 a (.lst (xs++[v]))):=Kp.upd (s1 _ _ hx) rfl;exact⟨a,rfl,xs++[v],az,aF.append (aF.kp kp _ (rr.same s1)) (aF.cons (Rep.kp kp _ r1) aF.nil)⟩
  ·rw[if_neg hl] at q'
   exact LU q'
 ·exact LU q
end
end PU
namespace PU
open PySem PySem.Spec PyProof.Rows L2 PySem.SeqAt
variable[TW]
section
variable{C : Cn}
theorem ao(i:Nat){x:Str}{pos:N8}(hN:C.X.N[i]?=some x:=by rfl)(hv:Vis C.X.env.scope x:=by first | exact Qa rfl | exact Pu (Qa rfl) | exact Pu (Pu rfl))
  (hd:(x == ("__debug__":Str))=false:=by decide) (hcd:(x == ("__classdict__":Str))=false:=by decide):EV C (.Name x pos) (a8 i):=G9 i hN hv hd hcd
theorem yr(i:Nat){x:Str}{pos:N8}(hN:C.X.N[i]?=some x:=by rfl)(hv:Vis C.X.env.scope x:=by first | exact Qa rfl | exact Pu (Qa rfl) | exact Pu (Pu rfl))
  (hd:(x == ("__debug__":Str))=false:=by decide) (hcd:(x == ("__classdict__":Str))=false:=by decide):EO C (.Name x pos) (lX i):=Ge i hN hv hd hcd
variable{a b c : Expr}{fa fb fc : PSt → R PV}{pos : N8}
end
end PU
namespace PU
open PySem PySem.Spec PyProof.Rows L2 PySem.SeqAt
variable[TW]
section
variable{X : Cx}{pins : List (Addr×Mu)}{σ : L2.St}{H : Hp}{s : LF}
theorem _root_.L2.Inv.turnedL{wr:List Addr}{h':Heap}{t':Nat}(I:L2.Inv X pins σ H s)(k:∀b o,b ∉ wr->s.heap.get? b=some o->h'.get? b=some o)(hw:∀b∈wr,tG X pins H b):L2.Inv X pins σ H { s with heap:=h',toks:=t' }:=by
 have nw:∀b u,H b=some u->b ∉ wr:=fun b u e z=>by rw[(hw b z).1] at e;cases e
 refine I.step (g':=s.gens) (d':=s.drawn) (ch:=wr) (fun b hb=>?_) (fun b o _ _ hc e _=>k b o hc e) (fun b o _ _ hc e _=>⟨o.slots,k b o hc e⟩) (fun _ _ _ _ n=>n)
  (fun b o hc e=>⟨o,k b o hc e⟩) (fun _ _ e=>e) (fun _ _ _ e=>e) (fun b ps e=>⟨#[],by rw[e];simp⟩) (fun m hm=>?_) (fun b u e=>?_) I.bare
 ·obtain⟨g1,g2,g3,g4,g5,g6⟩:=hw b hb
  exact⟨g4,g2,g5,g6⟩
 ·obtain⟨o,es,ep,ho,r⟩:=hm
  exact⟨o,es,ep,k _ o (fun z=>(hw _ z).2.1 rfl) ho,r⟩
 ·refine(I.hok b u e).stay (fun c v hc q=>k c v ?_ q) (fun _ q=>q) fun _ _ q=>q
  rcases hc with z | z
  ·rw[z];exact nw b u e
  ·exact nw c _ z
theorem _root_.L2.Inv.tupled{wr:List Addr}{h':Heap}{t':Nat}{T:Addr}{vals:List LB}{xs:List V}(I:L2.Inv X pins σ H s)(k:∀b o,b ∉ wr->s.heap.get? b=some o->h'.get? b=some o)(hw:∀b∈wr,tG X pins H b)(hws:∀b∈wr,b<s.heap.objs.size)
  (hT:s.heap.objs.size<=T) (ht:h'.IsTuple T vals.toArray) (rv:Vals xs vals) (hz:xs.length<=sizeLine) (hnr:¬ ∀v∈vals,∃b,v=Mv b):L2.Inv X pins σ (upd H T (.tup xs)) { s with heap:=h',toks:=t' }:=by
 have nw:∀b u,H b=some u->b ∉ wr:=fun b u e z=>by rw[(hw b z).1] at e;cases e
 have nT:H T=none:=I.hok.fresh hT;have neT:∀b u,H b=some u->b≠T:=fun b u e=>bu e nT
 have lo:∀b o,s.heap.get? b=some o->b≠T:=fun b o e z=>by
  subst z;exact absurd (LZ e) (Qr.mpr hT)
 have hlt:X.env.locals≠T:=fun z=>absurd I.lt (by rw[z];exact Qr.mpr hT)
 refine I.step (g':=s.gens) (d':=s.drawn) (ch:=wr) (fun b hb=>?_) (fun b o _ _ hc e _=>k b o hc e) (fun b o _ _ hc e _=>⟨o.slots,k b o hc e⟩) (fun b o _ e n=>by rw[aA (lo b o e)];exact n)
  (fun b o hc e=>⟨o,k b o hc e⟩) (fun b xs e=>by rw[aA (neT _ _ e)];exact e) (fun b o u e=>by rw[aA (neT _ _ e)];exact e) (fun b ps e=>⟨#[],by rw[aA (neT _ _ e),e];simp⟩) (fun m hm=>?_) (fun b u e=>?_) I.bare
 ·obtain⟨g1,g2,g3,g4,g5,g6⟩:=hw b hb
  exact⟨g4,g2,g5,g6⟩
 ·obtain⟨o,es,ep,ho,r⟩:=hm
  exact⟨o,es,ep,k _ o (fun z=>(hw _ z).2.1 rfl) ho,r⟩
 ·by_cases hb:b=T
  ·subst hb
   rw[az] at e;cases e;obtain⟨o,e1,e2,e3⟩:=ht;exact⟨hz,vals,rv,o,e1,e2,e3,fun h=>absurd h hnr⟩
  ·rw[aA hb] at e
   refine(I.hok b u e).stay (fun c v hc q=>k c v ?_ q) (fun c q=>by rw[aA (neT _ _ q)];exact q) fun c ys q=>by rw[aA (neT _ _ q)];exact q
   rcases hc with z | z
   ·rw[z];exact nw b u e
   ·exact nw c _ z
end
theorem v8{P:Ll}{w:Lx}{K:LA}{elts:List Expr}{kk:Nat}{tp:N8}{it:Addr}{fp wr:List Addr}{n:Nat}{own:Nat->Heap->Prop}{J:It}
  (W:∀(X:Cx)(pins:List (Addr×Mu))(σ:L2.St)(H:Hp)(s:LF)(i:Nat),X.prog=P->X.w=w->X.K=K->X.calm=true->L2.Inv X pins σ H s->own i s.heap->J.go i H\/J.stop i H->
   ∃(more:List Addr)(Pt:Nat->Array LB->Prop)(St:Nat->Heap->Prop)(Mid:Nat->Addr->Heap->Prop),WalksT P w X.A it more wr n Pt St Mid/\St i s.heap/\(∀j h,St j h->own j h)/\
    ∀vals,Pt i vals->∃xs,Vals xs vals.toList/\xs.length<=sizeLine/\(¬ ∀v∈vals.toList,∃b,v=Mv b)/\∀T,H T=none->J.yld i H (.ref T) (upd H T (.tup xs)))
  (hI:it∈fp) (hwr:∀b∈wr,b∈fp)
  (obj:∀i h,own i h->∀b∈fp,∃o,h.get? b=some o/\∀v,o.data≠.cell v) (keep:∀i h h',own i h->(∀b∈fp,∀o,h.get? b=some o->h'.get? b=some o)->own i h')
  (hgo:∀i H,J.go i H->i<n) (hstop:∀i H,J.stop i H->i=n)
  (self:∀(A:M6)(i:Nat)(s:LF)(Q:LB->LF->Prop)(E:LB->LF->Prop),own i s.heap->Q (.ref it) s->Ln (M4 P w) A (pyIter (.ref it)) Q E s) :
  Turn P w K (.Tuple elts kk tp) J fp it own where
 mem:=hI
 obj:=obj
 keep:=keep
 item:=by
  intro X hP hw hK hc i pins s σ H E I hf st hg;obtain⟨more,Pt,St,Mid,W',st',ofSt,hval⟩:=W X pins σ H s i hP hw hK hc I st (.inl hg);subst hP hw hK;refine W'.item i s _ _ (hgo i H hg) st' fun T vals h' tk hPt hT hTup hMid hk=>?_;obtain⟨xs,rv,hz,hnr,hy⟩:=hval vals hPt;have nT:H T=none:=I.hok.fresh hT;have hfw:∀b∈wr,tG X pins H b:=fun b hb=>hf b (hwr b hb)
  have hws:∀b∈wr,b<s.heap.objs.size:=fun b hb=>by
   obtain⟨o,e,_⟩:=obj i _ st b (hwr b hb);exact LZ e
  have I1:L2.Inv X pins σ (upd H T (.tup xs)) { s with heap:=h',toks:=tk }:=I.tupled (vals:=vals.toList) hk hfw hws hT (by simpa using hTup) rv hz hnr;refine⟨_,rfl,W'.go elts kk tp i T _ _ _ hMid fun h'' st'' hk''=>?_⟩
  have fne:∀b∈fp,upd H T (.tup xs) b=none:=fun b hb=>by
   obtain⟨o,e,_⟩:=obj i _ st b hb;rw[aA (M1 (Lj (LZ e) hT))];exact(hf b hb).1
  have I2:L2.Inv X pins σ (upd H T (.tup xs)) { s with heap:=h'',toks:=tk }:=L2.Inv.turnedL (s:={ s with heap:=h',toks:=tk }) (wr:=wr) (t':=tk) I1 hk'' fun b hb=>⟨fne b (hwr b hb),(hfw b hb).2⟩;exact⟨.ref T,_,I2,rfl,hy T nT,ofSt _ _ st'',fne⟩
 done:=by
  intro X hP hw hK hc i pins s σ H E I hf st hg;obtain⟨more,Pt,St,Mid,W',st',ofSt,hval⟩:=W X pins σ H s i hP hw hK hc I st (.inr hg);subst hP hw hK;have e:=hstop i H hg;subst e;refine W'.done s _ _ st' fun h' tk hk=>⟨rfl,?_⟩;exact I.turnedL hk fun b hb=>hf b (hwr b hb)
 self:=self
def oR(n:Nat)(Gd:Hp->Prop)(xs:List (List V)):It:=
 ⟨fun i H=>i<n/\Gd H,fun i H x H'=>∃T ys,x=.ref T/\H T=none/\xs[i]?=some ys/\H'=upd H T (.tup ys),fun i H=>i=n/\Gd H⟩
theorem r9{K:LA}{H₁:Hp}{n:Nat}{Gd:Hp->Prop}{xs:List (List V)}{pss:List (List PV)}(hn:pss.length=n)(hg:∀H,Kp H₁ H->Gd H)(r:∀(i:Nat)(ps:List PV)(ys:List V),pss[i]?=some ps->xs[i]?=some ys->aF K H₁ ps ys) :
  ItP K (oR n Gd xs) H₁ (pss.map PV.tup):=fun i H k=>by
 refine⟨fun h=>⟨by rw[h,LJ,hn],hg H k⟩,fun p e=>?_⟩;rw[LO] at e;cases hp:pss[i]? with
 | none=>rw[hp] at e;cases e
 | some ps=>
  rw[hp] at e;cases e;have hi:i<n:=by rw[← hn];exact(LM.mp hp).1
  refine⟨⟨hi,hg H k⟩,fun x H' ⟨T,ys,ex,nT,ey,eH⟩=>?_⟩;subst ex eH;refine⟨Same.new nT,T,ys,rfl,az,?_⟩;exact(aF.kp k ps (r i ps ys hp ey)).same (Same.new nT)
end PU
namespace PU
open PySem PySem.Spec PyProof.Rows L2 PySem.SeqAt
variable[TW]
theorem mJ:NB "enumerate"=some (.type "enumerate"):=by decide +kernel
def p9(x:Str):List V:=x.cps.toList.map fun c=>.str ⟨#[c]⟩
theorem tU{K:LA}{H:Hp}(x:Str):aF K H (gz x) (p9 x):=by
 unfold gz p9
 induction x.cps.toList with
 | nil=>rfl
 | cons c r ih=>exact⟨_,_,rfl,rfl,ih⟩
def DI(xs:List V):List (List V):=(LI xs.length).zipWith (fun (i:Nat) x=>[.int (i:Int),x]) xs
theorem qR{α β:Type}(f:Nat->α->β)(l:List α)(i:Nat):((LI l.length).zipWith f l)[i]?=l[i]?.map (f i):=by
 rw[Pe]
 by_cases hi:i<l.length
 ·rw[MW hi]
  simp[hi]
 ·rw[MY (by simpa using hi)]
  simp[hi]
theorem sr{K:LA}{H:Hp}{ps:List PV}{xs:List V}(r:aF K H ps xs):∀(i:Nat)(qs:List PV)(ys:List V),(yk ps)[i]?=some qs->(DI xs)[i]?=some ys->aF K H qs ys:=fun i qs ys h1 h2=>by
 unfold yk at h1;unfold DI at h2;rw[qR] at h1 h2;cases e:ps[i]? with
 | none=>rw[e] at h1;cases h1
 | some p=>
  rw[e] at h1;obtain⟨x,ex,rp⟩:=r.get e;rw[ex] at h2;cases h1;cases h2;exact⟨_,_,rfl,rfl,_,_,rfl,rp,rfl⟩
theorem su(ps:List PV):(yk ps).length=ps.length:=by simp[yk]
section
variable{P : Ll}{w : Lx}{K : LA}{elts : List Expr}{kk : Nat}{tp : N8}
theorem tR(a it e:Addr)(xs:List V)(hne:e≠it)(hae:a≠e)(hai:a≠it) :
  Turn P w K (.Tuple elts kk tp) (oR xs.length (fun H=>SqL K H a xs) (DI xs)) [e,it] e (fun i h=>(∃old,IsEnum h e it i old)/\h.IsListIter it a i):=by
 refine v8 (wr:=[e,it]) (n:=xs.length) (fun X pins σ H s i hP hw hK hc I st hg=>?_) (by simp) (fun b hb=>hb) (fun i h st b hb=>?_) (fun i h h' st k=>?_) (fun i H h=>h.1) (fun i H h=>h.1) fun A i s Q E st h=>PY st.1.choose_spec h
 ·subst hP hw hK
  have hq:SqL X.K H a xs:=by rcases hg with h | h <;> exact h.2
  obtain⟨its,rv,pl,hz⟩:=I.list hq;have hl:=rv.length;have W:=SB (A:=X.A) (Draws.list (prog:=X.prog) (w:=X.w) (A:=X.A.in1) (I.ok.hd hc) it a hai its.toArray) e hne (by simp[hne,OA hae]) (by simp);rw[show its.toArray.size=xs.length by simp[hl]] at W;refine⟨_,_,_,_,W,⟨st.1,st.2,pl.isList⟩,fun j h st=>⟨st.1,st.2.1⟩,fun vals hv=>?_⟩;obtain⟨t,x,hx,rfl⟩:=hv;have hx:its[i]?=some x:=by simpa using hx
  have hi:i<xs.length:=by rw[hl];exact(LM.mp hx).1
  have e1:xs[i]?=some xs[i]:=by simp[hi]
  obtain⟨u,eu,ru⟩:=rv.get e1;rw[hx] at eu;cases eu;refine⟨[.int i,xs[i]],.cons ⟨t,rfl⟩ (.cons ru .nil),by show 2<=sizeLine;decide,fun z=>(by obtain⟨b,z⟩:=z _ Lu;cases z),fun T hT=>⟨T,_,rfl,hT,?_,rfl⟩⟩;unfold DI;rw[qR,e1];rfl
 ·obtain⟨⟨old,he⟩,o,ho,hc,hd⟩:=st
  rcases LX.mp hb with rfl | hb
  ·exact⟨_,he,fun v z=>by cases (show QY _=Pl v from z)⟩
  ·have:b=it:=by simpa using hb
   subst this;exact⟨o,ho,fun v z=>by rw[hd] at z;cases z⟩
 ·obtain⟨⟨old,he⟩,hi⟩:=st
  exact⟨⟨old,k e (by simp) _ he⟩,hi.at fun o x=>k it (by simp) o x⟩
theorem xm{prog:Ll}{w:Lx}{A:M6}(hh:A.handled=none)(it:Addr)(x:Str)(t:Tok) :
  Draws prog w A it [it] x.cps.size (fun i v=>∃c u,x.cps[i]?=some c/\v=.str ⟨#[c]⟩ u) (fun i h=>h.IsStrIter it (OC x) x t i):=by
 unfold OC
 split
 ·exact Draws.strAscii hh it x t
 ·exact Draws.strWide hh it x t
theorem tQ(it e:Addr)(x:Str)(t:Tok)(hne:e≠it) :
  Turn P w K (.Tuple elts kk tp) (oR x.cps.size (fun _=>True) (DI (p9 x))) [e,it] e (fun i h=>(∃old,IsEnum h e it i old)/\h.IsStrIter it (OC x) x t i):=by
 refine v8 (wr:=[e,it]) (n:=x.cps.size) (fun X pins σ H s i hP hw hK hc I st hg=>?_) (by simp) (fun b hb=>hb) (fun i h st b hb=>?_) (fun i h h' st k=>?_) (fun i H h=>h.1) (fun i H h=>h.1) fun A i s Q E st h=>PY st.1.choose_spec h
 ·subst hP hw hK
  refine⟨_,_,_,_,SB (A:=X.A) (xm (A:=X.A.in1) (I.ok.hd hc) it x t) e hne (by simp[hne]) (by simp),⟨st.1,st.2⟩,fun j h st=>⟨st.1,st.2⟩,fun vals hv=>?_⟩;obtain⟨t',v,⟨c,u,hc',rfl⟩,rfl⟩:=hv
  have e1:(p9 x)[i]?=some (.str ⟨#[c]⟩):=by
   unfold p9;rw[LO];simp[hc']
  refine⟨[.int i,.str ⟨#[c]⟩],.cons ⟨t',rfl⟩ (.cons ⟨u,rfl⟩ .nil),by show 2<=sizeLine;decide,fun z=>(by obtain⟨b,z⟩:=z _ Lu;cases z),fun T hT=>⟨T,_,rfl,hT,?_,rfl⟩⟩;unfold DI;rw[qR,e1];rfl
 ·obtain⟨⟨old,he⟩,o,ho,hc,hd⟩:=st
  rcases LX.mp hb with rfl | hb
  ·exact⟨_,he,fun v z=>by cases (show QY _=Pl v from z)⟩
  ·have:b=it:=by simpa using hb
   subst this;exact⟨o,ho,fun v z=>by rw[hd] at z;cases z⟩
 ·obtain⟨⟨old,he⟩,o,ho,r⟩:=st
  exact⟨⟨old,k e (by simp) _ he⟩,o,k it (by simp) o ho,r⟩
end
theorem oF {C:Cn} {e:Expr} {elts:List Expr} {kk:Nat} {tp p pos:N8} {f:PSt->R PV} (hg:Gl C.X "enumerate") (hm:C.X.mg "enumerate"=none) (he:EV C e f) (hs:Lk [e] C.X.env=[(false,MZ e C.X.env)]:=by exact bz rfl) :
  EI C (.Tuple elts kk tp) (.Call (.Name "enumerate" p) [e] [] pos) (rD f):=by
 intro pins s σ H Rk I ⟨ρ,vw,q⟩
 refine Call_ (kq I hg hm mJ (Mg (thn ((bt he eX hs) pos pins s σ H (fun vs H'=>∃v p ps,vs=[v]/\Same H H'/\Rep C.X.K H' p v/\rC p=some ps/\∀J H2,Same H' H2->ItP C.X.K J H2 ps->Rk J H2) I ⟨ρ,vw,q.bind.imp fun p _ k v H' s' r=>?_⟩)
  fun us s1 ⟨vs,H1,I1,r1,v,p,ps,ev,sm,rp,ep,k⟩=>?_) hs rfl))
 ·obtain⟨ps,ep,k⟩:=k.ofO
  exact⟨v,p,ps,rfl,s',r,ep,fun J H2 s2 it=>k J H2 (s'.trans s2) it⟩
 ·subst ev
  obtain⟨u,rfl,ru⟩:=vals1 r1;have hne:s1.heap.objs.size+1≠s1.heap.objs.size:=Nat.succ_ne_self _
  have fp:∀{h':Heap},(∀b o,s1.heap.get? b=some o->h'.get? b=some o)->L2.Inv C.X pins σ H1 { s1 with heap:=h' }/\∀b∈[s1.heap.objs.size+1,s1.heap.objs.size],tG C.X pins H1 b:=fun {h'} hk=>by
   refine⟨I1.kept (t':=s1.toks) hk,fun b hb=>?_⟩
   have hb:s1.heap.objs.size<=b:=by
    simp only[LX,Mk,or_false] at hb;rcases hb with rfl | rfl
    ·exact SE _
    ·exact LY _
   exact I1.fpOk hb (I1.hok.fresh hb)
  cases p with
  | lst qs=>
   cases ep;obtain⟨a,xs,rfl,g,rr⟩:=rp;cases ru;obtain⟨its,rv,pl,hz⟩:=I1.list g.l.l;have ha:a<s1.heap.objs.size:=by obtain⟨o,n,ho,_⟩:=pl;exact LZ ho
   refine call_enumerate_list pl.isList fun h' he' hi' hsz hk=>PY he' ?_;obtain⟨I2,hf⟩:=fp hk;refine⟨_,_,_,_,H1,rfl,I2,tR a s1.heap.objs.size (s1.heap.objs.size+1) xs hne (M1 (QK ha)) (M1 ha),⟨⟨_,he'⟩,hi'⟩,hf,k _ H1 (Same.refl H1) ?_⟩;exact r9 (by rw[su,rr.length]) (fun H2 k2=>(k2.sqF g).l.l) (sr rr)
  | str x=>
   cases ep;cases (show v=.str x from rp);obtain⟨t,rfl⟩:=ru;refine call_enumerate_str fun h' he' hi' hsz hk=>PY he' ?_;obtain⟨I2,hf⟩:=fp hk;refine⟨_,_,_,_,H1,rfl,I2,tQ s1.heap.objs.size (s1.heap.objs.size+1) x t hne,⟨⟨_,he'⟩,hi'⟩,hf,k _ H1 (Same.refl H1) ?_⟩;exact r9 (by rw[su];simp[gz]) (fun H2 k2=>trivial) (sr (tU x))
  | _=>cases ep
end PU
namespace PU
open PySem PySem.Spec PyProof.Rows L2 PySem.SeqAt
variable[TW]
theorem zF{K:LA}{H:Hp}(k:Key):Rep K H (zG k) (kV k):=by
 cases k <;> rfl
section
variable{P : Ll}{w : Lx}{K : LA}{elts : List Expr}{kk : Nat}{tp : N8}
theorem ud{kvs:List (Key×V)}{vs:List (Key×LB)}(rel:KV kvs vs):∀{i:Nat}{a:Key×V}{b:Key×LB},kvs[i]?=some a->vs[i]?=some b->a.1=b.1/\RelV a.2 b.2:=by
  induction rel with
  | nil=>intro i a b h _;simp at h
  | cons h t ih=>
   intro i a b h1 h2;cases i with
   | zero=>simp at h1 h2;subst h1 h2;exact h
   | succ i=>exact ih (by simpa using h1) (by simpa using h2)
def An(K:LA)(H:Hp)(d:Addr)(o:Mu)(kvs:List (Key×V)):Prop:=H d=some (.frz o (.dK kvs))\/(K.lookup d=some o/\yb K d kvs)
theorem An.at{X:Cx}{pins:List (Addr×Mu)}{σ:L2.St}{H:Hp}{s:LF}{d:Addr}{o:Mu}{kvs:List (Key×V)}{es:Array DictEntry}{ep:Nat}(hw:X.w=TW.w)(I:L2.Inv X pins σ H s)(h:An X.K H d o kvs)(ho:o.data=.dict es ep) :
  ∃vs,KV kvs vs/\s.heap.DictAt (aq X.prog X.w) d vs ep/\s.heap.get? d=some o/\o.ExactDict:=by
 rcases h with hq | ⟨hk,_,_,o2,es2,ep2,e,x,d2,r⟩
 ·obtain⟨e0,z,_,vs,rel,o',es',ep',e1,x1,d1,rest⟩:=I.hok d _ hq
  rw[e0] at e1;cases e1;rw[ho] at d1;cases d1;exact⟨vs,rel,⟨o,es,e0,x1,ho,rest⟩,e0,x1⟩
 ·rw[hk] at e
  cases e;rw[ho] at d2;cases d2;obtain⟨vs,rel,rest⟩:=r X.prog;rw[← hw] at rest;exact⟨vs,rel,⟨o,es,I.kIn _ _ hk,x,ho,rest⟩,I.kIn _ _ hk,x⟩
end
end PU
namespace PU
open PySem PySem.Spec PyProof.Rows L2 PySem.SeqAt
variable[TW]
section
variable{P : Ll}{w : Lx}{K : LA}{tg : Expr}
def Bi(K:LA)(d:Addr)(o:Mu)(kvs:List (Key×V)):It:=
 ⟨fun i H=>i<kvs.length/\An K H d o kvs,fun i H x H'=>H'=H/\∃kv,kvs[i]?=some kv/\x=kV kv.1,fun i H=>i=kvs.length/\An K H d o kvs⟩
theorem An.kp{H H':Hp}{d:Addr}{o:Mu}{kvs:List (Key×V)}(k:Kp H H')(h:An K H d o kvs):An K H' d o kvs:=by
 rcases h with h | h
 ·exact .inl (k _ _ h rfl)
 ·exact .inr h
theorem CF{H:Hp}{d:Addr}{o:Mu}{kvs:List (Key×V)}{ks:List Key}(g:An K H d o kvs)(e:kvs.map (·.1)=ks):ItP K (Bi K d o kvs) H (ks.map zG):=fun i H' k=>by
 subst e;refine⟨fun h=>⟨by simpa using h,g.kp k⟩,fun p ep=>?_⟩;rw[LO,LO] at ep;cases hk:kvs[i]? with
 | none=>rw[hk] at ep;cases ep
 | some kv=>
  rw[hk] at ep;cases ep;refine⟨⟨(LM.mp hk).1,g.kp k⟩,fun x H2 ⟨eh,kv',e1,e2⟩=>?_⟩;rw[hk] at e1;cases e1;subst eh e2;exact⟨Same.refl _,zF kv.1⟩
theorem v7(d it:Addr)(o:Mu)(es:Array DictEntry)(ep:Nat)(ho:o.data=.dict es ep)(kvs:List (Key×V))(hw:w=TW.w):Turn P w K tg (Bi K d o kvs) [it] it (fun i h=>h.IsKeyIter it d i kvs.length ep) where
 mem:=by simp
 obj:=fun i h st b hb=>by
  have e:b=it:=by simpa using hb
  subst e;obtain⟨o,e,c,dd⟩:=st;exact⟨o,e,fun v z=>by rw[dd] at z;cases z⟩
 keep:=fun i h h' st k=>st.at fun o e=>k it (by simp) o e
 item:=by
  intro X hP hw hK hc i pins s σ H E I hf st hg;subst hP hw hK;obtain⟨hi,hq⟩:=hg;obtain⟨vs,rel,dat,_,_⟩:=hq.at hw I ho;have hl:kvs.length=vs.length:=MF rel;obtain⟨f0,f1,f2,f3,f4,f5⟩:=hf it (by simp);have eg:vs[i]?=some vs[i]:=by simp[← hl,hi]
  have egk:kvs[i]?=some kvs[i]:=by simp[hi]
  obtain⟨hk1,hk2⟩:kvs[i].1=vs[i].1/\RelV kvs[i].2 vs[i].2:=ud rel egk eg;rw[hl] at st;refine wpAny_pyNext_dict_item st dat (k:=vs[i].1) (v:=vs[i].2) eg fun key h' hkey st' sb=>?_;have I1:Inv X pins σ H { s with heap:=h' }:=I.turned (t':=s.toks) (fun b o hb e=>(sb.2 b hb).trans e) f0 f1 f3 f4 f5;obtain⟨oi,e,c,dd⟩:=id st'
  have rk:RelV (kV kvs[i].1) key:=by
   rw[hk1];rcases aZ hkey with⟨j,t,e1,e2⟩|⟨y,t,e1,e2⟩
   ·rw[e1,e2];exact⟨t,rfl⟩
   ·rw[e1,e2];exact⟨t,rfl⟩
  exact⟨key,rfl,uv (s:={ s with heap:=h' }) e c dd (by decide) ⟨kV kvs[i].1,H,I1,rk,⟨rfl,_,egk,rfl⟩,by rw[hl];exact st',fun b hb=>(hf b hb).1⟩⟩
 done:=by
  intro X hP hw hK hc i pins s σ H E I hf st hg;subst hP hw hK;obtain⟨hi,hq⟩:=hg;obtain⟨vs,rel,dat,_,_⟩:=hq.at hw I ho;have hl:kvs.length=vs.length:=MF rel;obtain⟨f0,f1,f2,f3,f4,f5⟩:=hf it (by simp);rw[hl] at st;exact wpAny_pyNext_dict_end (I.ok.hd hc) st dat (by simp[← hl,hi]) fun h' eb=>⟨rfl,I.turned (t':=s.toks) (fun b o hb e=>eb b o hb e) f0 f1 f3 f4 f5⟩
 self:=fun _ _ _ _ _ st h=>wpAny_pyIter_keyiter st h
def yc(x:Str):It:=⟨fun i _=>i<x.cps.size,fun i H y H'=>H'=H/\∃c,x.cps[i]?=some c/\y=.str ⟨#[c]⟩,fun i _=>i=x.cps.size⟩
theorem zI{H:Hp}{x:Str}:ItP K (yc x) H (gz x):=fun i H' k=>by
 refine⟨fun h=>show i=x.cps.size by simpa [gz] using h,fun p ep=>?_⟩;unfold gz at ep;rw[LO] at ep;cases hk:x.cps.toList[i]? with
 | none=>rw[hk] at ep;cases ep
 | some c=>
  rw[hk] at ep;cases ep;refine⟨show i<x.cps.size by simpa using (LM.mp hk).1,fun y H2 ⟨eh,c',e1,e2⟩=>?_⟩
  have:c'=c:=by
   rw[RV] at hk;rw[hk] at e1;exact(Ly e1).symm
  subst this eh e2;exact⟨Same.refl _,rfl⟩
theorem oT{A:M6}(hh:A.handled=none)(it:Addr)(x:Str)(t:Tok):Walks P w A it [it] [it] x.cps.size (SignAt x) (fun i h=>h.IsStrIter it (OC x) x t i):=by
 unfold OC
 split
 ·exact Walks.strAscii hh it x t
 ·exact Walks.strWide hh it x t
theorem qJ (x:Str):["enumerate","zip","dict_itemiterator","dict_reverseitemiterator","odict_iterator","itertools.zip_longest","itertools.pairwise"].contains (OC x)=false:=by
 unfold OC
 split <;> decide
theorem tM(it:Addr)(x:Str)(t:Tok):Turn P w K tg (yc x) [it] it (fun i h=>h.IsStrIter it (OC x) x t i) where
 mem:=by simp
 obj:=fun i h st b hb=>by
  have e:b=it:=by simpa using hb
  subst e;obtain⟨o,e,c,dd⟩:=st;exact⟨o,e,fun v z=>by rw[dd] at z;cases z⟩
 keep:=fun i h h' st k=>by
  obtain⟨o,e,r⟩:=st;exact⟨o,k it (by simp) o e,r⟩
 item:=by
  intro X hP hw hK hc i pins s σ H E I hf st hg;subst hP hw hK;obtain⟨f0,f1,f2,f3,f4,f5⟩:=hf it (by simp);have W:=oT (P:=X.prog) (w:=X.w) (I.ok.hd hc) it x t;refine W.item i s _ _ hg st fun v h' tk hv st' kk=>?_;obtain⟨c,u,ec,rfl⟩:=hv;have I1:Inv X pins σ H { s with heap:=h',toks:=tk }:=I.turned (fun b o hb e=>kk b o (by simpa using hb) e) f0 f1 f3 f4 f5;obtain⟨oi,e,cc,dd⟩:=id st';exact⟨_,rfl,uv (s:={ s with heap:=h',toks:=tk }) e cc dd (qJ x) ⟨.str ⟨#[c]⟩,H,I1,⟨u,rfl⟩,⟨rfl,c,ec,rfl⟩,st',fun b hb=>(hf b hb).1⟩⟩
 done:=by
  intro X hP hw hK hc i pins s σ H E I hf st hg;subst hP hw hK;obtain⟨f0,f1,f2,f3,f4,f5⟩:=hf it (by simp);have W:=oT (P:=X.prog) (w:=X.w) (I.ok.hd hc) it x t;have hg:i=x.cps.size:=hg;subst hg;refine W.done s _ _ st fun h' tk hk=>⟨rfl,I.turned (fun b o hb e=>hk b o (by simpa using hb) e) f0 f1 f3 f4 f5⟩
 self:=fun A i s Q E st h=>by
  unfold OC at st;split at st
  ·exact wpAny_pyIter_striter_ascii st h
  ·exact wpAny_pyIter_striter_wide st h
end
section
variable{C : Cn}{e tg : Expr}{f : PSt → R PV}
theorem cK(he:EV C e f)(hw:C.X.w=TW.w:=by rfl):EI C tg e (itF f):=by
 intro pins s σ H R I ⟨ρ,vw,q⟩;refine thn (he pins s σ H (fun v H'=>∃p ps,Same H H'/\Rep C.X.K H' p v/\eN p=some ps/\∀J H2,Same H' H2->ItP C.X.K J H2 ps->R J H2) I ⟨ρ,vw,q.bind.imp fun p _ k v H' s' r=>?_⟩) fun v s1 ⟨x,H1,I1,r1,p,ps,sm,rp,ep,k⟩=>?_
 ·obtain⟨ps,ep,k⟩:=k.ofO
  exact⟨p,ps,s',r,ep,fun J H2 s2 it=>k J H2 (s'.trans s2) it⟩
 ·cases p with
  | lst qs=>
   cases ep;obtain⟨a,xs,rfl,g,rr⟩:=rp;cases r1;obtain⟨its,rv,pl,hz⟩:=I1.list g.l.l;refine wpAny_pyIter_list pl.isList ?_;refine⟨s1.heap.objs.size,[s1.heap.objs.size],_,_,H1,rfl,I1.kept (t':=s1.toks) fun b o e=>LP _ e,v5 a _,⟨_,Ls _ rfl,rfl,rfl⟩,fun b hb=>?_,k _ H1 (Same.refl H1) (CD g rr)⟩;have e:b=s1.heap.objs.size:=by simpa using hb
   subst e;exact I1.fpOk (LY _) (I1.hok.fresh (LY _))
  | tup qs=>
   cases ep;obtain⟨a,xs,rfl,g,rr⟩:=rp;cases r1;obtain⟨its,rv,pl,hz⟩:=I1.tuple (tq g);refine wpAny_pyIter_tuple (show s1.heap.IsTuple a its.toArray from pl) ?_;refine⟨s1.heap.objs.size,[s1.heap.objs.size],_,_,H1,rfl,I1.kept (t':=s1.toks) fun b o e=>LP _ e,tK a _,⟨_,Ls _ rfl,rfl,rfl⟩,fun b hb=>?_,k _ H1 (Same.refl H1) (FO (tq g) rr)⟩;have e:b=s1.heap.objs.size:=by simpa using hb
   subst e;exact I1.fpOk (LY _) (I1.hok.fresh (LY _))
  | dct ks qs=>
   cases ep;obtain⟨a,kvs,rfl,g,ek,rr⟩:=rp;cases r1
   obtain⟨o,es,ep,ho,hq,hs⟩:∃o es ep,o.data=.dict es ep/\An C.X.K H1 a o kvs/\(a == MH)=false:=by
    rcases g with⟨o,g⟩ | g
    ·obtain⟨e0,z,hs,vs,rel,o',es',ep',e1,x1,d1,rest⟩:=I1.hok a _ g
     rw[e0] at e1;cases e1;exact⟨o,es',ep',d1,.inl g,hs⟩
    ·obtain⟨_,hs,o,es,ep,e,x,d,r⟩:=id g
     exact⟨o,es,ep,d,.inr ⟨e,g⟩,hs⟩
   obtain⟨vs,rel,dat,_,_⟩:=hq.at hw I1 ho;have hl:kvs.length=vs.length:=MF rel;refine wpAny_pyIter_dict hs dat ?_;refine⟨s1.heap.objs.size,[s1.heap.objs.size],_,_,H1,rfl,I1.kept (t':=s1.toks) fun b o e=>LP _ e,v7 a _ o es ep ho kvs hw,⟨_,Ls _ rfl,rfl,by rw[hl];rfl⟩,fun b hb=>?_,k _ H1 (Same.refl H1) (CF hq ek)⟩;have e:b=s1.heap.objs.size:=by simpa using hb
   subst e;exact I1.fpOk (LY _) (I1.hok.fresh (LY _))
  | str y=>
   cases ep;cases (show x=.str y from rp);obtain⟨t,rfl⟩:=r1;refine wpAny_pyIter_strU ?_;refine⟨s1.heap.objs.size,[s1.heap.objs.size],_,_,H1,rfl,I1.kept (t':=s1.toks) fun b o e=>LP _ e,tM _ y t,⟨_,Ls _ rfl,rfl,rfl⟩,fun b hb=>?_,k _ H1 (Same.refl H1) zI⟩;have e:b=s1.heap.objs.size:=by simpa using hb
   subst e;exact I1.fpOk (LY _) (I1.hok.fresh (LY _))
  | _=>cases ep
end
end PU
namespace PU
open PySem PySem.Spec PyProof.Rows L2 PySem.SeqAt
variable[TW]
def GA (K:LA) (c:String):Prop:=∀t∈["NoneType","bool","int","str","tuple","list","dict"],PySem.W.kitOne K (.type t) (.type c)=some (FR t c)
theorem CG {K:LA}:GA K "int":=by intro t ht;simp only[LX,Mk,or_false] at ht;rcases ht with rfl | rfl | rfl | rfl | rfl | rfl | rfl <;> first | rfl | kernel_rfl
theorem zK {K:LA}:GA K "bool":=by intro t ht;simp only[LX,Mk,or_false] at ht;rcases ht with rfl | rfl | rfl | rfl | rfl | rfl | rfl <;> first | rfl | kernel_rfl
theorem zJ {K:LA}:GA K "list":=by intro t ht;simp only[LX,Mk,or_false] at ht;rcases ht with rfl | rfl | rfl | rfl | rfl | rfl | rfl <;> first | rfl | kernel_rfl
theorem CY{c:String}{p z:PV}(h:zO c p=some z):z=.bl (FR (tyN p) c):=by
 cases p <;> cases h <;> rfl
def Kr(K:LA)(c:String):List V->Hp->VK->Prop:=fun vs H Q=>∃v p,vs=[v,.ty c]/\aX K H p v/\(zO c p).isSome=true/\Q (.bl (FR (tyN p) c)) H
theorem KQ {X:Cx} {c:String} (hw:X.w=TW.w) (h:GA X.K c):i7 X (.builtin "isinstance") (Kr X.K c):=by
 intro pins s σ H xs us Q I r ⟨v,p,e1,rp,hsm,q⟩;subst e1;obtain⟨u,u2,rfl,ru,ru2⟩:=vals2 r;cases (show u2=Ny c from ru2);have fin:∀tk,EP X pins σ Q (.bool (FR (tyN p) c)) { s with toks:=tk }:=fun tk=>⟨.bl _,H,I.tok _,rfl,q⟩;have hk:=fun t ht=>h t ht;cases p with
 | non=>cases (show v=.non from rp);cases ru;exact ND PySem.W.kitx_none I.kIn N7 (hk _ (by simp[tyN])) (fun z=>nomatch z) fin
 | bl b=>cases (show v=.bl b from rp);cases ru;exact ND PySem.W.kitx_bool I.kIn N7 (hk _ (by simp[tyN])) (fun z=>nomatch z) fin
 | int i=>cases (show v=.int i from rp);obtain⟨t,rfl⟩:=ru;exact ND PySem.W.kitx_int I.kIn N7 (hk _ (by simp[tyN])) (fun z=>nomatch z) fin
 | str i=>cases (show v=.str i from rp);obtain⟨t,rfl⟩:=ru;exact ND PySem.W.kitx_str I.kIn N7 (hk _ (by simp[tyN])) (fun z=>nomatch z) fin
 | tup ps=>
  obtain⟨a,ys,rfl,g,_⟩:=aX.tup_inv rp;cases ru;obtain⟨its,_,⟨o,e,c',_⟩,_⟩:=I.tuple g;exact ND PySem.W.kitx_tuple I.kIn ⟨o,e,c'⟩ (hk _ (by simp[tyN])) (fun z=>nomatch z) fin
 | lst ps=>
  obtain⟨a,ys,rfl,g,_⟩:=aX.lst_inv rp;cases ru;obtain⟨_,its,n,_,e⟩:=g.is I;exact ND PySem.W.kitx_list I.kIn ⟨_,e,rfl⟩ (hk _ (by simp[tyN])) (fun z=>nomatch z) fin
 | dct ks ps=>
  obtain⟨a,kvs,rfl,g,_⟩:=rp;cases ru;obtain⟨_,_,vs,_,o,es,ep,e,x,_⟩:=DkR.at hw I g;exact ND Rr I.kIn ⟨o,e,x.1⟩ (hk _ (by simp[tyN])) (fun z=>nomatch z) fin
 | dtt ks ps=>
  obtain⟨a,kvs,rfl,g,_⟩:=rp;cases ru;obtain⟨_,_,_,_,o,es,ep,e,x,_⟩:=rG I.hok g;exact ND Rr I.kIn ⟨o,e,x.1⟩ (hk _ (by simp[tyN])) (fun z=>nomatch z) fin
 | fn L cs=>cases hsm
theorem xh {C:Cn} {e:Expr} {f:PSt->R PV} {c:Str} {cs:String} {p p2 pos:N8} (h:GA C.X.K cs) (hg:Gl C.X "isinstance") (hm:C.X.mg "isinstance"=none) (hg2:Gl C.X c) (hm2:C.X.mg c=none) (hb2:NB c=some (.type cs)) (ha:EO C e f)
  (hs:Lk [e,.Name c p2] C.X.env=[(false,MZ e C.X.env),(false,MZ (.Name c p2) C.X.env)]:=by exact nU rfl rfl) (hs2:Lk [.Name c p2] C.X.env=[(false,MZ (.Name c p2) C.X.env)]:=by rfl)
  (hn:c≠"__name__":=by decide) (hd:(c == ("__debug__":Str))=false:=by decide) (hw:C.X.w=TW.w:=by rfl):EV C (.Call (.Name "isinstance" p) [e,.Name c p2] [] pos) (un1 f (zO cs)):=by
 intro pins s σ H Q I ⟨ρ,vw,q⟩;have hpa:PA C.X [e,.Name c p2] (Bq (tO C f) (Bq (tC (.ty cs)) Jz)):=bt ha (bt (C3 hg2 hm2 hb2 rfl hn hd) eX hs2) (by rw[hs,hs2]);refine om (KQ hw h) hg hm (by decide +kernel) hpa (by decide) (by decide) (by rw[hs,hs2]) (by rw[hs2];rfl) pins s σ H Q I ⟨ρ,vw,q.bind.imp fun p _ k v H1 s1 r1=>?_⟩;obtain⟨z,ez,k⟩:=RQ.ofO k;have hz:=CY ez;subst hz;exact⟨v,p,rfl,r1,by rw[ez];rfl,k _ H1 s1 rfl⟩
theorem nG{C:Cn}{e:Expr}{f:PSt->R PV}{pos:N8}(h:EV C e f):EV C (.UnaryOp .USub e pos) (un1 f qz):=by
 intro pins s σ H Q I ⟨ρ,vw,q⟩;refine HX Eg h pins s σ H Q I ⟨ρ,vw,q.bind.imp fun p _ k v H1 s1 r1=>?_⟩;obtain⟨z,ez,k⟩:=k.ofO;cases p with
 | int i=>cases ez;cases (show v=.int i from r1);exact⟨i,rfl,k _ H1 s1 rfl⟩
 | _=>cases ez
def rM1(K:LA)(g:PV->PV->Option PV):V->List V->Hp->VK->Prop:=fun v vs H Q=>∃p q z u,vs=[u]/\aX K H p v/\aX K H q u/\g p q=some z/\∀w H',Same H H'->Rep K H' z w->Q w H'
structure StrM(name:Str)(id:String):Prop where
 slot:Slot "str" name id
 ty:typeOf (.builtin id)=pure (.type "method_descriptor")
theorem D6{C:Cn}{o e:Expr}{fo fe:PSt->R PV}{g:PV->PV->Option PV}{name:Str}{id:String}{apos cpos:N8}(S:StrM name id)(hm:MtR C.X id (rM1 C.X.K g))(ho:EV C o fo)(he:EO C e fe)
  (hbase:OM o name C.X.env (MZ o C.X.env)=MZ o C.X.env:=by rfl) (hline:(apos.endLine == cpos.line)=true:=by rfl) (hs:Lk [e] C.X.env=[(false,MZ e C.X.env)]:=by exact bz rfl) :
  EV C (.Call (.Attribute o name apos) [e] [] cpos) (qX fo fe g):=by
 intro pins s σ H Q I ⟨ρ,vw,q⟩;refine vJ PySem.F.plainAttrs_str S.slot S.ty hm ho (qf he hs) hbase (by rw[hs];rfl) hline hs (by rfl) pins s σ H Q I ⟨ρ,vw,q.bind.imp fun p _ k v H1 s1 r1=>?_⟩;cases p with
 | str x=>
  cases (show v=.str x from r1);have k:RQ C H (fe ρ >>= fun q=>R.ofO (g (.str x) q)) fun p=>∀v H',Same H H'->Rep C.X.K H' p v->Q v H':=k;refine⟨rfl,ρ,vw.same s1,(k.bind.same s1).imp fun p2 _ k2 u H2 s2 r2=>?_⟩;obtain⟨z,ez,k3⟩:=k2.ofO;exact⟨.str x,p2,z,u,rfl,rfl,r2,ez,fun w H3 s3 r3=>k3 w H3 ((s1.trans s2).trans s3) r3⟩
 | _=>exact LU k
theorem kg{K:LA}{H:Hp}:∀{ps:List PV}{xs:List V}{us:List LB}{ys:List Str},kz ps=some ys->aF K H ps xs->Vals xs us->StrsAre us ys
 | [],_,_,_,e,r,rv=>by cases e;cases r;cases rv;exact .nil
 | p::ps,_,_,_,e,⟨x,t,ex,h1,h2⟩,rv=>by
  subst ex;cases p with
  | str y=>
   obtain⟨r,er,ez⟩:=LK.mp (show (kz ps).map (y::·)=some _ from e);subst ez;cases (show x=.str y from h1);cases rv with
   | cons a b=>
    obtain⟨tt,rfl⟩:=a;exact .cons y tt (kg er h2 b)
  | _=>cases e
theorem Ep:StrM "join" "str.join":=⟨PySem.F.slot_str_join,PySem.F.type_str_join⟩
theorem Fn {X:Cx}:MtR X "str.join" (rM1 X.K rm):=by
 intro pins s σ H x xs v us Q I rx rs ⟨p,q,z,u,e1,rp,rq,ez,k⟩;subst e1;obtain⟨u',rfl,ru⟩:=vals1 rs;unfold rm at ez;split at ez
 ·rename_i y ps
  obtain⟨ys,ey,ez⟩:=LR.mp ez;split at ez
  ·rename_i hl
   cases ez;cases (show x=.str y from rp);obtain⟨t,rfl⟩:=rx;obtain⟨a,zs,rfl,g,rr⟩:=aX.lst_inv rq;cases ru;obtain⟨_,its,n,rv,e⟩:=g.is I;exact join_list (items:=its.toArray) ⟨_,e,rfl,_,rfl⟩ (kg ey rr (by simpa using rv)) hl fun t' k'=>⟨.str _,H,I.tok _,⟨_,rfl⟩,k _ H (Same.refl H) rfl⟩
  ·cases ez
 ·rename_i y ps
  obtain⟨ys,ey,ez⟩:=LR.mp ez;split at ez
  ·rename_i hl
   cases ez;cases (show x=.str y from rp);obtain⟨t,rfl⟩:=rx;obtain⟨a,zs,rfl,g,rr⟩:=aX.tup_inv rq;cases ru;obtain⟨its,rv,pl,_⟩:=I.tuple g;exact join_tuple (items:=its.toArray) pl (kg ey rr (by simpa using rv)) hl fun t' k'=>⟨.str _,H,I.tok _,⟨_,rfl⟩,k _ H (Same.refl H) rfl⟩
  ·cases ez
 ·cases ez
end PU
namespace PU
open PySem PySem.Spec PyProof.Rows L2 PySem.SeqAt
variable[TW]
def Kk(K:LA):V->Option Int->Option Int->Hp->VK->Prop:=fun v lo hi H Q=>∃p z,aX K H p v/\gSl p lo hi=some z/\∀w H',Same H H'->Rep K H' z w->Q w H'
def tOI(C:Cn)(f:PSt->R (Option Int)):TO:=fun σ H Q=>∃ρ,View C.X.K H σ ρ/\RQ C H (f ρ) fun o=>∀H',Same H H'->Q o H'
def EOI(C:Cn)(e:Option Expr)(f:PSt->R (Option Int)):Prop:=PO C.X e (tOI C f)
theorem oI{K:LA}{H:Hp}{ps:List PV}{xs:List V}(r:aF K H ps xs)(lo hi:Option Int):aF K H (jD ps lo hi) (zX xs lo hi):=by
 unfold jD zX;rw[r.length];exact(r.drop _).take _
section
variable{C : Cn}{e : Expr}{f : PSt → R PV}{lo hi : Option Expr}{l h : PSt → R (Option Int)}{pos p2 : N8}
theorem ft:EOI C none fG:=fun pins s σ H Q I ⟨ρ,vw,q⟩=>BW pins s σ H Q I (q H (Same.refl H))
theorem cM(he:EV C e f):EOI C (some e) (i6 f):=by
 intro pins s σ H Q I ⟨ρ,vw,q⟩;refine BV he pins s σ H Q I ⟨ρ,vw,q.bind.imp fun p _ k v H1 s1 r1=>?_⟩;cases p with
 | int i=>cases (show v=.int i from r1);exact⟨i,rfl,k H1 s1⟩
 | _=>exact LU k
theorem slP{X:Cx}:SlR X (Kk X.K):=by
 intro pins s σ H x v vl vu lo hi sl Q I rx hs pl pu ⟨p,z,rp,ez,k⟩;cases p with
 | lst ps=>
  cases ez;obtain⟨a,xs,rfl,g,rr⟩:=aX.lst_inv rp;obtain⟨T,id,h1,h2,h3⟩:=By pins s σ H _ v vl vu lo hi sl (fun w H'=>∃b,w=.ref b/\H b=none/\H'=upd H b (.lst (zX xs lo hi))) I rx hs pl pu ⟨a,xs,rfl,g.l,fun b hb=>⟨b,rfl,hb,rfl⟩⟩;refine⟨T,id,h1,h2,thn h3 fun u s' ⟨w,H',I',rw',b,ew,nb,eH⟩=>?_⟩;subst ew eH;obtain⟨H2,I2,rp2,oth⟩:=L2.Inv.frz (a:=b) (p:=.lst (jD ps lo hi)) I' ⟨_,az,(oI rr lo hi).same (Same.new nb)⟩;refine⟨.ref b,H2,I2,rw',k _ H2 (.of fun c o ec=>?_) rp2⟩;have hc:=bu ec nb;rw[oth c hc,aA hc];exact ec
 | tup ps=>
  simp only[gSl] at ez;obtain⟨a,xs,rfl,g,rr⟩:=aX.tup_inv rp
  by_cases hw:HT.sIx ps.length 0 lo=0/\HT.sIx ps.length ps.length hi=ps.length
  ·rw[if_pos hw] at ez
   cases ez
  ·rw[if_neg hw] at ez
   cases ez;exact Aw pins s σ H _ v vl vu lo hi sl Q I rx hs pl pu ⟨a,xs,rfl,g,by rw[← rr.length];exact hw,fun b hb=>k _ _ (Same.new hb) ⟨b,_,rfl,az,(oI rr lo hi).same (Same.new hb)⟩⟩
 | _=>cases ez
theorem l0(ha:EO C e f)(hl:EOI C lo l)(hh:EOI C hi h):EV C (.Subscript e (.Slice lo hi none p2) pos) (lj f l h):=by
 intro pins s σ H Q I ⟨ρ,vw,q⟩;refine oj slP ha hl hh pins s σ H Q I ⟨ρ,vw,q.bind.imp fun p _ k v H1 s1 r1=>⟨ρ,vw.same s1,(k.bind.same s1).imp fun o1 _ k2 H2 s2=>⟨ρ,(vw.same s1).same s2,(k2.bind.same (s1.trans s2)).imp fun o2 _ k3 H3 s3=>?_⟩⟩⟩;obtain⟨z,ez,k4⟩:=k3.ofO;exact⟨p,z,(r1.same s2).same s3,ez,fun w H4 s4 r4=>k4 w H4 (((s1.trans s2).trans s3).trans s4) r4⟩
end
theorem pe{K:LA}{H:Hp}{k:Key}{p:PV}{v:V}(rp:Rep K H p v):∀{kvs:List (Key×V)}{ps:List PV},aF K H ps (kvs.map (·.2))->aF K H (kC (kvs.map (·.1)) ps k p) ((kvs.map fun kv=>if kv.1=k then (kv.1,v) else kv).map (·.2))
 | [],ps,r=>by
  cases ps with
  | nil=>rfl
  | cons q qs=>obtain⟨x,t,e,_⟩:=r;cases e
 | kv::kvs,ps,r=>by
  cases ps with
  | nil=>cases r
  | cons q qs=>
   obtain⟨x,t,e,h1,h2⟩:=r;simp only[LH,N9] at e;obtain⟨rfl,rfl⟩:=e;have ih:=pe (k:=k) rp h2;simp only[LH,kC,Mr]
   by_cases hk:kv.1=k
   ·rw[if_pos hk,if_pos hk];exact⟨_,_,rfl,rp,ih⟩
   ·rw[if_neg hk,if_neg hk];exact⟨_,_,rfl,h1,ih⟩
theorem sd{K:LA}{H:Hp}{kvs:List (Key×V)}{ps:List PV}{k:Key}{p:PV}{v:V}(rr:aF K H ps (kvs.map (·.2)))(rp:Rep K H p v) :
  ∃ks' ps',kO (kvs.map (·.1)) ps k p=.dct ks' ps'/\(putK kvs k v).map (·.1)=ks'/\aF K H ps' ((putK kvs k v).map (·.2)):=by
 unfold kO;have e:((kvs.map (·.1)).any fun j=>decide (j=k))=(kvs.any fun kv=>decide (kv.1=k)):=by rw[O6];rfl
 rw[e];unfold putK
 split
 ·refine⟨_,_,rfl,?_,pe rp rr⟩
  rw[Lh];apply Ms;intro kv _;simp only[Nh]
  split <;> rfl
 ·refine⟨_,_,rfl,by simp,?_⟩
  rw[Lq];exact aF.append rr ⟨_,_,rfl,rp,rfl⟩
theorem o7{K:LA}{H:Hp}{a:Addr}{kvs:List (Key×V)}{ps:List PV}{k:Key}{p:PV}{v:V}(rr:aF K H ps (kvs.map (·.2)))(rp:Rep K H p v)(ha:H a=some (.dK (putK kvs k v))):cD K H a (kO (kvs.map (·.1)) ps k p):=by
 obtain⟨ks',ps',e,e1,e2⟩:=sd (k:=k) rr rp;rw[e];exact⟨_,ha,e1,e2⟩
theorem lg{C:Cn}(i:Nat){x:Str}{ke e:Expr}{fk fv:PSt->R PV}{np pos' pos:N8}(hu:C.X.A.units+64<cLine)(hk:EV C ke fk)(hv:EV C e fv)(hN:C.X.N[i]?=some x:=by rfl)(hvis:Vis C.X.env.scope x:=by first | exact Qa rfl | exact Pu (Qa rfl))
  (hs:P3 e (some (.Subscript (.Name x np) ke pos')) pos.line C.X.env=pure false:=by rfl) (hd:(x == ("__debug__":Str))=false:=by decide) (hcd:(x == ("__classdict__":Str))=false:=by decide) :
  SV C (.Assign [.Subscript (.Name x np) ke pos'] e pos) (ua i fk fv):=by
 intro pins s σ H D I ⟨ρ,B,S,q⟩;unfold ua at q;split at q
 ·rename_i ks ps e1
  obtain⟨a,e2,kvs,hx,ek,rr⟩:=S.vw i _ e1;refine vy (by omega) (gM hN hvis hd hcd) hk hv hs pins s σ H D I ⟨ρ,S.vw,(q.bind S.same).imp fun p _ q1 v H1 s1 r1=>⟨_,e2,ρ,S.vw.same s1,(q1.bind (S.same.trans s1)).imp fun kp _ q2 y H2 s2 r2=>?_⟩⟩;obtain⟨k,e3,q3⟩:=RS.ofO q2
  by_cases hl:ks.length<16777216
  ·rw[if_pos hl] at q3
   have hy:=dF e3 r2.o;subst hy;subst ek;have hx2:H2 a=some (.dK kvs):=s2 _ _ (s1 _ _ hx);refine⟨a,_,rfl,Bj.k hx2 (by rw[MC];simpa using hl),?_⟩;have kp:Kp H2 (upd H2 a (.dK (putK kvs k v))):=Kp.upd hx2 rfl;refine q3 σ _ (((S.grow s1).grow s2).turn e1 e2 (fun b hb=>aA hb) ⟨a,rfl,?_⟩);exact o7 (aF.kp kp _ ((rr.same s1).same s2)) (Rep.kp kp _ (r1.same s2)) az
  ·rw[if_neg hl] at q3
   exact LU q3
 ·exact LU q
theorem mh{C:Cn}{pos:N8}:EN C (.Dict [] [] pos) newD:=fun pins s σ H Q I ⟨ρ,vw,q⟩=>zk pins s σ H Q I fun p hp=>q p _ (Same.new hp) hp ⟨[],az,rfl,rfl⟩
def kh(K:LA)(H:Hp):List (Key×PV)->List (Key×V)->Prop
 | [],xs=>xs=[]
 | kp::r,xs=>∃v t,xs=(kp.1,v)::t/\Rep K H kp.2 v/\kh K H r t
theorem kh.kp{K:LA}{H H':Hp}(k:Kp H H'):∀{kps:List (Key×PV)}{xs:List (Key×V)},kh K H kps xs->kh K H' kps xs
 | [],_,h=>h
 | kp::r,_,⟨v,t,e,h1,h2⟩=>⟨v,t,e,Rep.kp k _ h1,kh.kp k h2⟩
def ED(C:Cn)(pos:N8)(ks:List (Option Expr))(vs:List Expr)(f:PSt->R (List (Key×PV))):Prop:=∃trs,PPs C.X pos ks vs trs/\
 ∀σ H Q,(∃ρ,View C.X.K H σ ρ/\RQ C H (f ρ) fun kps=>∀kvs H',Same H H'->kh C.X.K H' kps kvs->Q (kvs.map fun kv=>(kV kv.1,kv.2)) H')->rV trs σ H Q
theorem B8{C:Cn}{pos:N8}:ED C pos [] [] Ff:=⟨[],vz,fun σ H Q ⟨ρ,vw,q⟩=>q [] H (Same.refl H) rfl⟩
theorem kc{C:Cn}{pos:N8}{k v:Expr}{ks:List (Option Expr)}{vs:List Expr}{fk fv:PSt->R PV}{f:PSt->R (List (Key×PV))}(hk:EV C k fk)(hv:EV C v fv)(h:ED C pos ks vs f):ED C pos (some k::ks) (v::vs) (oJ fk fv f):=by
 obtain⟨trs,hp,ht⟩:=h;refine⟨_,sh hk hv hp,fun σ H Q ⟨ρ,vw,q⟩=>⟨ρ,vw,q.bind.imp fun kp _ q1 x H1 s1 r1=>?_⟩⟩
 obtain⟨kk,ek,q1⟩:∃kk,eF kp=some kk/\RQ C H (fv ρ >>= fun p=>f ρ >>= fun r=>R.ok ((kk,p)::r)) _:=by
  cases h:eF kp with
  | none=>rw[h] at q1;exact LU q1
  | some kk=>rw[h] at q1;exact⟨kk,rfl,q1⟩
 refine⟨ρ,vw.same s1,(q1.bind.same s1).imp fun p _ q2 y H2 s2 r2=>ht σ H2 _ ⟨ρ,(vw.same s1).same s2,(q2.bind.same (s1.trans s2)).imp fun kps _ q3 kvs H3 s3 r3=>?_⟩⟩;have hx:=dF ek r1.o;subst hx;exact q3 ((kk,y)::kvs) H3 ((s1.trans s2).trans s3) ⟨y,kvs,rfl,r2.same s3,r3⟩
def Ai(d:PV)(kp:Key×PV):PV:=match d with
 | .dct ks ps=>kO ks ps kp.1 kp.2
 | d=>d
theorem kU(kps:List (Key×PV)):gR kps=kps.foldl Ai (.dct [] []):=rfl
theorem lM{K:LA}{H:Hp}:∀{kps:List (Key×PV)}{kvs acc:List (Key×V)}{ps:List PV},kh K H kps kvs->aF K H ps (acc.map (·.2))->
  ∃ks' ps',kps.foldl Ai (PV.dct (acc.map (·.1)) ps)=PV.dct ks' ps'/\(fH acc kvs).map (·.1)=ks'/\aF K H ps' ((fH acc kvs).map (·.2))
 | [],kvs,acc,ps,h,r=>by cases h;exact⟨_,_,rfl,rfl,r⟩
 | kp::kps,kvs,acc,ps,⟨v,t,e,h1,h2⟩,r=>by
  subst e;obtain⟨ks',ps',g,g1,g2⟩:=sd (k:=kp.1) r h1;obtain⟨ks2,ps2,f,f1,f2⟩:=lM (acc:=putK acc kp.1 v) h2 g2;refine⟨ks2,ps2,?_,f1,f2⟩;rw[NJ]
  have:Ai (PV.dct (acc.map (·.1)) ps) kp=PV.dct ((putK acc kp.1 v).map (·.1)) ps':=by
   show kO _ _ _ _=_;rw[g,g1]
  rw[this];exact f
theorem kh.length{K:LA}{H:Hp}:∀{kps:List (Key×PV)}{xs:List (Key×V)},kh K H kps xs->kps.length=xs.length
 | [],_,h=>by cases h;rfl
 | kp::r,_,⟨v,t,e,h1,h2⟩=>by subst e;simp[kh.length h2]
theorem xk{C:Cn}{pos:N8}{ks:List (Option Expr)}{vs:List Expr}{f:PSt->R (List (Key×PV))}(h:ED C pos ks vs f)(hall:ks.all (·.isSome)=true:=by rfl)(hl:ks.length=vs.length:=by rfl)(h0:ks≠[]:=by exact fun z=>nomatch z)
  (h15:ks.length<=15:=by decide):EN C (.Dict ks vs pos) (xq f):=by
 obtain⟨trs,hp,ht⟩:=h;intro pins s σ H Q I ⟨ρ,vw,q⟩;refine BZ hp hall hl h0 h15 pins s σ H Q I fun p hn=>ht σ _ _ ⟨ρ,vw.same (Same.new hn),(q.bind.same (Same.new hn)).imp fun kps _ q1 kvs H3 s3 r3=>?_⟩;have sm:Same H H3:=(Same.new hn).trans s3;have e3:H3 p=some (.dK []):=s3 _ _ az
 by_cases hk:kps.length<=15
 ·rw[if_pos hk] at q1
  refine⟨e3,kvs,rfl,by rw[← r3.length];exact hk,?_⟩;have kp:Kp H3 (upd H3 p (.dK (fH [] kvs))):=Kp.upd e3 rfl;obtain⟨ks',ps',g,g1,g2⟩:=lM (acc:=[]) (ps:=[]) (kh.kp kp r3) aF.nil;refine q1 p _ (sm.but hn (fun u h=>by rw[e3] at h;cases h;rfl) (fun b hb=>aA hb)) hn ?_
  ·rw[kU]
   have g:kps.foldl Ai (PV.dct [] [])=PV.dct ks' ps':=g;rw[g];exact⟨_,az,g1,g2⟩
 ·rw[if_neg hk] at q1
  exact LU q1
end PU
namespace PU
open PySem PySem.Spec PyProof.Rows L2 PySem.SeqAt
variable[TW]
structure Con(K:LA)(mg:Str->Option LB)(x:Str)(c:PV):Prop where
 ex:∃v u,mg x=some u/\RelV v u/\∀H,Rep K H c v
theorem ma {C:Cn} {x:Str} {c:PV} {pos:N8} (hg:Gl C.X x) (h:Con C.X.K C.X.mg x c) (hd:(x == ("__debug__":Str))=false:=by decide):EV C (.Name x pos) (kP c):=by
 obtain⟨v,u,hm,r,rp⟩:=h.ex;exact D8 hg hm r rp hd
def Gf(p:Params)(e:Str×Tok×LB):DictEntry:={ hash:=PyData.keyHash p e.1,key:=.str e.1 e.2.1,val:=e.2.2 }
omit [TW] in
theorem um(w:Lx)(x:Str):PyData.keyHash w.params x=hashStr w x:=rfl
omit [TW] in
theorem mY{P:Ll}{w:Lx}:∀(es:List (Str×Tok×LB)),Pairs (aq P w) (es.map (Gf w.params)) (es.map fun e=>((Ml e.1:Key),e.2.2))
 | []=>.nil
 | e::es=>.cons (gb P w e.1 e.2.1) rfl (mY es)
omit [TW] in
theorem wz:∀{xs:List V}{es:List (Str×Tok×LB)},Vals xs (es.map (·.2.2))->KV ((es.map fun e=>(Ml e.1:Key)).zip xs) (es.map fun e=>((Ml e.1:Key),e.2.2))
 | [],[],_=>.nil
 | x::xs,e::es,r=>by
  cases r with
  | cons a b=>exact .cons ⟨rfl,a⟩ (wz b)
 | [],_::_,r=>by cases r
 | _::_,[],r=>by cases r
omit [TW] in
theorem con_dct{w:Lx}{tabs:List Addr}{qual:Nat->Nat->Str}{K:LA}{h:Heap}{mg:Str->Option LB}{x:Str}{a:Addr}{o:Mu}(es:List (Str×Tok×LB)){ep:Nat}{ps:List PV}{xs:List V}(X:K.In h)(G:h.Ns mainGlobals mg)
  (n1:MM K mainGlobals x=some (some (.ref a))) (n2:K.lookup a=some o) (n3:o={ cls:=.type "dict",data:=.dict (es.map (Gf w.params)).toArray ep }) (hs:(a == MH)=false)
  (nd:(es.map (·.1)).Nodup) (hz:es.length<=sizeLine) (vals:Vals xs (es.map (·.2.2))) (reps:∀H,@aF ⟨w,tabs,qual⟩ K H ps xs):@Con ⟨w,tabs,qual⟩ K mg x (.dct (es.map fun e=>.inr e.1) ps):=by
 letI:TW:=⟨w,tabs,qual⟩
 have hl:xs.length=es.length:=by rw[vals.length,LJ]
 have e1:((es.map fun e=>(Ml e.1:Key)).zip xs).map (·.1)=es.map fun e=>.inr e.1:=QS (by rw[LJ];omega);have e2:((es.map fun e=>(Ml e.1:Key)).zip xs).map (·.2)=xs:=PD (by rw[LJ];omega);refine⟨.ref a,_,Ow X G n1,rfl,fun H=>⟨a,(es.map fun e=>(Ml e.1:Key)).zip xs,rfl,.inr ⟨?_,hs,o,_,_,n2,?_,by rw[n3],fun P=>⟨es.map fun e=>((Ml e.1:Key),e.2.2),wz vals,?_,?_,?_⟩⟩,e1,by rw[e2];exact reps H⟩⟩
 ·rw[On,LJ,hl]
  omega
 ·rw[n3]
  exact⟨rfl,rfl,rfl⟩
 ·intro e he
  have he:e∈es.map (Gf w.params):=by simpa using he
  obtain⟨z,_,rfl⟩:=LV.mp he;exact⟨.inr z.1,gb P w z.1 z.2.1,um w z.1⟩
 ·have e3:(es.map (Gf w.params)).toArray.toList=es.map (Gf w.params):=by simp
  rw[e3];exact mY (P:=P) (w:=w) es
 ·rw[Lh]
  have:((·.1) ∘ fun e:Str×Tok×LB=>((Ml e.1:Key),e.2.2))=Ml ∘ (·.1):=rfl;rw[this,← Lh];exact List.Pairwise.map _ (fun a b hab e=>hab (OD e)) nd
theorem Ij{P:Ll}{w:Lx}{K:LA}{mg:Str->Option LB}{base:Heap}{x qual:Str}{st:Stmt}{f:Addr}{fd:Mx}{N ps:List Str}{k:Nat}{g:PSt->R Fl}(F:Fun K x qual st f fd)(S:FnScope N ps (aa st))
  (hbody:∀(cdv:LB)(A:M6)(outer:List QO)(s:LF)(H:Hp)(E:XK),Room k (A.deeper (Oh qual (aa st) s.heap.objs.size f cdv))->SVs (DN P w K mg base N qual (aa st) f cdv A outer s H E) (bH st) g) :
  FnOk P w K mg base CX0 (k+1) f fd ps (spP K ps.length (eD ps.length N.length g)):=by
 refine F.ok S (fun vs H Q E h=>h.1) (fun cdv A outer s H vs Q E hr h=>?_);obtain⟨hl,tb,qs,p,r,e,k⟩:=h;refine⟨_,hbody cdv A outer s H E hr,start N.length qs,(H,H),kJ tb r,?_⟩;unfold eD at e;rw[if_pos (by rw[r.length];exact hl)] at e;cases hg:g (start N.length qs) with
 | ok fl=>
  rw[hg] at e;cases fl with
  | next ρ=>cases e;exact fun σ H' S'=>k .non H' S'.same rfl
  | ret q=>cases e;exact fun v H' s' r'=>k v H' s' r'
  | brk ρ=>cases e
  | cont ρ=>cases e
 | er x=>rw[hg] at e;cases e
 | no=>rw[hg] at e;cases e
theorem tW{K:LA}{H:Hp}{a:Addr}{ns:List Int}(h:SqF K H a (ns.map V.int)):aF K H [.lst (ns.map .int)] [.ref a]:=by
 have:∀l:List Int,aF K H (l.map PV.int) (l.map V.int):=by
  intro l
  induction l with
  | nil=>rfl
  | cons x l ih=>exact⟨_,_,rfl,rfl,ih⟩
 exact⟨_,_,rfl,⟨a,_,rfl,h,this ns⟩,rfl⟩
end PU
namespace PU
open PySem PySem.Spec PyProof.Rows L2 PySem.SeqAt
section
variable{P : Ll}{w : Lx}{A : M6}{E : LB → LF → Prop}{s : LF}{it a : Addr}{i n ep slot : Nat}
def Tells(P:Ll)(w:Lx)(s:LF)(a:Addr)(slot i ep:Nat)(r:Option (LB×Nat)):Prop:=∀(A:M6)(E:LB->LF->Prop)(Q:Option (LB×Nat)->LF->Prop),Q r s->Ln (M4 P w) A (setNext a slot i ep) Q E s
end
end PU
section
namespace PU
def whF(t:PSt->R Bool)(g:PSt->R Fl):Nat->PSt->R Fl
 | 0,_=>.no
 | n+1,ρ=>t ρ >>= fun b=>if b=true then g ρ >>= fun fl=>(match fl with
  | .next ρ2=>whF t g n ρ2
  | .cont ρ2=>whF t g n ρ2
  | .brk ρ2=>.ok (.next ρ2)
  | .ret q=>.ok (.ret q)) else .ok (.next ρ)
def whS(n:Nat)(t:PSt->R Bool)(g:PSt->R Fl):PSt->R Fl:=whF t g n
end PU
namespace PU
open PySem PySem.Spec PyProof.Rows L2 PySem.SeqAt
variable[TW]
theorem kH{C:Cn}{c:Expr}{body:List Stmt}{t:PSt->R Bool}{g:PSt->R Fl}{pos:N8}(n:Nat)(hc:ET C c t)(hb:SVs C body g)(hp:SN (M4 C.X.prog C.X.w) C.X.A C.X.env C.X.xe:=by exact Rt):SV C (.While c body [] pos) (whS n t g):=by
 intro pins s σ H D I ⟨ρ,B,S,q⟩;refine za hp hc hb pins s σ H D I ⟨fun m σ' H'=>∃ρ',StOk C.X.K B H' σ' ρ'/\RS C B D (whF t g m ρ'),⟨n,ρ,S,q⟩,?_⟩;rintro m σ' H' ⟨ρ',S',q'⟩;cases m with
 | zero=>exact LU q'
 | succ m=>
  have q':RS C B D (t ρ' >>= fun b=>if b=true then g ρ' >>= fun fl=>(match fl with
   | .next ρ2=>whF t g m ρ2
   | .cont ρ2=>whF t g m ρ2
   | .brk ρ2=>.ok (.next ρ2)
   | .ret q=>.ok (.ret q)) else .ok (.next ρ')):=q'
  refine⟨ρ',S'.vw,(q'.bind S'.same).imp fun b _ k H1 s1=>?_⟩;cases b with
  | false=>
   rw[if_neg LW] at k ⊢;exact k σ' H1 (S'.grow s1)
  | true=>
   rw[if_pos rfl] at k ⊢;refine⟨fun σ2 H2=>∃ρ2,StOk C.X.K B H2 σ2 ρ2/\RS C B D (whF t g m ρ2),fun σ2 H2 z=>⟨m,Nat.lt_succ_self m,z⟩,ρ',B,S'.grow s1,?_⟩;cases hgr:g ρ' with
   | ok fl=>
    rw[hgr] at k;cases fl with
    | next ρ2=>exact fun σ4 H4 S4=>⟨ρ2,S4,k⟩
    | cont ρ2=>exact fun σ4 H4 S4=>⟨ρ2,S4,k⟩
    | brk ρ2=>exact fun σ4 H4 S4=>k σ4 H4 S4
    | ret p=>exact k
   | er x=>rw[hgr] at k;exact k
   | no=>rw[hgr] at k;exact k
end PU
end
section
namespace PU
open PySem
def qy:List PV->Option (List Bool)
 | []=>some []
 | .bl b::r=>(qy r).map (b::·)
 | _::_=>none
end PU
namespace PU
open PySem PySem.Spec PyProof.Rows L2 PySem.SeqAt
variable[TW]
theorem yG{K:LA}{H:Hp}{p q z:PV}{x u:V}{v:LB}{us:List LB}{g:PV->PV->Option PV}(hg:∀p q z,g p q=some z->∃a b,p=.str a/\q=.str b)(rx:RelV x v)(rs:Vals [u] us)(rp:aX K H p x)(rq:aX K H q u)(ez:g p q=some z) :
  ∃a b t t2,p=.str a/\q=.str b/\v=.str a t/\us=[.str b t2]:=by
 obtain⟨a,b,rfl,rfl⟩:=hg p q z ez;obtain⟨u',rfl,ru⟩:=vals1 rs;cases (show x=.str a from rp);cases (show u=.str b from rq);obtain⟨t,rfl⟩:=rx;obtain⟨t2,rfl⟩:=ru;exact⟨a,b,t,t2,rfl,rfl,rfl,rfl⟩
theorem qx{K:LA}{H:Hp}:∀{ps:List PV}{xs:List V}{us:List LB}{bs:List Bool},qy ps=some bs->aF K H ps xs->Vals xs us->us=bs.map OY
 | [],_,_,_,e,r,rv=>by cases e;cases r;cases rv;rfl
 | p::ps,_,_,_,e,⟨x,t,ex,h1,h2⟩,rv=>by
  subst ex;cases p with
  | bl y=>
   obtain⟨r,er,ez⟩:=LK.mp (show (qy ps).map (y::·)=some _ from e);subst ez;cases (show x=.bl y from h1);cases rv with
   | cons a b=>
    cases a;rw[qx er h2 b];rfl
  | _=>cases e
end PU
end
namespace PU
open PySem PySem.Spec PyProof.Rows L2 PySem.SeqAt
variable[TW]
theorem mi {C:Cn} {tg a b:Expr} {f f2:PSt->R PV} {p pos:N8} (hg:Gl C.X "range") (hm:C.X.mg "range"=none) (ha:EV C a f) (hb:EV C b f2) (hs:Lk [a,b] C.X.env=[(false,MZ a C.X.env),(false,MZ b C.X.env)]:=by rfl)
  (hs2:Lk [b] C.X.env=[(false,MZ b C.X.env)]:=by exact bz rfl):EI C tg (.Call (.Name "range" p) [a,b] [] pos) (DH f f2):=by
 intro pins s σ H Rk I ⟨ρ,vw,q⟩;refine vD hg hm (bt ha (bt hb eX hs2) (by rw[hs,hs2])) hs hs2 pins s σ H Rk I ⟨ρ,vw,q.bind.imp fun p _ k v H1 s1 r1=>⟨ρ,vw.same s1,(k.bind.same s1).imp fun p2 _ k2 v2 H2 s2 r2=>?_⟩⟩;cases p with
 | int i=>
  cases p2 with
  | int j=>
   cases (show v=.int i from r1);cases (show v2=.int j from r2);have k2:RQ C H (if i.natAbs<1000000000/\j.natAbs<1000000000 then R.ok (cg i (j-i).toNat) else R.no) fun ps=>∀J H',Same H H'->ItP C.X.K J H' ps->Rk J H':=k2
   by_cases hj:i.natAbs<1000000000/\j.natAbs<1000000000
   ·rw[if_pos hj] at k2
    exact⟨i,j,rfl,⟨by omega,by omega,by omega,by omega⟩,k2 _ H2 (s1.trans s2) sS⟩
   ·rw[if_neg hj] at k2
    exact LU k2
  | _=>exact LU k2
 | _=>exact LU k2
end PU
section
namespace PU
def CL:PV->Bool
 | .dct _ _=>true
 | _=>false
end PU
namespace PU
open PySem PySem.Spec PyProof.Rows L2 PySem.SeqAt
variable[TW]
theorem jX{K:LA}{H:Hp}{k:Key}:∀{ks:List Key}{ps:List PV}{kvs:List (Key×V)},kvs.map (·.1)=ks->aF K H ps (kvs.map (·.2))->bJ ks ps k=none->jG kvs k=none
 | _,_,[],h1,h2,e=>rfl
 | _,[],kv::kvs,h1,h2,e=>by
  cases h2
 | _,q::ps,kv::kvs,h1,h2,e=>by
  subst h1;obtain⟨x,r,ex,hx,ht⟩:=h2;simp only[LH,N9] at ex;obtain⟨rfl,rfl⟩:=ex;simp only[LH,bJ] at e
  by_cases hk:kv.1=k
  ·rw[if_pos hk] at e
   cases e
  ·rw[if_neg hk] at e
   rw[fP hk];exact jX rfl ht e
end PU
end
namespace PU
open PySem PySem.Spec PyProof.Rows L2 PySem.SeqAt
theorem nR:isSubtype (.type "dict") (.type "dict")=pure true:=by rw[P5];kernel_rfl
section
variable{P : Ll}{w : Lx}{A : M6}{E : LB → LF → Prop}{s : LF}{d : Addr}{kvs : List (Key×LB)}{ep : Nat}
theorem pM{Q:LB->LF->Prop}(hh:A.handled=none)(hd:(d == MH)=false)(m:s.heap.DictAt (aq P w) d kvs ep)(hz:kvs.length<=sizeLine)
  (q:∀(h':Heap) (tk:Nat) (acc:Array LB) (c:Nat),(∀b o,s.heap.get? b=some o->h'.get? b=some o)->h'.get? s.heap.objs.size=some { cls:=.type "list",data:=.seq acc c }->
   ItemsOf (fun i v=>∃k x,kvs[i]?=some (k,x)/\(aq P w).is k v=true) acc kvs.length->Q (.ref s.heap.objs.size) { s with heap:=h',toks:=tk }):Ln (M4 P w) A (call (.type "list") [.ref d]) Q E s:=by
 have ld:d<s.heap.objs.size:=by obtain⟨o,es,ho,_⟩:=m;exact LZ ho
 refine callType_codes (Q₁:=fun obj s₁=>obj=.ref s.heap.objs.size/\s₁={ s with heap:=s.heap.push { cls:=.type "list",data:=.seq #[] } }) PySem.F.called_list (PySem.F.typeCall_list_1 _) PySem.F.entry_list_init (code_list_new _ ⟨rfl,rfl⟩) fun obj s₁ h₁=>?_;obtain⟨rfl,rfl⟩:=h₁;have g0:(s.heap.push { cls:=.type "list",data:=.seq #[] }).get? s.heap.objs.size=some { cls:=.type "list",data:=.seq #[] }:=Ls _ rfl;refine⟨⟨_,g0,rfl⟩,PySem.F.args_list_init_2 _ _,?_⟩;show Ln _ _ (do let old<- QP (.ref s.heap.objs.size);Builtin.List.listUpdate (.ref s.heap.objs.size) (fun _=>#[]);letGo old.toList.reverse;OV (.ref s.heap.objs.size) (.ref d) .none) _ _ _;refine LD ?_;unfold QP;refine LD (RZ g0 rfl (LQ ?_));show Ln _ _ (updateSeq s.heap.objs.size (fun _=>#[]) >>= fun _=>letGo (#[]:Array LB).toList.reverse >>= fun _=>OV (.ref s.heap.objs.size) (.ref d) .none) _ _ _;refine LD (R7 g0 rfl ?_ (N0 _) (N0 _));have g1:=Nq (N3 (fun _=>(#[]:Array LB))) g0 rfl
 have k1:∀b o,s.heap.get? b=some o->((s.heap.push { cls:=.type "list",data:=.seq #[] }).update s.heap.objs.size (N3 (fun _=>(#[]:Array LB)))).get? b=some o:=
  fun b o e=>(ON _ _ (O8 (LZ e))).trans (LP _ e)
 have z1:((s.heap.push { cls:=.type "list",data:=.seq #[] }).update s.heap.objs.size (N3 (fun _=>(#[]:Array LB)))).objs.size=s.heap.objs.size+1:=by rw[Heap.size_update,Heap.size_push]
 refine LD (wpAny_letGo ?_);generalize (s.heap.push { cls:=.type "list",data:=.seq #[] }).update s.heap.objs.size (N3 (fun _=>(#[]:Array LB)))=h1 at g1 k1 z1 ⊢
 have m1:h1.DictAt (aq P w) d kvs ep:=by
  obtain⟨o,es,ho,r⟩:=m;exact⟨o,es,k1 _ _ ho,r⟩
 have t1:({ s with heap:=h1 }:LF).TypeIs (.ref d) "dict":=m1.dictOf.typeIs;unfold OV;refine LD (Oe (T:="dict") t1 ?_)
 have r1:Builtin.List.listSameRef (.ref s.heap.objs.size) (.ref d)=false:=by
  show (s.heap.objs.size == d)=false;simpa using O8 ld
 have r2:(Ny "dict" == Ny "list")=false:=by decide
 have r3:(Ny "dict" == Ny "tuple")=false:=by decide
 simp only[r1,r2,r3,Bool.or_false,ME,if_false];refine LD (wpAny_pyIter_dict (knd:=aq P w) (s:={ s with heap:=h1 }) hd m1 ?_);refine LD (NC ?_)
 have m2:(h1.push { cls:=.type "dict_keyiterator",data:=.fields #[.ref d,.int 0 0,.int kvs.length 0,.int ep 0] }).DictAt (aq P w) d kvs ep:=by
  obtain⟨o,es,ho,r⟩:=m1;exact⟨o,es,LP _ ho,r⟩
 have t2:=(show ({ s with heap:=h1.push { cls:=.type "dict_keyiterator",data:=.fields #[.ref d,.int 0 0,.int kvs.length 0,.int ep 0] } }:LF).TypeIs (.ref d) "dict" from m2.dictOf.typeIs);unfold Builtin.List.listLengthHint;refine LD (Pn (T:="dict") (v:=.ref d) t2 PP.lookup ?_)
 wp_delta
 refine LD (Pf (T:="dict") (v:=.ref d) (b:=true) t2 nR ?_);show Ln _ _ (typeOf (Mv d) >>= _) _ _ _;refine LD (Oe (T:="dict") (v:=.ref d) t2 (LQ ?_));rw[if_pos (by decide)];refine LD (Oq (LD ?_));unfold Builtin.List.listTouch;have nI:h1.objs.size≠s.heap.objs.size:=by rw[z1];exact Nat.succ_ne_self _
 have gL2:(h1.push { cls:=.type "dict_keyiterator",data:=.fields #[.ref d,.int 0 0,.int kvs.length 0,.int ep 0] }).get? s.heap.objs.size=some _:=LP _ g1;have gI2:(h1.push { cls:=.type "dict_keyiterator",data:=.fields #[.ref d,.int 0 0,.int kvs.length 0,.int ep 0] }).get? h1.objs.size=some _:=Ls _ rfl;have k2:∀b o,s.heap.get? b=some o->(h1.push { cls:=.type "dict_keyiterator",data:=.fields #[.ref d,.int 0 0,.int kvs.length 0,.int ep 0] }).get? b=some o:=fun b o e=>LP _ (k1 b o e);refine LD (R7 gL2 rfl ?_ (N0 _) (by show 1<=_;rw[MC];decide));have g3:=Nq (N3 (·.push OX)) gL2 rfl;refine R7 g3 rfl ?_ (by show 1<=_;rw[MC];decide) (N0 _);have g4:=Nq (N3 (·.pop)) g3 rfl
 have k4:∀b ob,b≠s.heap.objs.size->(h1.push { cls:=.type "dict_keyiterator",data:=.fields #[.ref d,.int 0 0,.int kvs.length 0,.int ep 0] }).get? b=some ob->(((h1.push { cls:=.type "dict_keyiterator",data:=.fields #[.ref d,.int 0 0,.int kvs.length 0,.int ep 0] }).update s.heap.objs.size (N3 (·.push OX))).update s.heap.objs.size (N3 (·.pop))).get? b=some ob:=fun b ob hb e=>
  (ON _ _ (OA hb)).trans ((ON _ _ (OA hb)).trans e)
 show Ln _ _ _ _ _ { s with heap:=(((h1.push { cls:=.type "dict_keyiterator",data:=.fields #[.ref d,.int 0 0,.int kvs.length 0,.int ep 0] }).update s.heap.objs.size (N3 (·.push OX))).update s.heap.objs.size (N3 (·.pop))) };generalize ((h1.push { cls:=.type "dict_keyiterator",data:=.fields #[.ref d,.int 0 0,.int kvs.length 0,.int ep 0] }).update s.heap.objs.size (N3 (·.push OX))).update s.heap.objs.size (N3 (·.pop))=h4 at g4 k4 ⊢;have nd:d≠s.heap.objs.size:=M1 ld;have ndI:d≠h1.objs.size:=by rw[z1];exact M1 (QK ld)
 have st4:h4.IsKeyIter h1.objs.size d 0 kvs.length ep/\h4.DictAt (aq P w) d kvs ep:=by
  refine⟨⟨_,k4 _ _ nI gI2,rfl,rfl⟩,?_⟩;obtain⟨o,es,ho,r⟩:=m2;exact⟨o,es,k4 _ _ nd ho,r⟩
 have nL:s.heap.objs.size ∉ [h1.objs.size,d]:=fun z=>by
  rcases LX.mp z with e | z
  ·exact nI e.symm
  ·exact nd (Li.mp z).symm
 have W:∀A':M6,A'.handled=none->Walks P w A' h1.objs.size [h1.objs.size,d] [h1.objs.size] kvs.length _ _:=fun A' hA=>Walks.dictKeys (knd:=aq P w) hA h1.objs.size d ndI kvs ep;refine LQ ⟨S9 PySem.F.plain_extend_loop _,codeAny_extend_loopS (W A.in1.in1 hh).toS hz _ nL _ kvs.length 0 _ _ _ rfl (N0 _) st4 g4 (ItemsOf.nil _) fun s' acc c mm gA it'=>?_⟩;rw[Moved.eq_with mm];refine⟨rfl,q s'.heap s'.toks acc c (fun b o e=>mm.heap b o (fun hb=>?_) (k4 b o (M1 (LZ e)) (k2 b o e))) gA it'⟩;have lt:=LZ e;rcases LX.mp hb with z | z
 ·exact absurd lt (z▸My _)
 ·rw[Li.mp z,z1] at lt
  exact absurd lt (Qr.mpr (SE _))
end
end PU
section
namespace PU
def wV:PV->Option PV
 | .lst ps=>some (.lst ps)
 | .tup ps=>some (.lst ps)
 | .dct ks _=>some (.lst (ks.map zG))
 | _=>none
end PU
namespace PU
open PySem PySem.Spec PyProof.Rows L2 PySem.SeqAt
variable[TW]
theorem pQ{K:LA}{H:Hp}:∀ks:List Key,aF K H (ks.map zG) (ks.map kV)
 | []=>rfl
 | k::ks=>by
  refine⟨kV k,ks.map kV,rfl,?_,pQ ks⟩;cases k <;> exact rfl
omit [TW] in
theorem Cw{P:Ll}{w:Lx}{k:Key}{v:LB}(h:(aq P w).is k v=true):RelV (kV k) v:=by
 rcases aZ (show r8 k v=true from h) with⟨i,t,rfl,rfl⟩|⟨x,t,rfl,rfl⟩
 ·exact⟨t,rfl⟩
 ·exact⟨t,rfl⟩
omit [TW] in
theorem uU{P:Ll}{w:Lx}:∀(kvs:List (Key×LB))(us:List LB),us.length=kvs.length->(∀(i:Nat)(v:LB),us[i]?=some v->∃k x,kvs[i]?=some (k,x)/\(aq P w).is k v=true)->Vals ((kvs.map (·.1)).map kV) us
 | [],us,hl,_=>by
  cases us with
  | nil=>exact .nil
  | cons a r=>cases hl
 | kv::kvs,us,hl,h=>by
  cases us with
  | nil=>cases hl
  | cons a r=>
   obtain⟨k,x,e,hk⟩:=h 0 a rfl;cases e;exact .cons (Cw hk) (uU kvs r (by simpa using hl) fun i v e=>h (i+1) v e)
theorem Gs {X:Cx} (hc:X.calm=true:=by rfl) (hw:X.w=TW.w:=by rfl):i7 X (.type "list") (rn1 X.K wV):=by
 intro pins s σ H xs us Q I r ⟨v,p,z,e1,rp,ez,k⟩;subst e1;cases p with
 | lst ps=>
  obtain⟨a,xs,rfl,g,rr⟩:=aX.lst_inv rp;cases ez;exact ky pins s σ H _ us Q I r ⟨a,xs,rfl,.inl g.l,fun l hl=>k _ _ (Same.new hl) hl ⟨xs,az,rr.same (Same.new hl)⟩⟩
 | tup ps=>
  obtain⟨a,xs,rfl,g,rr⟩:=aX.tup_inv rp;cases ez;exact ky pins s σ H _ us Q I r ⟨a,xs,rfl,.inr g,fun l hl=>k _ _ (Same.new hl) hl ⟨xs,az,rr.same (Same.new hl)⟩⟩
 | dct ks ps=>
  obtain⟨a,kvs,rfl,g,e1,rr⟩:=rp;cases ez;obtain⟨u,rfl,ru⟩:=vals1 r;cases ru;obtain⟨hz,hS,vs,rel,o,es,ep,ho,x1,d1,rest⟩:=DkR.at hw I g;have hl:kvs.length=vs.length:=MF rel
  have hk:kvs.map (·.1)=vs.map (·.1):=by
   clear hl hz e1 rr g rest
   induction rel with
   | nil=>rfl
   | cons a b ih=>rw[LH,LH,ih,a.1]
  refine pM (kvs:=vs) (ep:=ep) (I.ok.hd hc) hS ⟨o,es,ho,x1,d1,rest⟩ (by omega) fun h' tk acc c keep gA it'=>?_;obtain⟨i1,i2⟩:=it'
  have rv:Vals (ks.map kV) acc.toList:=by
   rw[← e1,hk];exact uU (P:=X.prog) (w:=X.w) vs acc.toList (by simpa using i1) fun i v e=>i2 i v (by simpa using e)
  have hlk:ks.length=kvs.length:=by rw[← e1,LJ]
  have I2:=I.laid (a:=s.heap.objs.size) (o:=.lst (ks.map kV)) (h':=h') (t':=tk) keep (LY _) ⟨by rw[LJ];omega,acc.toList,c,rv,by rw[Array.toArray_toList];exact gA⟩;have nf:H s.heap.objs.size=none:=I.fresh;exact⟨.ref _,_,I2,rfl,k _ _ (Same.new nf) nf ⟨_,az,pQ ks⟩⟩
 | _=>cases ez
end PU
end
section
namespace PU
def sE(fo fe fd:PSt->R PV)(g:PV->PV->PV->Option PV):PSt->R PV:=fun ρ=>fo ρ >>= fun p=>if CL p=true then fe ρ >>= fun q=>fd ρ >>= fun y=>R.ofO (g p q y) else .no
def uw:PV->PV->PV->Option PV
 | .dct ks ps,q,y=>(eF q).bind fun k=>some ((bJ ks ps k).getD y)
 | _,_,_=>none
end PU
namespace PU
open PySem PySem.Spec PyProof.Rows L2 PySem.SeqAt
variable[TW]
theorem D9{C:Cn}{o e d:Expr}{fo fe fd:PSt->R PV}{apos cpos:N8}(ho:EO C o fo)(he:EV C e fe)(hd:EV C d fd)(hw:C.X.w=TW.w:=by rfl)
  (hbase:OM o "get" C.X.env (MZ o C.X.env)=MZ o C.X.env:=by rfl) (hline:(apos.endLine == cpos.line)=true:=by rfl) (hs:Lk [e,d] C.X.env=[(false,MZ e C.X.env),(false,MZ d C.X.env)]:=by rfl) (hs2:Lk [d] C.X.env=[(false,MZ d C.X.env)]:=by exact bz rfl) :
  EV C (.Call (.Attribute o "get" apos) [e,d] [] cpos) (sE fo fe fd uw):=by
 intro pins s σ H Q I ⟨ρ,vw,q⟩;refine Sb hbase (by rw[hs];rfl) hline rfl (thn (ho pins s σ H (fun v H1=>∃p,aX C.X.K H1 p v/\Same H H1/\RQ C H (if CL p=true then fe ρ >>= fun q=>fd ρ >>= fun y=>R.ofO (uw p q y) else .no) fun p=>∀v H',Same H H'->Rep C.X.K H' p v->Q v H') I ⟨ρ,vw,q.bind.imp fun p _ k v H1 s1 r1=>⟨p,r1,s1,k⟩⟩) fun v s1 ⟨x,H1,I1,r1,p,ro,sm,k⟩=>?_);cases p with
 | dct ks ps=>
  have ro':=ro;obtain⟨a,kvs,rfl,g,e1,r⟩:=ro;cases r1;obtain⟨hz,hdd,vs,rel,dd⟩:=DkR.at hw I1 g;have k:RQ C H (fe ρ >>= fun q=>fd ρ >>= fun y=>R.ofO (uw (.dct ks ps) q y)) fun p=>∀v H',Same H H'->Rep C.X.K H' p v->Q v H':=k;refine⟨"dict","dict.get",P1,R1,PySem.F.type_dict_get,dd.typeIs,dd.mapOf.noDict,?_⟩
  have hA:=(bt he (bt hd eX hs2) (by rw[hs,hs2])) cpos pins s1 σ H1 (fun xs H2=>∃q y z u x,xs=[u,x]/\Rep C.X.K H2 q u/\Rep C.X.K H2 y x/\uw (.dct ks ps) q y=some z/\Same H1 H2/\∀v H',Same H H'->Rep C.X.K H' z v->Q v H') I1 ⟨ρ,vw.same sm,(k.bind.same sm).imp fun q _ k2 u H2 s2 r2=>⟨ρ,vw.same (sm.trans s2),(k2.bind.same (sm.trans s2)).imp fun y _ k4 x H3 s3 r3=>by
   obtain⟨z,ez,k3⟩:=k4.ofO;exact⟨q,y,z,u,x,rfl,r2.same s3,r3,ez,s2.trans s3,k3⟩⟩⟩
  rw[hs] at hA ⊢;refine RA rfl (Rm ?_);refine thn hA fun us s2 ⟨xs,H2,I2,r2,q,y,z,u,x,eu,rq,ry,ez,s2',k3⟩=>?_;subst eu
  obtain⟨u',x',rfl,ru,rx⟩:∃u' x',us=[u',x']/\RelV u u'/\RelV x x':=by
   cases r2 with
   | cons a b=>
    obtain⟨x',e,rx⟩:=vals1 b;subst e;exact⟨_,x',rfl,a,rx⟩
  obtain⟨kk,ek,ez⟩:=LR.mp (show (eF q).bind (fun k=>some ((bJ ks ps k).getD y))=some z from ez);cases ez;have hy:=dF ek rq.o;subst hy;obtain⟨a2,kvs2,ea,g2,e2,rr2⟩:=ro'.same s2';cases ea;obtain⟨_,hd2,vs2,rel2,dd2⟩:=DkR.at hw I2 g2;refine Qe R1 dd2.typeIs PySem.F.entry_dict_get (PySem.F.args_dict_get_3 _ _ _) (meets_dict_get_default (aq C.X.prog C.X.w) a (lR ru) hd2 x') ⟨_,dd2.mapOf,?_⟩;cases el:bJ ks ps kk with
  | some p'=>
   obtain⟨w,ew,rp⟩:=gS e2 rr2 el;obtain⟨w',hw',rw'⟩:=mL.some_of (v:=w) (o:=Mq vs2 kk) (by rw[← ew];exact rel2.val kk);rw[hw'];rw[el] at k3;exact⟨w,H2,I2.tok _,rw',k3 w H2 (sm.trans s2') rp⟩
  | none=>
   have ew:=jX (k:=kk) e2 rr2 el;have hn:Mq vs2 kk=none:=mL.none_of (by rw[← ew];exact rel2.val kk);rw[hn];rw[el] at k3;exact⟨x,H2,I2.tok _,rx,k3 x H2 (sm.trans s2') ry⟩
 | _=>exact LU k
end PU
end
section
namespace PU
open PySem
def nE:PV->PV->Option PV
 | .str x,.str y=>match Mw x y 0 x.length 1 with
  | i::_=>some (.int i)
  | []=>none
 | _,_=>none
end PU
namespace PU
open PySem PySem.Spec PyProof.Rows L2 PySem.SeqAt
variable[TW]
theorem Es:StrM "index" "str.index":=⟨PySem.F.slot_str_index,PySem.F.type_str_index⟩
theorem Fo {X:Cx}:MtR X "str.index" (rM1 X.K nE):=by
 intro pins s σ H x xs v us Q I rx rs ⟨p,q,z,u,e1,rp,rq,ez,k⟩;subst e1;obtain⟨a,b,t,t2,rfl,rfl,rfl,rfl⟩:=yG (g:=nE) (fun p q z e=>by unfold nE at e;split at e;exact⟨_,_,rfl,rfl⟩;cases e) rx rs rp rq ez
 have ez:(match Mw a b 0 a.length 1 with
  | i::_=>some (PV.int i)
  | []=>none)=some z:=ez
 cases ho:Mw a b 0 a.length 1 with
 | nil=>rw[ho] at ez;cases ez
 | cons i r=>
  rw[ho] at ez;cases ez;exact SC.index ho ⟨.int _,H,I.tok _,⟨_,rfl⟩,k _ H (Same.refl H) rfl⟩
end PU
end
namespace PU
open PySem PySem.Spec PyProof.Rows L2 PySem.SeqAt
theorem con_str{w:Lx}{tabs:List Addr}{qual:Nat->Nat->Str}{K:LA}{h:Heap}{mg:Str->Option LB}{x:Str}{i:Str}{t:Tok}(X:K.In h)(G:h.Ns mainGlobals mg)(n1:MM K mainGlobals x=some (some (.str i t))):@Con ⟨w,tabs,qual⟩ K mg x (.str i):=by
 letI:TW:=⟨w,tabs,qual⟩
 exact⟨.str i,.str i t,Ow X G n1,⟨t,rfl⟩,fun H=>rfl⟩
end PU
namespace PU
open PySem PySem.Spec PyProof.Rows L2 PySem.SeqAt
variable[TW]
theorem t9{C:Cn}{a b c:Expr}{fa fb fc:PSt->R PV}{pos:N8}{op op':CmpOp}{g g':PV->PV->Option PV}(ho:OpR C.X (MI op) (rP C.X.K g))(ho':OpR C.X (MI op') (rP C.X.K g'))(hg:wJ g)(hg':wJ g')(ha:EO C a fa)(hb:EO C b fb)(hc:EO C c fc)
  (hm:lastMarks [op,op'] [b,c]=false:=by with_unfolding_all rfl):ET C (.Compare a [op,op'] [b,c] pos) (di (qm fa fb fc g g')):=by
 intro pins s σ H Q I ⟨ρ,vw,q⟩;refine z7 ho ho' ha hb hc hm pins s σ H Q I ?_;have q1:=q.bind;refine⟨ρ,vw,q1.bind.imp fun p _ k v H1 s1 r1=>⟨ρ,vw.same s1,(k.bind.same s1).imp fun p2 _ k2 u H2 s2 r2=>?_⟩⟩;obtain⟨z,ez,k3⟩:=k2.bind.ofO;obtain⟨bb,rfl⟩:=hg _ _ _ ez;refine⟨p,p2,.bl bb,r1.same s2,r2,ez,fun w H3 s3 r3=>?_⟩;cases (show w=.bl bb from r3);refine⟨bb,rfl,?_⟩;have s13:=(s1.trans s2).trans s3;cases bb with
 | true=>
  refine DK ⟨ρ,vw.same s13,?_⟩;refine(RQ.same (RQ.bind k3) s13).imp fun p3 _ k4 w4 H4 s4 r4=>?_;obtain⟨z2,ez2,k5⟩:=k4.ofO;obtain⟨b2,rfl⟩:=hg' _ _ _ ez2;refine⟨p2,p3,.bl b2,(r2.same s3).same s4,r4,ez2,fun w5 H5 s5 r5=>?_⟩;cases (show w5=.bl b2 from r5);obtain⟨b3,eb,k6⟩:=k5.ofO;cases eb;exact⟨b2,rfl,k6 H5 ((s13.trans s4).trans s5)⟩
 | false=>
  have k3:RQ C H (R.ofO (yd (.bl false))) (fun b=>∀H',Same H H'->Q b H'):=k3;obtain⟨b3,eb,k6⟩:=RQ.ofO k3;cases eb;exact DL ⟨false,rfl,k6 H3 s13⟩
end PU
namespace PU
open PySem PySem.Spec PyProof.Rows L2 PySem.SeqAt
def yp:PV->Option Int->Option Int->Option PV
 | .str x,lo,hi=>if x.length<=16777216 then some (.str (Mo x lo hi)) else none
 | .lst ps,lo,hi=>gSl (.lst ps) lo hi
 | .tup ps,lo,hi=>gSl (.tup ps) lo hi
 | _,_,_=>none
def jc(f:PSt->R PV)(l h:PSt->R (Option Int)):PSt->R PV:=fun ρ=>f ρ >>= fun p=>l ρ >>= fun lo=>h ρ >>= fun hi=>R.ofO (yp p lo hi)
variable[TW]
def Km(K:LA):V->Option Int->Option Int->Hp->VK->Prop:=fun v lo hi H Q=>∃p z,aX K H p v/\yp p lo hi=some z/\∀w H',Same H H'->Rep K H' z w->Q w H'
theorem slA{X:Cx}:SlR X (Km X.K):=by
 intro pins s σ H x v vl vu lo hi sl Q I rx hs pl pu ⟨p,z,rp,ez,k⟩;cases p with
 | lst ps=>exact slP pins s σ H x v vl vu lo hi sl Q I rx hs pl pu ⟨_,z,rp,ez,k⟩
 | tup ps=>exact slP pins s σ H x v vl vu lo hi sl Q I rx hs pl pu ⟨_,z,rp,ez,k⟩
 | str y=>
  simp only[yp] at ez;split at ez
  ·rename_i hz
   cases ez;cases (show x=.str y from rp);obtain⟨t,rfl⟩:=rx;have fin:∀(lo hi:Option Int) t' kk,(∀w H',Same H H'->Rep X.K H' (.str (Mo y lo hi)) w->Q w H')->EP X pins σ Q (.str (Mo y lo hi) t') { s with toks:=kk }:=fun lo hi t' kk k=>⟨.str _,H,I.tok _,⟨t',rfl⟩,k _ H (Same.refl H) rfl⟩;obtain⟨o,e1,e2,e3⟩:=hs;have hz:y.length<=sizeLine:=by rw[MC];exact hz
   refine⟨"str",_,PySem.F.slot_str_getitem.lookup,typeIs_str _ _ _,?_⟩;cases pl with
   | none=>
    cases pu with
    | none=>exact OT (l:=none) (u:=none) (st:=none) ⟨o,e1,e2,e3⟩ rfl (Pq ⟨Ma (Oj y _ _) hz,fun t' kk=>fin none none t' kk k⟩)
    | int j uj=>exact OT (l:=none) (u:=some (j,uj)) (st:=none) ⟨o,e1,e2,e3⟩ rfl (Pq ⟨Ma (Oj y _ _) hz,fun t' kk=>fin none (some j) t' kk k⟩)
   | int i ui=>
    cases pu with
    | none=>exact OT (l:=some (i,ui)) (u:=none) (st:=none) ⟨o,e1,e2,e3⟩ rfl (Pq ⟨Ma (Oj y _ _) hz,fun t' kk=>fin (some i) none t' kk k⟩)
    | int j uj=>exact OT (l:=some (i,ui)) (u:=some (j,uj)) (st:=none) ⟨o,e1,e2,e3⟩ rfl (Pq ⟨Ma (Oj y _ _) hz,fun t' kk=>fin (some i) (some j) t' kk k⟩)
  ·cases ez
 | _=>cases ez
theorem fK{C:Cn}{e:Expr}{f:PSt->R PV}{lo hi:Option Expr}{l h:PSt->R (Option Int)}{pos p2:N8}(ha:EO C e f)(hl:EOI C lo l)(hh:EOI C hi h):EV C (.Subscript e (.Slice lo hi none p2) pos) (jc f l h):=by
 intro pins s σ H Q I ⟨ρ,vw,q⟩;refine oj slA ha hl hh pins s σ H Q I ⟨ρ,vw,q.bind.imp fun p _ k v H1 s1 r1=>⟨ρ,vw.same s1,(k.bind.same s1).imp fun o1 _ k2 H2 s2=>⟨ρ,(vw.same s1).same s2,(k2.bind.same (s1.trans s2)).imp fun o2 _ k3 H3 s3=>?_⟩⟩⟩;obtain⟨z,ez,k4⟩:=k3.ofO;exact⟨p,z,(r1.same s2).same s3,ez,fun w H4 s4 r4=>k4 w H4 (((s1.trans s2).trans s3).trans s4) r4⟩
end PU
namespace PU
open PySem PySem.Spec PyProof.Rows L2 PySem.SeqAt
theorem qU:mroOf (.type "reversed")=pure [.type "reversed",.type "object"]:=by rw[mroOf_type];kernel_rfl
theorem mH:Rb (.type "reversed") "__new__"=pure (some (.builtin "reversed.__new__")):=by rw[Pp,Ol];kernel_rfl
theorem zA:Bind.madeBy (.type "reversed")=pure (some "reversed.__new__"):=madeBy_type qU mH (by decide +kernel)
theorem oV (a:LB):checkTypeCall "reversed" ⟨[a],[]⟩=pure ():=by kernel_rfl
theorem qS (a:LB):checkBuiltinCall "reversed.__new__" ⟨[.type "reversed",a],[]⟩=pure ():=by kernel_rfl
theorem oE:entryFor table "reversed.__new__"=some O2.«reversed.__new__»:=Qo (by kernel_rfl)
theorem oe:plainId "reversed.__new__"=true:=by decide +kernel
theorem Bu:isSubtype (.type "reversed") (.type "reversed")=pure true:=by rw[P5];kernel_rfl
theorem oZ:isSubtype (.type "list_reverseiterator") (.type "reversed")=pure false:=by rw[P5];kernel_rfl
theorem cx:Slot "list_reverseiterator" "__next__" "list_reverseiterator.__next__":=
 .of (owner:="list_reverseiterator") (n:="__next__") (by rw[Pp,Ol];kernel_rfl) (by decide +kernel) (by decide +kernel) (by decide +kernel)
  (by first | exact .inl (by decide +kernel) | exact .inr (by decide +kernel)) (by rw[P5];kernel_rfl)
theorem hJ:entryFor table "list_reverseiterator.__next__"=some O2.«list_reverseiterator.__next__»:=Qo (by kernel_rfl)
theorem iw:Slot "list_reverseiterator" "__iter__" "list_reverseiterator.__iter__":=
 .of (owner:="list_reverseiterator") (n:="__iter__") (by rw[Pp,Ol];kernel_rfl) (by decide +kernel) (by decide +kernel) (by decide +kernel)
  (by first | exact .inl (by decide +kernel) | exact .inr (by decide +kernel)) (by rw[P5];kernel_rfl)
theorem mf:entryFor table "list_reverseiterator.__iter__"=some O2.«dict_keyiterator.__iter__»:=
 entryFor_alias (id':="dict_keyiterator.__iter__") (by kernel_rfl) (by first | rfl | decide +kernel | (unfold String.splitOn;simp +decide [String.splitOnAux])) (by decide +kernel) (by kernel_rfl)
theorem n9:Manifest.owners.lookup (String.ofList "list_reverseiterator".toList.reverse.reverse)=some Manifest.sig_list_reverseiterator:=by kernel_rfl
theorem iE (a:LB):argsOk "list_reverseiterator.__next__" ⟨[a],[]⟩:=by
 unfold argsOk;rw[signature?_of (id:="list_reverseiterator.__next__") (n:="__next__".toList.reverse) (o:="list_reverseiterator".toList.reverse) (by kernel_rfl) n9];kernel_rfl
theorem mK (a:LB):argsOk "list_reverseiterator.__iter__" ⟨[a],[]⟩:=by
 unfold argsOk;rw[signature?_of (id:="list_reverseiterator.__iter__") (n:="__iter__".toList.reverse) (o:="list_reverseiterator".toList.reverse) (by kernel_rfl) n9];kernel_rfl
section
variable{prog : Ll}{w : Lx}{A : M6}{E : LB → LF → Prop}{s : LF}
def rL (h:Heap) (it l:Addr) (i:Int):Prop:=∃o,h.get? it=some o/\o.cls=.type "list_reverseiterator"/\o.data=.fields #[.ref l,Nz (i-1)]
theorem rL.typeIs {it l:Addr} {i:Int} (h:rL s.heap it l i):s.TypeIs (.ref it) "list_reverseiterator":=by
 obtain⟨o,e,c,_⟩:=h;exact⟨o,e,c⟩
theorem qk {l:Addr} {items:Array LB} {n:Nat} {Q₁:LB->LF->Prop} (hl:s.heap.get? l=some { cls:=.type "list",data:=.seq items n })
  (h:Q₁ (.ref s.heap.objs.size) { s with heap:=s.heap.push { cls:=.type "list_reverseiterator",data:=.fields #[.ref l,Nz ((items.size:Int)-1)] } }) :
  Oz (M4 prog w) A (.call (.builtin "reversed.__new__") ⟨[.type "reversed",.ref l],[]⟩) (wants Q₁ E) s:=by
 refine codeAny_call_builtin oe oE (wpAny_of_eq (qS _) ?_);have hsub:=Bu;have hmro:=qU;have hT:s.TypeIs (.ref l) "list":=⟨_,hl,rfl⟩;have h1:=Nt.lookup;have h2:=Nt.bind (.ref l);unfold O2.«reversed.__new__»
 repeat (any_goals (first | assumption | wp_step))
 refine codeAny_call_builtin Nt.plain PySem.F.entry_list_reversed (Nt.check _ _ _ _ _ _ _ _ hT (PySem.F.args_list_reversed_1 _) ?_);obtain⟨hp,g,d,tk,os⟩:=s;unfold O2.«list.__reversed__»
 wp_walk
 exact h
theorem A9 {l:Addr} {items:Array LB} {n:Nat} {Q:LB->LF->Prop} (hl:s.heap.get? l=some { cls:=.type "list",data:=.seq items n })
  (h:Q (.ref s.heap.objs.size) { s with heap:=s.heap.push { cls:=.type "list_reverseiterator",data:=.fields #[.ref l,Nz ((items.size:Int)-1)] } }) :
  Ln (M4 prog w) A (call (.type "reversed") [.ref l]) Q E s:=by
 have hmro:=qU;have hmade:=zA;have hsub:=oZ;have hct:=oV (.ref l);refine Ra (codeAny_of_tree ?_);show Ln _ _ (callAny (.type "reversed") _) _ _ _;refine LQ ⟨Code.quiet_builtin _ (by decide +kernel),Ov PySem.F.entry_type_call ?_⟩;rw[Around.under_plain (weight_type_call_type "reversed" [.ref l] []) rfl];have h1:(Ny "reversed" == Ny "type")=false:=by decide +kernel
 have h2:((SO "reversed").bind (·.mro.findSome? fun t=>(SO t).bind fun b=>if b.noNew then some true else if b.attrs.any (·.1 == "__new__") then some false else none)).getD false=false:=by kernel_rfl
 repeat (any_goals (first | assumption | wp_step))
 refine Oy (qk (E:=E) (Q₁:=fun obj s₁=>obj=.ref s.heap.objs.size/\s₁={ s with heap:=s.heap.push { cls:=.type "list_reverseiterator",data:=.fields #[.ref l,Nz ((items.size:Int)-1)] } }) hl ⟨rfl,rfl⟩) fun r s₁ hr=>?_;cases r with
 | error e=>exact hr
 | ok fl=>
  cases fl with
  | ret obj=>
   obtain⟨rfl,rfl⟩:=hr;have hT:Shared.TypeIs { s with heap:=s.heap.push { cls:=.type "list_reverseiterator",data:=.fields #[.ref l,Nz ((items.size:Int)-1)] } } (.ref s.heap.objs.size) "list_reverseiterator":=⟨_,Ls _ rfl,rfl⟩
   repeat (any_goals (first | assumption | wp_step))
  | _=>exact hr.elim
theorem ov{it l:Addr}{j:Nat}{items:Array LB}{x:LB}{Q:Option LB->LF->Prop}(hit:rL s.heap it l ((j:Int)+1))(hl:s.heap.IsList l items)(hx:items[j]?=some x)
  (hQ:∀h',rL h' it l (j:Int)->NK it s.heap h'->Q (some x) { s with heap:=h' }):Ln (M4 prog w) A (QU (.ref it)) Q E s:=by
 obtain⟨o,ho,hc,hd⟩:=id hit;obtain⟨ol,hol,_,nl,hdl⟩:=hl;unfold QU
 refine LD (wpAny_attempt (Nk (name:=LS "__next__") hit.typeIs cx
  (Nj cx hit.typeIs hJ ?_ (iE _))))
 show Ln _ _ (field (.ref it) 1 >>= _) _ _ s;have e1:(j:Int)+1-1=j:=by omega
 rw[e1] at hd;refine LD (PZ ho hd (x:=Nz (j:Int)) rfl ?_);show Ln _ _ (if ((j:Int)<0) then _ else _) _ _ s;rw[if_neg (by omega)];show Ln _ _ (field (.ref it) 0 >>= _) _ _ s;refine LD (PZ ho hd (x:=.ref l) rfl ?_);refine LD (RZ hol hdl ?_);simp only[P4,hx];refine LD (wpAny_setField ho hd (by simp) (LQ ⟨x,rfl,LQ (hQ _ ?_ (OS ..))⟩))
 exact⟨_,Nq _ ho (Obj.isFreed_of_fields (Sj hd _)),(Obj.cls_mapFields ..).trans hc,by
  rw[Sj hd];simp[Nz]⟩
theorem pH{it l:Addr}{Q:Option LB->LF->Prop}(hh:A.handled=none)(hit:rL s.heap it l 0)
  (hQ:∀h',QX it s.heap h'->Q none { s with heap:=h' }):Ln (M4 prog w) A (QU (.ref it)) Q E s:=by
 obtain⟨o,ho,hc,hd⟩:=id hit;unfold QU
 refine LD (wpAny_attempt (Nk (name:=LS "__next__") hit.typeIs cx
  (Nj cx hit.typeIs hJ ?_ (iE _))))
 show Ln _ _ (field (.ref it) 1 >>= _) _ _ s;refine LD (PZ ho hd (x:=Nz (0-1:Int)) rfl ?_);show Ln _ _ (if ((0-1:Int)<0) then _ else _) _ _ s;rw[if_pos (by omega)];refine LD (Oq (LD ?_));unfold Builtin.SmallTypes.stopIteration;refine LD ?_;simp only[newExc,newTuple];refine LD (NZ ?_ (by size_fits));refine LD (m:=firstArgMember _ _) (wpAny_of_eq (a:=OX) (by first | rfl | (simp only[firstArgMember];rfl)) ?_);refine NZ ?_ (by size_fits);simp only[raiseNew];refine LD (wpAny_handled ?_)
 first | rw[show A.in1.handled=none from hh] | rw[hh]
 refine LD (LQ (wpAny_throw ?_));refine LD (Pf (T:="StopIteration") (b:=true) ⟨_,Ls _ rfl,rfl⟩ isSubtype_stop ?_);exact LQ (hQ _ ((((Heap.SameBut.refl ..).extBut:QX it s.heap s.heap).push _).push _))
theorem sR{it l:Addr}{i:Int}{Q:LB->LF->Prop}(hit:rL s.heap it l i)(h:Q (.ref it) s):Ln (M4 prog w) A (pyIter (.ref it)) Q E s:=by
 refine wpAny_pyIter_slot hit.typeIs iw (Nj iw hit.typeIs mf ?_ (mK _));show Ln _ _ (PySem.ret (.ref it)) _ _ s;exact LQ ⟨_,rfl,"list_reverseiterator",_,hit.typeIs,cx.lookup,h⟩
end
def Itv(K:LA)(a:Addr)(n:Nat):It:=
 ⟨fun i H=>∃xs x,SqL K H a xs/\xs.length=n/\i<n/\xs[n-1-i]?=some x,fun i H x H'=>H'=H/\∀xs,SqL K H a xs->xs[n-1-i]?=some x,fun i H=>∃xs,SqL K H a xs/\xs.length=n/\i=n⟩
theorem yI{P:Ll}{w:Lx}{K:LA}{tg:Expr}(a it:Addr)(n:Nat):Turn P w K tg (Itv K a n) [it] it (fun i h=>rL h it a ((n:Int)-i)) where
 mem:=by simp
 obj:=fun i h st b hb=>by
  have e:b=it:=by simpa using hb
  subst e;obtain⟨o,e,c,d⟩:=st;exact⟨o,e,fun v z=>by rw[d] at z;cases z⟩
 keep:=fun i h h' st k=>by
  obtain⟨o,e,c,d⟩:=st;exact⟨o,k it (by simp) o e,c,d⟩
 item:=by
  intro X hP hw hK hc i pins s σ H E I hf st hg;subst hP hw hK;obtain⟨xs,x,hq,hn,hi,hx⟩:=hg;obtain⟨its,rv,p,hz⟩:=I.list hq;obtain⟨u,hu,ru⟩:=rv.get hx;obtain⟨f0,f1,f2,f3,f4,f5⟩:=hf it (by simp);have e1:(n:Int)-i=((n-1-i:Nat):Int)+1:=by omega
  have e2:((n-1-i:Nat):Int)=(n:Int)-((i+1:Nat):Int):=by omega
  rw[e1] at st;refine ov st p.isList (x:=u) (by simpa using hu) fun h' st' sb=>?_;rw[e2] at st';have I1:L2.Inv X pins σ H { s with heap:=h' }:=I.turned (t':=s.toks) (fun b o hb e=>(sb.2 b hb).trans e) f0 f1 f3 f4 f5;obtain⟨o,e,c,d⟩:=id st';exact⟨u,rfl,uv (s:={ s with heap:=h' }) e c d (by decide) ⟨x,H,I1,ru,⟨rfl,fun ys hy=>by rw[I.list_inj hy hq];exact hx⟩,st',fun b hb=>(hf b hb).1⟩⟩
 done:=by
  intro X hP hw hK hc i pins s σ H E I hf st hg;subst hP hw hK;obtain⟨xs,hq,hn,hi⟩:=hg;obtain⟨f0,f1,f2,f3,f4,f5⟩:=hf it (by simp);have e1:(n:Int)-i=0:=by omega
  rw[e1] at st;exact pH (I.ok.hd hc) st fun h' eb=>⟨rfl,I.turned (t':=s.toks) (fun b o hb e=>eb b o hb e) f0 f1 f3 f4 f5⟩
 self:=fun _ _ _ _ _ st h=>sR st h
def H0(f:PSt->R PV):PSt->R (List PV):=fun ρ=>f ρ >>= fun p=>(match p with
 | .lst ps=>.ok ps.reverse
 | _=>.no)
variable[TW]
theorem FQ{K:LA}{H:Hp}{a:Addr}{xs:List V}{ps:List PV}(g:SqF K H a xs)(r:aF K H ps xs):ItP K (Itv K a xs.length) H ps.reverse:=fun i H' k=>by
 have g':=(k.sqF g).l.l;have r':=aF.kp k ps r;have hl:=r'.length;refine⟨fun h=>⟨xs,g',rfl,by rw[SF] at h;omega⟩,fun p e=>?_⟩
 have hi:i<ps.length:=by
  have:=(LM.mp e).1
  rwa [SF] at this
 rw[List.getElem?_reverse hi] at e;obtain⟨x,ex,rp⟩:=r'.get e;rw[hl] at ex
 exact⟨⟨xs,x,g',rfl,by omega,ex⟩,fun y H2 ⟨eh,hy⟩=>by
  subst eh;have:=hy xs g';rw[ex] at this;cases this;exact⟨Same.refl _,rp⟩⟩
theorem De {C:Cn} {e tg:Expr} {p pos:N8} {f:PSt->R PV} (hg:Gl C.X "reversed") (hm:C.X.mg "reversed"=none) (he:EV C e f) (hs:Lk [e] C.X.env=[(false,MZ e C.X.env)]:=by exact bz rfl) :
  EI C tg (.Call (.Name "reversed" p) [e] [] pos) (H0 f):=by
 intro pins s σ H Rk I ⟨ρ,vw,q⟩
 refine Call_ (kq I hg hm PyProof.Rows.boot_reversed (Mg (thn ((bt he eX hs) pos pins s σ H (fun vs H'=>∃v ps,vs=[v]/\Same H H'/\Rep C.X.K H' (.lst ps) v/\∀J H2,Same H' H2->ItP C.X.K J H2 ps.reverse->Rk J H2) I ⟨ρ,vw,q.bind.imp fun p _ k v H' s' r=>?_⟩)
  fun us s1 ⟨vs,H1,I1,r1,v,ps,ev,sm,rp,k⟩=>?_) hs rfl))
 ·cases p with
  | lst ps=>exact⟨v,ps,rfl,s',r,fun J H2 s2 it=>k J H2 (s'.trans s2) it⟩
  | _=>exact LU k
 ·subst ev
  obtain⟨u,rfl,ru⟩:=vals1 r1;obtain⟨a,xs,rfl,g,rr⟩:=rp;cases ru;obtain⟨hz,its,n,rv,e1⟩:=g.l.is I1;refine A9 e1 (sR (l:=a) (i:=(its.toArray.size:Int)) ⟨_,Ls _ rfl,rfl,rfl⟩ ?_);have hl:its.toArray.size=xs.length:=by rw[Lv,rv.length]
  refine⟨s1.heap.objs.size,[s1.heap.objs.size],_,_,H1,rfl,I1.kept (t':=s1.toks) fun b o e=>LP _ e,yI a _ xs.length,⟨_,Ls _ rfl,rfl,?_⟩,fun b hb=>?_,k _ H1 (Same.refl H1) (FQ g rr)⟩
  ·rw[hl]
   simp
  ·have e:b=s1.heap.objs.size:=by simpa using hb
   subst e;exact I1.fpOk (LY _) (I1.hok.fresh (LY _))
end PU
namespace PU
open PySem PySem.Spec PyProof.Rows L2 PySem.SeqAt
def tJ(ps qs:List PV):List (List PV):=ps.zipWith (fun a b=>[a,b]) qs
def iQ:PV->Bool
 | .non | .bl _ | .int _ | .str _=>true
 | _=>false
def DB(f g:PSt->R PV):PSt->R (List PV):=fun ρ=>f ρ >>= fun p=>g ρ >>= fun q=>(match p,q with
 | .lst ps,.lst qs=>if (ps.all iQ || qs.all iQ)=true then .ok ((tJ ps qs).map .tup) else .no
 | _,_=>.no)
variable[TW]
section
variable{P : Ll}{w : Lx}{K : LA}{elts : List Expr}{kk : Nat}{tp : N8}
def GC(xs ys:List V):List (List V):=xs.zipWith (fun a b=>[a,b]) ys
theorem t6{x:V}{u:LB}(r:RelV x u)(h:∀b,x≠.ref b):¬ ∃b,u=Mv b:=fun ⟨b,e⟩=>by
 subst e;cases x with
 | ref a=>exact h a rfl
 | non=>cases r
 | bl b=>cases r
 | ty n=>cases r
 | int i=>obtain⟨t,r⟩:=r;cases r
 | str i=>obtain⟨t,r⟩:=r;cases r
 | byt i=>obtain⟨t,r⟩:=r;cases r
 | flt i=>obtain⟨t,r⟩:=r;cases r
theorem zQ{K:LA}{H:Hp}{p:PV}{x:V}(hf:iQ p=true)(r:Rep K H p x):∀b,x≠.ref b:=fun b e=>by
 subst e;cases p with
 | non=>cases (show V.ref b=_ from r)
 | bl _=>cases (show V.ref b=_ from r)
 | int _=>cases (show V.ref b=_ from r)
 | str _=>cases (show V.ref b=_ from r)
 | _=>cases hf
theorem q0{K:LA}{H:Hp}{ps:List PV}{xs:List V}(hf:ps.all iQ=true)(r:aF K H ps xs):∀x∈xs,∀b,x≠.ref b:=fun x hx=>by
 obtain⟨i,hi⟩:=Ob.mp hx;have hl:=r.length;have hlt:i<ps.length:=by rw[hl];exact(LM.mp hi).1
 have e1:ps[i]?=some ps[i]:=by simp[hlt]
 obtain⟨y,ey,ry⟩:=r.get e1;rw[hi] at ey;cases ey;exact zQ (Nd.mp hf _ (MS hlt)) ry
theorem yH(z TI TO i1 i2 a b:Addr)(D:ZipApart z TI TO i1 i2 a b)(xs ys:List V)(hfl:(∀x∈xs,∀b,x≠V.ref b)\/(∀y∈ys,∀b,y≠V.ref b)) :
  Turn P w K (.Tuple elts kk tp) (oR (SR xs.length ys.length) (fun H=>SqL K H a xs/\SqL K H b ys) (GC xs ys)) [z,TI,TO,i1,i2] z
   (fun i h=>IsZip h z TI TO .none/\IsPair h TI (.ref i1) (.ref i2)/\(∃a b,IsPair h TO a b)/\h.IsListIter i1 a i/\h.IsListIter i2 b i):=by
 refine v8 (wr:=[z,TO,i1,i2]) (n:=SR xs.length ys.length) (fun X pins σ H s i hP hw hK hc I st hg=>?_) (by simp) (fun b hb=>by simp at hb ⊢;rcases hb with rfl | rfl | rfl | rfl <;> simp) (fun i h st b hb=>?_) (fun i h h' st k=>?_) (fun i H h=>h.1) (fun i H h=>h.1) fun A i s Q E st h=>wpAny_pyIter_zip st.1 h
 ·subst hP hw hK
  obtain⟨hq1,hq2⟩:SqL X.K H a xs/\SqL X.K H b ys:=by rcases hg with h | h <;> exact h.2
  obtain⟨its1,rv1,pl1,hz1⟩:=I.list hq1;obtain⟨its2,rv2,pl2,hz2⟩:=I.list hq2;have hl1:=rv1.length;have hl2:=rv2.length;have W:=WalksT.zip2 (prog:=X.prog) (w:=X.w) (A:=X.A) (I.ok.hd hc) z TI TO i1 i2 a b D its1.toArray its2.toArray;rw[show SR its1.toArray.size its2.toArray.size=SR xs.length ys.length by simp[hl1,hl2]] at W;refine⟨_,_,_,_,W,⟨st.1,st.2.1,st.2.2.1,st.2.2.2.1,st.2.2.2.2,pl1.isList,pl2.isList⟩,fun j h st=>⟨st.1,st.2.1,st.2.2.1,st.2.2.2.1,st.2.2.2.2.1⟩,fun vals hv=>?_⟩;obtain⟨x,y,hx,hy,rfl⟩:=hv;have hx:its1[i]?=some x:=by simpa using hx
  have hy:its2[i]?=some y:=by simpa using hy
  have h1:i<xs.length:=by rw[hl1];exact(LM.mp hx).1
  have h2:i<ys.length:=by rw[hl2];exact(LM.mp hy).1
  have e1:xs[i]?=some xs[i]:=by simp[h1]
  have e2:ys[i]?=some ys[i]:=by simp[h2]
  obtain⟨u,eu,ru⟩:=rv1.get e1;rw[hx] at eu;cases eu;obtain⟨v,ev,rv⟩:=rv2.get e2;rw[hy] at ev;cases ev;refine⟨[xs[i],ys[i]],.cons ru (.cons rv .nil),by show 2<=sizeLine;decide,fun z=>?_,fun T hT=>⟨T,_,rfl,hT,?_,rfl⟩⟩
  ·rcases hfl with g | g
   ·exact t6 ru (g _ (MS h1)) (z _ Lu)
   ·exact t6 rv (g _ (MS h2)) (z _ (Lo _ Lu))
  unfold GC;rw[Pe,e1,e2]
 ·obtain⟨hz,hTI,⟨u,v,hTO⟩,⟨o1,ho1,_,hd1⟩,o2,ho2,_,hd2⟩:=st
  simp only[LX,Mk,or_false] at hb;rcases hb with rfl | rfl | rfl | rfl | rfl
  ·exact⟨_,hz,fun v z=>by cases (show QY _=Pl v from z)⟩
  ·exact⟨_,hTI,fun v z=>by cases (show Data.seq _ _=Pl v from z)⟩
  ·exact⟨_,hTO,fun v z=>by cases (show Data.seq _ _=Pl v from z)⟩
  ·exact⟨o1,ho1,fun v z=>by rw[hd1] at z;cases z⟩
  ·exact⟨o2,ho2,fun v z=>by rw[hd2] at z;cases z⟩
 ·obtain⟨hz,hTI,⟨u,v,hTO⟩,h1,h2⟩:=st
  exact⟨k z (by simp) _ hz,k TI (by simp) _ hTI,⟨u,v,k TO (by simp) _ hTO⟩,h1.at fun o x=>k i1 (by simp) o x,h2.at fun o x=>k i2 (by simp) o x⟩
end
theorem yu{K:LA}{H:Hp}{ps qs:List PV}{xs ys:List V}(r1:aF K H ps xs)(r2:aF K H qs ys):∀(i:Nat)(zs:List PV)(ws:List V),(tJ ps qs)[i]?=some zs->(GC xs ys)[i]?=some ws->aF K H zs ws:=fun i zs ws h1 h2=>by
 unfold tJ at h1;unfold GC at h2;rw[Pe] at h1 h2;cases e:ps[i]? with
 | none=>rw[e] at h1;cases h1
 | some p=>
  cases e2:qs[i]? with
  | none=>rw[e,e2] at h1;cases h1
  | some q=>
   rw[e,e2] at h1;obtain⟨x,ex,rp⟩:=r1.get e;obtain⟨y,ey,rq⟩:=r2.get e2;rw[ex,ey] at h2;cases h1;cases h2;exact⟨_,_,rfl,rp,_,_,rfl,rq,rfl⟩
theorem xl {C:Cn} {e e2:Expr} {elts:List Expr} {kk:Nat} {tp p pos:N8} {f g:PSt->R PV} (hg:Gl C.X "zip") (hm:C.X.mg "zip"=none) (he:EV C e f) (he2:EV C e2 g)
  (hs:Lk [e,e2] C.X.env=[(false,MZ e C.X.env),(false,MZ e2 C.X.env)]:=by exact nU rfl rfl) (hs2:Lk [e2] C.X.env=[(false,MZ e2 C.X.env)]:=by exact bz rfl) :
  EI C (.Tuple elts kk tp) (.Call (.Name "zip" p) [e,e2] [] pos) (DB f g):=by
 intro pins s σ H Rk I ⟨ρ,vw,q⟩
 refine Call_ (kq I hg hm PyProof.Rows.boot_zip (Mg (thn ((bt he (bt he2 eX hs2) (by rw[hs,hs2])) pos pins s σ H (fun vs H'=>∃v u ps qs,vs=[v,u]/\Same H H'/\Rep C.X.K H' (.lst ps) v/\Rep C.X.K H' (.lst qs) u/\(ps.all iQ || qs.all iQ)=true/\∀J H2,Same H' H2->ItP C.X.K J H2 ((tJ ps qs).map .tup)->Rk J H2) I ⟨ρ,vw,q.bind.imp fun p _ k v H1 s1 r1=>⟨ρ,vw.same s1,(k.bind.same s1).imp fun p2 _ k2 u H2 s2 r2=>?_⟩⟩)
  fun us s1 ⟨vs,H1,I1,r1,v,u,ps,qs,ev,sm,rp,rq,hfl,k⟩=>?_) (by rw[hs,hs2]) (by rw[hs2];rfl)))
 ·cases p with
  | lst ps=>
   cases p2 with
   | lst qs=>
    by_cases hfl:(ps.all iQ || qs.all iQ)=true
    ·simp only[if_pos hfl] at k2
     exact⟨v,u,ps,qs,rfl,s1.trans s2,r1.same s2,r2,hfl,fun J H3 s3 it=>k2 J H3 ((s1.trans s2).trans s3) it⟩
    ·simp only[if_neg hfl] at k2
     exact LU k2
   | _=>exact LU k2
  | _=>exact LU k2
 ·subst ev
  obtain⟨w1,w2,rfl,rw1,rw2⟩:=vals2 r1;obtain⟨a,xs,rfl,g1,rr1⟩:=rp;obtain⟨b,ys,rfl,g2,rr2⟩:=rq;cases rw1;cases rw2;obtain⟨its1,rv1,pl1,hz1⟩:=I1.list g1.l.l;obtain⟨its2,rv2,pl2,hz2⟩:=I1.list g2.l.l;have ha:a<s1.heap.objs.size:=by obtain⟨o,n,ho,_⟩:=pl1;exact LZ ho
  have hb:b<s1.heap.objs.size:=by obtain⟨o,n,ho,_⟩:=pl2;exact LZ ho
  have hfl2:(∀x∈xs,∀b,x≠V.ref b)\/(∀y∈ys,∀b,y≠V.ref b):=by
   cases hA:ps.all iQ with
   | true=>exact .inl (q0 hA rr1)
   | false=>
    rw[hA,Bool.false_or] at hfl;exact .inr (q0 hfl rr2)
  refine call_zip_2 pl1.isList pl2.isList fun h' z1 z2 z3 z4 z5 hsz hk=>wpAny_pyIter_zip z1 ?_;refine⟨_,[s1.heap.objs.size+4,s1.heap.objs.size+2,s1.heap.objs.size+3,s1.heap.objs.size,s1.heap.objs.size+1],_,_,H1,rfl,I1.kept (t':=s1.toks) hk,yH (s1.heap.objs.size+4) (s1.heap.objs.size+2) (s1.heap.objs.size+3) s1.heap.objs.size (s1.heap.objs.size+1) a b (zipApart_new ha hb) xs ys hfl2,⟨z1,z2,⟨_,_,z3⟩,z4,z5⟩,fun c hc=>?_,k _ H1 (Same.refl H1) ?_⟩
  ·have hc:s1.heap.objs.size<=c:=by
    simp only[LX,Mk,or_false] at hc;rcases hc with rfl | rfl | rfl | rfl | rfl <;> omega
   exact I1.fpOk hc (I1.hok.fresh hc)
  ·refine r9 ?_ (fun H2 k2=>⟨(k2.sqF g1).l.l,(k2.sqF g2).l.l⟩) (yu rr1 rr2)
   unfold tJ;rw[List.length_zipWith,rr1.length,rr2.length]
end PU
namespace PU
open PySem PySem.Spec PyProof.Rows L2
variable[TW]
def spN(K:LA)(n:Nat)(F:List PV->Option PV):Sp:=fun vs H Q _=>vs.length=n/\uN H/\∃ps p,aF K H ps vs/\F ps=some p/\∀a H',Same H H'->H a=none->cD K H' a p->Q (.ref a) H'
structure PFN(P:Ll)(w:Lx)(K:LA)(mg:Str->Option LB)(base:Heap)(k:Nat)(x:Str)(F:List PV->Option PV):Prop where
 ex:∃(f:Addr)(fd:Mx)(ps:List Str),FnOk P w K mg base CX0 k f fd ps (spN K ps.length F)/\mg x=some (.ref f)/\N5 K (.ref f)=true/\Binds K fd ps []/\∀qs p,F qs=some p->qs.length=ps.length
section
variable{C : Cn}{e : Expr}{es : List Expr}{fs : PSt → R (List PV)}{x : Str}{k : Nat}{F : List PV → Option PV}{p pos : N8}
theorem rF(G:PFN C.X.prog C.X.w C.X.K C.X.mg C.X.base k x F){kr:Nat}(hr:Room kr C.X.A)(ha:EA C (e::es) fs)
  (hdb:(x == ("__debug__":Str))=false:=by decide) (he:Lk (e::es) C.X.env=(false,MZ e C.X.env)::Lk es C.X.env:=by exact cq rfl) (hpl:(OR pos (Lk es C.X.env)).any (·.1)=false:=by exact kK rfl) (hk:k<=kr:=by decide) (hg:Gl C.X x:=by exact rfl) :
  EN C (.Call (.Name x p) (e::es) [] pos) (aK fs F):=by
 replace hr:=hr.mono hk;obtain⟨f,fd,ps,a,b,c,d,l⟩:=G.ex;intro pins s σ H Q I ⟨ρ,vw,q⟩;refine vI (dvs:=[]) (ds:=[]) (E:=E0) a hr hg b c d .nil F3 ha hdb he hpl pins s σ H Q I ⟨ρ,vw,q.bind.imp fun qs _ k vs H1 s1 r1=>?_⟩;obtain⟨z,ez,k⟩:=k.ofO;rw[Mb];exact⟨by rw[← r1.length];exact l qs z ez,s1.tabs vw.tb,qs,z,r1,ez,fun v H' s' n' r'=>k v H' (s1.trans s') (s1.free n') r'⟩
end
end PU
namespace PU
open PySem PySem.Spec PyProof.Rows L2
variable[TW]
def RN(C:Cn)(B:Hp×Hp)(D:Ends):R Fl->Prop
 | .ok (.ret p)=>∀a H,Same B.1 H->B.1 a=none->cD C.X.K H a p->D.rt (.ref a) H
 | _=>False
def tSN(C:Cn)(g:PSt->R Fl):TS:=fun D σ H=>∃ρ B,StOk C.X.K B H σ ρ/\RN C B D (g ρ)
def SVN(C:Cn)(st:List Stmt)(g:PSt->R Fl):Prop:=PSs C.X st (tSN C g)
section
variable{C : Cn}{st : Stmt}{sts : List Stmt}{e : Expr}{f : PSt → R PV}{g g' : PSt → R Fl}{pos : N8}
theorem Br(he:EN C e f):SVN C [.Return (some e) pos] (cb f):=by
 intro pins s σ H D I ⟨ρ,B,S,h⟩;refine qO (vt he) pins s σ H D I ⟨ρ,S.vw,?_⟩;unfold cb at h;cases hf:f ρ with
 | ok p=>rw[hf] at h;exact fun a H' s' n' w'=>h a H' (S.same.trans s') (S.same.free n') w'
 | er x=>rw[hf] at h;exact LU h
 | no=>rw[hf] at h;exact LU h
theorem ja(hn:∀ρ p,g ρ≠.ok (.ret p))(h1:SV C st g)(h2:SVN C sts g'):SVN C (st::sts) (aI g g'):=by
 intro pins s σ H D I ⟨ρ,B,S,h⟩;refine sf h1 h2 pins s σ H D I ⟨ρ,B,S,?_⟩;unfold aI at h;cases hg:g ρ with
 | ok fl=>
  rw[hg] at h;cases fl with
  | next ρ'=>exact fun σ' H' S'=>⟨ρ',B,S',h⟩
  | brk ρ'=>exact LU h
  | cont ρ'=>exact LU h
  | ret p=>exact absurd hg (hn ρ p)
 | er x=>rw[hg] at h;exact LU h
 | no=>rw[hg] at h;exact LU h
omit [TW] in
theorem jd(i:Nat)(f:PSt->R PV)(ρ:PSt)(p:PV):bK i f ρ≠.ok (.ret p):=by
 unfold bK;cases f ρ with
 | ok q=>intro h;cases h
 | er x=>intro h;cases h
 | no=>intro h;cases h
end
section
variable{P : Ll}{w : Lx}{K : LA}{mg : Str → Option LB}{base : Heap}
omit [TW] in
theorem zS(f:PSt->R PV)(ρ:PSt):(∃p,cb f ρ=.ok (.ret p))\/∀fl,cb f ρ≠.ok fl:=by
 unfold cb;cases f ρ with
 | ok q=>exact .inl ⟨q,rfl⟩
 | er x=>exact .inr fun fl h=>by cases h
 | no=>exact .inr fun fl h=>by cases h
omit [TW] in
theorem zR(i:Nat)(f:PSt->R PV)(g:PSt->R Fl)(h:∀ρ,(∃p,g ρ=.ok (.ret p))\/∀fl,g ρ≠.ok fl)(ρ:PSt):(∃p,aI (bK i f) g ρ=.ok (.ret p))\/∀fl,aI (bK i f) g ρ≠.ok fl:=by
 unfold aI bK;cases f ρ with
 | ok q=>exact h _
 | er x=>exact .inr fun fl h=>by cases h
 | no=>exact .inr fun fl h=>by cases h
end
end PU
namespace PU
open PySem PySem.Spec PyProof.Rows L2 PySem.SeqAt
theorem l8:Rb (.type "tuple") "keys"=pure none:=by rw[Pp,Ol];kernel_rfl
theorem jB{prog:Ll}{w:Lx}{A:M6}{E:LB->LF->Prop}{s:LF}{a:Addr}{o:Mu}{xs:Array LB}{k:Nat}{name:Str}{Q:Option LB->LF->Prop}
  (hx:s.heap.get? a=some o) (hc:o.cls=.type "tuple") (hdat:o.data=.seq xs k) (hd:o.dict=none) (hmiss:Rb (.type "tuple") name=pure none) (hname:(["__module__","__name__","__qualname__","__doc__","__annotations__"]:List Str).contains name=false) (hA:A.handled=none)
  (h:∀h' tk e,Heap.NewExcOf s.heap h' e "AttributeError"->Q none { s with heap:=h',toks:=tk }) (hsz:name.length+100<=sizeLine:=by size_fits) :
  Ln (M4 prog w) A (getAttr? (.ref a) name) Q E s:=by
 obtain⟨c,dct,dat,sl⟩:=o;simp only at hc hdat hd;subst hc hdat hd;obtain⟨hp,g,d,tk,os⟩:=s;have hT:∀tk',(⟨hp,g,d,tk',os⟩:LF).TypeIs (.ref a) "tuple":=fun _=>⟨_,hx,rfl⟩;have f1:=sub_AttributeError;have f3:=P7.lookup;have f4:=P7.bind (.ref a);have f5:=am_tuple_getattr_none;unfold getAttr? getAttrBy? getAttrBy
 repeat (any_goals (first | assumption | exact hT _ | ((with_reducible show Ln _ _ (call (Value.builtin "tuple.__getattribute__") _ _) _ _ _);refine call_meets P7 (hT _) am_entry_tuple_getattribute (F.args_tuple_getattribute_2 _ _) (meets_getattribute_miss_tuple a xs k sl name _ hmiss hname hsz) ⟨hx,hA,fun h' tk' e hx'=>?_⟩) | wp_step))
 obtain⟨t',u',he⟩:=hx'.there;show Ln _ _ (getattributeRaised _ _ _ _ _ _ _) _ _ _;unfold getattributeRaised
 repeat (any_goals (first | assumption | wp_step))
 exact h _ _ _ hx'.of
theorem iD:entryFor table "dict.update.loop"=some O2.«dict.update.loop»:=Qo (by kernel_rfl)
section
variable{prog : Ll}{w : Lx}{K : Type}[DecidableEq K]{knd : KeyKind prog w K}{A : M6}
def storeAll(acc:List (K×LB))(l:List (K×LB)):List (K×LB):=l.foldl (fun a p=>Rc a p.1 p.2) acc
theorem rR{R:Result->LF->Prop}{h0:Heap}{d it a:Addr}{items:Array LB}{kvs:List (K×LB)}{result:LB}(hh:A.handled=none)(hda:a≠d)(hia:a≠it)(hdi:d≠it)(ha:h0.IsTuple a items)(hn:items.size=kvs.length)
  (hp:∀(j:Nat)(x:LB),items[j]?=some x->∃(p:Addr)(key:LB)(k:K)(v:LB),x=.ref p/\kvs[j]?=some (k,v)/\p≠d/\p≠it/\h0.IsTuple p #[key,v]/\knd.is k key=true) :
  ∀(m i:Nat)(s:LF)(acc:List (K×LB)),m=items.size-i->i<=items.size->(∀b o,b≠d->b≠it->h0.get? b=some o->s.heap.get? b=some o)->s.heap.IsTupleIter it a i->s.heap.DictOf knd d acc->acc.length+m<=sizeLine->
   (∀h' tk,(∀b o,b≠d->b≠it->h0.get? b=some o->h'.get? b=some o)->h'.DictOf knd d (storeAll acc (kvs.drop i))->R (.ok (.ret result)) { s with heap:=h',toks:=tk })->
   Oz (M4 prog w) A (.builtin "dict.update.loop" ⟨[.ref d,.ref it,Nz (i:Int),result],[]⟩) R s
 | 0,i,s,acc,hm,hi,hk,hit,hd,hz,hR=>by
  have e:i=items.size:=by omega
  have hq:s.heap.IsTuple a items:=ha.at fun o e=>hk a o hda hia e;refine Ov iD ?_;unfold O2.«dict.update.loop»;show Ln _ _ (QU (.ref it) >>= _) _ _ s;refine LD (Sa (by exact hh) hit hq (by rw[e];simp) fun h' eb=>?_);have hd':h'.DictOf knd d acc:=hd.extBut eb hdi;show Ln _ _ (Builtin.Dict.addKeywords d [] >>= _) _ _ _;refine LD (LQ (LQ (hR h' s.toks (fun b o hb1 hb2 q=>eb b o hb2 (hk b o hb1 hb2 q)) ?_)));rw[e,hn,PK];exact hd'
 | m+1,i,s,acc,hm,hi,hk,hit,hd,hz,hR=>by
  have hlt:i<items.size:=by omega
  have hq:s.heap.IsTuple a items:=ha.at fun o e=>hk a o hda hia e;have hx:items[i]?=some items[i]:=by simp[hlt]
  obtain⟨p,key,k,v,ex,ek,h1,h2,h3,h4⟩:=hp i _ hx;refine Ov iD ?_;unfold O2.«dict.update.loop»;show Ln _ _ (QU (.ref it) >>= _) _ _ s;refine LD (SK hit hq hx fun h' hit' sb=>?_);rw[ex];have hd':h'.DictOf knd d acc:=hd.extBut sb.extBut hdi;have hpt:h'.IsTuple p #[key,v]:=h3.at fun o e=>(sb.2 p h2).trans (hk p o h1 h2 e);obtain⟨op,hop,hcp,np,hdp⟩:=id hpt;dsimp only;refine LD (NC (LD (wpAny_tryCatch ?_)));unfold Builtin.Dict.pairItems;refine LD (Oe hpt.typeIs ?_);rw[if_pos (by decide)];refine LD ?_
  have hsi:Ln (M4 prog w) (A.under (Code.builtin "dict.update.loop" ⟨[.ref d,.ref it,Nz (i:Int),result],[]⟩)) (seqItems? (.ref p)) (fun r s'=>r=some #[key,v]/\s'={ s with heap:=h' }) (fun _ _=>False) { s with heap:=h' }:=by
   repeat (any_goals (first | assumption | wp_step))
   rw[hdp];exact LQ ⟨rfl,rfl⟩
  refine Nf hsi (fun r s' hr=>?_) fun _ _ h=>h.elim;obtain⟨rfl,rfl⟩:=hr;refine LQ ?_;show Ln _ _ (holding [key,v] (dictSet d key v)) _ _ _;refine NC (wpAny_dictSet_pairs h4 hd' (fun h'' hd'' sb'=>?_) (by omega));refine LQ ⟨Code.quiet_builtin _ (by decide +kernel),?_⟩;have ei:((i:Int)+1)=((i+1:Nat):Int):=by omega
  rw[ei];have hlen:=stored_length_le acc k v;refine rR hh hda hia hdi ha hn hp m (i+1) _ (Rc acc k v) (by omega) hlt (fun b o hb1 hb2 q=>?_) ?_ hd'' (by omega) fun h3 tk hk3 hd3=>hR h3 tk hk3 ?_
  ·exact(sb'.2 b hb1).trans ((sb.2 b hb2).trans (hk b o hb1 hb2 q))
  ·exact hit'.at fun o e=>(sb'.2 it (OA hdi)).trans e
  ·have hdr:kvs.drop i=(k,v)::kvs.drop (i+1):=by
    obtain⟨hl,e⟩:=LM.mp ek;rw[Me hl,e]
   rw[hdr];exact hd3
theorem mr {E:LB->LF->Prop} {s:LF} {a:Addr} {o:Mu} {items:Array LB} {n0:Nat} {kvs:List (K×LB)} {Q:LB->LF->Prop} (hA:A.handled=none) (hx:s.heap.get? a=some o) (hc:o.cls=.type "tuple") (hdat:o.data=.seq items n0) (hdn:o.dict=none)
  (hn:items.size=kvs.length) (hz:kvs.length<=sizeLine)
  (hp:∀(j:Nat)(x:LB),items[j]?=some x->∃(p:Addr)(key:LB)(k:K)(v:LB),x=.ref p/\kvs[j]?=some (k,v)/\s.heap.IsTuple p #[key,v]/\knd.is k key=true)
  (h:∀h' tk,(∀b o,s.heap.get? b=some o->h'.get? b=some o)->h'.DictOf knd s.heap.objs.size (storeAll [] kvs)->Q (.ref s.heap.objs.size) { s with heap:=h',toks:=tk }) :
  Ln (M4 prog w) A (call (.type "dict") [.ref a]) Q E s:=by
 refine callType_codes (Q₁:=fun obj s₁=>obj=.ref s.heap.objs.size/\s₁={ s with heap:=s.heap.push { cls:=.type "dict",data:=.dict #[] } }) F.kt_called_dict (F.kt_typeCall_dict_1 _) F.entry_dict_init (kt_code_dict_new _ ⟨rfl,rfl⟩) ?_;rintro obj s₁ ⟨rfl,rfl⟩;have hnew:(s.heap.push { cls:=.type "dict",data:=.dict #[] }).DictOf knd s.heap.objs.size []:=RB s.heap;have hx':(s.heap.push { cls:=.type "dict",data:=.dict #[] }).get? a=some o:=LP _ hx;have hT:Shared.TypeIs { s with heap:=s.heap.push { cls:=.type "dict",data:=.dict #[] } } (.ref a) "tuple":=⟨o,hx',hc⟩;refine⟨hnew.typeIs,F.args_dict_init_2 _ _,?_⟩;unfold O2.«dict.__init__»;refine LD ?_;unfold Builtin.Dict.selfAndRest;refine LD (Pv hnew.typeIs ?_);show Ln _ _ (pure (s.heap.objs.size,[Mv a])) _ _ _;refine LQ ?_;show Ln _ _ (QH "dict.__init__" s.heap.objs.size (.ref a) [] .none) _ _ _;unfold QH;refine LD (Oe hT ?_);rw[if_pos (by decide)];refine LD (jB hx' hc hdat hdn l8 (by decide +kernel) (by exact hA) fun h1 tk1 e1 ne=>?_);have k1:∀b u,(s.heap.push { cls:=.type "dict",data:=.dict #[] }).get? b=some u->h1.get? b=some u:=fun b u q=>ne.keeps b u q;rw[if_pos (show (none:Option LB).isNone=true from rfl)];have ht:h1.IsTuple a items:=⟨o,k1 a o hx',hc,n0,hdat⟩;refine LD (Oq (LD (wpAny_pyIter_tuple ht ?_)))
 have sD:s.heap.objs.size<h1.objs.size:=by
  obtain⟨od,_,_,hod,_⟩:=hnew;exact LZ (k1 _ _ hod)
 have k2:∀b u,s.heap.get? b=some u->(h1.push { cls:=.type "tuple_iterator",data:=.fields #[.ref a,.int 0 0] }).get? b=some u:=fun b u q=>LP _ (k1 b u (LP _ q));refine LQ ⟨Code.quiet_builtin _ (by decide +kernel),?_⟩;have lts:∀b u,s.heap.get? b=some u->b≠s.heap.objs.size/\b≠h1.objs.size:=fun b u q=>⟨M1 (LZ q),M1 (Nat.lt_trans (LZ q) sD)⟩;refine rR (knd:=knd) (h0:=h1.push { cls:=.type "tuple_iterator",data:=.fields #[.ref a,.int 0 0] }) (kvs:=kvs) (by exact hA) (lts a o hx).1 (lts a o hx).2 (M1 sD) (ht.push _) hn (fun j x hj=>?_) items.size 0 _ [] (by omega) (N0 _) (fun b u _ _ q=>q) ⟨_,Ls _ rfl,rfl,rfl⟩ ?_ (by simp;omega) fun h' tk hk' hd'=>?_
 ·obtain⟨p,key,k,v,e1,e2,e3,e4⟩:=hp j x hj
  obtain⟨op,hop,r⟩:=id e3;exact⟨p,key,k,v,e1,e2,(lts p op hop).1,(lts p op hop).2,⟨op,k2 p op hop,r⟩,e4⟩
 ·obtain⟨od,es,ep,hod,r⟩:=hnew
  exact⟨od,es,ep,LP _ (k1 _ _ hod),r⟩
 ·exact⟨rfl,h h' tk (fun b u q=>hk' b u (lts b u q).1 (lts b u q).2 (k2 b u q)) hd'⟩
end
end PU
namespace PU
open PySem L2
def kn:List PV->Option (List (Key×PV))
 | []=>some []
 | .tup [.str k,v]::r=>(kn r).map fun l=>(.inr k,v)::l
 | _=>none
def pW:PV->Option PV
 | .tup ps=>if ps.length<=1000 then (kn ps).map gR else none
 | _=>none
end PU
namespace PU
open PySem PySem.Spec PyProof.Rows L2 PySem.SeqAt
variable[TW]
theorem sk{X:Cx}{pins:List (Addr×Mu)}{σ:L2.St}{H:Hp}{s:LF}(I:L2.Inv X pins σ H s):∀{ps:List PV}{kps:List (Key×PV)}{xs:List V}{its:List LB},kn ps=some kps->aF X.K H ps xs->Vals xs its->
  ∃(kvs:List (Key×V))(vs:List (Key×LB)),kh X.K H kps kvs/\KV kvs vs/\its.length=vs.length/\∀(j:Nat)(x:LB),its[j]?=some x->∃(p:Addr)(key:LB)(k:Key)(v:LB),x=.ref p/\vs[j]?=some (k,v)/\s.heap.IsTuple p #[key,v]/\(aq X.prog X.w).is k key=true
 | [],kps,xs,its,e,r,rv=>by
  cases e;cases r;cases rv;exact⟨[],[],rfl,.nil,rfl,fun j x h=>by simp at h⟩
 | p::ps,kps,xs,its,e,r,rv=>by
  obtain⟨x,t,rfl,r1,r2⟩:=r;cases rv with
  | cons ru rv=>
  unfold kn at e;split at e
  ·rename_i h;cases h
  ·rename_i k v r' h
   cases h;obtain⟨l,el,ez⟩:=LK.mp e;cases ez;obtain⟨kvs,vs,q1,q2,q3,q4⟩:=sk I el r2 rv;obtain⟨a,ys,rfl,g,rr⟩:=r1;obtain⟨y1,t1,rfl,h1,y2,t2,rfl,h2,h3⟩:=rr;cases h3;cases h1;cases ru;obtain⟨its2,rv2,pl,hz⟩:=I.tuple (tq g);cases rv2 with
   | cons ra rv2=>
   cases rv2 with
   | cons rb rv2=>
   cases rv2;obtain⟨tk,rfl⟩:=ra;refine⟨(.inr k,y2)::kvs,(.inr k,_)::vs,⟨y2,kvs,rfl,h2,q1⟩,.cons ⟨rfl,rb⟩ q2,by simp[q3],fun j x hj=>?_⟩;cases j with
   | zero=>
    simp at hj;subst hj;exact⟨a,_,_,_,rfl,rfl,pl,gb _ _ _ _⟩
   | succ j=>
    obtain⟨p,key,k',v',e1,e2,e3,e4⟩:=q4 j x (by simpa using hj);exact⟨p,key,k',v',e1,by simpa using e2,e3,e4⟩
  ·cases e
omit [TW] in
theorem ki{K:Type}[DecidableEq K]:∀(l acc:List (K×LB)),(storeAll acc l).length<=acc.length+l.length
 | [],acc=>by simp[storeAll]
 | p::l,acc=>by
  have h1:=ki l (Rc acc p.1 p.2);have h2:=stored_length_le acc p.1 p.2;have e:storeAll acc (p::l)=storeAll (Rc acc p.1 p.2) l:=rfl;rw[e,Lz];omega
theorem Bd {X:Cx} (hc:X.calm=true:=by rfl) (hw:X.w=TW.w:=by rfl):i7 X (.type "dict") (rn1 X.K pW):=by
 intro pins s σ H xs us Q I r ⟨v,p,z,e1,rp,ez,k⟩;subst e1;cases p with
 | tup ps=>
  have ez:(if ps.length<=1000 then (kn ps).map gR else none)=some z:=ez
  by_cases hlen:ps.length<=1000
  ·rw[if_pos hlen] at ez
   obtain⟨kps,ek,rfl⟩:=LK.mp ez;obtain⟨a,xs,rfl,g,rr⟩:=rp;obtain⟨u,rfl,ru⟩:=vals1 r;cases ru;obtain⟨its,rv,⟨o,ho,hcl,⟨n0,hdat⟩,hdn⟩,hz⟩:=I.tupleX (tq g);obtain⟨kvs,vs,q1,q2,q3,q4⟩:=sk I ek rr rv;have hl1:=rr.length;have hl2:=rv.length;have hs:=MC;refine mr (knd:=aq X.prog X.w) (kvs:=vs) (I.ok.hd hc) ho hcl hdat (hdn fun v hv=>(by obtain⟨j,hj⟩:=Ob.mp hv;obtain⟨p,_,_,_,e,_⟩:=q4 j v (by simpa using hj);exact⟨p,e⟩)) (by rw[Lv];exact q3) (by omega) (fun j x hj=>q4 j x (by simpa using hj)) fun h' tk keep D'=>?_;have nf:H s.heap.objs.size=none:=I.fresh
   have hne:(s.heap.objs.size == MH)=false:=by
    have hb:=I.big;refine beq_eq_false_iff_ne.mpr fun e=>?_;rw[e] at hb;exact My _ hb
   have hm:KV (fH [] kvs) (storeAll [] vs):=KV.merge q2 .nil
   have hml:(fH [] kvs).length<=sizeLine:=by
    have a1:(fH [] kvs).length=(storeAll [] vs).length:=MF hm;have a2:=ki vs [];simp only[Np] at a2;omega
   have I2:=I.laid (a:=s.heap.objs.size) (o:=.dK (fH [] kvs)) (h':=h') (t':=tk) keep (LY _) ⟨hml,hne,_,hm,D'⟩;have kp:Kp H (upd H s.heap.objs.size (.dK (fH [] kvs))):=Same.kp (Same.new nf);obtain⟨ks',ps',g1,g2,g3⟩:=lM (acc:=[]) (ps:=[]) (kh.kp kp q1) aF.nil;refine⟨.ref _,_,I2,rfl,k _ _ (Same.new nf) nf ?_⟩;rw[kU];have g1:kps.foldl Ai (PV.dct [] [])=PV.dct ks' ps':=g1;rw[g1];exact⟨_,az,g2,g3⟩
  ·rw[if_neg hlen] at ez
   cases ez
 | _=>cases ez
end PU
namespace PU
open PySem PySem.Spec PyProof.Rows L2 PySem.SeqAt
def pS:List PV->Option (List Int)
 | []=>some []
 | .int i::r=>(pS r).map (i::·)
 | _=>none
def ltL:List Int->List Int->Bool
 | x::xs,y::ys=>if x=y then ltL xs ys else decide (x<y)
 | _,_=>false
def G3:PV->PV->Option PV
 | .tup [.int i,.lst ps],.tup [.int j,.lst qs]=>
  (match pS ps,pS qs with
  | some xs,some ys=>if i=j/\¬ xs.length=ys.length then none else some (.bl (if i=j then ltL xs ys else decide (i<j)))
  | _,_=>none)
 | _,_=>none
def CW:PV->PV->Option PV
 | .int i,.int j=>some (.int (if j > i then j else i))
 | _,_=>none
section
open AutoSeq1 (wpAny_loadPart')
open MeetsSeq MeetsSeq2 MeetsSeq3
def fO(A:M6)(s:LF)(y x:LB)(b:Bool):Prop:=
 ∀(prog:Ll)(w:Lx)(E:LB->LF->Prop)(Q:LB->LF->Prop),Q (.bool b) s->Ln (M4 prog w) A (richCompare .Lt y x) Q E s
def ltR(e l:Nat->Bool):List Nat->Bool
 | []=>false
 | i::r=>if e i=true then ltR e l r else l i
theorem vZ(l b:Addr)(items items2:Array LB)(n n2:Nat)(dd dd2:Option Addr)(sl sl2:Array (Option LB))(hsz:items.size=items2.size)(e lt:Nat->Bool)(k:Nat) :
  ∀i:Nat,items.size-i=k->Meets (O2.«list.__eq__.loop» ⟨[.ref l,.ref b,Nz i,Nz 0],[]⟩)
   (fun A R s=>s.heap.get? l=some { cls:=.type "list",dict:=dd,data:=.seq items n,slots:=sl }/\s.heap.get? b=some { cls:=.type "list",dict:=dd2,data:=.seq items2 n2,slots:=sl2 }/\
    (∀j (h1:j<items.size) (h2:j<items2.size),EqAt A.in1 s items[j] items2[j] (e j)/\fO A.in1 s items[j] items2[j] (lt j))/\
    R (.ok (.ret (.bool (ltR e lt ((LI items.size).drop i))))) s):=by
 induction k with
 | zero=>
  intro i hk prog w A R s h;obtain⟨hp,g,d,tk,os⟩:=s;obtain⟨hl,hb,he,h⟩:=h
  wp_walk using Md hl,Md hb
  have hi1:items[((i:Nat):Int).toNat]?=none:=by simp;omega
  have hi2:items2[((i:Nat):Int).toNat]?=none:=by simp;omega
  have hd:(LI items.size).drop i=[]:=by simp;omega
  rw[hd] at h;rw[hi1,hi2]
  wp_walk using Md hl,Md hb
  show R (.ok (.ret (.bool (decide (items.size<items2.size))))) _;rw[hsz];simpa [ltR] using h
 | succ k ih=>
  intro i hk prog w A R s h;obtain⟨hp,g,d,tk,os⟩:=s;obtain⟨hl,hb,he,h⟩:=h
  wp_walk using Md hl,Md hb
  have hlt:i<items.size:=by omega
  have hlt2:i<items2.size:=by omega
  have hi1:items[((i:Nat):Int).toNat]?=some items[i]:=by simp[hlt]
  have hi2:items2[((i:Nat):Int).toNat]?=some items2[i]:=by simp[hlt2]
  have hd:(LI items.size).drop i=i::(LI items.size).drop (i+1):=by simp[Me,hlt]
  have hc:((i:Int)+1)=((i+1:Nat):Int):=by push_cast;rfl
  rw[hd] at h;rw[hi1,hi2];refine LD ((he i hlt hlt2).1 prog w _ _ ?_);cases hb':e i with
  | true=>
   simp only[ltR,hb',if_true] at h
   wp_walk
   rw[hc]
   exact⟨S9 plain_eq_loop _,Ov entry_eq_loop (by
    rw[RD plain_eq_loop _];exact ih (i+1) (by omega) prog w A R _ ⟨hl,hb,he,by simpa using h⟩)⟩
  | false=>
   simp only[ltR,hb',ME,if_false] at h
   wp_walk using Md hl,Md hb
   rw[hi1,hi2];refine LD ((he i hlt hlt2).2 prog w _ _ ?_)
   wp_walk
   simpa using h
theorem wg(l b:Addr)(items items2:Array LB)(n n2:Nat)(dd dd2:Option Addr)(sl sl2:Array (Option LB))(hsz:items.size=items2.size)(e lt:Nat->Bool) :
  Meets (O2.«list.__lt__» ⟨[.ref l,.ref b],[]⟩)
   (fun A R s=>s.heap.get? l=some { cls:=.type "list",dict:=dd,data:=.seq items n,slots:=sl }/\s.heap.get? b=some { cls:=.type "list",dict:=dd2,data:=.seq items2 n2,slots:=sl2 }/\
    (∀j (h1:j<items.size) (h2:j<items2.size),EqAt A.in1 s items[j] items2[j] (e j)/\fO A.in1 s items[j] items2[j] (lt j))/\
    R (.ok (.ret (.bool (ltR e lt (LI items.size))))) s):=by
 intro prog w A R s h;obtain⟨hp,g,d,tk,os⟩:=s;obtain⟨hl,hb,he,h⟩:=h;have f3:=AutoSeq1.sub_list_list
 wp_walk using Md hl,Md hb
 exact⟨S9 plain_eq_loop _,Ov entry_eq_loop (by
  rw[RD plain_eq_loop _];exact vZ l b items items2 n n2 dd dd2 sl sl2 hsz e lt _ 0 rfl prog w A R _ ⟨hl,hb,he,by simpa using h⟩)⟩
theorem tT(l b:Addr)(items items2:Array LB)(n n2:Nat)(dd dd2:Option Addr)(sl sl2:Array (Option LB))(e lt:Nat->Bool)(hsz:items.size=items2.size) :
  Meets (O2.«tuple.__lt__» ⟨[.ref l,.ref b],[]⟩)
   (fun A R s=>s.heap.get? l=some { cls:=.type "tuple",dict:=dd,data:=.seq items n,slots:=sl }/\s.heap.get? b=some { cls:=.type "tuple",dict:=dd2,data:=.seq items2 n2,slots:=sl2 }/\
    (∀j (h1:j<items.size) (h2:j<items2.size),(∀m,m<j->e m=true)->EqAt A.in1 s items[j] items2[j] (e j)/\(e j=false->fO A.in1 s items[j] items2[j] (lt j)))/\
    R (.ok (.ret (.bool (ltR e lt (LI items.size))))) s):=
 .of_wp fun prog w A R s h=>by
  obtain⟨hp,g,d,tk,os⟩:=s;obtain⟨hl,hb,he,h⟩:=h;have f2:=AutoSeq1.sub_tuple_tuple;have hZ:(items.toList.zip items2.toList).length=items.size:=by simp[hsz]
  wp_walk using Md hl,Md hb,Pg _ (fun rest b s'=>b.1=none/\s'=⟨hp,g,d,tk,os⟩/\∃i,rest=(items.toList.zip items2.toList).drop i/\(∀m,m<i->m<items.size->e m=true)/\
   R (.ok (.ret (.bool (ltR e lt ((LI items.size).drop i))))) ⟨hp,g,d,tk,os⟩) _
  case turn=>
   rintro⟨y,x⟩ rest b s' ⟨hb',rfl,i,hz,hm,hR⟩
   have hlt:i<(items.toList.zip items2.toList).length:=by
    rcases O9 i (items.toList.zip items2.toList).length with h' | h'
    ·exact h'
    ·rw[RO h'] at hz;cases hz
   have h1:i<items.size:=hZ▸hlt;have h2:i<items2.size:=hsz▸h1;rw[Me hlt] at hz;injection hz with hyx hrest;have hy:y=items[i]:=by have:=congrArg Prod.fst hyx;simpa using this
   have hx:x=items2[i]:=by have:=congrArg Prod.snd hyx;simpa using this
   subst hy hx;have hd:(LI items.size).drop i=i::(LI items.size).drop (i+1):=by simp[Me,h1]
   rw[hd] at hR;have hei:=he i h1 h2 fun m hmi=>hm m hmi (by omega);refine LD (hei.1 prog w _ _ ?_);cases hy:e i with
   | true=>
    simp only[ltR,hy,if_true] at hR
    wp_walk
    exact⟨rfl,rfl,i+1,hrest,fun m hm1 hm2=>by
     rcases O9 m i with z | z
     ·exact hm m z hm2
     ·have:m=i:=by omega
      rw[this];exact hy,by simpa using hR⟩
   | false=>
    simp only[ltR,hy,ME,if_false] at hR;have hrc:=hei.2 hy prog w;generalize richCompare CmpOp.Lt items[i] items2[i]=M at hrc ⊢
    wp_walk
    refine hrc _ _ ?_
    wp_walk
    exact⟨_,rfl,by simpa using hR⟩
  case fin=>
   rintro⟨b1,b2⟩ s' ⟨hb',rfl,i,hz,hm,hR⟩;simp only at hb';subst hb'
   have hge:items.size<=i:=by
    rcases O9 i (items.toList.zip items2.toList).length with h' | h'
    ·rw[Me h'] at hz;cases hz
    ·exact hZ▸h'
   rw[RO (by simpa using hge)] at hR
   wp_walk
   exact⟨_,rfl,by simpa [Builtin.Tuple.tupleCompareSizes,ltR,hsz] using hR⟩
  case h=>
   exact⟨rfl,rfl,0,rfl,fun m hm=>by omega,by simpa using h⟩
theorem fO.lists{A:M6}{s:LF}{l b:Addr}{items items2:Array LB}{e lt:Nat->Bool}(hl:s.heap.IsList l items)(hb:s.heap.IsList b items2)(hsz:items.size=items2.size)(hu:A.units<cLine)
  (he:∀j (h1:j<items.size) (h2:j<items2.size),EqAt A.in1 s items[j] items2[j] (e j)/\fO A.in1 s items[j] items2[j] (lt j)):fO A s (.ref l) (.ref b) (ltR e lt (LI items.size)):=fun prog w E Q h=>by
 obtain⟨⟨cls,dd,data,sl⟩,ho,hc,n,hd⟩:=id hl;obtain⟨⟨cls2,dd2,data2,sl2⟩,ho2,hc2,n2,hd2⟩:=id hb;simp only at hc hd hc2 hd2;subst hc hd hc2 hd2
 exact Sd (op:=.Lt) ⟨_,ho,rfl⟩ ⟨_,ho2,rfl⟩ F.slot_list_lt F.entry_list_lt (F.args_list_lt_2 _ _) (wg l b items items2 n n2 dd dd2 sl sl2 hsz e lt)
  ⟨ho,ho2,he,show OY _≠Rh/\Q (.bool _) s from ⟨(fun x=>nomatch x),h⟩⟩ hu
theorem fO.tuples{A:M6}{s:LF}{l b:Addr}{items items2:Array LB}{e lt:Nat->Bool}(hl:s.heap.IsTuple l items)(hb:s.heap.IsTuple b items2)(hsz:items.size=items2.size)(hu:A.units<cLine)
  (he:∀j (h1:j<items.size) (h2:j<items2.size),(∀m,m<j->e m=true)->EqAt A.in1 s items[j] items2[j] (e j)/\(e j=false->fO A.in1 s items[j] items2[j] (lt j))):fO A s (.ref l) (.ref b) (ltR e lt (LI items.size)):=fun prog w E Q h=>by
 obtain⟨⟨cls,dd,data,sl⟩,ho,hc,n,hd⟩:=id hl;obtain⟨⟨cls2,dd2,data2,sl2⟩,ho2,hc2,n2,hd2⟩:=id hb;simp only at hc hd hc2 hd2;subst hc hd hc2 hd2
 exact Sd (op:=.Lt) ⟨_,ho,rfl⟩ ⟨_,ho2,rfl⟩ F.slot_tuple_lt F.entry_tuple_lt (F.args_tuple_lt_2 _ _) (tT l b items items2 n n2 dd dd2 sl sl2 e lt hsz)
  ⟨ho,ho2,he,show OY _≠Rh/\Q (.bool _) s from ⟨(fun x=>nomatch x),h⟩⟩ hu
end
theorem w6(e l:Nat->Bool)(f:Nat->Nat):∀r:List Nat,ltR e l (r.map f)=ltR (fun i=>e (f i)) (fun i=>l (f i)) r
 | []=>rfl
 | i::r=>by simp only[LH,ltR,w6 e l f r]
theorem w9:∀xs ys:List Int,xs.length=ys.length->ltR (fun i=>decide (xs.getD i 0=ys.getD i 0)) (fun i=>decide (xs.getD i 0<ys.getD i 0)) (LI xs.length)=ltL xs ys
 | [],[],_=>rfl
 | [],_::_,h=>by simp at h
 | _::_,[],h=>by simp at h
 | x::xs,y::ys,h=>by
  rw[Lz,OO];simp only[ltR,SH,w6,SI];rw[w9 xs ys (by simpa using h)];simp only[ltL,decide_eq_true_eq]
theorem sH:∀xs:List Int,ltL xs xs=false
 | []=>rfl
 | x::xs=>by simp only[ltL,if_true];exact sH xs
theorem lU:∀{ps:List PV}{xs:List Int},pS ps=some xs->ps=xs.map .int
 | [],_,e=>by cases e;rfl
 | p::ps,xs,e=>by
  cases p with
  | int i=>
   simp only[pS] at e;obtain⟨r,er,rfl⟩:=LK.mp e;rw[lU er];rfl
  | _=>cases e
theorem xW:∀xs ys:List Int,xs.length=ys.length->(LI xs.length).all (fun m=>decide (xs.getD m 0=ys.getD m 0))=decide (xs=ys)
 | [],[],_=>rfl
 | [],_::_,h=>by simp at h
 | _::_,[],h=>by simp at h
 | x::xs,y::ys,h=>by
  have ih:=xW xs ys (by simpa using h);rw[Lz,OO,NU,RU]
  have e:((fun m=>decide ((x::xs).getD m 0=(y::ys).getD m 0)) ∘ Nat.succ)=fun m=>decide (xs.getD m 0=ys.getD m 0):=by
   funext m
   simp only[Nh,Nat.succ_eq_add_one,SI]
  rw[e,ih];simp only[SH,N9,Bool.decide_and]
variable[TW]
theorem oA{K:LA}{H:Hp}:∀{ns:List Int}{xs:List V}{us:List LB},aF K H (ns.map .int) xs->Vals xs us->∀j (h:j<us.length),∃t,us[j]=.int (ns.getD j 0) t
 | [],xs,us,r,v,j,h=>by
  cases r;cases v;simp at h
 | n::ns,xs,us,r,v,j,h=>by
  obtain⟨x,xs',rfl,r1,r2⟩:∃x xs',xs=x::xs'/\Rep K H (.int n) x/\aF K H (ns.map .int) xs':=by
   cases xs with
   | nil=>have:=r.length;simp at this
   | cons x xs'=>
    obtain⟨a,b,e,c,d⟩:=r;cases e;exact⟨x,xs',rfl,c,d⟩
  cases v with
  | cons v1 v2=>
   cases (show x=.int n from r1);cases j with
   | zero=>obtain⟨t,e⟩:=v1;exact⟨t,by simpa using e⟩
   | succ j=>simpa using oA r2 v2 j (by simpa using h)
theorem o5{K:LA}{H:Hp}:∀{ns:List Int}{xs:List V},aF K H (ns.map .int) xs->xs=ns.map V.int
 | [],xs,r=>by
  cases xs with
  | nil=>rfl
  | cons x xs=>have:=r.length;simp at this
 | n::ns,xs,r=>by
  cases xs with
  | nil=>have:=r.length;simp at this
  | cons x xs'=>
   obtain⟨a,b,e,c,d⟩:=r;cases e;cases (show x=.int n from c);rw[o5 d];rfl
theorem Ig{X:Cx}(hu:X.A.units+64<cLine):OpR X (MI .Lt) (rP X.K G3):=by
 intro pins s σ H x y v u Q I rx ry ⟨p,q,z,hp,hq,e,k⟩;unfold G3 at e;split at e
 ·rename_i i ps j qs
  split at e
  ·rename_i xs ys ex ey
   have ex:=lU ex;have ey:=lU ey;subst ex ey;split at e
   ·cases e
   ·rename_i hne
    cases e;obtain⟨a,vs,rfl,g1,r1⟩:=aX.tup_inv hp;obtain⟨b,us,rfl,g2,r2⟩:=aX.tup_inv hq;cases rx;cases ry;obtain⟨v1,vs1,rfl,q1,v2,vs2,rfl,q2,rfl⟩:=r1;obtain⟨u1,us1,rfl,q3,u2,us2,rfl,q4,rfl⟩:=r2;cases (show v1=.int i from q1);cases (show u1=.int j from q3);obtain⟨c,as,rfl,g3,r3⟩:=q2;obtain⟨d,bs,rfl,g4,r4⟩:=q4;obtain⟨its,rv,pl,_⟩:=I.tuple g1;obtain⟨its2,rv2,pl2,_⟩:=I.tuple g2;obtain⟨w1,w2,rfl,e1,e2⟩:=vals2 rv;obtain⟨w3,w4,rfl,e3,e4⟩:=vals2 rv2;obtain⟨t1,rfl⟩:=e1;obtain⟨t2,rfl⟩:=e3;cases e2;cases e4;obtain⟨is1,rw1,pl3,_⟩:=I.list g3.l.l;obtain⟨is2,rw2,pl4,_⟩:=I.list g4.l.l;have n1:is1.length=xs.length:=by rw[← rw1.length,← r3.length,LJ]
    have n2:is2.length=ys.length:=by rw[← rw2.length,← r4.length,LJ]
    have fin:∀b:Bool,b=(if i=j then ltL xs ys else decide (i<j))->EP X pins σ Q (.bool b) s:=fun b hb=>by
     subst hb;exact⟨.bl _,H,I,rfl,k _ H (Same.refl H) rfl⟩
    let ee:Nat->Bool:=fun m=>match m with
     | 0=>decide (i=j)
     | _=>decide (xs=ys)
    let lt:Nat->Bool:=fun m=>match m with
     | 0=>decide (i<j)
     | _=>ltL xs ys
    refine fO.tuples (e:=ee) (lt:=lt) (show s.heap.IsTuple a #[.int i t1,.ref c] from pl) (show s.heap.IsTuple b #[.int j t2,.ref d] from pl2) rfl (by omega) (fun m h1 h2 hm=>?_) X.prog X.w X.xe _ (fin _ ?_)
    ·match m,h1,h2,hm with
     | 0,h1,h2,hm=>exact⟨EqAt.int_int i t1 j t2,fun _ prog w E Q q=>lt_int q⟩
     | 1,h1,h2,hm=>
      have hij:i=j:=of_decide_eq_true (hm 0 (by omega))
      have hl:xs.length=ys.length:=by
       rcases Classical.em (xs.length=ys.length) with z | z
       ·exact z
       ·exact absurd ⟨hij,z⟩ hne
      have hsz:is1.toArray.size=is2.toArray.size:=by simp;omega
      have he:∀(A:M6) m (h1:m<is1.toArray.size) (h2:m<is2.toArray.size),EqAt A s is1.toArray[m] is2.toArray[m] (decide (xs.getD m 0=ys.getD m 0))/\fO A s is1.toArray[m] is2.toArray[m] (decide (xs.getD m 0<ys.getD m 0)):=fun A m h1 h2=>by
       obtain⟨t3,e3⟩:=oA r3 rw1 m (by simpa using h1);obtain⟨t4,e4⟩:=oA r4 rw2 m (by simpa using h2);simp only[List.getElem_toArray,e3,e4];exact⟨EqAt.int_int _ t3 _ t4,fun prog w E Q q=>lt_int q⟩
      refine⟨?_,fun _=>?_⟩
      ·by_cases hcd:c=d
       ·subst hcd
        have exy:xs=ys:=by
         have e5:=I.list_inj g3.l.l g4.l.l;rw[o5 r3,o5 r4] at e5;have:=congrArg (List.map fun v:V=>match v with | .int i=>i | _=>0) e5;rw[Lh,Lh] at this;simpa [Rq] using this
        show EqAt _ s (.ref c) (.ref c) (decide (xs=ys));rw[decide_eq_true exy];exact EqAt.same _
       ·show EqAt _ s (.ref c) (.ref d) (decide (xs=ys))
        have:=EqAt.of_refs hcd (RcAt.lists (A:=X.A.in1) (e:=fun m=>decide (xs.getD m 0=ys.getD m 0)) pl3.isList pl4.isList hsz (by show X.A.units+1<cLine;omega) fun m h1 h2=>(he _ m h1 h2).1)
        have eb:(LI is1.toArray.size).all (fun m=>decide (xs.getD m 0=ys.getD m 0))=decide (xs=ys):=by
         rw[show is1.toArray.size=xs.length by simp[n1]];exact xW xs ys hl
        rw[eb] at this;exact this
      ·show fO _ s (.ref c) (.ref d) (ltL xs ys)
       have:=fO.lists (A:=X.A.in1) (e:=fun m=>decide (xs.getD m 0=ys.getD m 0)) (lt:=fun m=>decide (xs.getD m 0<ys.getD m 0)) pl3.isList pl4.isList hsz (by show X.A.units+1<cLine;omega) fun m h1 h2=>he _ m h1 h2;rw[show is1.toArray.size=xs.length by simp[n1],w9 xs ys hl] at this;exact this
     | m+2,h1,h2,hm=>exact absurd h1 (by simp)
    ·show ltR ee lt [0,1]=_
     simp only[ltR,ee,lt,decide_eq_true_eq]
     by_cases hij:i=j
     ·rw[if_pos hij,if_pos hij]
      by_cases hxy:xs=ys
      ·rw[if_pos hxy,hxy,sH]
      ·rw[if_neg hxy]
     ·rw[if_neg hij,if_neg hij]
  ·cases e
 ·cases e
theorem J4 {X:Cx} (hc:X.calm=true:=by rfl):i7 X (.builtin "max") (fun vs H Q=>∃i j,vs=[.int i,.int j]/\Q (.int (if j > i then j else i)) H):=by
 intro pins s σ H xs us Q I r ⟨i,j,e,q⟩;subst e;obtain⟨u1,u2,rfl,r1,r2⟩:=vals2 r;obtain⟨t1,rfl⟩:=r1;obtain⟨t2,rfl⟩:=r2;refine max_two_ints (I.ok.hd hc) fun h' tk hk=>?_;refine⟨.int (if j > i then j else i),H,I.kept (t':=tk) hk,?_,q⟩
 by_cases h:j > i
 ·exact⟨t2,by simp[h]⟩
 ·exact⟨t1,by simp[h]⟩
theorem Ga {C:Cn} {e e2:Expr} {f g:PSt->R PV} {p pos:N8} (hg:Gl C.X "max") (hm:C.X.mg "max"=none) (ha:EV C e f) (hb:EV C e2 g)
  (hs:Lk [e,e2] C.X.env=[(false,MZ e C.X.env),(false,MZ e2 C.X.env)]:=by exact nU rfl rfl) (hs2:Lk [e2] C.X.env=[(false,MZ e2 C.X.env)]:=by exact bz rfl) (hc:C.X.calm=true:=by rfl):EV C (.Call (.Name "max" p) [e,e2] [] pos) (ah f g CW):=by
 intro pins s σ H Q I ⟨ρ,vw,q⟩;refine om (J4 hc) hg hm (by decide +kernel) (bt ha (bt hb eX hs2) (by rw[hs,hs2])) (by decide) (by decide) (by rw[hs,hs2]) (by rw[hs2];rfl) pins s σ H Q I ⟨ρ,vw,q.bind.imp fun p _ k v H1 s1 r1=>⟨ρ,vw.same s1,(k.bind.same s1).imp fun p2 _ k2 u H2 s2 r2=>?_⟩⟩;obtain⟨z,ez,k3⟩:=k2.ofO;cases p with
 | int i=>
  cases p2 with
  | int j=>
   cases ez;cases (show v=.int i from r1);cases (show u=.int j from r2);exact⟨i,j,rfl,k3 _ H2 (s1.trans s2) rfl⟩
  | _=>cases ez
 | _=>cases ez
end PU
namespace PU
open PySem PySem.Spec PyProof.Rows L2
def Ay(i:Nat):PSt->R Fl:=fun ρ=>match ρ[i]? with
 | some (.own p)=>.ok (.ret p)
 | _=>.no
def runN(m n:Nat)(g:PSt->R Fl)(ps:List PV):Option PV:=if ps.length=m then (match g (start n ps) with
 | .ok (.ret p)=>some p
 | _=>none) else none
section
variable{g g' : PSt → R Fl}{t : PSt → R Bool}{f fk fv : PSt → R PV}{i : Nat}
theorem pC(i:Nat)(f:PSt->R PV)(ρ:PSt)(p:PV):mC i f ρ≠.ok (.ret p):=by
 unfold mC;cases f ρ with
 | ok q=>intro h;cases h
 | er x=>intro h;cases h
 | no=>intro h;cases h
theorem xT(i:Nat)(f:PSt->R PV)(ρ:PSt)(p:PV):qB i f ρ≠.ok (.ret p):=by
 unfold qB;intro h;split at h
 ·cases hf:f ρ with
  | ok q=>
   rw[hf,R.ok_bind] at h
   repeat' split at h
   all_goals cases h
  | er x=>rw[hf] at h;cases h
  | no=>rw[hf] at h;cases h
 ·cases h
theorem wZ{h:Tgt}{fi:PSt->R (List PV)}(hg:∀ρ p,g ρ≠.ok (.ret p))(ρ:PSt)(p:PV):iB fi h g ρ≠.ok (.ret p):=by
 have go:∀(ps:List PV)(ρ:PSt),gh h g ps ρ≠.ok (.ret p):=by
  intro ps
  induction ps with
  | nil=>intro ρ h;cases h
  | cons x ps ih=>
   intro ρ e;unfold gh at e;cases h1:h x ρ with
   | none=>rw[h1] at e;cases e
   | some ρ1=>
    rw[h1,R.ofO_some,R.ok_bind] at e;cases h2:g ρ1 with
    | ok fl=>
     rw[h2,R.ok_bind] at e;cases fl with
     | next ρ2=>exact ih ρ2 e
     | cont ρ2=>exact ih ρ2 e
     | brk ρ2=>cases e
     | ret q=>exact hg ρ1 q h2
    | er x=>rw[h2] at e;cases e
    | no=>rw[h2] at e;cases e
 unfold iB;intro e;cases h1:fi ρ with
 | ok ps=>rw[h1,R.ok_bind] at e;exact go ps ρ e
 | er x=>rw[h1] at e;cases e
 | no=>rw[h1] at e;cases e
end
variable[TW]
section
variable{C : Cn}
theorem yL(i:Nat){x:Str}{np pos:N8}(hN:C.X.N[i]?=some x:=by rfl)(hv:Vis C.X.env.scope x:=by first | exact Qa rfl | exact Pu (Qa rfl) | exact Pu (Pu rfl))
  (hd:(x == ("__debug__":Str))=false:=by decide) (hcd:(x == ("__classdict__":Str))=false:=by decide):SVN C [.Return (some (.Name x np)) pos] (Ay i):=by
 intro pins s σ H D I ⟨ρ,B,S,h⟩;unfold Ay at h;split at h
 ·rename_i p e1
  obtain⟨a,ea,nw⟩:=S.vw i _ e1;exact qO (vt (gM hN hv hd hcd)) pins s σ H D I ⟨.ref a,ea,h a H S.same (S.fresh i p a e1 ea) nw⟩
 ·exact LU h
end
section
variable{P : Ll}{w : Lx}{K : LA}{mg : Str → Option LB}{base : Heap}
theorem BX{x qual:Str}{st:Stmt}{f:Addr}{fd:Mx}{N ps:List Str}{k:Nat}{g:PSt->R Fl}(F:Fun K x qual st f fd)(S:FnScope N ps (aa st))(hm:mg x=some (.ref f))(hb:Binds K fd ps [])
  (hbody:∀(cdv:LB)(A:M6)(outer:List QO)(s:LF)(H:Hp)(E:XK),Room k (A.deeper (Oh qual (aa st) s.heap.objs.size f cdv))->SVN (DN P w K mg base N qual (aa st) f cdv A outer s H E) (bH st) g) :
  PFN P w K mg base (k+1) x (runN ps.length N.length g):=by
 refine⟨f,fd,ps,F.ok S (fun vs H Q E h=>h.1) (fun cdv A outer s H vs Q E hr' h=>?_),hm,F.kp,hb,fun qs p h=>?_⟩
 ·obtain⟨hl,tb,qs,p,r,e0,k⟩:=h
  refine⟨_,hbody cdv A outer s H E hr',start N.length qs,(H,H),kJ tb r,?_⟩;unfold runN at e0;rw[if_pos (by rw[r.length];exact hl)] at e0;split at e0
  ·rename_i q hq
   rw[hq];cases e0;exact fun a H' s' n' w'=>k a H' s' n' w'
  ·cases e0
 ·unfold runN at h
  split at h
  ·rename_i hl;exact hl
  ·cases h
end
end PU
namespace PU
open PySem L2
def GZ(p:PV):R (List PV):=match p with
 | .int j=>if j.natAbs<1000000000 then .ok (cg 0 j.toNat) else .no
 | _=>.no
def DG(p q:PV):R (List PV):=match p,q with
 | .int i,.int j=>if i.natAbs<1000000000/\j.natAbs<1000000000 then .ok (cg i (j-i).toNat) else .no
 | _,_=>.no
theorem uW{j:Int}(h0:0<=j)(h1:j<1000000000):GZ (.int j)=.ok (cg 0 j.toNat):=by
 unfold GZ;exact if_pos (by omega)
theorem uV{i j:Int}(h0:0<=i)(h1:i<1000000000)(h2:0<=j)(h3:j<1000000000):DG (.int i) (.int j)=.ok (cg i (j-i).toNat):=by
 unfold DG;exact if_pos ⟨by omega,by omega⟩
section
def Eo(g':PSt->R Fl):R Fl->R Fl
 | .ok (.next ρ)=>g' ρ
 | .ok (.brk ρ)=>.ok (.brk ρ)
 | .ok (.cont ρ)=>.ok (.cont ρ)
 | .ok (.ret p)=>.ok (.ret p)
 | .er x=>.er x
 | .no=>.no
def uM{α β:Type}(f:α->β):R α->R β
 | .ok a=>.ok (f a)
 | .er x=>.er x
 | .no=>.no
def jE{α β:Type}(f:α->R β):R α->R β
 | .ok a=>f a
 | .er x=>.er x
 | .no=>.no
def ifK{α:Type}(g g':PSt->R α)(ρ:PSt):R Bool->R α
 | .ok true=>g ρ
 | .ok false=>g' ρ
 | .er x=>.er x
 | .no=>.no
def nN{α β γ:Type}(f:α->β->R γ):R α->R β->R γ
 | .ok a,.ok b=>f a b
 | .ok _,.er x=>.er x
 | .ok _,.no=>.no
 | .er x,_=>.er x
 | .no,_=>.no
variable{α : Type}{ρ : PSt}{f fa fb fc : PSt → R PV}{g g' : PSt → R Fl}{t u : PSt → R Bool}{i : Nat}
@[simp] theorem nv:Eo g' (.ok (.next ρ))=g' ρ:=by unfold Eo;exact M0 _
@[simp] theorem wG(p:PV):Eo g' (.ok (.ret p))=.ok (.ret p):=by unfold Eo;exact M0 _
@[simp] theorem FD{β:Type}(f:α->β)(a:α):uM f (.ok a)=.ok (f a):=by unfold uM;exact M0 _
@[simp] theorem lQ{β:Type}(f:α->R β)(a:α):jE f (.ok a)=f a:=by unfold jE;exact M0 _
@[simp] theorem JH(g g':PSt->R α):ifK g g' ρ (.ok true)=g ρ:=by unfold ifK;exact M0 _
@[simp] theorem JI(g g':PSt->R α):ifK g g' ρ (.ok false)=g' ρ:=by unfold ifK;exact M0 _
@[simp] theorem wF{β γ:Type}(f:α->β->R γ)(a:α)(b:β):nN f (.ok a) (.ok b)=f a b:=by unfold nN;exact M0 _
@[simp] theorem uR:aI g g' ρ=Eo g' (g ρ):=by
 unfold aI;cases g ρ with
 | ok fl=>cases fl <;> rfl
 | er x=>rfl
 | no=>rfl
@[simp] theorem Hi:cL ρ=.ok (.next ρ):=by unfold cL;exact M0 _
@[simp] theorem Ap:cb f ρ=uM .ret (f ρ):=by unfold cb;cases f ρ <;> rfl
@[simp] theorem JZ:ifF t g g' ρ=ifK g g' ρ (t ρ):=by
 unfold ifF;cases t ρ with
 | ok b=>cases b <;> rfl
 | er x=>rfl
 | no=>rfl
def HI(i:Nat)(ρ:PSt)(p:PV):Fl:=.next (ρ.set i (.val p))
def I9(i:Nat)(ρ:PSt)(p:PV):Fl:=.next (ρ.set i (.own p))
@[simp] theorem Iz(p:PV):HI i ρ p=.next (ρ.set i (.val p)):=by unfold HI;exact M0 _
@[simp] theorem KF(p:PV):I9 i ρ p=.next (ρ.set i (.own p)):=by unfold I9;exact M0 _
@[simp] theorem DU:bK i f ρ=uM (HI i ρ) (f ρ):=by unfold bK;cases f ρ <;> rfl
@[simp] theorem Jl:mC i f ρ=uM (I9 i ρ) (f ρ):=by unfold mC;cases f ρ <;> rfl
@[simp] theorem Jt:qA i g ρ=g (ux i ρ):=by unfold qA;exact M0 _
@[simp] theorem Jr(j:Int):kI j ρ=.ok (.int j):=by unfold kI;exact M0 _
@[simp] theorem JW(j:Bool):kB j ρ=.ok (.bl j):=by unfold kB;exact M0 _
@[simp] theorem L9:kN ρ=.ok .non:=by unfold kN;exact M0 _
@[simp] theorem L7(j:Str):kS j ρ=.ok (.str j):=by unfold kS;exact M0 _
@[simp] theorem L8(j:PV):kP j ρ=.ok j:=by unfold kP;exact M0 _
@[simp] theorem Jo:aM ρ=.ok []:=by unfold aM;exact M0 _
def Dl(p:PV)(ps:List PV):R (List PV):=.ok (p::ps)
@[simp] theorem JL(p:PV)(ps:List PV):Dl p ps=.ok (p::ps):=by unfold Dl;exact M0 _
@[simp] theorem Ho{fs:PSt->R (List PV)}:a7 f fs ρ=nN Dl (f ρ) (fs ρ):=by unfold a7;cases f ρ <;> cases fs ρ <;> rfl
def tupP(ps:List PV):R PV:=if ps.length<=16777216 then .ok (.tup ps) else .no
def lstP(ps:List PV):R PV:=if ps.length<=16777216 then .ok (.lst ps) else .no
@[simp] theorem Iy(ps:List PV):tupP ps=if ps.length<=16777216 then .ok (.tup ps) else .no:=by unfold tupP;exact M0 _
@[simp] theorem FE(ps:List PV):lstP ps=if ps.length<=16777216 then .ok (.lst ps) else .no:=by unfold lstP;exact M0 _
@[simp] theorem Jh{fs:PSt->R (List PV)}:fD fs ρ=jE tupP (fs ρ):=by
 unfold fD;cases fs ρ with
 | ok ps=>simp only[R.ok_bind,iz,lQ,Iy];split <;> rfl
 | er x=>rfl
 | no=>rfl
@[simp] theorem Jq{fs:PSt->R (List PV)}:pJ fs ρ=jE lstP (fs ρ):=by
 unfold pJ;cases fs ρ with
 | ok ps=>simp only[R.ok_bind,iz,lQ,FE];split <;> rfl
 | er x=>rfl
 | no=>rfl
def opP(g:PV->PV->Option PV)(p q:PV):R PV:=R.ofO (g p q)
def op1(g:PV->Option PV)(p:PV):R PV:=R.ofO (g p)
@[simp] theorem Le(g:PV->PV->Option PV)(p q:PV):opP g p q=R.ofO (g p q):=by unfold opP;exact M0 _
@[simp] theorem FC(g:PV->Option PV)(p:PV):op1 g p=R.ofO (g p):=by unfold op1;exact M0 _
@[simp] theorem Jv{g:PV->PV->Option PV}:ah fa fb g ρ=nN (opP g) (fa ρ) (fb ρ):=by unfold ah;cases fa ρ <;> cases fb ρ <;> rfl
@[simp] theorem DT{g:PV->Option PV}:un1 f g ρ=jE (op1 g) (f ρ):=by unfold un1;cases f ρ <;> rfl
def Hx(p:PV):R Bool:=R.ofO (yd p)
@[simp] theorem Kx(p:PV):Hx p=R.ofO (yd p):=by unfold Hx;exact M0 _
@[simp] theorem Ji:di f ρ=jE Hx (f ρ):=by unfold di;cases f ρ <;> rfl
@[simp] theorem Jx:DO t u ρ=ifK u (fun _=>.ok false) ρ (t ρ):=by
 unfold DO;cases t ρ with
 | ok b=>cases b <;> rfl
 | er x=>rfl
 | no=>rfl
@[simp] theorem JV:orB t u ρ=ifK (fun _=>.ok true) u ρ (t ρ):=by
 unfold orB;cases t ρ with
 | ok b=>cases b <;> rfl
 | er x=>rfl
 | no=>rfl
@[simp] theorem Jm:ym t ρ=uM not (t ρ):=by unfold ym;cases t ρ <;> rfl
@[simp] theorem JY:ifV t fa fb ρ=ifK fa fb ρ (t ρ):=by
 unfold ifV;cases t ρ with
 | ok b=>cases b <;> rfl
 | er x=>rfl
 | no=>rfl
@[simp] theorem rO:iT ρ=.ok true:=by unfold iT;exact M0 _
def Ds(F:List PV->Option PV)(ps:List PV):R PV:=R.ofO (F ps)
@[simp] theorem JM(F:List PV->Option PV)(ps:List PV):Ds F ps=R.ofO (F ps):=by unfold Ds;exact M0 _
@[simp] theorem Hr{fs:PSt->R (List PV)}{F:List PV->Option PV}:aK fs F ρ=jE (Ds F) (fs ρ):=by unfold aK;cases fs ρ <;> rfl
def itQ(F:PV->Option (List PV))(p:PV):R (List PV):=R.ofO (F p)
@[simp] theorem Lf(F:PV->Option (List PV))(p:PV):itQ F p=R.ofO (F p):=by unfold itQ;exact M0 _
@[simp] theorem JX:itF f ρ=jE (itQ eN) (f ρ):=by unfold itF;cases f ρ <;> rfl
@[simp] theorem Hl:rD f ρ=jE (itQ rC) (f ρ):=by unfold rD;cases f ρ <;> rfl
def IT(h:Tgt)(g:PSt->R Fl)(ρ:PSt)(ps:List PV):R Fl:=gh h g ps ρ
@[simp] theorem FF(h:Tgt)(ps:List PV):IT h g ρ ps=gh h g ps ρ:=by unfold IT;exact M0 _
@[simp] theorem Aq{fi:PSt->R (List PV)}{h:Tgt}:iB fi h g ρ=jE (IT h g ρ) (fi ρ):=by unfold iB;cases fi ρ <;> rfl
@[simp] theorem Jj:Ax f ρ=jE GZ (f ρ):=by unfold Ax;cases f ρ <;> rfl
@[simp] theorem Ao:DH fa fb ρ=nN DG (fa ρ) (fb ρ):=by unfold DH;cases fa ρ <;> cases fb ρ <;> rfl
@[simp] theorem GJ{g:PV->PV->Option PV}(x:Str):qX (kS x) fb g ρ=jE (opP g (.str x)) (fb ρ):=by unfold qX;cases fb ρ <;> rfl
@[simp] theorem GG:fG ρ=.ok none:=by unfold fG;exact M0 _
def aP(p:PV):R (Option Int):=match p with
 | .int i=>.ok (some i)
 | _=>.no
@[simp] theorem Lg(i:Int):aP (.int i)=.ok (some i):=by unfold aP;exact M0 _
@[simp] theorem Ht:i6 f ρ=jE aP (f ρ):=by unfold i6;cases f ρ <;> rfl
def slQ(p:PV)(lh:Option Int×Option Int):R PV:=R.ofO (gSl p lh.1 lh.2)
def pB(a b:Option Int):R (Option Int×Option Int):=.ok (a,b)
@[simp] theorem Ld(p:PV)(a b:Option Int):slQ p (a,b)=R.ofO (gSl p a b):=by unfold slQ;exact M0 _
@[simp] theorem JF(a b:Option Int):pB a b=.ok (a,b):=by unfold pB;exact M0 _
@[simp] theorem GE{l h:PSt->R (Option Int)}:lj f l h ρ=nN slQ (f ρ) (nN pB (l ρ) (h ρ)):=by unfold lj;cases f ρ <;> cases l ρ <;> cases h ρ <;> rfl
@[simp] theorem Jp:newD ρ=.ok (.dct [] []):=by unfold newD;exact M0 _
@[simp] theorem Jn:Ff ρ=.ok []:=by unfold Ff;exact M0 _
def Fy(p:PV):R Key:=R.ofO (eF p)
@[simp] theorem AZ(p:PV):Fy p=R.ofO (eF p):=by unfold Fy;exact M0 _
def kvQ(k:Key)(p:PV):R (Key×PV):=.ok (k,p)
@[simp] theorem KG(k:Key)(p:PV):kvQ k p=.ok (k,p):=by unfold kvQ;exact M0 _
def Dk(a:Key×PV)(r:List (Key×PV)):R (List (Key×PV)):=.ok (a::r)
@[simp] theorem IF(a:Key×PV)(r:List (Key×PV)):Dk a r=.ok (a::r):=by unfold Dk;exact M0 _
@[simp] theorem Hn{fd:PSt->R (List (Key×PV))}:oJ fa fb fd ρ=nN Dk (nN kvQ (jE Fy (fa ρ)) (fb ρ)) (fd ρ):=by
 unfold oJ;cases fa ρ with
 | ok p=>simp only[R.ok_bind,lQ,AZ];cases eF p <;> cases fb ρ <;> cases fd ρ <;> rfl
 | er x=>cases fb ρ <;> cases fd ρ <;> rfl
 | no=>cases fb ρ <;> cases fd ρ <;> rfl
def Dh(kps:List (Key×PV)):R PV:=if kps.length<=15 then .ok (gR kps) else .no
@[simp] theorem ID(kps:List (Key×PV)):Dh kps=if kps.length<=15 then .ok (gR kps) else .no:=by unfold Dh;exact M0 _
@[simp] theorem Hm{fd:PSt->R (List (Key×PV))}:xq fd ρ=jE Dh (fd ρ):=by unfold xq;cases fd ρ <;> rfl
def Dm(h:Tgt)(t:PSt->R Bool)(fe:PSt->R PV)(ρ:PSt)(ps:List PV):R PV:=jE lstP (C9 (c8 h t fe ρ ps))
@[simp] theorem FG(h:Tgt)(ps:List PV):Dm h t f ρ ps=jE lstP (C9 (c8 h t f ρ ps)):=by unfold Dm;exact M0 _
@[simp] theorem Hq{fi:PSt->R (List PV)}{h:Tgt}{nt:Nat}{idx:List Nat}:gm fi h t f nt idx ρ=jE (Dm h t f (bY nt idx ρ)) (fi ρ):=by
 unfold gm;cases fi ρ with
 | ok ps=>
  simp only[R.ok_bind,lQ,FG];cases c8 h t f (bY nt idx ρ) ps with
  | ok qs=>simp only[C9,R.ok_bind,lQ,FE,iz];split <;> rfl
  | er x=>rfl
  | no=>rfl
 | er x=>rfl
 | no=>rfl
@[simp] theorem qC(p:PV):ai i p ρ=some (ρ.set i (.val p)):=by unfold ai;exact M0 _
@[simp] theorem GH(a:α):C9 (.ok a)=.ok a:=by unfold C9;exact M0 _
end
section
variable{p : PV}{l : Sl}{ρ : PSt}{i : Nat}
@[simp] theorem qD:a8 0 (.val p::ρ)=.ok p:=by unfold a8;exact M0 _
@[simp] theorem Bk:a8 (i+1) (l::ρ)=a8 i ρ:=by unfold a8;rw[Lr]
@[simp] theorem GK:lX 0 (.own p::ρ)=.ok p:=by unfold lX;exact M0 _
@[simp] theorem Hj:lX (i+1) (l::ρ)=lX i ρ:=by unfold lX;rw[Lr]
@[simp] theorem Ju:ux 0 (.own p::ρ)=.val p::ρ:=by unfold ux;exact M0 _
@[simp] theorem Hk:ux 0 (.val p::ρ)=.val p::ρ:=by unfold ux;exact M0 _
theorem wX:ux (i+1) (l::ρ)=l::ux i ρ:=by
 unfold ux;simp only[Lr];cases ρ[i]? with
 | none=>rfl
 | some x=>cases x <;> rfl
@[simp] theorem Js:ux (i+1) (l::ρ)=l::ux i ρ:=wX
def roA(i:Nat)(ρ:PSt):Sl:=roS ρ[i]?
@[simp] theorem KC:roA 0 (.val p::ρ)=.val p:=by unfold roA roS;exact M0 _
@[simp] theorem Kz:roA (i+1) (l::ρ)=roA i ρ:=by unfold roA;rw[Lr]
theorem uS(nt:Nat)(idx:List Nat):bY nt idx ρ=Mi nt .no++idx.map fun i=>roA i ρ:=by unfold bY roA;exact M0 _
def Bg(i:Nat)(ρ:PSt)(p:PV):R PSt:=match ρ[i]? with
 | some (.own (.lst ps))=>if ps.length<16777216 then .ok (ρ.set i (.own (.lst (ps++[p])))) else .no
 | _=>.no
def yo(i:Nat)(ρ:PSt):Bool:=match ρ[i]? with
 | some (.own (.lst _))=>true
 | _=>false
def zY(l:Sl)(ρ:PSt):PSt:=l::ρ
@[simp] theorem IE:zY l ρ=l::ρ:=by unfold zY;exact M0 _
@[simp] theorem JO(ps:List PV):Bg 0 (.own (.lst ps)::ρ) p=if ps.length<16777216 then .ok (.own (.lst (ps++[p]))::ρ) else .no:=by unfold Bg;exact M0 _
@[simp] theorem JN:Bg (i+1) (l::ρ) p=uM (zY l) (Bg i ρ p):=by
 unfold Bg;rw[Lr];cases ρ[i]? with
 | none=>rfl
 | some x=>
  cases x with
  | own q=>
   cases q with
   | lst ps=>dsimp only;split <;> rfl
   | _=>rfl
  | _=>rfl
@[simp] theorem JK(ps:List PV):yo 0 (.own (.lst ps)::ρ)=true:=by unfold yo;exact M0 _
@[simp] theorem JJ:yo (i+1) (l::ρ)=yo i ρ:=by unfold yo;rw[Lr]
def Gx(i:Nat)(ρ:PSt)(p:PV):R Fl:=uM .next (Bg i ρ p)
@[simp] theorem FH:Gx i ρ p=uM .next (Bg i ρ p):=by unfold Gx;exact M0 _
theorem Dw(f:PSt->R PV)(h:yo i ρ=true):qB i f ρ=jE (Gx i ρ) (f ρ):=by
 unfold yo at h;unfold qB;cases e:ρ[i]? with
 | none=>rw[e] at h;cases h
 | some x=>
  rw[e] at h;cases x with
  | own q=>
   cases q with
   | lst ps=>
    dsimp only;cases f ρ with
    | ok p=>
     simp only[R.ok_bind,lQ,FH];unfold Bg;rw[e];dsimp only
     split <;> rfl
    | er x=>rfl
    | no=>rfl
   | _=>cases h
  | _=>cases h
def Hd(b:Bool)(i:Nat)(ρ:PSt)(r:R PV):R Fl:=if b=true then jE (Gx i ρ) r else .no
@[simp] theorem FI(r:R PV):Hd true i ρ r=jE (Gx i ρ) r:=by unfold Hd;exact if_pos rfl
@[simp] theorem Jw(f:PSt->R PV):qB i f ρ=Hd (yo i ρ) i ρ (f ρ):=by
 cases h:yo i ρ with
 | true=>rw[Dw f h,FI]
 | false=>
  unfold Hd;rw[if_neg LW];unfold yo at h;unfold qB
  split
  ·rename_i ps e
   rw[e] at h;cases h
  ·rfl
def AF(i:Nat)(ρ:PSt)(k:Key)(p:PV):R PSt:=match ρ[i]? with
 | some (.own (.dct ks ps))=>if ks.length<16777216 then .ok (ρ.set i (.own (kO ks ps k p))) else .no
 | _=>.no
def CU(i:Nat)(ρ:PSt):Bool:=match ρ[i]? with
 | some (.own (.dct _ _))=>true
 | _=>false
@[simp] theorem JE(ks:List Key)(ps:List PV)(k:Key):AF 0 (.own (.dct ks ps)::ρ) k p=if ks.length<16777216 then .ok (.own (kO ks ps k p)::ρ) else .no:=by unfold AF;exact M0 _
@[simp] theorem JD(k:Key):AF (i+1) (l::ρ) k p=uM (zY l) (AF i ρ k p):=by
 unfold AF;rw[Lr];cases ρ[i]? with
 | none=>rfl
 | some x=>
  cases x with
  | own q=>
   cases q with
   | dct ks ps=>dsimp only;split <;> rfl
   | _=>rfl
  | _=>rfl
@[simp] theorem IC(ks:List Key)(ps:List PV):CU 0 (.own (.dct ks ps)::ρ)=true:=by unfold CU;exact M0 _
@[simp] theorem IA:CU (i+1) (l::ρ)=CU i ρ:=by unfold CU;rw[Lr]
def H8(i:Nat)(ρ:PSt)(p:PV)(k:Key):R Fl:=uM .next (AF i ρ k p)
@[simp] theorem Fz(k:Key):H8 i ρ p k=uM .next (AF i ρ k p):=by unfold H8;exact M0 _
def HU(b:Bool)(i:Nat)(ρ:PSt)(v:R PV)(k:R PV):R Fl:=if b=true then nN (H8 i ρ) v (jE Fy k) else .no
@[simp] theorem FB(v k:R PV):HU true i ρ v k=nN (H8 i ρ) v (jE Fy k):=by unfold HU;exact if_pos rfl
@[simp] theorem Jk(fk fv:PSt->R PV):ua i fk fv ρ=HU (CU i ρ) i ρ (fv ρ) (fk ρ):=by
 unfold ua CU;cases e:ρ[i]? with
 | none=>rfl
 | some x=>
  cases x with
  | own q=>
   cases q with
   | dct ks ps=>
    dsimp only;rw[FB];cases fv ρ with
    | ok p=>
     simp only[R.ok_bind];cases fk ρ with
     | ok kp=>
      simp only[R.ok_bind,lQ,AZ];cases eF kp with
      | none=>rfl
      | some k=>
       simp only[R.ofO_some,R.ok_bind,wF,Fz];unfold AF;rw[e];dsimp only
       split <;> rfl
     | er x=>rfl
     | no=>rfl
    | er x=>rfl
    | no=>rfl
   | _=>rfl
  | _=>rfl
end
@[simp] theorem Ef(a b:Int):fI (.int a) (.int b)=some (.int (a+b)):=rfl
theorem l6{a b:Str}(h:a.length+b.length<=16777216):fI (.str a) (.str b)=some (.str (a++b)):=if_pos h
theorem uX{a b:List PV}(h:a.length+b.length<=16777216):fI (.lst a) (.lst b)=some (.lst (a++b)):=if_pos h
@[simp] theorem Ee(a b:List PV):fI (.tup a) (.tup b)=if a.length+b.length<=16777216 then some (.tup (a++b)) else none:=rfl
@[simp] theorem K2(a b:Int):JP (.int a) (.int b)=some (.int (a-b)):=rfl
theorem yz{a b:Int}(h:a.natAbs<18446744073709551616\/b.natAbs<18446744073709551616):wU (.int a) (.int b)=some (.int (a * b)):=if_pos h
theorem yC{a b:Int}(h:0<b/\b<1073741824):CZ (.int a) (.int b)=some (.int (a / b)):=if_pos h
theorem gx{a b:Int}(h:0<b):dS (.int a) (.int b)=some (.int (a % b)):=if_pos h
@[simp] theorem v_lt(a b:Int):gLt (.int a) (.int b)=some (.bl (decide (a<b))):=rfl
@[simp] theorem La(a b:Int):gLe (.int a) (.int b)=some (.bl (decide (a<=b))):=rfl
@[simp] theorem Lb(a b:Int):gGt (.int a) (.int b)=some (.bl (decide (b<a))):=rfl
@[simp] theorem Lc(a b:Int):gGe (.int a) (.int b)=some (.bl (decide (b<=a))):=rfl
@[simp] theorem GO(x y:Str):gLt (.str x) (.str y)=some (.bl (decide (x.cps.toList<y.cps.toList))):=rfl
@[simp] theorem GW(a b:Int):gEq (.int a) (.int b)=some (.bl (decide (a=b))):=by simp[gEq,mD,scV,yP]
@[simp] theorem yB(a b:Str):gEq (.str a) (.str b)=some (.bl (decide (a=b))):=by simp[gEq,mD,scV,yP]
@[simp] theorem GM(b:Bool):yd (.bl b)=some b:=rfl
@[simp] theorem E2(ps:List PV):yd (.lst ps)=some (!ps.isEmpty):=rfl
@[simp] theorem E3(ks:List Key)(ps:List PV):yd (.dct ks ps)=some (!ks.isEmpty):=rfl
@[simp] theorem E8(ps:List PV):kD (.lst ps)=some (.int ps.length):=rfl
@[simp] theorem E7(ps:List PV):kD (.tup ps)=some (.int ps.length):=rfl
theorem gy{x:Str}(h:x.length<=16777216):kD (.str x)=some (.int x.length):=if_pos h
@[simp] theorem GQ(ps:List PV)(i:Int):gIx (.lst ps) (.int i)=atI ps i:=rfl
@[simp] theorem GP(ps:List PV)(i:Int):gIx (.tup ps) (.int i)=atI ps i:=rfl
theorem yA{z:Str}{i:Int}{c:Nat}(h:z.length<=16777216)(e:atI z.cps.toList i=some c):gIx (.str z) (.int i)=some (.str ⟨#[c]⟩):=by
 show (if z.length<=16777216 then (atI z.cps.toList i).map fun c=>PV.str ⟨#[c]⟩ else none)=_;rw[if_pos h,e];rfl
@[simp] theorem GR(ks:List Key)(ps:List PV)(k:PV):gIx (.dct ks ps) k=(eF k).bind fun k=>bJ ks ps k:=rfl
@[simp] theorem Ea(i:Int):eF (.int i)=some (.inl i):=rfl
@[simp] theorem E9(x:Str):eF (.str x)=some (.inr x):=rfl
@[simp] theorem mP(k j:Key)(ks:List Key)(p:PV)(ps:List PV):bJ (k::ks) (p::ps) j=if k=j then some p else bJ ks ps j:=rfl
@[simp] theorem GV(b:Bool):Hb (.bl b)=some (.int (if b then 1 else 0)):=rfl
@[simp] theorem Ed(b:Int):Hb (.int b)=some (.int b):=rfl
@[simp] theorem E1(ps:List PV):nB (.lst ps)=some (.tup ps):=rfl
@[simp] theorem DZ(ps:List PV):nB (.tup ps)=some (.tup ps):=rfl
@[simp] theorem GT(ps:List PV):eN (.lst ps)=some ps:=rfl
@[simp] theorem GS(ps:List PV):eN (.tup ps)=some ps:=rfl
@[simp] theorem GU(ks:List Key)(ps:List PV):eN (.dct ks ps)=some (ks.map zG):=rfl
@[simp] theorem Jy(x:Str):zG (.inr x)=.str x:=rfl
@[simp] theorem DE(ps:List PV):rC (.lst ps)=some ((yk ps).map .tup):=rfl
@[simp] theorem DC(x:Str):rC (.str x)=some ((yk (gz x)).map .tup):=rfl
@[simp] theorem E5(i:Int):JQ (.int i)=if i.natAbs.log2<1920 then some (.str (toString i)) else none:=rfl
@[simp] theorem E4(x:Str):JQ (.str x)=some (.str x):=rfl
@[simp] theorem Hw(x:Str):FT (.str x)=true:=rfl
@[simp] theorem GN(ps:List PV)(lo hi:Option Int):gSl (.lst ps) lo hi=some (.lst (jD ps lo hi)):=rfl
theorem bf{α:Type}{xs:List α}{i:Int}{n:Nat}{x:α}(hi:i=n)(h:xs[n]?=some x):atI xs i=some x:=by
 subst hi;have hl:=(LM.mp h).1;unfold atI ixN;rw[if_pos (by omega),if_pos (by omega)];simpa using h
@[simp] theorem KY{α:Type}(x:α)(xs:List α):atI (x::xs) 0=some x:=bf (n:=0) rfl rfl
@[simp] theorem KW{α:Type}(x y:α)(xs:List α):atI (x::y::xs) 1=some y:=bf (n:=1) rfl rfl
@[simp] theorem KU{α:Type}(x y z:α)(xs:List α):atI (x::y::z::xs) 2=some z:=bf (n:=2) rfl rfl
@[simp] theorem KR{α:Type}(x y z u:α)(xs:List α):atI (x::y::z::u::xs) 3=some u:=bf (n:=3) rfl rfl
theorem x5{h:Tgt}{g:PSt->R Fl}(I:Nat->PSt->Prop):∀(ps:List PV)(n:Nat)(ρ:PSt),I n ρ->
  (∀(i:Nat)(p:PV)(ρ:PSt),ps[i]?=some p->I (n+i) ρ->∃ρ1 ρ2,h p ρ=some ρ1/\(g ρ1=.ok (.next ρ2)\/g ρ1=.ok (.cont ρ2))/\I (n+i+1) ρ2)->
  ∃ρ',gh h g ps ρ=.ok (.next ρ')/\I (n+ps.length) ρ'
 | [],n,ρ,h0,_=>⟨ρ,rfl,h0⟩
 | p::ps,n,ρ,h0,hs=>by
  obtain⟨ρ1,ρ2,e1,e2,i2⟩:=hs 0 p ρ rfl h0
  obtain⟨ρ3,e3,i3⟩:=x5 I ps (n+1) ρ2 i2 fun i q ρ' hq hi=>by
   have:=hs (i+1) q ρ' (by simpa using hq) (by rw[show n+(i+1)=n+1+i by omega];exact hi);rw[show n+(i+1)+1=n+1+i+1 by omega] at this;exact this
  refine⟨ρ3,?_,by rw[Lz,show n+(ps.length+1)=n+1+ps.length by omega];exact i3⟩;unfold gh;rw[e1];rcases e2 with e2 | e2 <;> (simp only[R.ofO_some,R.ok_bind,e2];exact e3)
theorem zP{h:Tgt}{g:PSt->R Fl}{ps:List PV}{ρ:PSt}(I:Nat->PSt->Prop)(h0:I 0 ρ)
  (hs:∀(i:Nat)(p:PV)(ρ:PSt),ps[i]?=some p->I i ρ->∃ρ1 ρ2,h p ρ=some ρ1/\(g ρ1=.ok (.next ρ2)\/g ρ1=.ok (.cont ρ2))/\I (i+1) ρ2) :
  ∃ρ',gh h g ps ρ=.ok (.next ρ')/\I ps.length ρ':=by
 have:=x5 I ps 0 ρ h0 fun i p ρ hp hi=>by
  rw[QI] at hi ⊢;exact hs i p ρ hp hi
 simpa using this
theorem u0(lo:Int)(n:Nat):(cg lo n).length=n:=by simp[cg]
theorem u3{lo:Int}{n i:Nat}{p:PV}(h:(cg lo n)[i]?=some p):i<n/\p=.int (lo+i):=by
 unfold cg at h;rw[LO] at h
 by_cases hi:i<n
 ·rw[MW hi] at h
  exact⟨hi,(Ly h).symm⟩
 ·rw[MY (by simpa using hi)] at h
  cases h
theorem forR{h:Tgt}{g:PSt->R Fl}{lo:Int}{n:Nat}{ρ:PSt}(I:Nat->PSt->Prop)(h0:I 0 ρ)
  (hs:∀(i:Nat)(ρ:PSt),i<n->I i ρ->∃ρ1 ρ2,h (.int (lo+i)) ρ=some ρ1/\(g ρ1=.ok (.next ρ2)\/g ρ1=.ok (.cont ρ2))/\I (i+1) ρ2) :
  ∃ρ',gh h g (cg lo n) ρ=.ok (.next ρ')/\I n ρ':=by
 obtain⟨ρ',e,i'⟩:=zP (ps:=cg lo n) I h0 fun i p ρ hp hi=>by
  obtain⟨hn,rfl⟩:=u3 hp;exact hs i ρ hn hi
 rw[u0] at i';exact⟨ρ',e,i'⟩
theorem x4{α:Type}{enc:α->PV}{h:Tgt}{g:PSt->R Fl}{xs:List α}(I:List α->PSt->Prop)
  (hs:∀(pre:List α)(x:α)(post:List α)(ρ:PSt),xs=pre++x::post->I pre ρ->∃ρ1 ρ2,h (enc x) ρ=some ρ1/\(g ρ1=.ok (.next ρ2)\/g ρ1=.ok (.cont ρ2))/\I (pre++[x]) ρ2) :
  ∀(ys pre:List α)(ρ:PSt),xs=pre++ys->I pre ρ->∃ρ',gh h g (ys.map enc) ρ=.ok (.next ρ')/\I xs ρ'
 | [],pre,ρ,e,h0=>⟨ρ,rfl,by rw[e,Mb];exact h0⟩
 | y::ys,pre,ρ,e,h0=>by
  obtain⟨ρ1,ρ2,e1,e2,i2⟩:=hs pre y ys ρ e h0;obtain⟨ρ3,e3,i3⟩:=x4 I hs ys (pre++[y]) ρ2 (by rw[e];simp) i2;refine⟨ρ3,?_,i3⟩;rw[LH];unfold gh;rw[e1];rcases e2 with e2 | e2 <;> (simp only[R.ofO_some,R.ok_bind,e2];exact e3)
theorem forM{α:Type}{enc:α->PV}{h:Tgt}{g:PSt->R Fl}{xs:List α}{ρ:PSt}(I:List α->PSt->Prop)(h0:I [] ρ)
  (hs:∀(pre:List α)(x:α)(post:List α)(ρ:PSt),xs=pre++x::post->I pre ρ->∃ρ1 ρ2,h (enc x) ρ=some ρ1/\(g ρ1=.ok (.next ρ2)\/g ρ1=.ok (.cont ρ2))/\I (pre++[x]) ρ2) :
  ∃ρ',gh h g (xs.map enc) ρ=.ok (.next ρ')/\I xs ρ':=x4 I hs xs [] ρ rfl h0
end PU
namespace PU
open PySem PySem.Spec PyProof.Rows L2 PySem.SeqAt
def oY:List PV->Option (List Key)
 | []=>some []
 | p::r=>(eF p).bind fun k=>(oY r).map fun l=>k::l
def GX:PV->Option (Key ⊕ List Key)
 | .tup qs=>(oY qs).map .inr
 | p=>(eF p).map .inl
def ye:List PV->Option bW
 | []=>some []
 | p::r=>(GX p).bind fun k=>(ye r).map fun l=>k::l
def mB:PV->Option bW
 | .tup ps=>ye ps
 | _=>none
def ji:List bW->List PV->bW->Option PV
 | k::ks,p::ps,j=>if k=j then some p else ji ks ps j
 | _,_,_=>none
def yq:PV->PV->Option PV
 | .dtt ks ps,q=>(mB q).bind fun k=>ji ks ps k
 | _,_=>none
def k7:PV->PV->Option PV
 | q,.dtt ks _=>(mB q).map fun k=>.bl (!(ks.any fun j=>decide (j=k)))
 | _,_=>none
def BE(ks:List bW)(ps:List PV)(k:bW)(p:PV):List PV:=List.zipWith (fun j q=>if j=k then p else q) ks ps
def uK(ks:List bW)(ps:List PV)(k:bW)(p:PV):PV:=if (ks.any fun j=>decide (j=k))=true then .dtt ks (BE ks ps k p) else .dtt (ks++[k]) (ps++[p])
def mF(i:Nat)(fk fv:PSt->R PV):PSt->R Fl:=fun ρ=>match ρ[i]? with
 | some (.own (.dtt ks ps))=>fv ρ >>= fun p=>fk ρ >>= fun kp=>R.ofO (mB kp) >>= fun k=>if ks.length<16777216 then .ok (.next (ρ.set i (.own (uK ks ps k p)))) else .no
 | _=>.no
def zW(fk fv:PSt->R PV):PSt->R PV:=fun ρ=>fk ρ >>= fun kp=>fv ρ >>= fun p=>R.ofO (mB kp) >>= fun k=>.ok (.dtt [k] [p])
def Ce:PSt->R PV:=fun _=>.ok (.dtt [] [])
variable[TW]
theorem oX{K:LA}{H:Hp}:∀{ps:List PV}{xs:List V}{ks:List Key},oY ps=some ks->aF K H ps xs->xs=ks.map kV
 | [],_,_,e,r=>by cases e;cases r;rfl
 | p::ps,_,_,e,⟨x,t,ex,h1,h2⟩=>by
  obtain⟨k,ek,e⟩:=LR.mp e;obtain⟨l,el,e⟩:=LK.mp e;subst e ex;rw[LH,← dF ek h1.o,← oX el h2]
theorem oW{K:LA}{H:Hp}:∀{ps:List PV}{xs:List V}{ks:bW},ye ps=some ks->aF K H ps xs->NV H ks xs
 | [],xs,ks,e,r=>by cases e;exact r
 | p::ps,xs,ks,e,r=>by
  obtain⟨x,t,rfl,r1,r2⟩:=r;unfold ye at e;obtain⟨k,e1,e⟩:=LR.mp e;obtain⟨l,e2,e⟩:=LK.mp e;cases e;have ih:=oW e2 r2;cases p with
  | tup qs=>
   obtain⟨j,e3,e4⟩:=LK.mp (show (oY qs).map Ml=some k from e1);subst e4;obtain⟨c,ys,rfl,hc,rr⟩:=r1;rw[oX e3 rr] at hc;exact⟨c,t,rfl,hc,ih⟩
  | int i=>
   cases e1;cases (show x=.int i from r1);exact⟨t,rfl,ih⟩
  | str i=>
   cases e1;cases (show x=.str i from r1);exact⟨t,rfl,ih⟩
  | _=>cases e1
theorem iY{K:LA}{H:Hp}{p:PV}{v:V}{k:bW}(e:mB p=some k)(r:aX K H p v):∃b,v=.ref b/\fm H b k:=by
 cases p with
 | tup ps=>
  obtain⟨a,xs,rfl,g,rr⟩:=r;exact⟨a,rfl,xs,g,oW e rr⟩
 | _=>cases e
theorem pL{K:LA}{H:Hp}{k:bW}:∀{ks:List bW}{ps:List PV}{kvs:List (bW×V)}{p:PV},kvs.map (·.1)=ks->aF K H ps (kvs.map (·.2))->ji ks ps k=some p->∃v,jG kvs k=some v/\Rep K H p v
 | _,_,[],_,h1,h2,e=>by
  subst h1;simp only[NR,ji] at e;cases e
 | _,[],kv::kvs,_,h1,h2,e=>by
  cases h2
 | _,q::ps,kv::kvs,p,h1,h2,e=>by
  subst h1;obtain⟨x,r,ex,hx,ht⟩:=h2;simp only[LH,N9] at ex;obtain⟨rfl,rfl⟩:=ex;simp only[LH,ji] at e
  by_cases hk:kv.1=k
  ·rw[if_pos hk] at e
   cases e;exact⟨_,by simp[jG,hk],hx⟩
  ·rw[if_neg hk] at e
   obtain⟨v,ev,rv⟩:=pL rfl ht e;exact⟨v,by unfold jG at ev ⊢;rw[OP (by simp[hk])];exact ev,rv⟩
theorem rQ{kvs:List (bW×V)}{k:bW}:(jG kvs k).isSome=((kvs.map (·.1)).any fun j=>decide (j=k)):=by
 rw[O6];unfold jG;rw[Pz]
 induction kvs with
 | nil=>rfl
 | cons kv r ih=>
  rw[Mp,N2];simp only[Nh];cases decide (kv.1=k) with
  | true=>rfl
  | false=>exact ih
section
variable{X : Cx}
theorem ixT(hu:X.A.units+64<cLine):IxR X (rP X.K yq):=by
 intro value slice pins s σ H x y v u Q I rx ry ⟨p,q,z,hp,hq,e,k⟩ hs;unfold yq at e;split at e
 ·rename_i ks ps
  obtain⟨kk,ek,e⟩:=LR.mp e;obtain⟨a,kvs,rfl,g,e1,r⟩:=hp;cases rx;obtain⟨b,rfl,hb⟩:=iY ek hq;obtain⟨w,ew,rp⟩:=pL e1 r e;have dg:GB H a (.ref b) (some w):=.inr ⟨kvs,kk,b,g,rfl,hb,ew.symm⟩;obtain⟨_,_,_,_,dd⟩:=rG I.hok g;exact tail_any (rH I dg) QZ.lookup (xx (by omega) I dg ry fun w' s' I' rw'=>⟨w,H,I',rw',k w H (Same.refl H) rp⟩) hs
 ·cases e
theorem zo(hu:X.A.units+64<cLine):OpR X (MI .NotIn) (rP X.K k7):=by
 intro pins s σ H x y v u Q I rx ry ⟨p,q,z,hp,hq,e,k⟩;unfold k7 at e;split at e
 ·rename_i ks ps
  obtain⟨kk,ek,ez⟩:=LK.mp e;subst ez;obtain⟨a,kvs,rfl,g,e1,r⟩:=hq;cases ry;obtain⟨b,rfl,hb⟩:=iY ek hp;have dg:GB H a (.ref b) (jG kvs kk):=.inr ⟨kvs,kk,b,g,rfl,hb,rfl⟩;refine Di (by omega) I dg rx fun s' I'=>⟨.bl _,H,I',rfl,k _ H (Same.refl H) ?_⟩;subst e1;rw[rQ];rfl
 ·cases e
end
theorem rd:wJ k7:=fun p q z e=>by
 unfold k7 at e;split at e
 ·obtain⟨b,_,ez⟩:=LK.mp e;exact⟨_,ez.symm⟩
 ·cases e
theorem mU{K:LA}{H:Hp}{k:bW}{p:PV}{v:V}(rp:Rep K H p v):∀{kvs:List (bW×V)}{ps:List PV},aF K H ps (kvs.map (·.2))->aF K H (BE (kvs.map (·.1)) ps k p) ((kvs.map fun kv=>if kv.1=k then (kv.1,v) else kv).map (·.2))
 | [],ps,r=>by
  cases ps with
  | nil=>rfl
  | cons q qs=>obtain⟨x,t,e,_⟩:=r;cases e
 | kv::kvs,ps,r=>by
  cases ps with
  | nil=>cases r
  | cons q qs=>
   obtain⟨x,t,e,h1,h2⟩:=r;simp only[LH,N9] at e;obtain⟨rfl,rfl⟩:=e;have ih:=mU (k:=k) rp h2;simp only[LH,BE,Mr]
   by_cases hk:kv.1=k
   ·rw[if_pos hk,if_pos hk];exact⟨_,_,rfl,rp,ih⟩
   ·rw[if_neg hk,if_neg hk];exact⟨_,_,rfl,h1,ih⟩
theorem vo{K:LA}{H:Hp}{kvs:List (bW×V)}{ps:List PV}{k:bW}{p:PV}{v:V}(rr:aF K H ps (kvs.map (·.2)))(rp:Rep K H p v) :
  ∃ks' ps',uK (kvs.map (·.1)) ps k p=.dtt ks' ps'/\(putK kvs k v).map (·.1)=ks'/\aF K H ps' ((putK kvs k v).map (·.2)):=by
 unfold uK;have e:((kvs.map (·.1)).any fun j=>decide (j=k))=(kvs.any fun kv=>decide (kv.1=k)):=by rw[O6];rfl
 rw[e];unfold putK
 split
 ·refine⟨_,_,rfl,?_,mU rp rr⟩
  rw[Lh];apply Ms;intro kv _;simp only[Nh]
  split <;> rfl
 ·refine⟨_,_,rfl,by simp,?_⟩
  rw[Lq];exact aF.append rr ⟨_,_,rfl,rp,rfl⟩
theorem se{K:LA}{H:Hp}{a:Addr}{kvs:List (bW×V)}{ps:List PV}{k:bW}{p:PV}{v:V}(rr:aF K H ps (kvs.map (·.2)))(rp:Rep K H p v)(ha:H a=some (.dT (putK kvs k v))):cD K H a (uK (kvs.map (·.1)) ps k p):=by
 obtain⟨ks',ps',e,e1,e2⟩:=vo (k:=k) rr rp;rw[e];exact⟨_,ha,e1,e2⟩
theorem qI{C:Cn}(i:Nat){x:Str}{ke e:Expr}{fk fv:PSt->R PV}{np pos' pos:N8}(hu:C.X.A.units+64<cLine)(hk:EV C ke fk)(hv:EV C e fv)(hN:C.X.N[i]?=some x:=by rfl)(hvis:Vis C.X.env.scope x:=by first | exact .inl rfl | exact .inr (.inl rfl) | exact .inr (.inr rfl))
  (hs:P3 e (some (.Subscript (.Name x np) ke pos')) pos.line C.X.env=pure false:=by rfl) (hd:(x == ("__debug__":Str))=false:=by decide) (hcd:(x == ("__classdict__":Str))=false:=by decide) :
  SV C (.Assign [.Subscript (.Name x np) ke pos'] e pos) (mF i fk fv):=by
 intro pins s σ H D I ⟨ρ,B,S,q⟩;unfold mF at q;split at q
 ·rename_i ks ps e1
  obtain⟨a,e2,kvs,hx,ek,rr⟩:=S.vw i _ e1;refine vy (by omega) (gM hN hvis hd hcd) hk hv hs pins s σ H D I ⟨ρ,S.vw,(q.bind S.same).imp fun p _ q1 v H1 s1 r1=>⟨_,e2,ρ,S.vw.same s1,(q1.bind (S.same.trans s1)).imp fun kp _ q2 y H2 s2 r2=>?_⟩⟩;obtain⟨k,e3,q3⟩:=RS.ofO q2
  by_cases hl:ks.length<16777216
  ·rw[if_pos hl] at q3
   obtain⟨b,rfl,hb⟩:=iY e3 r2.o;subst ek;have hx2:H2 a=some (.dT kvs):=s2 _ _ (s1 _ _ hx);refine⟨a,_,rfl,Bj.t hx2 hb (by rw[MC];simpa using hl),?_⟩;have kp:Kp H2 (upd H2 a (.dT (putK kvs k v))):=Kp.upd hx2 rfl;refine q3 σ _ (((S.grow s1).grow s2).turn e1 e2 (fun b hb=>aA hb) ⟨a,rfl,?_⟩);exact se (aF.kp kp _ ((rr.same s1).same s2)) (Rep.kp kp _ (r1.same s2)) az
  ·rw[if_neg hl] at q3
   exact LU q3
 ·exact LU q
theorem Gm{X:Cx}{pins:List (Addr×Mu)}{σ:L2.St}{H:Hp}{s:LF}{a b:Addr}{v:V}{r:LB}{A:M6}{E:LB->LF->Prop}{kvs:List (bW×V)}{k:bW}{Q:Unit->LF->Prop}(hu:A.units+16<cLine)(I:Inv X pins σ H s)
  (e:H a=some (.dT kvs)) (eb:fm H b k) (l:kvs.length<sizeLine) (rv:RelV v r) (h:∀s',Inv X pins σ (upd H a (.dT (putK kvs k v))) s'->Q () s') :
  Ln (M4 X.prog X.w) A (dictSet a (.ref b) r) Q E s:=by
 obtain⟨z,hd,xs,rel,dd⟩:=Df I.hok e;have hz:xs.length<=sizeLine:=by rw[← MF rel];exact z
 have hl:(putK kvs k v).length<=sizeLine:=by have:=dq kvs k v;omega
 refine wpAny_dictSet_heap (hsz:=hz) (knd:=g8 X.prog X.w) (show A.units+8<cLine by omega) (key_of I.hok eb) dd fun h' dd' hs=>h _ ?_;obtain⟨q,es,ep,hq,h2,h3,h4,_,h5⟩:=dd';refine kf I (by rw[e];exact N7) hs ⟨q,hq⟩ ⟨hl,hd,_,(rel.put k eb rv).keeps fun c ys ec=>?_,q,es,ep,hq,h2,h3,h4,h5⟩;rw[aA (Ci ec e (fun z=>nomatch z))];exact ec
theorem zU{C:Cn}{k v:Expr}{fk fv:PSt->R PV}{pos:N8}(hu:C.X.A.units+64<cLine)(hk:EV C k fk)(hv:EV C v fv):EN C (.Dict [some k] [v] pos) (zW fk fv):=by
 intro pins s σ H Q I ⟨ρ,vw,q⟩;have hn:=I.hok.fresh (LY s.heap.objs.size);have I1:=I.laid (a:=s.heap.objs.size) (o:=.dT []) (h':=s.heap.push { cls:=.type "dict",data:=.dict #[] }) (t':=s.toks) (fun _ _ q=>LP _ q) (LY _) (tf s.heap I.big)
 refine wpAny_Dict_any rfl rfl (by simp) (show 1<=15 by decide) (thn (sh hk hv vz pins _ σ _ (fun ps H3=>∃b k y,ps=[(.ref b,y)]/\fm H3 b k/\H3 s.heap.objs.size=some (.dT [])/\Q (.ref s.heap.objs.size) (upd H3 s.heap.objs.size (.dT (putK [] k y)))) I1
  ⟨ρ,vw.same (Same.new hn),(q.bind.same (Same.new hn)).imp fun kp _ q1 x H1 s1 r1=>⟨ρ,vw.same ((Same.new hn).trans s1),(q1.bind.same ((Same.new hn).trans s1)).imp fun p _ q2 y H2 s2 r2=>?_⟩⟩) fun ws s2 ⟨ps,H2,I2,rel,b,k,y,ep,hb,hd,q2⟩=>?_)
 ·obtain⟨k,ek,q3⟩:=q2.bind.ofO
  obtain⟨b,rfl,hb⟩:=iY ek (r1.same s2).o;have hd:H2 s.heap.objs.size=some (.dT []):=s2 _ _ (s1 _ _ az);refine⟨b,k,y,rfl,hb,hd,?_⟩;have kp:Kp H2 (upd H2 s.heap.objs.size (.dT (putK [] k y))):=Kp.upd hd rfl;exact q3 s.heap.objs.size _ ((((Same.new hn).trans s1).trans s2).but hn (fun u h=>by rw[hd] at h;cases h;rfl) (fun b hb=>aA hb)) hn ⟨_,az,rfl,⟨_,_,rfl,Rep.kp kp _ r2,rfl⟩⟩
 ·subst ep
  cases rel with
  | @cons _ w _ ws h t=>
  cases t;obtain⟨w1,w2⟩:=w;cases (show w1=Mv b from h.1);unfold PySem.storeAll;rw[List.forIn_cons];refine LD (LD (Gm (by omega) I2 hd hb (by rw[MC];decide) h.2 fun s' I'=>LQ ?_));dsimp only;rw[List.forIn_nil];exact LQ ⟨.ref s.heap.objs.size,_,I',rfl,q2⟩
theorem rE{C:Cn}{pos:N8}:EN C (.Dict [] [] pos) Ce:=fun pins s σ H Q I ⟨ρ,vw,q⟩=>zj pins s σ H Q I fun p hp=>q p _ (Same.new hp) hp ⟨[],az,rfl,rfl⟩
end PU
namespace PU
open PySem PySem.Spec PyProof.Rows L2 PySem.SeqAt
def Dv(i:Nat)(f:PSt->R PV):PSt->R Fl:=fun ρ=>match ρ[i]? with
 | some (.val (.int a))=>f ρ >>= fun q=>match q with
  | .int b=>.ok (.next (ρ.set i (.val (.int (a+b)))))
  | _=>.no
 | _=>.no
variable[TW]
theorem Au{C:Cn}{e:Expr}{f:PSt->R PV}{pos:N8}(i:Nat){x:Str}{pos':N8}(hN:C.X.N.Nodup)(he:EV C e f)
  (hf:C.X.fn x=true\/C.X.env.scope.names.lookup x=some .local:=by first | exact .inl rfl | exact .inr rfl | assumption) (hi:C.X.N[i]?=some x:=by rfl) (hx:Loc C.X.env.scope x:=by first | exact .inl rfl | exact .inr rfl) :
  SV C (.AugAssign (.Name x pos') .Add e pos) (Dv i f):=by
 intro pins s σ H D I ⟨ρ,B,S,h⟩;unfold Dv at h;split at h
 ·rename_i a e1
  obtain⟨v,ev,rv⟩:=S.vw i _ e1;cases (show v=.int a from rv);refine AH hN hi hx he FW hf pins s σ H D I ⟨_,ev,ρ,S.vw,(h.bind S.same).imp fun q _ k w H1 s1 r1=>?_⟩;cases q with
  | int b=>
   cases (show w=.int b from r1);exact⟨a,b,rfl,rfl,k _ H1 ((S.grow s1).setV rfl)⟩
  | _=>exact LU k
 ·exact LU h
end PU
namespace PU
open PySem PySem.Spec PyProof.Rows L2 PySem.SeqAt
variable[TW]
def trC(H:Hp)(l:List (Addr×Mu)):Hp:=fun b=>match l.lookup b with
 | some o=>some (.frz o (.own 0))
 | none=>H b
def drC(H:Hp)(l:List (Addr×Mu)):Hp:=fun b=>match l.lookup b with
 | some _=>none
 | none=>H b
theorem l9{H:Hp}{l:List (Addr×Mu)}{b:Addr}{o:Mu}(h:l.lookup b=some o):trC H l b=some (.frz o (.own 0)):=by unfold trC;rw[h]
theorem aS{H:Hp}{l:List (Addr×Mu)}{b:Addr}(h:l.lookup b=none):trC H l b=H b:=by unfold trC;rw[h]
theorem mj{H:Hp}{l:List (Addr×Mu)}{b:Addr}{o:Mu}(h:l.lookup b=some o):drC H l b=none:=by unfold drC;rw[h]
theorem b9{H:Hp}{l:List (Addr×Mu)}{b:Addr}(h:l.lookup b=none):drC H l b=H b:=by unfold drC;rw[h]
structure Cls(X:Cx)(H:Hp)(s:LF)(l:List (Addr×Mu)):Prop where
 at_:∀c o,l.lookup c=some o->s.heap.get? c=some o
 fr:∀c o,l.lookup c=some o->H c=none
 bs:∀c o,l.lookup c=some o->X.base.get? c=none
 st:∀c o,l.lookup c=some o->c ∉ frs X.stack
section
variable{X : Cx}{pins : List (Addr×Mu)}{σ : L2.St}{H H' : Hp}{s s' : LF}{l : List (Addr×Mu)}
theorem Cls.out(hc:Cls X H s l){b:Addr}{o:HO}(e:H b=some o):l.lookup b=none:=by
 cases q:l.lookup b with
 | none=>rfl
 | some u=>rw[hc.fr b u q] at e;cases e
theorem IW(I:L2.Inv X pins σ H s)(hc:Cls X H s l):Env0 X.prog X.w X.K X.mg X.base X.A X.stack s (trC H l):=by
 have e:=I.env0;refine⟨e.frames,e.mod,fun b o h=>⟨(e.bs b o h).1,?_⟩,e.bsz,e.funs,fun b hb=>?_,fun b o h=>?_,e.bare⟩
 ·cases q:l.lookup b with
  | none=>rw[aS q];exact(e.bs b o h).2
  | some u=>rw[hc.bs b u q] at h;cases h
 ·cases q:l.lookup b with
  | none=>rw[aS q];exact e.frf b hb
  | some u=>exact absurd hb (hc.st b u q)
 ·cases q:l.lookup b with
  | some u=>
   rw[l9 q] at h;cases h;exact⟨hc.at_ b u q,u,hc.at_ b u q⟩
  | none=>
   rw[aS q] at h;exact(e.hok b o h).stay (fun _ _ _ z=>z) (fun c z=>by rw[aS (hc.out z)];exact z) fun c xs z=>by rw[aS (hc.out z)];exact z
theorem so(un:Un (frs X.stack) [] (trC H l) H' s.heap s'.heap){b:Addr}{o:HO}(e:H' b=some o)(n:∀q,o≠.frz q (.own 0)):l.lookup b=none:=by
 cases q:l.lookup b with
 | none=>rfl
 | some u=>
  rw[un.frzs b u _ (l9 q)] at e;cases e;exact absurd rfl (n u)
theorem unC(hc:Cls X H s l)(un:Un (frs X.stack) [] (trC H l) H' s.heap s'.heap)(hok:HOk X.prog X.w H' s'.heap):Un (frs X.stack) [] H (drC H' l) s.heap s'.heap where
 keep:=fun b o e n hb hx=>by
  cases q:l.lookup b with
  | none=>exact un.keep b o e (by rw[aS q];exact n) hb hx
  | some u=>
   have h1:=hc.at_ b u q;rw[e] at h1;cases h1;exact(hok b _ (un.frzs b o _ (l9 q))).1
 slot:=fun b o e n hb hx=>by
  cases q:l.lookup b with
  | none=>exact un.slot b o e (by rw[aS q];exact n) hb hx
  | some u=>exact absurd hb (hc.st b u q)
 free:=fun b o e n hx=>by
  cases q:l.lookup b with
  | none=>rw[b9 q];exact un.free b o e (by rw[aS q];exact n) hx
  | some u=>exact mj q
 there:=un.there
 tups:=fun b xs e=>by
  have q:=hc.out e;rw[b9 q];exact un.tups b xs (by rw[aS q];exact e)
 frzs:=fun b o u e=>by
  have q:=hc.out e;rw[b9 q];exact un.frzs b o u (by rw[aS q];exact e)
 tbls:=fun b ps e=>by
  have q:=hc.out e;rw[b9 q];exact un.tbls b ps (by rw[aS q];exact e)
theorem KL(un:Un (frs X.stack) [] (trC H l) H' s.heap s'.heap)(hok:HOk X.prog X.w H' s'.heap):HOk X.prog X.w (drC H' l) s'.heap:=fun b o e=>by
 cases q:l.lookup b with
 | some u=>rw[mj q] at e;cases e
 | none=>
  rw[b9 q] at e;exact(hok b o e).stay (fun _ _ _ z=>z) (fun c z=>by rw[b9 (so un z fun _ h=>by cases h)];exact z) fun c xs z=>by rw[b9 (so un z fun _ h=>by cases h)];exact z
theorem HJ(hc:Cls X H s l)(un:Un (frs X.stack) [] (trC H l) H' s.heap s'.heap)(sm:Same (trC H l) H'):Same H (drC H' l):=
 ⟨fun b o e n=>by
  have q:=hc.out e;rw[b9 q];exact sm.at_ b o (by rw[aS q];exact e) n,fun b ps e=>by
  have q:=hc.out e;obtain⟨p1,e1,k1⟩:=sm.tb b ps (by rw[aS q];exact e);refine⟨p1,by rw[b9 q];exact e1,fun t=>?_⟩;have t1:=k1 ⟨t.1,fun pos v h=>let ⟨c,f1,f2⟩:=t.2 pos v h;⟨c,f1,by rw[aS (hc.out f2)];exact f2⟩⟩;exact⟨t1.1,fun pos v h=>let ⟨c,f1,f2⟩:=t1.2 pos v h;⟨c,f1,by rw[b9 (so un f2 fun _ h=>by cases h)];exact f2⟩⟩⟩
theorem Gy{Q:VK}{u:LB}(I:L2.Inv X pins σ H s)(hc:Cls X H s l)(h:CE X.stack X.prog X.w (trC H l) s (fun v H'=>Un (frs X.stack) [] (trC H l) H' s.heap s'.heap->Q v (drC H' l)) u s'):EP X pins σ Q u s':=by
 obtain⟨v,H',os,bare,un,hok,r,q⟩:=h;obtain⟨hh,g,d,t,os'⟩:=s';obtain rfl:os'=s.os:=os;exact⟨v,drC H' l,I.call (h':=hh) (g':=g) (d':=d) (t':=t) (ch:=[]) (unC hc un hok) (KL un hok) bare (fun b z=>absurd z (by simp)),r,q un⟩
end
mutual
def noFn:PV->Bool
 | .fn _ _=>false
 | .tup ps=>bE ps
 | .lst ps=>bE ps
 | .dct _ ps=>bE ps
 | .dtt _ ps=>bE ps
 | _=>true
def bE:List PV->Bool
 | []=>true
 | p::ps=>noFn p && bE ps
end
def FU:HO->Bool
 | .tup _=>true
 | .frz _ (.lst _)=>true
 | .frz _ (.dK _)=>true
 | .frz _ (.dT _)=>true
 | _=>false
mutual
theorem Rep.pl{K:LA}{H H':Hp}(k:∀b u,H b=some u->FU u=true->H' b=some u):∀(p:PV){v:V},noFn p=true->Rep K H p v->Rep K H' p v
 | .non,_,_,h=>h
 | .bl _,_,_,h=>h
 | .int _,_,_,h=>h
 | .str _,_,_,h=>h
 | .tup ps,_,n,⟨a,xs,e,h,r⟩=>⟨a,xs,e,k _ _ h rfl,aF.pl k ps n r⟩
 | .lst ps,_,n,⟨a,xs,e,h,r⟩=>⟨a,xs,e,by
   rcases h with⟨o,h⟩ | h
   ·exact .inl ⟨o,k _ _ h rfl⟩
   ·exact .inr h,aF.pl k ps n r⟩
 | .dct ks ps,_,n,⟨a,kvs,e,h,ek,r⟩=>⟨a,kvs,e,by
   rcases h with⟨o,h⟩ | h
   ·exact .inl ⟨o,k _ _ h rfl⟩
   ·exact .inr h,ek,aF.pl k ps n r⟩
 | .dtt ks ps,_,n,⟨a,o,kvs,e,h,ek,r⟩=>⟨a,o,kvs,e,k _ _ h rfl,ek,aF.pl k ps n r⟩
 | .fn _ _,_,n,_=>by cases n
theorem aF.pl{K:LA}{H H':Hp}(k:∀b u,H b=some u->FU u=true->H' b=some u):∀(ps:List PV){xs:List V},bE ps=true->aF K H ps xs->aF K H' ps xs
 | [],_,_,h=>h
 | p::ps,_,n,⟨x,r,e,h1,h2⟩=>by
  have n:(noFn p && bE ps)=true:=n;rw[MR] at n;exact⟨x,r,e,Rep.pl k p n.1 h1,aF.pl k ps n.2 h2⟩
end
theorem sU{u:HO}(h:FU u=true):∀q,u≠.frz q (.own 0):=fun q e=>by subst e;cases h
end PU
namespace PU
open PySem PySem.Spec PyProof.Rows L2 PySem.SeqAt
variable[TW]
theorem xV{p:N8}{r:List LB}(l:List LB)(h:TriplesOk l):OU p (l++r)=(OU p l).or (OU p r):=by
 fun_induction TriplesOk l with
 | case1=>simp[OU]
 | case2 a t b u x rest ih=>
  simp only[O5,OU]
  split
  ·rfl
  ·exact ih h
 | case3 l h1 h2=>exact h.elim
theorem xU{p pos:N8}{c v:LB}(h:OU p [Nz pos.line,Nz pos.col,c]=some v):v=c/\p.line=pos.line/\p.col=pos.col:=by
 simp only[OU,Nz] at h;split at h
 ·rename_i hc
  cases h;simp only[MR,beq_iff_eq] at hc;exact⟨rfl,by omega,by omega⟩
 ·cases h
section
variable{X : Cx}{pins : List (Addr×Mu)}{σ : L2.St}{H : Hp}{s : LF}
theorem CO{H':Hp}{h':Heap}{P:Addr}{ps more:Array LB}{t':Nat}(I:L2.Inv X pins σ H s)(hP:H P=some (.tbl ps))(hx:QX P s.heap h')(hp:H' P=some (.tbl (ps++more)))(gP:h'.get? P=some (OG (ps++more)))
  (old:∀b,b<s.heap.objs.size->b≠P->H' b=H b) (new:∀b o,s.heap.objs.size<=b->H' b=some o->dU X.prog X.w H' h' b o):L2.Inv X pins σ H' { s with heap:=h',toks:=t' }:=by
 have lt:∀b o,H b=some o->b<s.heap.objs.size:=fun b o e=>I.hok.lt e;have k:∀b o,b≠P->H b=some o->H' b=some o:=fun b o n e=>by rw[old b (lt b o e) n];exact e
 have nP:∀{b:Addr}{o:HO},H b=some o->(∀q,o≠.tbl q)->b≠P:=fun {b o} e n z=>by subst z;rw[hP] at e;cases e;exact n _ rfl
 refine I.un ⟨fun b o e n _ _=>hx b o (fun z=>by subst z;rw[hP] at n;cases n) e,fun b o e n _ _=>⟨o.slots,hx b o (fun z=>by subst z;rw[hP] at n;cases n) e⟩,
  fun b o e n _=>by rw[old b (LZ e) (fun z=>by subst z;rw[hP] at n;cases n)];exact n,fun b o e _=>?_,fun b xs e=>k b _ (nP e fun _ z=>by cases z) e,fun b o u e=>k b _ (nP e fun _ z=>by cases z) e,fun b qs e=>?_⟩ fun b o e=>?_
 ·by_cases hb:b=P
  ·subst hb;exact⟨_,gP⟩
  ·exact⟨o,hx b o hb e⟩
 ·by_cases hb:b=P
  ·subst hb
   rw[hP] at e;cases e;exact⟨more,hp⟩
  ·exact⟨#[],by rw[k b _ hb e];simp⟩
 ·by_cases hl:b<s.heap.objs.size
  ·by_cases hb:b=P
   ·subst hb
    rw[hp] at e;cases e;exact gP
   ·rw[old b hl hb] at e
    refine(I.hok b o e).stay (fun c u hc q=>hx c u (fun z=>?_) q) (fun c q=>k c _ (nP q fun _ z=>by cases z) q) fun c xs q=>k c _ (nP q fun _ z=>by cases z) q;rcases hc with h | h
    ·exact hb (h▸z)
    ·exact nP h (fun _ z=>by cases z) z
  ·exact new b o (Nat.le_of_not_lt hl) e
theorem Fs{params:Arguments}{body:Expr}{scope:Scope}{pos:N8}{c P:Addr}{ps:Array LB}{Q:LB->LF->Prop}{E:LB->LF->Prop}(I:L2.Inv X pins σ H s)(hP:H P=some (.tbl ps))(tk:TOk H ps)(hcode:X.env.code=.ref c)
  (CH:QV X.base c P) (hbn:∃bm o,X.mg "__builtins__"=some (.ref bm)/\bm≠Mc/\bm≠mainGlobals/\X.base.get? bm=some o/\o.cls=.type "module"/\o.dict=some Mc/\o.data=.plain)
  (hdef:defaultsOf params X.env=([],[])) (hq:TW.qual pos.line pos.col=X.env.qual++"<lambda>") (hfree:∀y∈scope.names,y.2=.free->∃c,X.env.cells.lookup y.1=some c)
  (h:∀f c' pm ct H' s',L2.Inv X pins σ H' s'->Same H H'->H' f=some (FnAt f (Of "<lambda>" (X.env.qual++"<lambda>") params body scope (eU X.env.cells scope.names []) pm c' ct))->H' c'=some (jC c' (X.env.qual++"<lambda>"))->Q (.ref f) s') :
  Ln (M4 X.prog X.w) X.A (MZ (.Lambda params body scope pos) X.env) Q E s:=by
 have gP:s.heap.get? P=some (OG ps):=I.hok P _ hP;have nb:∀b o,X.base.get? b=some o->b≠P:=fun b o e z=>by subst z;have:=(I.bs b o e).2;rw[hP] at this;cases this
 obtain⟨bm,ob,b1,b2,b3,b4,b5,b6,b7⟩:=hbn;have hg:s.heap.Ns mainGlobals X.mg:=I.mod.glob.keeps I.bk
 have hgP:mainGlobals≠P:=by
  obtain⟨o,es,ep,e,_⟩:=I.mod.glob;exact nb _ o e
 have hB:s.heap.BuiltinsAt X.mg P:=⟨bm,ob,b1,b2,b3,nb _ _ b4,I.bk _ _ b4,b5,b6,b7⟩;refine PySem.W.kla_eval hdef ?_;cases hf:OU pos ps.toList with
 | some cv=>
  obtain⟨c',rfl,hc'⟩:=tk.2 pos cv hf;rw[hq] at hc';refine PySem.W.kla_makeFunctionHit (mg:=X.mg) (d8 hfree) I.ok.glob hg hcode (CH.keeps I.bk) gP tk.1 hf hB fun ctv h' t' hk hsz=>?_;have nf:H h'.objs.size=none:=I.hok.fresh hsz;have I1:L2.Inv X pins σ H { s with heap:=h',toks:=t' }:=I.kept (t':=t') hk;refine h h'.objs.size c' _ ctv (upd H h'.objs.size (FnAt h'.objs.size _)) _ (I1.laid (a:=h'.objs.size) (t':=t') (fun _ _ q=>LP _ q) (LY _) ⟨Ls _ rfl,⟨_,Ls _ rfl⟩,fun h1 h2 e k=>k _ e⟩) (Same.new nf) az ?_;rw[aA (bu hc' nf)];exact hc'
 | none=>
  refine PySem.W.kla_makeFunction (mg:=X.mg) (d8 hfree) I.ok.glob hg hcode (CH.keeps I.bk) gP tk.1 hf hgP hB fun c' ctv h' t' hx hge hlt hrec htb=>?_;have hPs:P<s.heap.objs.size:=LZ gP;have hsz:s.heap.objs.size<=h'.objs.size:=QL (OH hge hlt);have nc:H c'=none:=I.hok.fresh hge;have nf:H h'.objs.size=none:=I.hok.fresh hsz;have c1:c'≠P:=O8 (Lj hPs hge);have f1:h'.objs.size≠P:=O8 (Lj hPs hsz);have cf:c'≠h'.objs.size:=M1 hlt;obtain⟨F,hF⟩:∃F:Mu,F=Of "<lambda>" (X.env.qual++"<lambda>") params body scope (eU X.env.cells scope.names []) ((X.mg "__name__").getD .none) c' ctv:=⟨_,rfl⟩;obtain⟨H',hH⟩:∃H':Hp,H'=upd (upd (upd H P (.tbl (ps++#[Nz pos.line,Nz pos.col,.ref c']))) c' (jC c' (X.env.qual++"<lambda>"))) h'.objs.size (FnAt h'.objs.size F):=⟨_,rfl⟩;have eP:H' P=some (.tbl (ps++#[Nz pos.line,Nz pos.col,.ref c'])):=by rw[hH,aA (OA f1),aA (OA c1),az]
  have ec:H' c'=some (jC c' (X.env.qual++"<lambda>")):=by rw[hH,aA cf,az]
  have ef:H' h'.objs.size=some (FnAt h'.objs.size F):=by rw[hH,az]
  have old:∀b,b<s.heap.objs.size->b≠P->H' b=H b:=fun b hb hn=>by rw[hH,aA (M1 (Lj hb hsz)),aA (M1 (Lj hb hge)),aA hn]
  have lt:∀b o,H b=some o->b<s.heap.objs.size:=fun b o e=>I.hok.lt e;rw[← hF];have hx2:QX P s.heap (h'.push F):=fun b o n e=>LP _ (hx b o n e);refine h h'.objs.size c' _ ctv H' _ (CO (t':=t') I hP hx2 eP (LP _ htb) old fun b o hb e=>?_) ⟨fun b o e n=>?_,fun b qs e=>?_⟩ (by rw[← hF];exact ef) ec
  ·by_cases hbf:b=h'.objs.size
   ·subst hbf
    rw[ef] at e;cases e;have hfr:F.isFreed=false:=by rw[hF];rfl
    exact⟨Ls _ hfr,⟨_,Ls _ hfr⟩,fun h1 h2 e k=>k _ e⟩
   ·by_cases hbc:b=c'
    ·subst hbc
     rw[ec] at e;cases e;obtain⟨c2,oc,vs,tq,e1,e2,e3,e4⟩:=hrec;cases e1;refine⟨⟨b,oc,vs,tq,rfl,LP _ e2,e3,e4⟩,⟨oc,LP _ e2⟩,?_⟩;intro h1 h2 ⟨c3,oc3,vs3,tq3,g1,g2,g3,g4⟩ k;cases g1;exact⟨_,oc3,vs3,tq3,rfl,k _ g2,g3,g4⟩
    ·exfalso
     rw[hH,aA hbf,aA hbc,aA (O8 (Lj hPs hb)),I.hok.fresh hb] at e;cases e
  ·have hb:b≠P:=fun z=>by subst z;rw[hP] at e;cases e;cases n
   rw[old b (lt b o e) hb];exact e
  ·have keep:∀d q,H d=some (jC d q)->H' d=some (jC d q):=fun d q e=>by
    rw[old d (lt d _ e) (fun z=>by subst z;rw[hP] at e;cases e)];exact e
   by_cases hb:b=P
   ·subst hb
    rw[hP] at e;cases e;refine⟨_,eP,fun t=>⟨?_,fun p v hv=>?_⟩⟩
    ·rw[S6]
     exact TriplesOk_snoc _ _ _ _ t.1
    ·rw[S6,xV _ t.1] at hv
     cases hl:OU p ps.toList with
     | some u=>
      rw[hl] at hv;cases hv;obtain⟨d,d1,d2⟩:=t.2 p _ hl;exact⟨d,d1,keep d _ d2⟩
     | none=>
      rw[hl] at hv;obtain⟨e1,e2,e3⟩:=xU hv;subst e1;exact⟨c',rfl,by rw[e2,e3,hq];exact ec⟩
   ·refine⟨qs,by rw[old b (lt b _ e) hb];exact e,fun t=>⟨t.1,fun p v hv=>?_⟩⟩
    obtain⟨d,d1,d2⟩:=t.2 p v hv;exact⟨d,d1,keep d _ d2⟩
end
end PU
namespace PU
open PySem PySem.Spec PyProof.Rows L2 PySem.SeqAt
variable[TW]
structure LScope(ps fr:List Str)(sc:Scope):Prop where
 kind:sc.kind=.function
 co:sc.isCoroutine=false
 gen:sc.isGenerator=false
 nocell:∀x∈sc.names,x.2≠.cell
 par:∀x∈ps,sc.names.lookup x=some .local
 fre:∀x,sc.names.lookup x=some .free->x∈fr
 frk:∀x∈fr,sc.names.lookup x=some .free
 nd:(ps++fr).Nodup
def cxL(P:Ll)(w:Lx)(K:LA)(mg:Str->Option LB)(base:Heap)(N:List Str)(qual:Str)(scope:Scope)(f:Addr)(cd:LB)(cl:List (Str×Addr))(A:M6)(outer:List QO)(s:LF)(H:Hp):Cx where
 prog:=P
 w:=w
 K:=K
 mg:=mg
 base:=base
 A:=A.deeper (P6 qual scope s.heap.objs.size f cd cl)
 N:=N
 s₀:=s
 H₀:=H
 env:=P6 qual scope s.heap.objs.size f cd cl
 outer:=outer
 stack:=P6 qual scope s.heap.objs.size f cd cl::outer
 ex:=[]
 calm:=true
 fn:=fun _=>false
 pn:=[]
 xe:=fun _ _=>False
theorem pK{cl:List (Str×Addr)}(nd:(cl.map (·.1)).Nodup):∀{i:Nat}{x:Str}{c:Addr},cl[i]?=some (x,c)->cl.lookup x=some c:=by
 induction cl with
 | nil=>intro i x c h;simp at h
 | cons p r ih=>
  intro i x c h;obtain⟨y,d⟩:=p;rw[LH,MB] at nd;cases i with
  | zero=>simp at h;obtain⟨rfl,rfl⟩:=h;simp[Ry]
  | succ i=>
   have h:r[i]?=some (x,c):=by simpa using h
   have hne:(x == y)=false:=by
    rw[beq_eq_false_iff_ne];rintro rfl;exact nd.1 (LV.mpr ⟨_,M5 h,rfl⟩)
   rw[M8,hne];exact ih nd.2 h
theorem Fm{cl:List (Str×Addr)}{x:Str}{c:Addr}(h:cl.lookup x=some c):∃i:Nat,cl[i]?=some (x,c):=by
 have:=M7 h;obtain⟨i,hi,e⟩:=Na this;exact⟨i,by rw[LG hi,e]⟩
theorem wM{x y:Str}{c:Addr}:∀{cl:List (Str×Addr)},(cl.map (·.2)).Nodup->(x,c)∈cl->(y,c)∈cl->x=y
 | [],_,h,_=>nomatch h
 | (z,d)::r,nd,h1,h2=>by
  rw[LH,MB] at nd;rcases LX.mp h1 with e1 | m1
  ·rcases LX.mp h2 with e2 | m2
   ·cases e1;cases e2;rfl
   ·cases e1
    exact(nd.1 (LV.mpr ⟨_,m2,rfl⟩)).elim
  ·rcases LX.mp h2 with e2 | m2
   ·cases e2
    exact(nd.1 (LV.mpr ⟨_,m1,rfl⟩)).elim
   ·exact wM nd.2 m1 m2
theorem FY{cl:List (Str×Addr)}(nd:(cl.map (·.2)).Nodup){x y:Str}{c:Addr}(h1:cl.lookup x=some c)(h2:cl.lookup y=some c):x=y:=
 wM nd (M7 h1) (M7 h2)
theorem uh{cl:List (Str×LB)}(nd:(cl.map (·.1)).Nodup):∀{i:Nat}{x:Str}{c:LB},cl[i]?=some (x,c)->cl.lookup x=some c:=by
 induction cl with
 | nil=>intro i x c h;simp at h
 | cons p r ih=>
  intro i x c h;obtain⟨y,d⟩:=p;rw[LH,MB] at nd;cases i with
  | zero=>simp at h;obtain⟨rfl,rfl⟩:=h;simp[Ry]
  | succ i=>
   have h:r[i]?=some (x,c):=by simpa using h
   have hne:(x == y)=false:=by
    rw[beq_eq_false_iff_ne];rintro rfl;exact nd.1 (LV.mpr ⟨_,M5 h,rfl⟩)
   rw[M8,hne];exact ih nd.2 h
theorem tH{ps:List Str}{us:List LB}(nd:ps.Nodup)(hl:us.length=ps.length){i:Nat}{x:Str}{u:LB}(h1:ps[i]?=some x)(h2:us[i]?=some u):(ps.zip us).reverse.lookup x=some u:=by
 have hm:(x,u)∈ps.zip us:=by
  refine M5 (i:=i) ?_;rw[Qu];exact⟨h1,h2⟩
 have hn:((ps.zip us).map (·.1)).Nodup:=by
  rw[QS (by omega)];exact nd
 have hr:((ps.zip us).reverse.map (·.1)).Nodup:=by rw[List.map_reverse];exact List.pairwise_reverse.mpr (List.Pairwise.imp (fun h=>OA h) hn)
 obtain⟨j,hj,e⟩:=Na (List.mem_reverse.mpr hm);exact uh hr (by rw[LG hj,e])
section
variable{P : Ll}{w : Lx}{K : LA}{mg : Str → Option LB}{base : Heap}{ps fr : List Str}{qual : Str}{scope : Scope}{f : Addr}{cd : LB}{cl : List (Str×Addr)}{A : M6}{outer : List QO}{s : LF}{H : Hp}{l : List (Addr×Mu)}
theorem Ct{us:List LB}{vs xs:List V}{h':Heap}{t':Nat}(S:LScope ps fr scope)(hd:A.handled=none)(e0:Env0 P w K mg base A outer s H)(hl:∀c o,l.lookup c=some o->H c=some (.frz o (.own 0)))
  (hcl:cl.map (·.1)=fr) (nd:(cl.map (·.2)).Nodup) (hxs:xs.length=cl.length) (hx:∀(i:Nat)(x:Str)(c:Addr),cl[i]?=some (x,c)->∃v o u,xs[i]?=some v/\l.lookup c=some o/\o.data=.cell (some u)/\RelV v u)
  (r:Vals vs us) (hv:vs.length=ps.length) (ns:h'.Ns s.heap.objs.size (fun x=>(ps.zip us).reverse.lookup x)) (hk:∀b o,s.heap.get? b=some o->h'.get? b=some o) :
  L2.Inv (cxL P w K mg base (ps++fr) qual scope f cd cl A outer s (drC H l)) [] ((vs++xs).map some) (drC H l) { s with heap:=h',toks:=t' }:=by
 have noA:∀b:Addr,b ∉ ([]:List Addr):=fun b z=>nomatch z;have ndf:(cl.map (·.1)).Nodup:=by rw[hcl];exact(N1.mp S.nd).2.1
 have ndp:ps.Nodup:=(N1.mp S.nd).1
 have Rf:∀x c,cl.lookup x=some c->∃(i:Nat)(v:V)(o:Mu)(u:LB),cl[i]?=some (x,c)/\xs[i]?=some v/\l.lookup c=some o/\o.data=.cell (some u)/\RelV v u/\s.heap.get? c=some o:=fun x c h=>by
  obtain⟨i,e⟩:=Fm h;obtain⟨v,o,u,e1,e2,e3,e4⟩:=hx i x c e;exact⟨i,v,o,u,e,e1,e2,e3,e4,(e0.hok c _ (hl c o e2)).1⟩
 have drn:∀b,H b=none->drC H l b=none:=fun b n=>by
  cases q:l.lookup b with
  | none=>rw[b9 q];exact n
  | some o=>exact mj q
 have hok:HOk P w (drC H l) s.heap:=fun b o e=>by
  cases q:l.lookup b with
  | some u=>rw[mj q] at e;cases e
  | none=>
   rw[b9 q] at e
   have out:∀{c:Addr}{o:HO},H c=some o->(∀q,o≠.frz q (.own 0))->l.lookup c=none:=fun {c o} e n=>by
    cases q:l.lookup c with
    | none=>rfl
    | some u=>rw[hl c u q] at e;cases e;exact absurd rfl (n u)
   exact(e0.hok b o e).stay (fun _ _ _ z=>z) (fun c z=>by rw[b9 (out z fun _ h=>by cases h)];exact z) fun c xs z=>by rw[b9 (out z fun _ h=>by cases h)];exact z
 refine⟨⟨e0.mod,S.kind,rfl,rfl,LY _,fun y z c h1 h2=>FY nd h1 h2,fun y hy=>?_,fun y c h _=>(by cases h),fun _=>hd,RE e0.frames,.inr ⟨rfl,rfl⟩,fun b z=>absurd z (noA b),fun b o e=>⟨(e0.bs b o e).1,drn b (e0.bs b o e).2⟩,e0.bsz,fun b _ _=>noA b,fun b z=>absurd z (noA b),e0.funs,fun b hb=>drn b (e0.frf b hb)⟩,
  rfl,e0.bare,Un.kept hk,⟨_,ns,fun i y v h1 h2 h3=>?_⟩,fun y c h=>?_,drn _ (e0.hok.fresh (LY _)),fun y c h=>?_,fun p hp=>absurd (show p∈([]:List (Addr×Mu)) from hp) (by simp),hok.kept hk,?_⟩
 ·have hy:scope.names.lookup y=some .cell\/scope.names.lookup y=some .free:=hy
  rcases hy with hy | hy
  ·exact absurd rfl (S.nocell _ (M7 hy))
  ·have:=S.fre y hy
   rw[← hcl] at this;obtain⟨p,hp,e⟩:=LV.mp this;obtain⟨i,hi,e2⟩:=Na hp;obtain⟨a,b⟩:=p;cases e;exact⟨b,pK ndf (by rw[LG hi,e2])⟩
 ·have h1:(ps++fr)[i]?=some y:=h1
  rw[LO] at h2;obtain⟨v',h2,e⟩:=LK.mp h2;cases e
  by_cases hi:i<ps.length
  ·rw[Lp hi] at h1
   rw[Lp (by omega)] at h2;obtain⟨u,hu,rv⟩:=r.get h2;exact⟨u,rv,.inl ⟨S.par y (M5 h1),tH ndp (by rw[← r.length];exact hv) h1 hu⟩⟩
  ·rw[M3 (by omega)] at h1
   rw[M3 (by omega),hv] at h2;have hf:=S.frk y (M5 h1);rw[← hcl,LO] at h1;obtain⟨p,g1,e⟩:=LK.mp h1;obtain⟨a,c⟩:=p;cases e;obtain⟨v2,o,u,e1,e2,e3,e4⟩:=hx _ _ _ g1;rw[h2] at e1;cases e1;exact⟨u,e4,.inr ⟨.inr hf,c,pK ndf g1,o,hk _ _ (e0.hok c _ (hl c o e2)).1,e3⟩⟩
 ·obtain⟨i,v,o,u,_,_,_,e3,_,e5⟩:=Rf y c h
  exact⟨_,o,hk _ _ e5,e3⟩
 ·obtain⟨i,v,o,u,_,_,e2,_,_,_⟩:=Rf y c h
  exact mj e2
 ·show _=(ps++fr).length
  rw[LJ,Lw,Lw,hv,hxs,← hcl,LJ]
theorem Cs{k:Nat}{params:Arguments}{body:Expr}{pm ct:LB}{c:Addr}{us:List LB}{vs xs:List V}{qs cs:List PV}{p:PV}{fe:PSt->R PV}{Q:VK}{E:XK}(S:LScope ps fr scope)(hr:Room (k+1) A)(e0:Env0 P w K mg base A outer s H)
  (hf:H f=some (FnAt f (Of "<lambda>" qual params body scope cl pm c ct))) (hc:H c=some (jC c qual)) (hl:∀c o,l.lookup c=some o->H c=some (.frz o (.own 0)))
  (hcl:cl.map (·.1)=fr) (nd:(cl.map (·.2)).Nodup) (hxs:xs.length=cl.length) (hx:∀(i:Nat)(x:Str)(c:Addr),cl[i]?=some (x,c)->∃v o u,xs[i]?=some v/\l.lookup c=some o/\o.data=.cell (some u)/\RelV v u)
  (hb:Qf (Sf "<lambda>" qual params body scope cl pm (.ref c) ct) ⟨us,[]⟩=pure (ps.zip us))
  (hbody:EV ⟨cxL P w K mg base (ps++fr) qual scope f (.ref c) cl A outer s (drC H l),fun _ _=>False⟩ body fe)
  (r:Vals vs us) (hv:vs.length=ps.length) (rq:aF K H qs vs) (rc:aF K H cs xs) (nq:bE qs=true) (nc:bE cs=true) (tb:uN H) (e:fe ((qs++cs).map .val)=.ok p)
  (hQ:∀v H',Same H H'->Rep K H' p v->Q v H') :
  Oz (M4 P w) A (.call (.ref f) ⟨us,[]⟩) (CR CX0 outer P w H s Q E) s:=by
 have lim:s.heap.NoLimit:=e0.mod.nolimit.keeps fun b o e=>(e0.bs b o e).1
 have out:∀{b:Addr}{o:HO},H b=some o->(∀q,o≠.frz q (.own 0))->l.lookup b=none:=fun {b o} e n=>by
  cases q:l.lookup b with
  | none=>rfl
  | some u=>rw[hl b u q] at e;cases e;exact absurd rfl (n u)
 have outn:∀{b:Addr},H b=none->l.lookup b=none:=fun {b} n=>by
  cases q:l.lookup b with
  | none=>rfl
  | some u=>rw[hl b u q] at n;cases n
 have drn:∀{b:Addr},H b=none->drC H l b=none:=fun {b} n=>by rw[b9 (outn n)];exact n
 have pl:∀b u,H b=some u->FU u=true->drC H l b=some u:=fun b u e h=>by rw[b9 (out e (sU h))];exact e
 have tok:∀{qs:Array LB},TOk H qs->TOk (drC H l) qs:=fun t=>⟨t.1,fun pos v h=>let ⟨c,f1,f2⟩:=t.2 pos v h;⟨c,f1,by rw[b9 (out f2 fun _ h=>by cases h)];exact f2⟩⟩;refine PySem.W.kla_callFunE (by have:=hr.dp;omega) (e0.hok f _ hf).1 rfl S.co S.gen rfl (e0.hok c _ hc).1 ?_;rw[hb];refine LQ (wpAny_newFunctionEnv S.nocell (fun y hy=>S.par _ (Om hy).1) (fun h₁ hns hsb=>⟨lim.fresh _ hsb,?_⟩) S.kind);have hk:∀b o,s.heap.get? b=some o->h₁.get? b=some o:=fun b o e=>hsb.extBut b o (M1 (LZ e)) (LP _ e);have I:=Ct (qual:=qual) (f:=f) (cd:=.ref c) (t':=s.toks+(ps.zip us).length) S hr.hd e0 hl hcl nd hxs hx r hv hns hk;have rr:aF K (drC H l) (qs++cs) (vs++xs):=aF.append (aF.pl pl qs nq rq) (aF.pl pl cs nc rc);show Oz _ _ (.expr body (P6 qual scope s.heap.objs.size f (.ref c) cl)) _ _;refine PySem.W.kla_codeExpr (Nf (hbody [] _ _ _ (fun v H1=>Same (drC H l) H1/\Rep K H1 p v) I ⟨(qs++cs).map .val,⟨fun i z ez=>?_,fun P hP=>?_⟩,by rw[e];exact fun v H' s' r'=>⟨s',r'⟩⟩) (fun u s' hq=>?_) fun _ _ h=>LU h)
 ·rw[LO] at ez
  obtain⟨q,eq,e2⟩:=LK.mp ez;cases e2;obtain⟨v,ev,rp⟩:=rr.get eq;exact⟨v,by rw[LO,ev];rfl,rp⟩
 ·obtain⟨qs',e1,t⟩:=tb P hP
  exact⟨qs',by rw[b9 (out e1 fun _ h=>by cases h)];exact e1,tok t⟩
 ·obtain⟨v,H1,J,rv,sm,rp⟩:=hq
  have un:Un (frs outer) [] (drC H l) H1 s.heap s'.heap:=J.base
  have n1:∀{c:Addr}{o:Mu},l.lookup c=some o->H1 c=none/\s'.heap.get? c=some o:=fun {c o} q=>by
   have g:=(e0.hok c _ (hl c o q)).1;refine⟨un.free c o g (mj q) (by simp),un.keep c o g (mj q) (fun z=>?_) (by simp)⟩;have:=e0.frf c z;rw[hl c o q] at this;cases this
  have out1:∀{b:Addr}{o:HO},H1 b=some o->l.lookup b=none:=fun {b o} e=>by
   cases q:l.lookup b with
   | none=>rfl
   | some u=>rw[(n1 q).1] at e;cases e
  refine⟨v,trC H1 l,J.os,J.bare,⟨fun b o e n hb hx=>un.keep b o e (drn n) hb hx,fun b o e n hb hx=>un.slot b o e (drn n) hb hx,fun b o e n hx=>by rw[aS (outn n)];exact un.free b o e (drn n) hx,un.there,fun b ys e=>?_,fun b o u e=>?_,fun b qs e=>?_⟩,fun b o e=>?_,rv,hQ v _ ⟨fun b o e n=>?_,fun b qs e=>?_⟩ (rp.same (.of fun b o e=>by rw[aS (out1 e)];exact e))⟩
  ·have q:=out e fun _ h=>by cases h
   rw[aS q];exact un.tups b ys (by rw[b9 q];exact e)
  ·cases q:l.lookup b with
   | some o'=>rw[hl b o' q] at e;cases e;exact l9 q
   | none=>rw[aS q];exact un.frzs b o u (by rw[b9 q];exact e)
  ·have q:=out e fun _ h=>by cases h
   rw[aS q];exact un.tbls b qs (by rw[b9 q];exact e)
  ·cases q:l.lookup b with
   | some o'=>
    rw[l9 q] at e;cases e;exact⟨(n1 q).2,o',(n1 q).2⟩
   | none=>
    rw[aS q] at e;exact(J.hok b o e).stay (fun _ _ _ z=>z) (fun c z=>by rw[aS (out1 z)];exact z) fun c xs z=>by rw[aS (out1 z)];exact z
  ·cases q:l.lookup b with
   | some o'=>rw[hl b o' q] at e;cases e;exact l9 q
   | none=>rw[aS q];exact sm.at_ b o (by rw[b9 q];exact e) n
  ·have q:=out e fun _ h=>by cases h
   obtain⟨p1,e1,k1⟩:=sm.tb b qs (by rw[b9 q];exact e);refine⟨p1,by rw[aS q];exact e1,fun t=>?_⟩;have t1:=k1 (tok t);exact⟨t1.1,fun pos v h=>let ⟨c,f1,f2⟩:=t1.2 pos v h;⟨c,f1,by rw[aS (out1 f2)];exact f2⟩⟩
end
end PU
namespace PU
open PySem PySem.Spec PyProof.Rows L2 PySem.SeqAt
variable[TW]
theorem nK{H:Hp}:∀{cl:List (Str×Addr)}{xs:List V},fC H cl xs->xs.length=cl.length/\∃l:List (Addr×Mu),(∀c o,l.lookup c=some o->H c=some (.frz o (.own 0)))/\
  ∀(i:Nat)(x:Str)(c:Addr),cl[i]?=some (x,c)->∃v o u,xs[i]?=some v/\l.lookup c=some o/\o.data=.cell (some u)/\RelV v u
 | [],xs,h=>by cases h;exact⟨rfl,[],fun c o h=>(by cases h),fun i x c h=>(by simp at h)⟩
 | p::cl,_,⟨x,r,o,u,e,h,d,v,t⟩=>by
  subst e;obtain⟨hl,l,h1,h2⟩:=nK t
  have look:∀c o',((p.2,o)::l).lookup c=some o'->H c=some (.frz o' (.own 0)):=fun c o' e=>by
   rw[M8] at e;cases hb:(c == p.2) with
   | true=>rw[hb] at e;cases e;rw[OF hb];exact h
   | false=>rw[hb] at e;exact h1 c o' e
  refine⟨by simp[hl],(p.2,o)::l,look,fun i y c e=>?_⟩;cases i with
  | zero=>
   simp at e;subst e;exact⟨x,o,u,rfl,by simp[Ry],d,v⟩
  | succ i=>
   obtain⟨v',o',u',e1,e2,e3,e4⟩:=h2 i y c (by simpa using e);refine⟨v',o',u',by simpa using e1,?_,e3,e4⟩;rw[M8];cases hb:(c == p.2) with
   | false=>exact e2
   | true=>
    have:=h1 c o' e2;rw[OF hb,h] at this;cases this;rfl
structure LamB(P:Ll)(w:Lx)(K:LA)(mg:Str->Option LB)(base:Heap)(k:Nat)(L:Lam)(ps:List Str)(fe:PSt->R PV):Prop where
 sc:LScope ps L.kept L.scope
 bd:∀(cl:List (Str×Addr)) (pm ct:LB) (c:Addr) (us:List LB),us.length=ps.length->Qf (Sf "<lambda>" L.qual L.args L.body L.scope cl pm (.ref c) ct) ⟨us,[]⟩=pure (ps.zip us)
 ev:∀(f c:Addr)(cl:List (Str×Addr))(A:M6)(outer:List QO)(s:LF)(H:Hp),Room k (A.deeper (P6 L.qual L.scope s.heap.objs.size f (.ref c) cl))->
  EV ⟨cxL P w K mg base (ps++L.kept) L.qual L.scope f (.ref c) cl A outer s H,fun _ _=>False⟩ L.body fe
def Je(P:Ll)(w:Lx)(K:LA)(mg:Str->Option LB)(base:Heap)(k:Nat)(app:Lam->List PV->List PV->Option PV):Prop:=
 ∀L qs cs p,app L qs cs=some p->∃ps fe,LamB P w K mg base k L ps fe/\qs.length=ps.length/\fe ((qs++cs).map .val)=.ok p
def mv(i:Nat)(fs:PSt->R (List PV))(app:Lam->List PV->List PV->Option PV):PSt->R PV:=fun ρ=>match ρ[i]? with
 | some (.val (.fn L cs))=>fs ρ >>= fun qs=>if bE qs=true/\bE cs=true then R.ofO (app L qs cs) else .no
 | _=>.no
theorem oD{C:Cn}{x:Str}{e:Expr}{es:List Expr}{fs:PSt->R (List PV)}{app:Lam->List PV->List PV->Option PV}{k:Nat}{p pos:N8}(i:Nat)(T:Je C.X.prog C.X.w C.X.K C.X.mg C.X.base k app){kr:Nat}(hr:Room kr C.X.A)(ha:EA C (e::es) fs)
  (hN:C.X.N[i]?=some x:=by rfl) (hvis:Vis C.X.env.scope x:=by first | exact .inl rfl | exact .inr (.inl rfl) | exact .inr (.inr rfl)) (hdb:(x == ("__debug__":Str))=false:=by decide) (hcd:(x == ("__classdict__":Str))=false:=by decide)
  (he:Lk (e::es) C.X.env=(false,MZ e C.X.env)::Lk es C.X.env:=by exact cq rfl) (hpl:(OR pos (Lk es C.X.env)).any (·.1)=false:=by exact kK rfl) (hk:k+1<=kr:=by decide) :
  EV C (.Call (.Name x p) (e::es) [] pos) (mv i fs app):=by
 replace hr:=hr.mono hk;intro pins s σ H Q I ⟨ρ,vw,q⟩;unfold mv at q;split at q
 ·rename_i L cs e1
  obtain⟨v,ev,f,c,cl,pm,ct,xs,rfl,hf,hc,hk,nd,ca,rc⟩:=vw i _ e1;refine OQ (thn (gM hN hvis hdb hcd pins s σ H (fun v' H'=>v'=.ref f/\H'=H) I ⟨_,ev,rfl,rfl⟩) fun u s1 ⟨v',H',I1,ru,e2,e3⟩=>?_);subst e2 e3;cases (show u=Mv f from ru);have fnAt:∀{H2:Hp}{s2:LF},L2.Inv C.X pins σ H2 s2->Same H' H2->PySem.W.FnAt f s2.heap:=fun {H2 s2} I2 sm=>⟨_,_,_,_,(I2.hok f _ (sm _ _ hf)).1⟩
  refine PySem.W.callWith_F (fnAt I1 (Same.refl _)) (thn (ha pos pins s1 σ H' (fun vs H2=>∃qs z,aF C.X.K H2 qs vs/\Same H' H2/\bE qs=true/\bE cs=true/\app L qs cs=some z/\∀v H3,Same H' H3->Rep C.X.K H3 z v->Q v H3) I1
   ⟨ρ,vw,q.bind.imp fun qs _ k1 vs H2 sm2 r2=>?_⟩) fun us s2 ⟨vs,H2,I2,r,qs,z,r2,sm2,n1,n2,ea,k2⟩=>⟨fnAt I2 sm2,?_⟩) he hpl
  ·split at k1
   ·rename_i hn
    obtain⟨z,ez,k3⟩:=k1.ofO;exact⟨qs,z,r2,sm2,hn.1,hn.2,ez,fun v H3 s3 r3=>k3 v H3 s3 r3⟩
   ·exact LU k1
  ·obtain⟨ps,fe,B,hl,ef⟩:=T L qs cs z ea
   have ca2:=fC.kp sm2.kp ca;obtain⟨hxl,l,l1,l2⟩:=nK ca2;have hus:us.length=ps.length:=by rw[← r.length,← r2.length];exact hl
   refine Ra (Oy (Cs (l:=l) (E:=E0) (Q:=Q) B.sc hr I2.env0 (sm2 _ _ hf) (sm2 _ _ hc) l1 hk nd hxl l2 (B.bd cl pm ct c us hus) (B.ev f c cl C.X.A C.X.stack s2 (drC H2 l) (hr.deeper _)) r (by rw[← r2.length];exact hl) r2 (rc.same sm2) n1 n2 (sm2.tabs vw.tb) ef
    fun v H3 s3 r3=>k2 v H3 (sm2.trans s3) r3) fun r' s' hq=>?_)
   cases r' with
   | error e=>exact LU hq
   | ok fl=>
    cases fl with
    | ret u=>exact I2.after hq
    | next=>exact LU hq
    | brk=>exact LU hq
    | cont=>exact LU hq
 ·exact LU q
end PU
namespace PU
open PySem PySem.Spec PyProof.Rows L2 PySem.SeqAt
variable[TW]
def pX(l:List (Str×Nl)):List Str:=(l.filter fun y=>y.2 == .free).map (·.1)
theorem oK{cells:List (Str×Addr)}:∀{l:List (Str×Nl)}{acc:List (Str×Addr)},(∀y∈l,y.2=.free->∃c,cells.lookup y.1=some c)->(eU cells l acc).map (·.1)=(pX l).reverse++acc.map (·.1)
 | [],acc,_=>rfl
 | (n,k)::r,acc,h=>by
  unfold eU;have hr:∀y∈r,y.2=.free->∃c,cells.lookup y.1=some c:=fun y hy=>h y (Lo _ hy)
  by_cases hk:(k == MO)=true
  ·rw[if_pos hk]
   obtain⟨c,hc⟩:=h (n,k) Lu (OF hk);have hc:cells.lookup n=some c:=hc;rw[hc];dsimp only;rw[oK hr];unfold pX;rw[List.filter_cons,if_pos hk];simp
  ·rw[if_neg hk,oK hr]
   unfold pX;rw[List.filter_cons,if_neg hk]
theorem jv{cells:List (Str×Addr)}{p:Str×Addr}:∀{l:List (Str×Nl)}{acc:List (Str×Addr)},p∈eU cells l acc->cells.lookup p.1=some p.2\/p∈acc
 | [],acc,h=>.inr h
 | (n,k)::r,acc,h=>by
  unfold eU at h;split at h
  ·split at h
   ·rename_i c hc
    rcases jv h with z | z
    ·exact .inl z
    ·rcases LX.mp z with z | z
     ·subst z;exact .inl hc
     ·exact .inr z
   ·exact jv h
  ·exact jv h
theorem Av{cells:List (Str×Addr)}(inj:∀x y c,cells.lookup x=some c->cells.lookup y=some c->x=y):∀{l:List (Str×Addr)},(∀p∈l,cells.lookup p.1=some p.2)->(l.map (·.1)).Nodup->(l.map (·.2)).Nodup
 | [],_,_=>List.nodup_nil
 | p::r,h,nd=>by
  rw[LH,MB] at nd ⊢;refine⟨fun m=>nd.1 ?_,Av inj (fun q hq=>h q (Lo _ hq)) nd.2⟩;obtain⟨q,hq,e⟩:=LV.mp m;have h1:=h p Lu;have h2:=h q (Lo _ hq);have e:q.2=p.2:=e;rw[e] at h2;exact LV.mpr ⟨q,hq,inj _ _ _ h2 h1⟩
def xK(ρ:PSt):List Nat->R (List PV)
 | []=>.ok []
 | i::r=>match ρ[i]? with
  | some (.val p)=>xK ρ r >>= fun ps=>.ok (p::ps)
  | _=>.no
def DQ(X:Cx)(H:Hp)(σ:L2.St):PV->V->Prop
 | .fn L cs,v=>∃f c pm ct xs,v=.ref f/\H f=some (FnAt f (Of "<lambda>" L.qual L.args L.body L.scope (eU X.env.cells L.scope.names []) pm c ct))/\H c=some (jC c L.qual)/\
   (eU X.env.cells L.scope.names []).map (·.1)=L.kept/\((eU X.env.cells L.scope.names []).map (·.2)).Nodup/\xs.length=L.kept.length/\aF X.K H cs xs/\
   ∀(j:Nat)(y:Str),L.kept[j]?=some y->∃(i:Nat)(v:V),X.N[i]?=some y/\σ[i]?=some (some v)/\xs[j]?=some v/\X.env.scope.names.lookup y=some .cell
 | p,v=>Rep X.K H p v/\noFn p=true
def Ak(X:Cx)(H:Hp)(σ:L2.St):List PV->List V->Prop
 | [],xs=>xs=[]
 | p::ps,xs=>∃x r,xs=x::r/\DQ X H σ p x/\Ak X H σ ps r
theorem DQ.same{X:Cx}{H H':Hp}{σ:L2.St}{p:PV}{v:V}(h:DQ X H σ p v)(s:Same H H'):DQ X H' σ p v:=by
 cases p with
 | fn L cs=>
  obtain⟨f,c,pm,ct,xs,e,h1,h2,h3,h4,h5,h6,h7⟩:=h;exact⟨f,c,pm,ct,xs,e,s _ _ h1,s _ _ h2,h3,h4,h5,h6.same s,h7⟩
 | _=>exact⟨Rep.same h.1 s,h.2⟩
def tL(C:Cn)(f:PSt->R (List PV)):TA:=fun σ H Q=>∃ρ,View C.X.K H σ ρ/\RQ C H (f ρ) fun ps=>∀vs H',Same H H'->Ak C.X H' σ ps vs->Q vs H'
def EL(C:Cn)(es:List Expr)(f:PSt->R (List PV)):Prop:=PA C.X es (tL C f)
def AU(L:Lam)(idx:List Nat)(fs:PSt->R (List PV)):PSt->R (List PV):=fun ρ=>xK ρ idx >>= fun cs=>fs ρ >>= fun ps=>.ok (.fn L cs::ps)
def DY(f:PSt->R PV)(fs:PSt->R (List PV)):PSt->R (List PV):=fun ρ=>f ρ >>= fun p=>if noFn p=true then fs ρ >>= fun ps=>.ok (p::ps) else .no
theorem qo{K:LA}{H:Hp}{σ:L2.St}{ρ:PSt}(vw:View K H σ ρ):∀{idx:List Nat}{cs:List PV},xK ρ idx=.ok cs->∃xs,aF K H cs xs/\xs.length=idx.length/\∀(j i:Nat),idx[j]?=some i->∃v,σ[i]?=some (some v)/\xs[j]?=some v
 | [],cs,e=>by cases e;exact⟨[],rfl,rfl,fun j i h=>(by simp at h)⟩
 | i::r,cs,e=>by
  unfold xK at e;split at e
  ·rename_i p hp
   cases hc:xK ρ r with
   | ok ps=>
    rw[hc] at e;cases e;obtain⟨xs,h1,h2,h3⟩:=qo vw hc;obtain⟨v,ev,rp⟩:=vw i _ hp;refine⟨v::xs,⟨v,xs,rfl,rp,h1⟩,by simp[h2],fun j k hj=>?_⟩;cases j with
    | zero=>simp at hj;subst hj;exact⟨v,ev,rfl⟩
    | succ j=>simpa using h3 j k (by simpa using hj)
   | er x=>rw[hc] at e;cases e
   | no=>rw[hc] at e;cases e
  ·cases e
theorem tE{ρ:PSt}:∀(idx:List Nat)(x:PX),xK ρ idx≠.er x
 | [],x,e=>by cases e
 | i::r,x,e=>by
  unfold xK at e;split at e
  ·cases hc:xK ρ r with
   | ok ps=>rw[hc] at e;cases e
   | er y=>exact tE r y hc
   | no=>rw[hc] at e;cases e
  ·cases e
structure LamC(C:Cn)(L:Lam)(idx:List Nat)(pos:N8)(c P:Addr):Prop where
 qual:L.qual=C.X.env.qual++"<lambda>"
 tq:TW.qual pos.line pos.col=L.qual
 code:C.X.env.code=.ref c
 hd:QV C.X.base c P
 tab:P∈TW.tabs
 bn:∃bm o,C.X.mg "__builtins__"=some (.ref bm)/\bm≠Mc/\bm≠mainGlobals/\C.X.base.get? bm=some o/\o.cls=.type "module"/\o.dict=some Mc/\o.data=.plain
 df:defaultsOf L.args C.X.env=([],[])
 free:∀y∈L.scope.names,y.2=.free->C.X.env.scope.names.lookup y.1=some .cell
 kept:(pX L.scope.names).reverse=L.kept
 nd:L.kept.Nodup
 ix:idx.map (fun i=>C.X.N[i]?)=L.kept.map some
def Kb(C:Cn)(L:Lam)(idx:List Nat):TE:=fun σ H Q=>∃ρ cs,View C.X.K H σ ρ/\xK ρ idx=.ok cs/\∀v H',Same H H'->DQ C.X H' σ (.fn L cs) v->Q v H'
theorem EZ{C:Cn}{L:Lam}{idx:List Nat}{pos:N8}{c P:Addr}(h:LamC C L idx pos c P):PE C.X (.Lambda L.args L.body L.scope pos) (Kb C L idx):=by
 intro pins s σ H Q I ⟨ρ,cs,vw,ec,q⟩;obtain⟨ps,eP,tk⟩:=vw.tb P h.tab;have has:∀y∈L.scope.names,y.2=.free->∃c,C.X.env.cells.lookup y.1=some c:=fun y hy hk=>I.ok.has y.1 (.inl (h.free y hy hk));refine Fs (c:=c) (P:=P) I eP tk h.code h.hd h.bn h.df (h.tq.trans h.qual) has fun f c' pm ct H' s' I' sm hf hc=>?_;rw[← h.qual] at hf hc;obtain⟨xs,x1,x2,x3⟩:=qo (vw.same sm) ec;have hm:(eU C.X.env.cells L.scope.names []).map (·.1)=L.kept:=by rw[oK has,NR,Mb];exact h.kept
 have hlen:idx.length=L.kept.length:=by have:=congrArg NT h.ix;simpa using this
 refine⟨.ref f,H',I',rfl,q _ H' sm ⟨f,c',pm,ct,xs,rfl,hf,hc,hm,Av I.ok.inj (fun p hp=>?_) (by rw[hm];exact h.nd),by rw[x2];exact hlen,x1,fun j y hy=>?_⟩⟩
 ·rcases jv hp with z | z
  ·exact z
  ·exact nomatch z
 ·have hj:j<idx.length:=by rw[hlen];exact(LM.mp hy).1
  have e1:idx[j]?=some idx[j]:=LG hj;have e2:=congrArg (fun l=>l[j]?) h.ix;simp only[LO,e1,hy,PQ] at e2;obtain⟨v,ev,xv⟩:=x3 j _ e1;refine⟨idx[j],v,by simpa using e2,ev,xv,?_⟩;have hmem:=M5 hy;rw[← h.kept,List.mem_reverse] at hmem;unfold pX at hmem;obtain⟨z,hz,ez⟩:=LV.mp hmem;obtain⟨hz1,hz2⟩:=Mt.mp hz;have:=h.free z hz1 (OF hz2);rw[ez] at this;exact this
section
variable{C : Cn}{e : Expr}{es : List Expr}{f : PSt → R PV}{fs : PSt → R (List PV)}
theorem Gi:EL C [] aM:=fun pos pins s σ H Q I ⟨_,_,q⟩=>eX pos pins s σ H Q I (q [] H (Same.refl H) rfl)
theorem Gh(ha:EV C e f)(hr:EL C es fs)(hs:Lk (e::es) C.X.env=(false,MZ e C.X.env)::Lk es C.X.env:=by exact cq rfl):EL C (e::es) (DY f fs):=by
 intro pos pins s σ H Q I ⟨ρ,vw,q⟩;refine bt ha hr hs pos pins s σ H Q I ⟨ρ,vw,q.bind.imp fun p _ k v H1 s1 r1=>?_⟩;split at k
 ·rename_i hn
  refine⟨ρ,vw.same s1,(k.bind.same s1).imp fun ps _ k2 vs H2 s2 r2=>k2 (v::vs) H2 (s1.trans s2) ⟨v,vs,rfl,?_,r2⟩⟩;cases p with
  | fn L cs=>cases hn
  | _=>exact⟨r1.same s2,hn⟩
 ·exact LU k
theorem B7{L:Lam}{idx:List Nat}{lp:N8}{c P:Addr}(h:LamC C L idx lp c P)(hr:EL C es fs)(hs:Lk (.Lambda L.args L.body L.scope lp::es) C.X.env=(false,MZ (.Lambda L.args L.body L.scope lp) C.X.env)::Lk es C.X.env:=by exact cq rfl) :
  EL C (.Lambda L.args L.body L.scope lp::es) (AU L idx fs):=by
 intro pos pins s σ H Q I ⟨ρ,vw,q⟩;unfold AU at q;cases hc:xK ρ idx with
 | ok cs=>
  rw[hc] at q;have q:RQ C H (fs ρ >>= fun ps=>R.ok (.fn L cs::ps)) _:=q;refine bt (EZ h) hr hs pos pins s σ H Q I ⟨ρ,cs,vw,hc,fun v H1 s1 r1=>⟨ρ,vw.same s1,(q.bind.same s1).imp fun ps _ k2 vs H2 s2 r2=>k2 (v::vs) H2 (s1.trans s2) ⟨v,vs,rfl,r1.same s2,r2⟩⟩⟩
 | er x=>
  exact absurd hc (tE idx x)
 | no=>rw[hc] at q;exact LU q
end
def jz(X:Cx)(h:Heap)(ys:List Str):List (Addr×Mu):=ys.filterMap fun y=>(X.env.cells.lookup y).map fun c=>(c,(h.get? c).getD default)
theorem fM{X:Cx}{h:Heap}{c:Addr}{o:Mu}:∀{ys:List Str},(jz X h ys).lookup c=some o->o=(h.get? c).getD default/\∃y,X.env.cells.lookup y=some c
 | [],e=>by cases e
 | y::r,e=>by
  unfold jz at e;rw[OB] at e;cases hy:X.env.cells.lookup y with
  | none=>rw[hy] at e;exact fM (ys:=r) e
  | some d=>
   rw[hy] at e;simp only[PQ] at e;rw[M8] at e;cases hb:(c == d) with
   | true=>rw[hb] at e;cases e;have:=OF hb;subst this;exact⟨rfl,y,hy⟩
   | false=>rw[hb] at e;exact fM (ys:=r) e
theorem oN{X:Cx}{h:Heap}{c:Addr}{y:Str}(hy:X.env.cells.lookup y=some c):∀{ys:List Str},y∈ys->(jz X h ys).lookup c=some ((h.get? c).getD default)
 | [],m=>nomatch m
 | z::r,m=>by
  unfold jz;rw[OB];cases hz:X.env.cells.lookup z with
  | none=>
   rcases LX.mp m with e | m
   ·subst e;rw[hy] at hz;cases hz
   ·exact oN hy m
  | some d=>
   simp only[PQ];rw[M8];cases hb:(c == d) with
   | true=>have:=OF hb;subst this;rfl
   | false=>
    rcases LX.mp m with e | m
    ·subst e;rw[hy] at hz;cases hz;simp at hb
    ·exact oN hy m
section
variable{X : Cx}{pins : List (Addr×Mu)}{σ : L2.St}{H : Hp}{s : LF}
theorem Bb(I:L2.Inv X pins σ H s)(hfn:∀y,X.fn y=true)(ys:List Str):Cls X H s (jz X s.heap ys):=by
 have at_:∀c o,(jz X s.heap ys).lookup c=some o->s.heap.get? c=some o:=fun c o e=>by
  obtain⟨e1,y,e2⟩:=fM e;obtain⟨v,o',g,_⟩:=I.cell y c e2;rw[e1,g];rfl
 have big:∀c o,(jz X s.heap ys).lookup c=some o->X.s₀.heap.objs.size<=c:=fun c o e=>by
  obtain⟨_,y,e2⟩:=fM e;exact I.ok.cab y c (hfn y) e2
 refine⟨at_,fun c o e=>?_,fun c o e=>?_,fun c o e hs=>?_⟩
 ·obtain⟨_,y,e2⟩:=fM e
  exact I.freeC y c e2
 ·exact Rv (Ma I.ok.bsz (big c o e))
 ·obtain⟨_,y,e2⟩:=fM e
  rcases LX.mp (I.stkSub c hs) with z | z
  ·obtain⟨v,o',g,d⟩:=I.cell y c e2
   obtain⟨m,⟨o2,es,ep,g2,d2,_⟩,_⟩:=I.loc;rw[← z,g] at g2;cases g2;rw[d] at d2;cases d2
  ·obtain⟨_,o2,g2,_⟩:=I.ok.funs.mem z
   exact absurd (LZ g2) (Nat.not_lt_of_le (big c o e))
theorem zc{p:PV}{v:V}(I:L2.Inv X pins σ H s)(hfn:∀y,X.fn y=true)(h:DQ X H σ p v):Rep X.K (trC H (jz X s.heap (X.env.scope.names.map (·.1)))) p v:=by
 have hc:=Bb I hfn (X.env.scope.names.map (·.1));have ext:Same H (trC H (jz X s.heap (X.env.scope.names.map (·.1)))):=.of fun b o e=>by rw[aS (hc.out e)];exact e
 cases p with
 | fn L cs=>
  obtain⟨f,c,pm,ct,xs,e,h1,h2,h3,h4,h5,h6,h7⟩:=h;refine⟨f,c,_,pm,ct,xs,e,ext _ _ h1,ext _ _ h2,h3,h4,?_,h6.same ext⟩
  have gen:∀(cl:List (Str×Addr))(zs:List V),zs.length=cl.length->(∀p∈cl,X.env.cells.lookup p.1=some p.2)->(∀(j:Nat)(y:Str),(cl.map (·.1))[j]?=some y->∃(i:Nat)(v:V),X.N[i]?=some y/\σ[i]?=some (some v)/\zs[j]?=some v/\X.env.scope.names.lookup y=some .cell)->
    fC (trC H (jz X s.heap (X.env.scope.names.map (·.1)))) cl zs:=by
   intro cl
   induction cl with
   | nil=>intro zs hl _ _;exact Mz hl
   | cons p r ih=>
    intro zs hl hm hj;cases zs with
    | nil=>cases hl
    | cons z zs=>
     obtain⟨i,v,n1,n2,n3,n4⟩:=hj 0 p.1 (by simp);simp at n3;subst n3;obtain⟨m,hn,hloc⟩:=I.loc;obtain⟨u,ru,lk⟩:=hloc i p.1 z n1 n2 (.inr (.inl n4));have hp:=hm p Lu;rcases lk with⟨k1,_⟩|⟨_,c',c1,o,c2,c3⟩
     ·have k1:X.env.scope.names.lookup p.1=some .local:=k1
      rw[n4] at k1;cases k1
     ·rw[hp] at c1
      cases c1;refine⟨z,zs,o,u,rfl,l9 ?_,c3,ru,ih zs (by simpa using hl) (fun q hq=>hm q (Lo _ hq)) fun j y hy=>?_⟩
      ·rw[oN hp (LV.mpr ⟨_,M7 n4,rfl⟩),c2];rfl
      ·obtain⟨i,v,a1,a2,a3,a4⟩:=hj (j+1) y (by simpa using hy)
       exact⟨i,v,a1,a2,by simpa using a3,a4⟩
  refine gen _ xs (by rw[h5,← h3,LJ]) (fun p hp=>?_) fun j y hy=>h7 j y (by rw[← h3];exact hy);rcases jv hp with z | z
  ·exact z
  ·exact nomatch z
 | _=>exact Rep.same h.1 ext
theorem mW(I:L2.Inv X pins σ H s)(hfn:∀y,X.fn y=true):∀{ps:List PV}{vs:List V},Ak X H σ ps vs->aF X.K (trC H (jz X s.heap (X.env.scope.names.map (·.1)))) ps vs
 | [],_,h=>h
 | p::ps,_,⟨x,r,e,h1,h2⟩=>⟨x,r,e,zc I hfn h1,mW I hfn h2⟩
end
def tF(fs:PSt->R (List PV))(F:List PV->Option PV):PSt->R PV:=fun ρ=>fs ρ >>= fun qs=>R.ofO (F qs) >>= fun z=>if noFn z=true then .ok z else .no
theorem cD.pl{K:LA}{H H':Hp}{a:Addr}{z:PV}(k:∀b u,H b=some u->(∀q,u≠.frz q (.own 0))->H' b=some u)(n:noFn z=true)(h:cD K H a z):cD K H' a z:=by
 have k2:∀b u,H b=some u->FU u=true->H' b=some u:=fun b u e h=>k b u e (sU h);cases z with
 | lst ps=>obtain⟨xs,w,r⟩:=h;exact⟨xs,k _ _ w (fun _ h=>by cases h),aF.pl k2 ps n r⟩
 | dct ks ps=>obtain⟨xs,w,e,r⟩:=h;exact⟨xs,k _ _ w (fun _ h=>by cases h),e,aF.pl k2 ps n r⟩
 | dtt ks ps=>obtain⟨xs,w,e,r⟩:=h;exact⟨xs,k _ _ w (fun _ h=>by cases h),e,aF.pl k2 ps n r⟩
 | _=>exact h
theorem zV{C:Cn}{e:Expr}{es:List Expr}{fs:PSt->R (List PV)}{x:Str}{k:Nat}{F:List PV->Option PV}{p pos:N8}(G:PFN C.X.prog C.X.w C.X.K C.X.mg C.X.base k x F){kr:Nat}(hr:Room kr C.X.A)(ha:EL C (e::es) fs)
  (hdb:(x == ("__debug__":Str))=false:=by decide) (he:Lk (e::es) C.X.env=(false,MZ e C.X.env)::Lk es C.X.env:=by exact cq rfl) (hpl:(OR pos (Lk es C.X.env)).any (·.1)=false:=by exact kK rfl) (hk:k<=kr:=by decide) (hg:Gl C.X x:=by exact rfl) (hfn:∀y,C.X.fn y=true:=by exact fun _=>rfl) :
  EN C (.Call (.Name x p) (e::es) [] pos) (tF fs F):=by
 replace hr:=hr.mono hk;obtain⟨f,fd,ps,a,b,c,d,l⟩:=G.ex;intro pins s σ H Q I ⟨ρ,vw,q⟩;refine OQ (qY I hg b ?_ hdb)
 refine Rg (h₀:=C.X.base) I.ok.mod.kin c (thn (ha pos pins s σ H (fun vs H1=>∃qs z,Ak C.X H1 σ qs vs/\Same H H1/\F qs=some z/\noFn z=true/\∀a H',Same H H'->H a=none->cD C.X.K H' a z->Q (.ref a) H') I
  ⟨ρ,vw,q.bind.imp fun qs _ k1 vs H1 s1 r1=>?_⟩) fun us s1 ⟨vs,H1,I1,r,qs,z,r1,sm,ez,nz,k2⟩=>⟨I1.kIn,?_⟩) he hpl
 ·obtain⟨z,ez,k3⟩:=k1.bind.ofO
  split at k3
  ·rename_i hn
   exact⟨qs,z,r1,s1,ez,hn,fun v H' s' n' r'=>k3 v H' s' n' r'⟩
  ·exact LU k3
 ·have hc:=Bb I1 hfn (C.X.env.scope.names.map (·.1))
  have rr:=mW I1 hfn r1;have hl:=l qs z ez;have hv:vs.length=ps.length:=by rw[← rr.length];exact hl
  have ext:Same H1 (trC H1 (jz C.X s1.heap (C.X.env.scope.names.map (·.1)))):=.of fun b o e=>by rw[aS (hc.out e)];exact e
  have hu:(us++[]).length=ps.length:=by rw[Mb,← r.length];exact hv
  have hb:=d s1 us I1.kIn hu;rw[Mb] at hb
  refine Ra (Oy (a.run C.X.A C.X.stack s1 _ ⟨us,[]⟩ us vs (fun v H'=>∃a,v=.ref a/\Same (trC H1 (jz C.X s1.heap (C.X.env.scope.names.map (·.1)))) H'/\trC H1 (jz C.X s1.heap (C.X.env.scope.names.map (·.1))) a=none/\cD C.X.K H' a z) E0 hr (IW I1 hc) hb r
   ⟨hv,ext.tabs (sm.tabs vw.tb),qs,z,rr,ez,fun a H' s' n' r'=>⟨a,rfl,s',n',r'⟩⟩) fun r' s' hq=>?_)
  cases r' with
  | error e=>exact LU hq
  | ok fl=>
   cases fl with
   | ret u=>
    obtain⟨v,H',os,bare,un,hok,rv,a,ea,sm2,na,nw⟩:=hq;subst ea;refine Gy I1 hc ⟨.ref a,H',os,bare,un,hok,rv,fun un=>k2 a _ (sm.trans (HJ hc un sm2)) (sm.free (ext.free na)) (cD.pl (fun b u e h=>?_) nz nw)⟩;rw[b9 (so un e h)];exact e
   | next=>exact LU hq
   | brk=>exact LU hq
   | cont=>exact LU hq
end PU
section
namespace L2
open PySem PySem.Spec PyProof.Rows
theorem wo{P:Ll}{w:Lx}{K:LA}{mg mb:Str->Option LB}{CX:CXT}{k:Nat}{fa a:Addr}{fd:Mx}{x:Str}{sp:Sp}{s₁:LF}{vs:List LB}{ns:List Int}
  (KX:K.In s₁.heap) (hns:s₁.heap.Ns mainGlobals mg) (hb:s₁.heap.Ns Mc mb) (hbb:∀x:Str,x≠"__name__"->mb x=NB x) (hlim:s₁.heap.NoLimit) (hg:s₁.gens=#[]) (ts:List Addr) (hts:∀P∈ts,s₁.heap.get? P=some (OG #[])) (htc:∀P∈ts,∃c,QV s₁.heap c P) (htk:∀P∈ts,K.lookup P=none)
  (hbn:∃bm o,mg "__builtins__"=some (.ref bm)/\bm≠Mc/\bm≠mainGlobals/\s₁.heap.get? bm=some o/\o.cls=.type "module"/\o.dict=some Mc/\o.data=.plain)
  (ha:s₁.heap.get? a=some { cls:=.type "list",data:=.seq vs.toArray }) (hi:Sm vs ns) (hl:ns.length<=sizeLine) (hr:Room k Qd)
  (F:∀base:Heap,K.In base->base.Ns mainGlobals mg->(∃bm o,mg "__builtins__"=some (.ref bm)/\bm≠Mc/\bm≠mainGlobals/\base.get? bm=some o/\o.cls=.type "module"/\o.dict=some Mc/\o.data=.plain)->FnOk P w K mg base CX k fa fd [x] sp) (hbind:∀(s:LF) (u:LB),RC s fd ⟨[u],[]⟩ [(x,u)])
  (hsp:∀H:Hp,(∀P∈ts,H P=some (.tbl #[]))->PU.SqF K H a (ns.map V.int)->sp [.ref a] H (fun v _=>v=.bl true) fun _ _ _=>False)
  (hCX:∀H e s',CX [] H s₁ (fun _ _ _=>False) e s'->False) :
  Oz (M4 P w) Qd (.call (.ref fa) ⟨[.ref a],[]⟩) (fun r s'=>r=.ok (.ret (.bool true))/\OldK s₁.heap s'.heap/\s'.os=s₁.os/\Pm s'.gens) s₁:=by
 have rv:=oU hi;have lenV:=hi.length
 have core:∀H:Hp,(∀b,H b=none\/(∃ob xs,H b=some (.frz ob (.lst xs)))\/(b∈ts/\H b=some (.tbl #[])))->PU.SqF K H a (ns.map V.int)->HOk P w H s₁.heap->(∀b,H b≠none->b=a\/b∈ts)->(∀P∈ts,H P=some (.tbl #[]))->(H a≠none->K.lookup a=none)->
   Oz (M4 P w) Qd (.call (.ref fa) ⟨[.ref a],[]⟩) (fun r s'=>r=.ok (.ret (.bool true))/\OldK s₁.heap s'.heap/\s'.os=s₁.os/\Pm s'.gens) s₁:=by
  intro H hO hS hok hA hT hK;have base_of:∀{b:Addr}{o:Mu},s₁.heap.get? b=some o->H b=none->(zM s₁.heap H).get? b=some o:=fun e n=>zL e n
  have noA:∀{b:Addr}{o:Mu}{es:Array DictEntry}{ep:Nat},s₁.heap.get? b=some o->o.data=.dict es ep->H b=none:=fun {b o es ep} e d=>by
   cases q:H b with
   | none=>rfl
   | some u=>
    rcases hA b (by rw[q];simp) with e' | e'
    ·subst e'
     rw[ha] at e;cases e;have d':Data.seq vs.toArray _=Data.dict es ep:=d;cases d'
    ·rw[hts b e'] at e;cases e
     cases d
  have nsK:∀{b:Addr}{m:Str->Option LB},s₁.heap.Ns b m->(zM s₁.heap H).Ns b m:=fun {b m} ⟨o,es,ep,e,d,r⟩=>⟨o,es,ep,base_of e (noA e d),d,r⟩
  have hKb:K.In (zM s₁.heap H):=fun b o e=>base_of (KX b o e) (by
   cases q:H b with
   | none=>rfl
   | some u=>
    rcases hA b (by rw[q];simp) with e' | e'
    ·subst e'
     rw[hK (by rw[q];simp)] at e;cases e
    ·rw[htk b e'] at e;cases e)
  obtain⟨bm,ob,b1,b2,b3,b4,b5,b6,b7⟩:=hbn
  have hbm:H bm=none:=by
   cases q:H bm with
   | none=>rfl
   | some u=>
    rcases hA bm (by rw[q];simp) with e' | e'
    ·rw[e',ha] at b4;cases b4;cases b7
    ·rw[hts bm e'] at b4;cases b4;cases b5
  have hM:Mod K mg (zM s₁.heap H):=⟨hKb,nsK hns,⟨mb,nsK hb,hbb⟩,let ⟨mc,h1,h2⟩:=hlim;⟨mc,nsK h1,h2⟩⟩;have e0:Env0 P w K mg (zM s₁.heap H) Qd [] s₁ H:=⟨rfl,hM,fun b o e=>C7 e,Ro (wN _ _),trivial,fun b hb=>absurd (show b∈([]:List Addr) from hb) (by simp),hok,.of_eq hg⟩;refine Oy ((F _ hKb (nsK hns) ⟨bm,ob,b1,b2,b3,base_of b4 hbm,b5,b6,b7⟩).run Qd [] s₁ H ⟨[.ref a],[]⟩ [.ref a] [.ref a] _ _ hr e0 (hbind s₁ (.ref a)) (.cons rfl .nil) (hsp H hT hS)) fun r s' h=>?_;cases r with
  | error e=>exact(hCX H e s' h).elim
  | ok fl=>
   cases fl with
   | next=>exact LU h
   | brk=>exact LU h
   | cont=>exact LU h
   | ret u=>
    obtain⟨v,H',os,bare,un,hok',r',q⟩:=h;have q':v=.bl true:=q;subst q';obtain rfl:u=OY true:=r';refine⟨rfl,⟨fun b o e=>?_,fun b o e=>un.there b o e (by simp)⟩,os,bare⟩;cases q:H b with
    | none=>exact .inl (un.keep b o e q (by intro z;exact absurd (show b∈([]:List Addr) from z) (by simp)) (by simp))
    | some u=>
     rcases hO b with z | ⟨ob,xs,z⟩|⟨hb,z⟩
     ·rw[q] at z;cases z
     ·have z2:=un.frzs b ob _ z
      obtain⟨e1,_⟩:=hok b _ z;obtain⟨e2,_⟩:=hok' b _ z2;rw[e] at e1;cases e1;exact .inl e2
     ·obtain⟨more,z2⟩:=un.tbls b _ z
      have e2:s'.heap.get? b=some (OG (#[]++more)):=hok' b _ z2;have e1:=hts b hb;obtain⟨c,hc⟩:=htc b hb;have tc:=(hc.tab e1).isCodeTable;rw[e] at e1;cases e1;exact .inr (.inl ⟨tc,rfl,#[],more,rfl,e2⟩)
 have nta:∀P∈ts,P≠a:=fun P hP z=>by rw[z] at hP;have:=hts a hP;rw[ha] at this;cases this
 cases hk:K.lookup a with
 | some o=>
  have e:=KX a o hk;rw[ha] at e;cases e;refine core (fun b=>if b∈ts then some (.tbl #[]) else none) (fun b=>?_) (.inr ⟨vs,_,hk,by rw[LJ];exact hl,rv⟩) (fun b u z=>?_) (fun b z=>?_) (fun P hP=>if_pos hP) fun z=>absurd (if_neg fun h=>nta a h rfl) z
  ·by_cases hb:b∈ts
   ·exact .inr (.inr ⟨hb,if_pos hb⟩)
   ·exact .inl (if_neg hb)
  ·by_cases hb:b∈ts
   ·have z':=(if_pos hb).symm.trans z
    cases z';exact hts b hb
   ·have z':=(if_neg hb).symm.trans z
    cases z'
  ·by_cases hb:b∈ts
   ·exact .inr hb
   ·exact absurd (if_neg hb) z
 | none=>
  refine core (fun b=>if b=a then some (.frz { cls:=.type "list",data:=.seq vs.toArray } (.lst (ns.map V.int))) else if b∈ts then some (.tbl #[]) else none) (fun b=>?_) (.inl ⟨{ cls:=.type "list",data:=.seq vs.toArray },if_pos rfl⟩) (fun b u z=>?_) (fun b z=>?_) (fun P hP=>by
   show (if P=a then _ else if P∈ts then _ else _)=_;rw[if_neg (nta P hP),if_pos hP]) fun _=>hk
  ·by_cases hb:b=a
   ·exact .inr (.inl ⟨_,_,if_pos hb⟩)
   ·by_cases hb2:b∈ts
    ·exact .inr (.inr ⟨hb2,(if_neg hb).trans (if_pos hb2)⟩)
    ·exact .inl ((if_neg hb).trans (if_neg hb2))
  ·by_cases hb:b=a
   ·have z':=(if_pos hb).symm.trans z
    cases z';subst hb;exact⟨ha,by rw[LJ];exact hl,vs,_,rv,ha⟩
   ·by_cases hb2:b∈ts
    ·have z':=((if_neg hb).trans (if_pos hb2)).symm.trans z
     cases z';exact hts b hb2
    ·have z':=((if_neg hb).trans (if_neg hb2)).symm.trans z
     cases z'
  ·by_cases hb:b=a
   ·exact .inl hb
   ·by_cases hb2:b∈ts
    ·exact .inr hb2
    ·exact absurd ((if_neg hb).trans (if_neg hb2)) z
theorem walk_ofT{l:QF}{n k:Nat}{q:Ll}{loose:List Str}{XP:(Str->Option LB)->Heap->Prop}{YP:Lx->Heap->Prop}{d:DefRec}{K:Params->LA}{CX:Lx->CXT}{sp:Lx->Sp}{x:Str}
  (hn:l.most=some n) (hn2:n<=sizeLine) (hdf:d.params.defaults=[]) (hr:Room k Qd) (ts:List Addr)
  (hY:∀(w:Lx)(h:Heap),YP w h->(K w.params).In h) (hT:∀(w:Lx)(h:Heap),YP w h->∀P∈ts,h.get? P=some (OG #[])) (hC:∀(w:Lx),∀P∈ts,∃c,P0 (K w.params) c P=true) (hL:∀(w:Lx),∀P∈ts,(K w.params).lookup P=none)
  (F:∀(w:Lx)(mg:Str->Option LB)(fa:Addr)(h:Heap),(K w.params).In h->h.Ns mainGlobals mg->mg d.name=some (.ref fa)->
   ∃fd:Mx,(∀(s:LF)(u:LB),RC s fd ⟨[u],[]⟩ [(x,u)])/\
    ∀base:Heap,(K w.params).In base->base.Ns mainGlobals mg->(∃bm o,mg "__builtins__"=some (.ref bm)/\bm≠Mc/\bm≠mainGlobals/\base.get? bm=some o/\o.cls=.type "module"/\o.dict=some Mc/\o.data=.plain)->
     FnOk l.prog w (K w.params) mg base (CX w) k fa fd [x] (sp w))
  (hsp:∀(w:Lx)(H:Hp)(a:Addr)(ns:List Int),ns.length<=n->(∀P∈ts,H P=some (.tbl #[]))->PU.SqF (K w.params) H a (ns.map V.int)->sp w [.ref a] H (fun v _=>v=.bl true) fun _ _ _=>False)
  (hCX:∀(w:Lx)(H:Hp)(s:LF)(e:LB)(s':LF),CX w [] H s (fun _ _ _=>False) e s'->False) :
  PySem.W.WalkO q loose XP YP l.row.toRowW d [] (fun f vs=>SA f vs):=by
 refine Att.attach_call hn hdf fun w s₀ s₁ mg mb fa o pm cd doc a vs ns G Y ho hd hcd hmg hobj hints hlen hg=>?_;have KX:=hY w _ Y;obtain⟨fd,hb,hF⟩:=F w mg fa _ KX G.T.g hmg;obtain⟨bm,ob,b1,b2,b3,b4,b5,b6⟩:=G.T.bmain
 have hbG:bm≠mainGlobals:=fun q=>by
  obtain⟨o,es,ep,e,hd,_⟩:=G.T.g;rw[q,e] at b3;cases b3;rw[hd] at b6;cases b6
 exact wo KX G.T.g G.T.b G.T.builtins G.T.nolimit hg ts (hT w _ Y) (fun P hP=>let ⟨c,hc⟩:=hC w P hP;⟨c,Ph KX hc⟩) (hL w) ⟨bm,ob,b1,b2,hbG,b3,b4,b5,b6⟩ hobj hints (Ma hlen hn2) hr hF hb (fun H hT hS=>hsp w H a ns hlen hT hS) fun H e s'=>hCX w H s₁ e s'
end L2
namespace PU
theorem Hy[TW]{H:L2.Hp}{ts:List PySem.Addr}(e:TW.tabs=ts)(h:∀P∈ts,H P=some (.tbl #[])):uN H:=fun P hP=>⟨#[],h P (e▸hP),trivial,fun pos v h=>by cases h⟩
end PU
end
namespace PU
section
variable{g g' : PSt → R Fl}{t : PSt → R Bool}{f fk fv : PSt → R PV}{i : Nat}
theorem nj(ρ:PSt)(p:PV):cL ρ≠.ok (.ret p):=fun h=>by cases h
theorem xO(ρ:PSt)(p:PV):J9 ρ≠.ok (.ret p):=fun h=>by cases h
theorem gB(h1:∀ρ p,g ρ≠.ok (.ret p))(h2:∀ρ p,g' ρ≠.ok (.ret p))(ρ:PSt)(p:PV):aI g g' ρ≠.ok (.ret p):=by
 unfold aI;intro e;cases h:g ρ with
 | ok fl=>
  rw[h,R.ok_bind] at e;cases fl with
  | next ρ2=>exact h2 ρ2 p e
  | brk ρ2=>cases e
  | cont ρ2=>cases e
  | ret q=>exact h1 ρ q h
 | er x=>rw[h] at e;cases e
 | no=>rw[h] at e;cases e
theorem sV(h1:∀ρ p,g ρ≠.ok (.ret p))(h2:∀ρ p,g' ρ≠.ok (.ret p))(ρ:PSt)(p:PV):ifF t g g' ρ≠.ok (.ret p):=by
 unfold ifF;intro e;cases h:t ρ with
 | ok b=>
  rw[h,R.ok_bind] at e;cases b with
  | true=>rw[if_pos rfl] at e;exact h1 ρ p e
  | false=>rw[if_neg LW] at e;exact h2 ρ p e
 | er x=>rw[h] at e;cases e
 | no=>rw[h] at e;cases e
theorem yv{n:Nat}(hg:∀ρ p,g ρ≠.ok (.ret p))(ρ:PSt)(p:PV):whS n t g ρ≠.ok (.ret p):=by
 unfold whS
 induction n generalizing ρ with
 | zero=>intro e;cases e
 | succ n ih=>
  intro e;unfold whF at e;cases h:t ρ with
  | ok b=>
   rw[h,R.ok_bind] at e;cases b with
   | true=>
    rw[if_pos rfl] at e;cases h2:g ρ with
    | ok fl=>
     rw[h2,R.ok_bind] at e;cases fl with
     | next ρ2=>exact ih ρ2 e
     | cont ρ2=>exact ih ρ2 e
     | brk ρ2=>cases e
     | ret q=>exact hg ρ q h2
    | er x=>rw[h2] at e;cases e
    | no=>rw[h2] at e;cases e
   | false=>rw[if_neg LW] at e;cases e
  | er x=>rw[h] at e;cases e
  | no=>rw[h] at e;cases e
theorem xR(i:Nat)(f:PSt->R PV)(ρ:PSt)(p:PV):Dv i f ρ≠.ok (.ret p):=by
 unfold Dv;intro h;split at h
 ·cases hf:f ρ with
  | ok q=>
   rw[hf,R.ok_bind] at h;split at h <;> cases h
  | er x=>rw[hf] at h;cases h
  | no=>rw[hf] at h;cases h
 ·cases h
theorem u9(i:Nat)(fk fv:PSt->R PV)(ρ:PSt)(p:PV):mF i fk fv ρ≠.ok (.ret p):=by
 unfold mF;intro h;split at h
 ·cases hf:fv ρ with
  | ok q=>
   rw[hf,R.ok_bind] at h;cases hk:fk ρ with
   | ok kp=>
    rw[hk,R.ok_bind] at h;cases ht:mB kp with
    | some k=>
     rw[ht,R.ofO_some,R.ok_bind] at h;split at h <;> cases h
    | none=>rw[ht] at h;cases h
   | er x=>rw[hk] at h;cases h
   | no=>rw[hk] at h;cases h
  | er x=>rw[hf] at h;cases h
  | no=>rw[hf] at h;cases h
 ·cases h
end
end PU
namespace PU
open PySem PySem.Spec PyProof.Rows L2 PySem.SeqAt
section
variable{P : Ll}{w : Lx}{K : LA}{mg : Str → Option LB}{base : Heap}
theorem Fun.okC{x qual:Str}{st:Stmt}{f:Addr}{fd:Mx}{N ps:List Str}{k:Nat}{sp:Sp}(F:Fun K x qual st f fd)(S:FnScope N ps (aa st))(len:∀vs H Q E,sp vs H Q E->vs.length=ps.length)
  (hbody:∀(cdv:LB),cdv=fd.code->∀(A:M6)(outer:List QO)(s:LF)(H:Hp)(vs:List V)(Q:VK)(E:XK),Room k (A.deeper (Oh qual (aa st) s.heap.objs.size f cdv))->sp vs H Q E->
   ∃t,PSs (Ba CX0 P w K mg base N qual (aa st) f cdv A outer s H E).nox (bH st) t/\t { nx:=fun _ H'=>Q .non H',rt:=Q } (L2.start N vs) H):FnOk P w K mg base CX0 (k+1) f fd ps sp:=by
 obtain⟨oc,od,kV,doc,pm,an,cdv,ct,osl,rfl,lk,hcd⟩:=F.ex;refine G8 lk hcd S len fun A outer s H vs Q E hr hsp=>?_;obtain⟨t,h,q⟩:=hbody cdv rfl A outer s H vs Q E hr hsp;exact⟨t,h.nox,q⟩
variable[TW]
theorem zg{x qual:Str}{st:Stmt}{f:Addr}{fd:Mx}{N ps:List Str}{k:Nat}{g:PSt->R Fl}(F:Fun K x qual st f fd)(S:FnScope N ps (aa st))(hm:mg x=some (.ref f))(hb:Binds K fd ps [])
  (hbody:∀(cdv:LB),cdv=fd.code->∀(A:M6)(outer:List QO)(s:LF)(H:Hp)(E:XK),Room k (A.deeper (Oh qual (aa st) s.heap.objs.size f cdv))->SVN (DN P w K mg base N qual (aa st) f cdv A outer s H E) (bH st) g)
  (hr:∀ρ,(∃p,g ρ=.ok (.ret p))\/∀fl,g ρ≠.ok fl) :
  PFN P w K mg base (k+1) x (eD ps.length N.length g):=by
 refine⟨f,fd,ps,Fun.okC F S (fun vs H Q E h=>h.1) (fun cdv hcdv A outer s H vs Q E hr' h=>?_),hm,F.kp,hb,fun qs p h=>?_⟩
 ·obtain⟨hl,tb,qs,p,r,e0,k⟩:=h
  refine⟨_,hbody cdv hcdv A outer s H E hr',start N.length qs,(H,H),kJ tb r,?_⟩;unfold eD at e0;rw[if_pos (by rw[r.length];exact hl)] at e0;rcases hr (start N.length qs) with⟨q,hq⟩ | hq
  ·rw[hq] at e0 ⊢
   cases e0;exact fun a H' s' n' w'=>k a H' s' n' w'
  ·cases hg:g (start N.length qs) with
   | ok fl=>exact absurd hg (hq fl)
   | er x=>rw[hg] at e0;cases e0
   | no=>rw[hg] at e0;cases e0
 ·unfold eD at h
  split at h
  ·rename_i hl;exact hl
  ·cases h
end
def DJ(n:Nat)(fe:PSt->R PV)(qs cs:List PV):Option PV:=if qs.length=n then (match fe ((qs++cs).map .val) with
 | .ok p=>some p
 | _=>none) else none
theorem wq{n:Nat}{fe:PSt->R PV}{qs cs:List PV}{p:PV}(h:DJ n fe qs cs=some p):qs.length=n/\fe ((qs++cs).map .val)=.ok p:=by
 unfold DJ at h;split at h
 ·rename_i hl
  refine⟨hl,?_⟩;split at h
  ·rename_i q hq;cases h;exact hq
  ·cases h
 ·cases h
def Cu(q:Str)(kept:List Str)(sc:Scope):Expr->Lam
 | .Lambda a b s _=>⟨q,a,b,s,kept⟩
 | e=>⟨q,⟨[],[],none,[],[],none,[]⟩,e,sc,kept⟩
def Az(j:Nat)(e0:Expr):Stmt->Expr
 | .Return (some (.Call _ as _ _)) _=>as.getD j e0
 | _=>e0
def AS(p:N8):Expr->N8
 | .Lambda _ _ _ p=>p
 | _=>p
theorem LScope.of{ps fr:List Str}{sc:Scope}(kind:sc.kind=.function)(co:sc.isCoroutine=false)(gen:sc.isGenerator=false)(nocell:∀x∈sc.names,x.2≠.cell)(par:∀x∈ps,sc.names.lookup x=some .local)
  (fre:∀y∈sc.names,y.2=.free->y.1∈fr) (frk:∀x∈fr,sc.names.lookup x=some .free) (nd:(ps++fr).Nodup):LScope ps fr sc:=
 ⟨kind,co,gen,nocell,par,fun x h=>fre _ (M7 h) rfl,frk,nd⟩
end PU
namespace PU
open PySem PySem.Spec PyProof.Rows L2 PySem.SeqAt
def HP:V->List V->Hp->VK->Prop:=fun x vs H Q=>∃a kvs k v,x=.ref a/\vs=[kV k,v]/\H a=some (.dK kvs)/\kvs.length<sizeLine/\
 ((∃w,jG kvs k=some w/\Q w H)\/(jG kvs k=none/\Q v (upd H a (.dK (putK kvs k v)))))
theorem Cm {X:Cx}:MtM X "dict.setdefault" HP:=by
 intro pins s σ H x vs v us Q I rx rv h;obtain⟨a,kvs,k,y,rfl,rfl,hH,hl,q⟩:=h;cases rx;obtain⟨u1,u2,rfl,r1,r2⟩:=Vals.two rv;obtain⟨z,hd,ws,rel,dd⟩:=Dg I.hok hH;have hz:ws.length<=sizeLine:=by rw[← rel.length];exact z
 refine Qe Ng dd.typeIs QA (Q5 _ _ _) (PySem.kt_meets_setdefault (aq X.prog X.w) a (lR r1) hd u2) ⟨ws,dd,hz,fun v' hv'=>?_,fun hn h' dd' hs=>?_⟩
 ·rcases q with⟨w,ew,q⟩|⟨en,_⟩
  ·obtain⟨w',hw',rw'⟩:=mL.some_of (v:=w) (o:=Mq ws k) (by rw[← ew];exact rel.val k)
   rw[hv'] at hw';cases hw';exact⟨w,H,I.tok _,rw',q⟩
  ·have:Mq ws k=none:=mL.none_of (by rw[← en];exact rel.val k)
   rw[this] at hv';cases hv'
 ·rcases q with⟨w,ew,_⟩|⟨en,q⟩
  ·obtain⟨w',hw',_⟩:=mL.some_of (v:=w) (o:=Mq ws k) (by rw[← ew];exact rel.val k)
   rw[hn] at hw';cases hw'
  ·have hl2:(putK kvs k y).length<=sizeLine:=by have:=dq kvs k y;omega
   have he:∃q,h'.get? a=some q:=let ⟨q,_,_,hq,_⟩:=dd';⟨q,hq⟩
   exact⟨y,_,kf I (by rw[hH];exact N7) hs he (xo hl2 hd (rel.put k r2) dd'),r2,q⟩
variable[TW]
end PU
namespace PU
open PySem PySem.Spec PyProof.Rows L2 PySem.SeqAt
variable[TW]
abbrev jP(js:List Int):PV:=.lst (js.map PV.int)
end PU
namespace PU
open PySem PySem.Spec PyProof.Rows L2
theorem fsc{N ps:List Str}{sc:Scope}(a:sc.kind=.function:=by rfl)(b:sc.isCoroutine=false:=by rfl)(c:sc.isGenerator=false:=by rfl)(d:N.Nodup:=by decide +kernel)(e:N.take ps.length=ps:=by rfl)
  (f:∀x∈ps,sc.names.lookup x=some .local\/sc.names.lookup x=some .cell:=by decide +kernel) (g:∀y∈sc.names,y.2≠.free:=by decide +kernel):FnScope N ps sc:=⟨a,b,c,d,e,f,g⟩
theorem cok{N ps NX N':List Str}{S scX scope:Scope}{nt:Nat}{idx:List Nat}(_:FnScope N ps S)(e1:NX=N:=by rfl)(e2:scX=S:=by rfl)(a:scope.kind=.function:=by rfl)(b:∀y∈scope.names,y.2≠.cell:=by decide +kernel)
  (c:∀y∈scope.names,y.2=.local->scope.names.lookup y.1=some .local:=by decide +kernel) (d:∀y∈scope.names,y.2=.free->S.names.lookup y.1=some .cell\/S.names.lookup y.1=some .free:=by decide +kernel) (e:N'.length=nt+idx.length:=by rfl)
  (f:(idx.zip (N'.drop nt)).all (fun p=>decide (N[p.1]?=some p.2) && decide (scope.names.lookup p.2=some .free))=true:=by decide +kernel):CompOk NX scX scope N' nt idx:=by
 subst e1 e2;exact⟨a,b,c,d,e,f⟩
def Has(K:LA)(n:Str)(st:Stmt):Prop:=∃(f:Addr)(oc kV dc pm cd ct:LB)(od an:Option Addr)(sl:Array (Option LB)),MM K mainGlobals n=some (some (.ref f))/\
 K.lookup f=some ⟨oc,od,.func (Mn n n (eR st) (bH st) (aa st) .none kV dc pm an cd ct),sl⟩/\Nr K cd n=true/\N5 K (.ref f)=true
theorem Has.of{K:LA}{n:Str}{st:Stmt}{f:Addr}{oc kV dc pm cd ct:LB}{od an:Option Addr}{sl:Array (Option LB)}(a:MM K mainGlobals n=some (some (.ref f)))
  (l:K.lookup f=some ⟨oc,od,.func (Mn n n (eR st) (bH st) (aa st) .none kV dc pm an cd ct),sl⟩) (c:Nr K cd n=true) (k:N5 K (.ref f)=true):Has K n st:=⟨_,_,_,_,_,_,_,_,_,_,a,l,c,k⟩
def Hs(K:LA)(mg:Str->Option LB)(n:Str)(st:Stmt):Prop:=∃f fd,Fun K n n st f fd/\mg n=some (.ref f)
theorem Has.fn{K:LA}{n:Str}{st:Stmt}{h:Heap}{mg:Str->Option LB}(x:Has K n st)(X:K.In h)(G:h.Ns mainGlobals mg):Hs K mg n st:=by
 obtain⟨f,_,_,_,_,_,_,_,_,_,a,l,c,k⟩:=x;exact⟨f,_,wW l c k,Ow X G a⟩
variable[TW]
section
variable{C : Cn}{pos : N8}
theorem ak(i:Nat){x:Str}(hN:C.X.N[i]?=some x:=by rfl)(hv:Vis C.X.env.scope x:=by first | exact .inl rfl | exact .inr (.inl rfl) | exact .inr (.inr rfl))
  (hd:(x == ("__debug__":Str))=false:=by decide) (hcd:(x == ("__classdict__":Str))=false:=by decide):EO C (.Name x pos) (a8 i):=(ao i hN hv hd hcd).o
theorem a9{i j}:EO C (.Constant (.int i) j pos) (kI i):=aO.o
theorem dm{i j}:EO C (.Constant (.str i) j pos) (kS i):=aL.o
theorem rS{C:Cn}{N':List Str}{scope:Scope}{cl}{L}{s}{H}{fp}(i:Nat){x:Str}(hi:N'[i]?=some x:=by rfl)(hx:Loc (fL C N' scope cl L s H fp).X.env.scope x:=by first | exact .inl rfl | exact .inr rfl)(hN:N'.Nodup:=by decide +kernel)
  (hf:(fL C N' scope cl L s H fp).X.fn x=true\/(fL C N' scope cl L s H fp).X.env.scope.names.lookup x=some .local:=by first | exact .inl rfl | exact .inr rfl | assumption):TCt (fL C N' scope cl L s H fp) (.Name x pos) (ai i):=Bo i hN hi hx hf
end
section
variable{P : Ll}{w : Lx}{K : LA}{mg : Str → Option LB}{base : Heap}{x : Str}{st : Stmt}{N ps : List Str}{k : Nat}{g : PSt → R Fl}
theorem ic(h:Hs K mg x st)(S:FnScope N ps (aa st))
  (hbody:∀(f:Addr)(cdv:LB)(A:M6)(outer:List QO)(s:LF)(H:Hp)(E:XK),Room k (A.deeper (Oh x (aa st) s.heap.objs.size f cdv))->SVs (DN P w K mg base N x (aa st) f cdv A outer s H E) (bH st) g)
  (hb:∀(kV doc pm:LB)(an:Option Addr)(cdv ct:LB)(us:List LB),us.length=ps.length->Qf (Mn x x (eR st) (bH st) (aa st) .none kV doc pm an cdv ct) ⟨us,[]⟩=pure (ps.zip us):=by
   intro _ _ _ _ _ _ us hl;repeat' (first | (exfalso;simp only[NT] at hl;omega) | (rcases us with _ | ⟨_,us⟩) | rfl)) :
  PF P w K mg base (k+1) x (eD ps.length N.length g):=by
 obtain⟨f,fd,F,hm⟩:=h;exact HW F S hm (F.binds hb) (hbody f)
theorem EK(h:Hs K mg x st)(S:FnScope N ps (aa st))
  (hbody:∀(f:Addr)(cdv:LB)(A:M6)(outer:List QO)(s:LF)(H:Hp)(E:XK),Room k (A.deeper (Oh x (aa st) s.heap.objs.size f cdv))->SVN (DN P w K mg base N x (aa st) f cdv A outer s H E) (bH st) g)
  (hb:∀(kV doc pm:LB)(an:Option Addr)(cdv ct:LB)(us:List LB),us.length=ps.length->Qf (Mn x x (eR st) (bH st) (aa st) .none kV doc pm an cdv ct) ⟨us,[]⟩=pure (ps.zip us):=by
   intro _ _ _ _ _ _ us hl;repeat' (first | (exfalso;simp only[NT] at hl;omega) | (rcases us with _ | ⟨_,us⟩) | rfl)) :
  PFN P w K mg base (k+1) x (runN ps.length N.length g):=by
 obtain⟨f,fd,F,hm⟩:=h;exact BX F S hm (F.binds hb) (hbody f)
end
end PU
namespace PU
open PySem PySem.Spec PyProof.Rows L2 HT
theorem iM{prog:Ll}{w:Lx}{A:M6}{E:LB->LF->Prop}{s:LF}{t sl:Addr}{items:Array LB}{vl vu:LB}{lo hi:Option Int}{Q:LB->LF->Prop}(ht:IsTup s.heap t items)(hs:s.heap.IsSliceOf sl vl vu .none)(pl:Q4 vl lo)(pu:Q4 vu hi)
  (hw:sIx items.size 0 lo=0/\sIx items.size items.size hi=items.size)
  (h:Q (.ref t) s):Ln (M4 prog w) A (Q9 (.ref t) (.ref sl)) Q E s:=by
 obtain⟨os,hos,hcs,hds⟩:=id hs;have hTs:s.TypeIs (.ref sl) "slice":=⟨os,hos,hcs⟩;unfold Q9
 try with_reducible refine NC ?_
 first | refine LD (LQ ?_) | skip
 refine LD (wpAny_sequenceKey ht.typeIs (by decide) ?_)
 refine LD (Nk (name:=LS "__getitem__") ht.typeIs MV
  (Nj MV ht.typeIs entry_tuple_getitem ?_ (args_tuple_getitem _ _)))
 show Ln _ _ (OZ (.ref t) >>= _) _ _ s;refine LD (tupleItemsOf_ ht ?_);refine LD (Oe hTs ?_);rw[if_pos (by decide)];refine LD (gr hs pl pu ?_)
 have hyes:((((sIx items.size 0 lo:Nat):Int) == 0 && (1:Int) == 1 && (sIx items.size items.size hi-sIx items.size 0 lo) == items.size)=true):=by
  rw[hw.1,hw.2];simp
 show Ln _ _ (if (((sIx items.size 0 lo:Nat):Int) == 0 && (1:Int) == 1 && (sIx items.size items.size hi-sIx items.size 0 lo) == items.size)=true then _ else _) _ _ s;rw[if_pos hyes];unfold Builtin.Tuple.tupleIsExact;refine LD (LD (Oe ht.typeIs (LQ ?_)));rw[if_pos (by decide)];refine LD (Oq ?_)
 first
  | exact LQ ⟨_,rfl,LQ h⟩
  | exact LD (LQ (LQ ⟨_,rfl,LQ h⟩))
  | exact LQ (LQ ⟨_,rfl,LQ h⟩)
variable[TW]
def Ha:PV->Option Int->Option Int->Option PV
 | .tup ps,lo,hi=>some (.tup (jD ps lo hi))
 | _,_,_=>none
def p8(f:PSt->R PV)(l h:PSt->R (Option Int)):PSt->R PV:=fun ρ=>f ρ >>= fun p=>l ρ >>= fun lo=>h ρ >>= fun hi=>R.ofO (Ha p lo hi)
def HM(K:LA):V->Option Int->Option Int->Hp->VK->Prop:=fun v lo hi H Q=>∃p z,aX K H p v/\Ha p lo hi=some z/\∀w H',Same H H'->Rep K H' z w->Q w H'
theorem Kh{X:Cx}:SlR X (HM X.K):=by
 intro pins s σ H x v vl vu lo hi sl Q I rx hs pl pu ⟨p,z,rp,ez,k⟩;cases p with
 | tup ps=>
  cases ez;obtain⟨a,xs,rfl,g,rr⟩:=aX.tup_inv rp
  by_cases hw:HT.sIx ps.length 0 lo=0/\HT.sIx ps.length ps.length hi=ps.length
  ·cases rx
   obtain⟨its,r,ht,hz⟩:=I.tuple g;have hlen:its.toArray.size=ps.length:=by rw[Lv,rr.length];exact r.length.symm
   refine⟨"tuple",_,MV.lookup,ht.typeIs,?_⟩;refine iM ht hs pl pu (by rw[hlen];exact hw) ⟨.ref a,H,I,rfl,k _ H (Same.refl H) ?_⟩
   have e:jD ps lo hi=ps:=by
    unfold jD;rw[hw.1,hw.2];simp
   rw[e];exact rp
  ·exact Aw pins s σ H _ v vl vu lo hi sl Q I rx hs pl pu ⟨a,xs,rfl,g,by rw[← rr.length];exact hw,fun b hb=>k _ _ (Same.new hb) ⟨b,_,rfl,az,(oI rr lo hi).same (Same.new hb)⟩⟩
 | _=>cases ez
theorem qe{C:Cn}{e:Expr}{f:PSt->R PV}{lo hi:Option Expr}{l h:PSt->R (Option Int)}{pos p2:N8}(ha:EO C e f)(hl:EOI C lo l)(hh:EOI C hi h):EV C (.Subscript e (.Slice lo hi none p2) pos) (p8 f l h):=by
 intro pins s σ H Q I ⟨ρ,vw,q⟩;refine oj Kh ha hl hh pins s σ H Q I ⟨ρ,vw,q.bind.imp fun p _ k v H1 s1 r1=>⟨ρ,vw.same s1,(k.bind.same s1).imp fun o1 _ k2 H2 s2=>⟨ρ,(vw.same s1).same s2,(k2.bind.same (s1.trans s2)).imp fun o2 _ k3 H3 s3=>?_⟩⟩⟩;obtain⟨z,ez,k4⟩:=k3.ofO;exact⟨p,z,(r1.same s2).same s3,ez,fun w H4 s4 r4=>k4 w H4 (((s1.trans s2).trans s3).trans s4) r4⟩
end PU
namespace PU
open PySem PySem.Spec PyProof.Rows L2 PySem.SeqAt
theorem pq:∀(ps qs:List PV)(k j:List Key),oY ps=some k->oY qs=some j->bg ps qs=some (decide (k=j))
 | [],[],k,j,h1,h2=>by cases h1;cases h2;simp[bg]
 | [],q::qs,k,j,h1,h2=>by
  cases h1;unfold oY at h2;obtain⟨x,_,h2⟩:=LR.mp h2;obtain⟨y,_,e⟩:=LK.mp h2;cases e;simp[bg]
 | p::ps,[],k,j,h1,h2=>by
  cases h2;unfold oY at h1;obtain⟨x,_,h1⟩:=LR.mp h1;obtain⟨y,_,e⟩:=LK.mp h1;cases e;simp[bg]
 | p::ps,q::qs,k,j,h1,h2=>by
  unfold oY at h1 h2;obtain⟨x,e1,h1⟩:=LR.mp h1;obtain⟨xs,e2,e⟩:=LK.mp h1;cases e;obtain⟨y,e3,h2⟩:=LR.mp h2;obtain⟨ys,e4,e⟩:=LK.mp h2;cases e;have ih:=pq ps qs xs ys e2 e4
  have e0:bp p q=some (decide (x=y)):=by
   cases p <;> cases e1 <;> cases q <;> cases e3 <;> simp[bp] <;> (rw[MP];simp)
  simp only[bg,e0,ih,OW]
  congr 1
  rw[MP];simp
theorem ER(p q:PV)(k j:Key ⊕ List Key)(h1:GX p=some k)(h2:GX q=some j):bp p q=some (decide (k=j)):=by
 cases p with
 | tup ps=>
  obtain⟨a,e1,rfl⟩:=LK.mp (show (oY ps).map Ml=some k from h1);cases q with
  | tup qs=>
   obtain⟨b,e2,rfl⟩:=LK.mp (show (oY qs).map Ml=some j from h2);simp only[bp,pq ps qs a b e1 e2]
   congr 1
   rw[MP];simp
  | int i=>cases h2;simp[bp]
  | str i=>cases h2;simp[bp]
  | _=>cases h2
 | int i=>
  cases h1;cases q with
  | tup qs=>obtain⟨b,e2,rfl⟩:=LK.mp (show (oY qs).map Ml=some j from h2);simp[bp]
  | int i=>cases h2;simp[bp];rw[MP];simp
  | str i=>cases h2;simp[bp]
  | _=>cases h2
 | str i=>
  cases h1;cases q with
  | tup qs=>obtain⟨b,e2,rfl⟩:=LK.mp (show (oY qs).map Ml=some j from h2);simp[bp]
  | int i=>cases h2;simp[bp]
  | str i=>cases h2;simp[bp];rw[MP];simp
  | _=>cases h2
 | _=>cases h1
theorem vG:∀(ps qs:List PV)(k j:bW),ye ps=some k->ye qs=some j->bg ps qs=some (decide (k=j))
 | [],[],k,j,h1,h2=>by cases h1;cases h2;simp[bg]
 | [],q::qs,k,j,h1,h2=>by
  cases h1;unfold ye at h2;obtain⟨x,_,h2⟩:=LR.mp h2;obtain⟨y,_,e⟩:=LK.mp h2;cases e;simp[bg]
 | p::ps,[],k,j,h1,h2=>by
  cases h2;unfold ye at h1;obtain⟨x,_,h1⟩:=LR.mp h1;obtain⟨y,_,e⟩:=LK.mp h1;cases e;simp[bg]
 | p::ps,q::qs,k,j,h1,h2=>by
  unfold ye at h1 h2;obtain⟨x,e1,h1⟩:=LR.mp h1;obtain⟨xs,e2,e⟩:=LK.mp h1;cases e;obtain⟨y,e3,h2⟩:=LR.mp h2;obtain⟨ys,e4,e⟩:=LK.mp h2;cases e;simp only[bg,ER p q x y e1 e3,vG ps qs xs ys e2 e4,OW]
  congr 1
  rw[MP];simp
variable[TW]
end PU
namespace PU
open PySem PySem.Spec PyProof.Rows L2 PySem.SeqAt
section
variable{prog : Ll}{w : Lx}{K : Type}[DecidableEq K]{knd : Rj prog w K}{A : M6}{E : LB → LF → Prop}{s : LF}
theorem ll{d a:Addr}{xs:List (K×Addr×LB)}{k:K}{v:LB}{Q:LB->LF->Prop}(hu:knd.room A)(hkey:knd.is s.heap k a)(hm:s.heap.DictOfH knd d xs)(hsz:xs.length<=sizeLine)
  (h1:∀p,Pb xs k=some p->Q p.2 { s with toks:=s.toks+knd.draws k })
  (h2:Pb xs k=none->∀h',h'.DictOfH knd d (storedH xs k a v)->NK d s.heap h'->Q v { s with heap:=h',toks:=s.toks+knd.draws k }) :
  Ln (M4 prog w) A (Re d (.ref a) v) Q E s:=by
 obtain⟨o,es,ep,ho,hc,hd,he,his,hn⟩:=hm;unfold Re
 try with_reducible refine NC ?_
 refine LD (knd.pyHash hu hkey (LD (wpAny_dictFind_heap (s:={ s with toks:=s.toks+knd.draws k }) hu hkey ho hd he his hn (fun hno=>?_) fun j p hj=>?_)))
 ·have ha:=atKey_none_of_get hno
  have hnot:k ∉ xs.map (·.1):=not_mem_keys_of_get hno;refine LD (Oq (LD (wpAny_updateDictKeys (hz:=by have e:=size_of_entries he;omega) (s:={ s with toks:=s.toks+knd.draws k }) ho hd (LQ (h2 ha _ ⟨_,_,ep+1,Nq _ ho (Obj.isFreed_of_dict (SD hd _)),hc.mapDictKeys _,SD hd _,?_,?_,?_⟩ (OS ..))))))
  ·rw[storedH_new ha]
   simp[he,entryOfKey]
  ·rw[storedH_new ha]
   intro x hx;rcases MA.mp hx with hx | hx
   ·exact knd.keeps (his x hx) ho hd (OS ..)
   ·cases Li.mp hx
    exact knd.keeps hkey ho hd (OS ..)
  ·rw[storedH_new ha,Lq,N1]
   exact⟨hn,by simp,fun x hx y hy e=>by cases Li.mp (show y∈[k] from hy);exact hnot (e▸hx)⟩
 ·refine LD (O1 (s:={ s with toks:=s.toks+knd.draws k }) ho hd ?_)
  rw[entry_at he j,hj];exact LD (Oq (LQ (h1 p (atKey_of_get hn hj))))
theorem jW(knd:Rj prog w K)(d a:Addr)(hd:(d == MH)=false)(dflt:LB) :
  MeetsIn prog w (O2.«dict.setdefault» ⟨[.ref d,.ref a,dflt],[]⟩) (fun A R s=>knd.room A.in1/\∃k xs,knd.is s.heap k a/\s.heap.DictOfH knd d xs/\xs.length<=sizeLine/\
   (∀p,Pb xs k=some p->R (.ok (.ret p.2)) { s with toks:=s.toks+knd.draws k })/\
   (Pb xs k=none->∀h',h'.DictOfH knd d (storedH xs k a dflt)->NK d s.heap h'->R (.ok (.ret dflt)) { s with heap:=h',toks:=s.toks+knd.draws k })):=
 .of_wp fun A R s ⟨hu,k,xs,hkey,hm,hz,h1,h2⟩=>by
  unfold O2.«dict.setdefault»;refine LD ?_;unfold Builtin.Dict.keyAndDefault;refine LD (Pv hm.typeIs ?_);show Ln _ _ (pure (d,Mv a,some dflt)) _ _ s;refine LQ ?_;show Ln _ _ (if (d == MH)=true then _ else (Re d (.ref a) dflt >>= _)) _ _ s;rw[if_neg (by rw[hd];exact LW)];exact LD (ll hu hkey hm hz (fun p hp=>LQ ⟨p.2,rfl,h1 p hp⟩) fun hn h' hm' hs'=>LQ ⟨dflt,rfl,h2 hn h' hm' hs'⟩)
end
def vc(i:Nat)(fk fv:PSt->R PV):PSt->R Fl:=fun ρ=>match ρ[i]? with
 | some (.own (.dtt ks ps))=>fk ρ >>= fun kp=>fv ρ >>= fun p=>R.ofO (mB kp) >>= fun k=>if ks.length<16777216 then .ok (.next (if (ks.any fun j=>decide (j=k))=true then ρ else ρ.set i (.own (uK ks ps k p)))) else .no
 | _=>.no
def HN:V->List V->Hp->VK->Prop:=fun x vs H Q=>∃a b kvs k v,x=.ref a/\vs=[.ref b,v]/\H a=some (.dT kvs)/\fm H b k/\kvs.length<sizeLine/\
 ((∃w,jG kvs k=some w/\Q w H)\/(jG kvs k=none/\Q v (upd H a (.dT (putK kvs k v)))))
theorem Co {X:Cx} (hu:X.A.units+64<cLine):MtM X "dict.setdefault" HN:=by
 intro pins s σ H x vs v us Q I rx rv h;obtain⟨a,b,kvs,k,y,rfl,rfl,hH,hb,hl,q⟩:=h;cases rx;obtain⟨u1,u2,rfl,r1,r2⟩:=Vals.two rv;cases r1;obtain⟨z,hd,ws,rel,dd⟩:=Df I.hok hH;have hz:ws.length<=sizeLine:=by rw[← MF rel];exact z
 refine Qe Ng dd.typeIs QA (Q5 _ _ _) (jW (g8 X.prog X.w) a b hd u2) ⟨jg (by omega),k,ws,key_of I.hok hb,dd,hz,fun p hp=>?_,fun hn h' dd' hs=>?_⟩
 ·rcases q with⟨w,ew,q⟩|⟨en,_⟩
  ·obtain⟨w',hw',rw'⟩:=mL.some_of (v:=w) (o:=(Pb ws k).map (·.2)) (by rw[← ew];exact rel.val k)
   rw[hp] at hw';cases hw';exact⟨w,H,I.tok _,rw',q⟩
  ·have:(Pb ws k).map (·.2)=none:=mL.none_of (by rw[← en];exact rel.val k)
   rw[hp] at this;cases this
 ·rcases q with⟨w,ew,_⟩|⟨en,q⟩
  ·obtain⟨w',hw',_⟩:=mL.some_of (v:=w) (o:=(Pb ws k).map (·.2)) (by rw[← ew];exact rel.val k)
   rw[hn] at hw';cases hw'
  ·have hl2:(putK kvs k y).length<=sizeLine:=by have:=dq kvs k y;omega
   obtain⟨q',es,ep,hq,h2,h3,h4,_,h5⟩:=dd';refine⟨y,upd H a (.dT (putK kvs k y)),kf (ob:=.dT (putK kvs k y)) I (by rw[hH];exact N7) hs ⟨q',hq⟩ ⟨hl2,hd,_,(rel.put k hb r2).keeps fun c ys ec=>?_,q',es,ep,hq,h2,h3,h4,h5⟩,r2,q⟩;rw[aA (Ci ec hH (fun z=>nomatch z))];exact ec
variable[TW]
theorem Bs{C:Cn}{pos apos cpos:N8}{ke e:Expr}{fk fv:PSt->R PV}(i:Nat){x:Str}{np:N8}(hu:C.X.A.units+64<cLine)(hk:EV C ke fk)(he:EV C e fv)(hN:C.X.N[i]?=some x:=by rfl)(hv:Vis C.X.env.scope x:=by first | exact .inl rfl | exact .inr (.inl rfl) | exact .inr (.inr rfl))
  (hs:Lk [ke,e] C.X.env=[(false,MZ ke C.X.env),(false,MZ e C.X.env)]:=by rfl) (hs2:Lk [e] C.X.env=[(false,MZ e C.X.env)]:=by exact bz rfl)
  (hb:OM (.Name x np) "setdefault" C.X.env (MZ (.Name x np) C.X.env)=MZ (.Name x np) C.X.env:=by rfl) (hline:(apos.endLine == cpos.line)=true:=by rfl)
  (hd:(x == ("__debug__":Str))=false:=by decide) (hcd:(x == ("__classdict__":Str))=false:=by decide):SV C (.Expr (.Call (.Attribute (.Name x np) "setdefault" apos) [ke,e] [] cpos) pos) (vc i fk fv):=by
 intro pins s σ H D I ⟨ρ,B,S,q⟩;unfold vc at q;split at q
 ·rename_i ks ps e1
  obtain⟨a,e2,kvs,hx,ek,rr⟩:=S.vw i _ e1;refine vx (vJ P1 Ng QG (Co hu) (gM hN hv hd hcd) (bt hk (bt he eX hs2) (by rw[hs,hs2])) hb (by rw[hs];rfl) hline (by rw[hs,hs2]) (by rw[hs2];rfl)) (by rfl) pins s σ H D I ?_;refine⟨_,e2,.inr (.inr (.inl ⟨rfl,.inr ⟨kvs,hx⟩⟩)),ρ,S.vw,(RS.bind q S.same).imp fun kp _ q1 y H1 s1 r1=>⟨ρ,S.vw.same s1,(q1.bind (S.same.trans s1)).imp fun p _ q2 v H2 s2 r2=>?_⟩⟩;obtain⟨k,e3,q3⟩:=RS.ofO q2
  by_cases hl:ks.length<16777216
  ·rw[if_pos hl] at q3
   obtain⟨b,rfl,hb'⟩:=iY e3 (r1.same s2).o;subst ek;have hx2:H2 a=some (.dT kvs):=s2 _ _ (s1 _ _ hx);refine⟨a,b,kvs,k,v,rfl,rfl,hx2,hb',by rw[MC];simpa using hl,?_⟩;have hany:((kvs.map (·.1)).any fun j=>decide (j=k))=(jG kvs k).isSome:=rQ.symm;cases ev:jG kvs k with
   | some w=>
    rw[ev] at hany;have hany:((kvs.map (·.1)).any fun j=>decide (j=k))=true:=hany;rw[if_pos hany] at q3;exact .inl ⟨w,rfl,q3 σ H2 ((S.grow s1).grow s2)⟩
   | none=>
    rw[ev] at hany;have hany:((kvs.map (·.1)).any fun j=>decide (j=k))=false:=hany;rw[if_neg (by rw[hany];exact LW)] at q3;refine .inr ⟨rfl,?_⟩;have kp:Kp H2 (upd H2 a (.dT (putK kvs k v))):=Kp.upd hx2 rfl;refine q3 σ _ (((S.grow s1).grow s2).turn e1 e2 (fun b hb=>aA hb) ⟨a,rfl,?_⟩);exact se (aF.kp kp _ ((rr.same s1).same s2)) (Rep.kp kp _ r2) az
  ·rw[if_neg hl] at q3
   exact LU q3
 ·exact LU q
omit [TW] in
theorem ug{prog:Ll}{w:Lx}{K:Type}[DecidableEq K](knd:Rj prog w K)(d:Addr)(hd:(d == MH)=false) :
  MeetsIn prog w (O2.«dict.__len__» ⟨[.ref d],[]⟩) (fun _ R s=>∃xs,s.heap.DictOfH knd d xs/\R (.ok (.ret (.int xs.length s.toks))) { s with toks:=s.toks+1 }):=
 .of_wp fun A R s ⟨xs,hm,h⟩=>by
  obtain⟨o,es,ep,ho,hc,hdt,he,his,hn⟩:=hm;have hz:=size_of_entries he;show Ln _ _ (dictSize d >>= _) _ _ s;unfold dictSize;refine LD (LD (O1 ho hdt (LQ ?_)));show Ln _ _ (Builtin.Dict.pendingCount d >>= _) _ _ s;refine LD (wpAny_pendingCount_other hd (wpAny_ret_mkInt ?_));rw[hz];have e:((xs.length:Nat):Int)+((0:Nat):Int)=(xs.length:Int):=by omega
  rw[e];exact h
omit [TW] in
theorem wk{prog:Ll}{w:Lx}{K:Type}[DecidableEq K]{knd:Rj prog w K}{A:M6}{E:LB->LF->Prop}{s:LF}{d:Addr}{xs:List (K×Addr×LB)}{Q:LB->LF->Prop}(hd:(d == MH)=false)(hm:s.heap.DictOfH knd d xs)(hz:(xs.length:Int)<2 ^ 63)
  (h:Q (.int xs.length (s.toks+1)) { s with toks:=s.toks+1+1 }):Ln (M4 prog w) A (call (.builtin "len") [.ref d]) Q E s:=by
 refine Calls.call_function_entry kind_len plain_len entry_len (args_len1 _) ?_;unfold O2.«len»;refine LD (m:=oneArg "len" _) (LQ ?_)
 refine LD (m:=callSpecial? (.ref d) (LS "__len__")) (Nk (name:=LS "__len__") hm.typeIs PP
  (Qe PP hm.typeIs PySem.F.entry_dict_len (PySem.F.args_dict_len_1 _) (ug knd d hd) ⟨xs,hm,?_⟩))
 show Ln _ _ _ _ _ { s with toks:=s.toks+1 };refine LD (NC (LQ ?_));refine LD (wpAny_letGo ?_);show Ln _ _ (if ((xs.length:Nat):Int)<0 then _ else _) _ _ _;rw[if_neg (by omega)];show Ln _ _ (if ((xs.length:Nat):Int) ≥ 2 ^ 63 then _ else _) _ _ _;rw[if_neg (by omega)];exact LD (wpAny_mkInt (LQ ⟨_,rfl,h⟩))
def G4:PV->Option PV
 | .dtt ks _=>some (.int ks.length)
 | _=>none
theorem J5 {X:Cx}:i7 X (.builtin "len") (r1 X.K G4):=by
 intro pins s σ H xs us Q I r ⟨v,p,z,e1,rp,ez,k⟩;subst e1;cases p with
 | dtt ks ps=>
  cases ez;obtain⟨a,kvs,rfl,g,e1,rr⟩:=rp;obtain⟨u,rfl,ru⟩:=vals1 r;cases ru;obtain⟨hz,hS,ws,rel,dd⟩:=rG I.hok g;have hlen:kvs.length=ws.length:=MF rel;have hs:=MC;subst e1;rw[LJ,hlen] at k;exact wk hS dd (by omega) ⟨.int ws.length,H,I.tok _,⟨_,rfl⟩,k _ H (Same.refl H) rfl⟩
 | _=>cases ez
end PU
namespace PU
open PySem PySem.Spec PyProof.Rows L2 PySem.SeqAt
def xS(i:Nat)(f:PSt->R PV):PSt->R Fl:=fun ρ=>match ρ[i]? with
 | some (.val (.str a))=>f ρ >>= fun q=>match q with
  | .str b=>if a.length+b.length<=16777216 then .ok (.next (ρ.set i (.val (.str (a++b))))) else .no
  | _=>.no
 | _=>.no
variable[TW]
theorem Bt{C:Cn}{e:Expr}{f:PSt->R PV}{pos:N8}(i:Nat){x:Str}{pos':N8}(hN:C.X.N.Nodup)(he:EV C e f)
  (hf:C.X.fn x=true\/C.X.env.scope.names.lookup x=some .local:=by first | exact .inl rfl | exact .inr rfl | assumption) (hi:C.X.N[i]?=some x:=by rfl) (hx:Loc C.X.env.scope x:=by first | exact .inl rfl | exact .inr rfl) :
  SV C (.AugAssign (.Name x pos') .Add e pos) (xS i f):=by
 intro pins s σ H D I ⟨ρ,B,S,h⟩;unfold xS at h;split at h
 ·rename_i a e1
  obtain⟨v,ev,rv⟩:=S.vw i _ e1;cases (show v=.str a from rv);refine AH hN hi hx he ri hf pins s σ H D I ⟨_,ev,ρ,S.vw,(h.bind S.same).imp fun q _ k w H1 s1 r1=>?_⟩;cases q with
  | str b=>
   cases (show w=.str b from r1)
   by_cases hl:a.length+b.length<=16777216
   ·have k:RS C B D (if a.length+b.length<=16777216 then .ok (.next (ρ.set i (.val (.str (a++b))))) else .no):=k
    rw[if_pos hl] at k;exact⟨a,b,rfl,rfl,by rw[MC];omega,k _ H1 ((S.grow s1).setV rfl)⟩
   ·have k:RS C B D (if a.length+b.length<=16777216 then .ok (.next (ρ.set i (.val (.str (a++b))))) else .no):=k
    rw[if_neg hl] at k;exact LU k
  | _=>exact LU k
 ·exact LU h
end PU
namespace PU
open PySem PySem.Spec PyProof.Rows L2 PySem.SeqAt
def m8:PV->PV->Option PV
 | .lst ps,.bl b=>(qy ps).bind fun bs=>(bs.findIdx? fun x=>x == b).map fun (i:Nat)=>.int i
 | _,_=>none
def FZ(fo fe:PSt->R PV):PSt->R PV:=fun ρ=>fo ρ >>= fun p=>(match p with
 | .lst _=>fe ρ >>= fun q=>R.ofO (m8 p q)
 | _=>.no)
variable[TW]
theorem Cp {X:Cx}:MtR X "list.index" (rM1 X.K m8):=by
 intro pins s σ H x xs v us Q I rx rs ⟨p,q,z,u,e1,rp,rq,ez,k⟩;subst e1;cases p with
 | lst ps=>
  cases q with
  | bl b=>
   obtain⟨bs,eb,ez⟩:=LR.mp (show (qy ps).bind _=some z from ez);obtain⟨j,ej,ez⟩:=LK.mp ez;cases ez;obtain⟨a,zs,rfl,g,rr⟩:=aX.lst_inv rp;cases rx;obtain⟨w,rfl,rw'⟩:=vals1 rs;cases (show u=.bl b from rq);cases rw';obtain⟨hz,its,n,rv,eg⟩:=g.is I;have ei:=qx eb rr rv;have hl1:=rr.length;have hs:=MC;have hj:=Q7.mp ej;obtain⟨h1,h2,h3⟩:=hj;have hsz:its.toArray.size=bs.length:=by rw[ei];simp
   subst ei;have lb:(bs.map OY).length=zs.length:=(rv.length).symm;rw[LJ] at lb;refine call_meets Qi ⟨_,eg,rfl⟩ PySem.F.entry_list_index (PySem.F.args_list_index_2 _ _) (list_indexAt a (bs.map OY).toArray n none #[] (.bool b) (fun y=>match y with | .bool c=>c == b | _=>false) j (by rw[hsz];exact h1) (by omega) ?_ fun m hm hlt=>?_) ⟨eg,fun y hy=>?_,⟨.int j,H,I.tok _,⟨_,rfl⟩,k _ H (Same.refl H) rfl⟩⟩
   ·simpa using h2
   ·have:=h3 m hlt
    simpa using this
   ·obtain⟨c,_,rfl⟩:=LV.mp (show y∈bs.map OY by simpa using hy)
    exact EqAt.bool_bool c b
  | _=>cases ez
 | _=>cases ez
theorem D7{C:Cn}{o e:Expr}{fo fe:PSt->R PV}{apos cpos:N8}(ho:EO C o fo)(he:EO C e fe)
  (hbase:OM o "index" C.X.env (MZ o C.X.env)=MZ o C.X.env:=by rfl) (hline:(apos.endLine == cpos.line)=true:=by rfl) (hs:Lk [e] C.X.env=[(false,MZ e C.X.env)]:=by exact bz rfl) :
  EV C (.Call (.Attribute o "index" apos) [e] [] cpos) (FZ fo fe):=by
 intro pins s σ H Q I ⟨ρ,vw,q⟩;refine vJ Qj Qi PySem.F.type_list_index Cp ho (qf he hs) hbase (by rw[hs];rfl) hline hs (by rfl) pins s σ H Q I ⟨ρ,vw,q.bind.imp fun p _ k v H1 s1 r1=>?_⟩;cases p with
 | lst ps=>
  have k:RQ C H (fe ρ >>= fun q=>R.ofO (m8 (.lst ps) q)) fun p=>∀v H',Same H H'->Rep C.X.K H' p v->Q v H':=k;obtain⟨a,zs,rfl,g,rr⟩:=aX.lst_inv r1;refine⟨.inl ⟨rfl,zs,g.l⟩,ρ,vw.same s1,(k.bind.same s1).imp fun p2 _ k2 u H2 s2 r2=>?_⟩;obtain⟨z,ez,k3⟩:=k2.ofO;exact⟨.lst ps,p2,z,u,rfl,r1.same s2,r2,ez,fun w H3 s3 r3=>k3 w H3 ((s1.trans s2).trans s3) r3⟩
 | _=>exact LU k
end PU
namespace PU
open PySem PySem.Spec PyProof.Rows L2 PySem.SeqAt
def neK(f2:PSt->R PV)(g:PSt->R Fl)(w:PV)(ρ:PSt):R Fl:=f2 ρ >>= fun q=>R.ofO (gNe w q) >>= fun z=>(match z with
 | .bl true=>g ρ
 | .bl false=>.ok (.next ρ)
 | _=>.no)
def ku(i:Nat)(fk fv f2:PSt->R PV)(g:PSt->R Fl):PSt->R Fl:=fun ρ=>match ρ[i]? with
 | some (.own (.dct ks ps))=>fk ρ >>= fun kp=>fv ρ >>= fun p=>R.ofO (eF kp) >>= fun k=>if ks.length<16777216 then (match bJ ks ps k with
  | some w=>neK f2 g w ρ
  | none=>neK f2 g p (ρ.set i (.own (kO ks ps k p)))) else .no
 | _=>.no
variable[TW]
theorem yM{C:Cn}{pos apos cpos tpos:N8}{ke e e2:Expr}{body:List Stmt}{fk fv f2:PSt->R PV}{g:PSt->R Fl}(i:Nat){x:Str}{np:N8}(hu:C.X.A.units+64<cLine)(hk:EV C ke fk)(he:EV C e fv)(h2:EO C e2 f2)(hb':SVs C body g)(hN:C.X.N[i]?=some x:=by rfl)(hv:Vis C.X.env.scope x:=by first | exact .inl rfl | exact .inr (.inl rfl) | exact .inr (.inr rfl))
  (hs:Lk [ke,e] C.X.env=[(false,MZ ke C.X.env),(false,MZ e C.X.env)]:=by rfl) (hs2:Lk [e] C.X.env=[(false,MZ e C.X.env)]:=by exact bz rfl)
  (hb:OM (.Name x np) "setdefault" C.X.env (MZ (.Name x np) C.X.env)=MZ (.Name x np) C.X.env:=by rfl) (hline:(apos.endLine == cpos.line)=true:=by rfl)
  (hd:(x == ("__debug__":Str))=false:=by decide) (hcd:(x == ("__classdict__":Str))=false:=by decide):SV C (.If (.Compare (.Call (.Attribute (.Name x np) "setdefault" apos) [ke,e] [] cpos) [.NotEq] [e2] tpos) body [] pos) (ku i fk fv f2 g):=by
 intro pins s σ H D I ⟨ρ,B,S,q⟩;unfold ku at q;split at q
 ·rename_i ks ps e1
  obtain⟨a,e2',kvs,hx,ek,rr⟩:=S.vw i _ e1;refine EG (vp (AK hu) (vJ P1 Ng QG Cm (gM hN hv hd hcd) (bt hk (bt he eX hs2) (by rw[hs,hs2])) hb (by rw[hs];rfl) hline (by rw[hs,hs2]) (by rw[hs2];rfl)) h2 (vS _)) hb' vq pins s σ H D I ?_;refine⟨_,e2',.inr (.inr (.inl ⟨rfl,.inl ⟨kvs,hx⟩⟩)),ρ,S.vw,(RS.bind q S.same).imp fun kp _ q1 y H1 s1 r1=>⟨ρ,S.vw.same s1,(q1.bind (S.same.trans s1)).imp fun p _ q2 v H2 s2 r2=>?_⟩⟩;obtain⟨k,e3,q3⟩:=RS.ofO q2
  have fin:∀(w:PV)(v:V)(ρ':PSt)(H':Hp),StOk C.X.K B H' σ ρ'->Rep C.X.K H' w v->RS C B D (neK f2 g w ρ')->(∃ρ,View C.X.K H' σ ρ/\RQ C H' (f2 ρ) fun p=>∀u H2,Same H' H2->aX C.X.K H2 p u->rP C.X.K gNe v u H2 fun z H3=>∃k,z=.bl k/\(if k=true then (∃ρ B,StOk C.X.K B H3 σ ρ/\RS C B D (g ρ)) else D.nx σ H3)):=by
   intro w v ρ' H' S' rw' q';refine⟨ρ',S'.vw,(RS.bind q' S'.same).imp fun p2 _ q4 u H3 s3 r3=>?_⟩;obtain⟨z,ez,q5⟩:=RS.ofO q4;obtain⟨b,rfl⟩:=jY _ _ _ ez;refine⟨w,p2,.bl b,(rw'.same s3).o,r3,ez,fun z' H4 s4 r4=>?_⟩;cases (show z'=.bl b from r4);refine⟨b,rfl,?_⟩;cases b with
   | true=>exact DK ⟨ρ',B,(S'.grow s3).grow s4,q5⟩
   | false=>exact DL (q5 σ H4 ((S'.grow s3).grow s4))
  by_cases hl:ks.length<16777216
  ·rw[if_pos hl] at q3
   have hy:=dF e3 r1.o;subst hy;have hx2:H2 a=some (.dK kvs):=s2 _ _ (s1 _ _ hx);refine⟨a,kvs,k,v,rfl,rfl,hx2,by rw[MC,← LJ (f:=(·.1)),ek];exact hl,?_⟩;cases el:bJ ks ps k with
   | some w=>
    rw[el] at q3;obtain⟨wv,ev,rw'⟩:=gS ek ((rr.same s1).same s2) el;exact .inl ⟨wv,ev,fin w wv ρ H2 ((S.grow s1).grow s2) rw' q3⟩
   | none=>
    rw[el] at q3;have en:=jX ek ((rr.same s1).same s2) el;subst ek;have kp:Kp H2 (upd H2 a (.dK (putK kvs k v))):=Kp.upd hx2 rfl;exact .inr ⟨en,fin p v (ρ.set i (.own (kO (kvs.map (·.1)) ps k p))) (upd H2 a (.dK (putK kvs k v))) (((S.grow s1).grow s2).turn e1 e2' (fun b hb=>aA hb) ⟨a,rfl,o7 (aF.kp kp _ ((rr.same s1).same s2)) (Rep.kp kp _ r2) az⟩) (Rep.kp kp _ r2) q3⟩
  ·rw[if_neg hl] at q3
   exact LU q3
 ·exact LU q
end PU
namespace BF
def lexLt:List Nat->List Nat->Bool
 | x::xs,y::ys=>if x=y then lexLt xs ys else decide (x<y)
 | _,_=>false
def lt(a b:List Nat):Prop:=a.length<b.length\/(a.length=b.length/\lexLt a b=true)
theorem pO:∀{a b c:List Nat},lexLt a b=true->lexLt b c=true->lexLt a c=true
 | [],_,_,h,_=>by simp[lexLt] at h
 | x::xs,[],_,h,_=>by simp[lexLt] at h
 | x::xs,y::ys,[],_,h=>by simp[lexLt] at h
 | x::xs,y::ys,z::zs,h1,h2=>by
  simp only[lexLt] at h1 h2 ⊢
  by_cases e1:x=y
  ·subst e1
   rw[if_pos rfl] at h1
   by_cases e2:x=z
   ·subst e2
    rw[if_pos rfl] at h2 ⊢;exact pO h1 h2
   ·rw[if_neg e2] at h2 ⊢
    exact h2
  ·rw[if_neg e1] at h1
   by_cases e2:y=z
   ·subst e2
    rw[if_neg e1];exact h1
   ·rw[if_neg e2] at h2
    simp at h1 h2;rw[if_neg (by omega)];simp;omega
theorem lt_trans{a b c:List Nat}(h1:lt a b)(h2:lt b c):lt a c:=by
 unfold lt at *;rcases h1 with h1 | ⟨h1,e1⟩ <;> rcases h2 with h2 | ⟨h2,e2⟩
 ·exact .inl (by omega)
 ·exact .inl (by omega)
 ·exact .inl (by omega)
 ·exact .inr ⟨by omega,pO e1 e2⟩
theorem sN(i j:Nat)(h:i<j):∀r:List Nat,lexLt (r++[i]) (r++[j])=true
 | []=>by simp[lexLt,h];omega
 | x::r=>by
  show (if x=x then _ else _)=true;rw[if_pos rfl];exact sN i j h r
theorem vY(r:List Nat)(i j:Nat)(h:i<j):lt (r++[i]) (r++[j]):=.inr ⟨by simp,sN i j h r⟩
theorem sM(i j:Nat):∀a b:List Nat,a.length=b.length->lexLt a b=true->lexLt (a++[i]) (b++[j])=true
 | [],_,_,h=>by simp[lexLt] at h
 | x::xs,[],h,_=>by simp at h
 | x::xs,y::ys,hl,h=>by
  simp only[lexLt,O5] at h ⊢
  by_cases e:x=y
  ·rw[if_pos e] at h ⊢
   exact sM i j xs ys (by simpa using hl) h
  ·rw[if_neg e] at h ⊢
   exact h
theorem vX{a b:List Nat}(i j:Nat)(h:lt a b):lt (a++[i]) (b++[j]):=by
 rcases h with h | ⟨h,e⟩
 ·exact .inl (by simp;omega)
 ·exact .inr ⟨by simp[h],sM i j a b h e⟩
theorem vV{S:Type}[DecidableEq S]:∀(l U:List S),l.Nodup->(∀x∈l,x∈U)->l.length<=U.length
 | [],_,_,_=>N0 _
 | x::l,U,nd,h=>by
  have nd':=MB.mp nd;have hx:x∈U:=h x (by simp)
  have:=vV l (U.erase x) nd'.2 fun y hy=>by
   have hne:y≠x:=fun e=>nd'.1 (e▸hy);exact(List.mem_erase_of_ne hne).mpr (h y (by simp[hy]))
  rw[List.length_erase_of_mem hx] at this;have:=List.length_pos_of_mem hx;simp;omega
section
variable{S : Type}[DecidableEq S](lead : S → Nat → S)
abbrev Row(S:Type):=S×List Nat
def inn(near:Row S)(found:List (Row S))(i:Nat):List (Row S):=if lead near.1 i∈found.map (·.1) then found else found++[(lead near.1 i,near.2++[i])]
def sweep(near:Row S)(found:List (Row S)):List (Row S):=(LI 13).foldl (inn lead near) found
def bfs:Nat->Nat->List (Row S)->List (Row S)
 | 0,_,found=>found
 | n+1,d,found=>match found[d]? with
  | some near=>bfs n (d+1) (sweep lead near found)
  | none=>found
def run(s0:S)(row:List Nat):S:=row.foldl lead s0
variable(s0 : S)
structure Inv(found:List (Row S)):Prop where
 h0:∃tl,found=(s0,[])::tl
 nd:(found.map (·.1)).Nodup
 srt:found.Pairwise fun a b=>lt a.2 b.2
 run:∀p∈found,run lead s0 p.2=p.1
 rng:∀p∈found,∀i∈p.2,i<13
 len:∀(j:Nat)(p:Row S),found[j]?=some p->p.2.length<=j
def Cl(found:List (Row S))(p:Row S)(i:Nat):Prop:=∃q∈found,q.1=lead p.1 i/\(q.2=p.2++[i]\/lt q.2 (p.2++[i]))
theorem CP(near:Row S)(found:List (Row S))(i:Nat):∃tl,inn lead near found i=found++tl:=by
 unfold inn
 split
 ·exact⟨[],by simp⟩
 ·exact⟨_,rfl⟩
theorem Cl.mono{found tl:List (Row S)}{p:Row S}{i:Nat}(h:Cl lead found p i):Cl lead (found++tl) p i:=by
 obtain⟨q,hq,h1,h2⟩:=h;exact⟨q,by simp[hq],h1,h2⟩
theorem FX{found:List (Row S)}{d:Nat}{near:Row S}{i:Nat}(hi:i<13)(I:Inv lead s0 found)(hd:found[d]?=some near)(top:∀p∈found,lt p.2 (near.2++[i])) :
  Inv lead s0 (inn lead near found i)/\(inn lead near found i)[d]?=some near/\(∀p∈inn lead near found i,lt p.2 (near.2++[i+1]))/\Cl lead (inn lead near found i) near i:=by
 have hdl:d<found.length:=(LM.mp hd).1;have nm:near∈found:=M5 hd;have up:∀p∈found,lt p.2 (near.2++[i+1]):=fun p hp=>lt_trans (top p hp) (vY near.2 i (i+1) (by omega));unfold inn
 split
 ·rename_i hm
  obtain⟨q,hq,e⟩:=LV.mp hm;exact⟨I,hd,up,q,hq,e,.inr (top q hq)⟩
 ·rename_i hm
  refine⟨⟨?_,?_,?_,?_,?_,?_⟩,?_,?_,?_⟩
  ·obtain⟨tl,e⟩:=I.h0
   exact⟨tl++[(lead near.1 i,near.2++[i])],by rw[e];rfl⟩
  ·rw[Lq,N1]
   refine⟨I.nd,by simp,fun a ha b hb e=>?_⟩;simp at hb;subst hb e;exact hm ha
  ·rw[List.pairwise_append]
   refine⟨I.srt,by simp,fun a ha b hb=>?_⟩;rw[Li.mp hb];exact top a ha
  ·intro p hp
   rcases MA.mp hp with hp | hp
   ·exact I.run p hp
   ·rw[Li.mp hp]
    show BF.run lead s0 (near.2++[i])=lead near.1 i;have:=I.run near nm;unfold BF.run at this ⊢;rw[Nv,this];rfl
  ·intro p hp j hj
   rcases MA.mp hp with hp | hp
   ·exact I.rng p hp j hj
   ·rw[Li.mp hp] at hj
    rcases MA.mp hj with hj | hj
    ·exact I.rng near nm j hj
    ·rw[Li.mp hj];exact hi
  ·intro j p hp
   rw[List.getElem?_append] at hp;split at hp
   ·exact I.len j p hp
   ·rename_i hj
    have e:=Li.mp (M5 hp);subst e;have:=I.len d near hd;simp;omega
  ·rw[Lp hdl];exact hd
  ·intro p hp
   rcases MA.mp hp with hp | hp
   ·exact up p hp
   ·rw[Li.mp hp]
    exact vY near.2 i (i+1) (by omega)
  ·exact⟨(lead near.1 i,near.2++[i]),by simp,rfl,.inl rfl⟩
theorem nO{found:List (Row S)}{d:Nat}{near:Row S}(I:Inv lead s0 found)(hd:found[d]?=some near)(top:∀p∈found,lt p.2 (near.2++[0])):∀n,n<=13->
  ∃tl,(LI n).foldl (inn lead near) found=found++tl/\Inv lead s0 (found++tl)/\(∀p∈found++tl,lt p.2 (near.2++[n]))/\∀i<n,Cl lead (found++tl) near i
 | 0,_=>⟨[],by simp,by simpa using I,by simpa using top,fun i h=>absurd h (by omega)⟩
 | n+1,hn=>by
  obtain⟨tl,e,I1,t1,c1⟩:=nO I hd top n (by omega);have hdl:d<found.length:=(LM.mp hd).1;have hd1:(found++tl)[d]?=some near:=by rw[Lp hdl];exact hd
  obtain⟨I2,hd2,t2,c2⟩:=FX lead s0 (i:=n) (by omega) I1 hd1 t1;obtain⟨tl2,e2⟩:=CP lead near (found++tl) n;refine⟨tl++tl2,?_,?_,?_,?_⟩
  ·rw[Nn,Nv,e]
   show inn lead near (found++tl) n=_;rw[e2,Mf]
  ·rw[← Mf,← e2];exact I2
  ·rw[← Mf,← e2];exact t2
  ·intro i hi
   rw[← Mf];rcases O9 i n with h | h
   ·exact(c1 i h).mono lead
   ·have:i=n:=by omega
    subst this;rw[← e2];exact c2
theorem Bf(U:List S)(hU:∀found,Inv lead s0 found->∀p∈found,p.1∈U):∀(n d:Nat)(found:List (Row S)),Inv lead s0 found->U.length<d+n->
  (∀(j:Nat)(p:Row S),j<d->found[j]?=some p->∀i<13,Cl lead found p i)->(∀near,found[d]?=some near->∀p∈found,lt p.2 (near.2++[0]))->
  Inv lead s0 (bfs lead n d found)/\(∃tl,bfs lead n d found=found++tl)/\∀p∈bfs lead n d found,∀i<13,Cl lead (bfs lead n d found) p i
 | 0,d,found,I,hn,c,top=>by
  refine⟨I,⟨[],by simp[bfs]⟩,fun p hp i hi=>?_⟩;have hp:p∈found:=hp;obtain⟨j,hj⟩:=S5 hp;have hj':=(LM.mp hj).1
  have:=vV (found.map (·.1)) U I.nd fun x hx=>by
   obtain⟨q,hq,e⟩:=LV.mp hx;exact e▸hU found I q hq
  simp at this;exact c j p (by omega) hj i hi
 | n+1,d,found,I,hn,c,top=>by
  unfold bfs
  split
  ·rename_i near hd
   have hdl:d<found.length:=(LM.mp hd).1;obtain⟨tl,e,I1,t1,c1⟩:=nO lead s0 I hd (top near hd) 13 (by omega);have e:sweep lead near found=found++tl:=e;rw[e]
   obtain⟨J1,⟨tl2,J2⟩,J3⟩:=Bf U hU n (d+1) (found++tl) I1 (by omega) (fun j p hj hp i hi=>by
    rcases O9 j d with h | h
    ·rw[Lp (by omega)] at hp
     exact(c j p h hp i hi).mono lead
    ·have hjd:j=d:=by omega
     subst hjd;rw[Lp hdl,hd] at hp;cases hp;exact c1 i hi) (fun near' hd' p hp=>by
    have h1:lt near.2 near'.2:=by
     have hs:=Qs.mp I1.srt;obtain⟨q1,q2⟩:=LM.mp hd';have hd1:(found++tl)[d]?=some near:=by rw[Lp hdl];exact hd
     obtain⟨q3,q4⟩:=LM.mp hd1;have:=hs d (d+1) q3 q1 (by omega);rw[q2,q4] at this;exact this
    have h2:=t1 p hp;exact lt_trans h2 (vX 13 0 h1))
   exact⟨J1,⟨tl++tl2,by rw[J2,Mf]⟩,J3⟩
  ·rename_i hd
   refine⟨I,⟨[],by simp⟩,fun p hp i hi=>?_⟩;obtain⟨j,hj⟩:=S5 hp;have hj':=(LM.mp hj).1;have:=Qv.mp hd;exact c j p (by omega) hj i hi
theorem sweep_keep{found:List (Row S)}{d:Nat}{near:Row S}(I:Inv lead s0 found)(hd:found[d]?=some near)(top:∀p∈found,lt p.2 (near.2++[0])) :
  Inv lead s0 (sweep lead near found)/\(∃tl,sweep lead near found=found++tl)/\∀near',(sweep lead near found)[d+1]?=some near'->∀p∈sweep lead near found,lt p.2 (near'.2++[0]):=by
 have hdl:d<found.length:=(LM.mp hd).1;obtain⟨tl,e,I1,t1,c1⟩:=nO lead s0 I hd top 13 (by omega);have e:sweep lead near found=found++tl:=e;rw[e];refine⟨I1,⟨tl,rfl⟩,fun near' hd' p hp=>?_⟩
 have h1:lt near.2 near'.2:=by
  have hs:=Qs.mp I1.srt;obtain⟨q1,q2⟩:=LM.mp hd';have hd1:(found++tl)[d]?=some near:=by rw[Lp hdl];exact hd
  obtain⟨q3,q4⟩:=LM.mp hd1;have:=hs d (d+1) q3 q1 (by omega);rw[q2,q4] at this;exact this
 exact lt_trans (t1 p hp) (vX 13 0 h1)
theorem inv_len(U:List S)(hU:∀found,Inv lead s0 found->∀p∈found,p.1∈U){found:List (Row S)}(I:Inv lead s0 found):found.length<=U.length:=by
 have:=vV (found.map (·.1)) U I.nd fun x hx=>by
  obtain⟨q,hq,e⟩:=LV.mp hx;exact e▸hU found I q hq
 simpa using this
theorem inv_P(P:S->Prop)(h0:P s0)(hs:∀s,P s->∀i<13,P (lead s i)):∀found,Inv lead s0 found->∀p∈found,P p.1:=by
 have hr:∀(row:List Nat)(s:S),P s->(∀i∈row,i<13)->P (run lead s row):=by
  intro row
  induction row with
  | nil=>intro s h _;exact h
  | cons i row ih=>intro s h hi;exact ih _ (hs s h i (hi i (by simp))) fun j hj=>hi j (by simp[hj])
 intro found I p hp;rw[← I.run p hp];exact hr p.2 s0 h0 (I.rng p hp)
theorem inv_0:Inv lead s0 [(s0,[])]:=by
 refine⟨⟨[],rfl⟩,by simp,by simp,by simp[run],by simp,fun j p h=>?_⟩;have:=Li.mp (M5 h);subst this;simp
theorem top_0(near:Row S)(h:[((s0,[]):Row S)][0]?=some near):∀p∈[((s0,[]):Row S)],lt p.2 (near.2++[0]):=fun p hp=>by
 have e1:=Li.mp (M5 h);have e2:=Li.mp hp;subst e1 e2;exact .inl (by simp)
theorem bfs_all(U:List S)(n:Nat)(hn:U.length<n)(hU:∀found,Inv lead s0 found->∀p∈found,p.1∈U) :
  Inv lead s0 (bfs lead n 0 [(s0,[])])/\∀p∈bfs lead n 0 [(s0,[])],∀i<13,Cl lead (bfs lead n 0 [(s0,[])]) p i:=by
 obtain⟨J1,_,J3⟩:=Bf lead s0 U hU n 0 [(s0,[])] (inv_0 lead s0) (by omega) (fun j p h=>absurd h (by omega)) (fun near h=>top_0 s0 near h);exact⟨J1,J3⟩
end
end BF
namespace BO
def val(c:List (Option Nat))(k:Nat):Nat:=(c.getD k none).getD 0
abbrev S:=List (Option Nat)×List Nat
section
variable(n : Nat)(out : Nat → Bool)(beh : Nat → List Nat)(E : Nat → Nat → Prop)
structure Jb(c:List (Option Nat))(r:List Nat):Prop where
 len:c.length=n
 mem:∀k,k∈r ↔ ∃x,c[k]?=some (some x)
 nd:r.Nodup
 srt:r.Pairwise fun k l=>val c k<=val c l
 out0:∀k,k<n->(out k=true ↔ c[k]?=some (some 0))
structure J(s:S)(d:Nat):Prop where
 b:Jb n out s.1 s.2
 le1:∀m,s.2[d]?=some m->∀k∈s.2,val s.1 k<=val s.1 m+1
 frm:∀k x,s.1[k]?=some (some x)->x≠0->∃m∈s.2.take d,E k m/\x=val s.1 m+1
 dn:∀m∈s.2.take d,∀k,k<n->E k m->k∈s.2/\val s.1 k<=val s.1 m+1
variable{n out E}
end
end BO
section
namespace PU
open PySem L2
theorem au{m n:Nat}{g:PSt->R Fl}{ps:List PV}{p:PV}(hl:ps.length=m)(h:g (PU.start n ps)=.ok (.ret p)):eD m n g ps=some p:=by
 unfold eD;rw[if_pos hl,h]
theorem Af{α:Type}{xs:List α}{i:Int}(d:α)(h0:0<=i)(h1:i<xs.length):atI xs i=some (xs.getD i.toNat d):=by
 have h2:i.toNat<xs.length:=by omega
 exact bf (n:=i.toNat) (by omega) (by simp[h2])
def mkS(l:List Nat):Str:=⟨l.toArray⟩
theorem lL(a b:List Nat):mkS a++mkS b=mkS (a++b):=by
 show Str.mk (a.toArray++b.toArray)=_;simp[mkS]
@[simp] theorem ck(a:List Nat):(mkS a).length=a.length:=by simp[mkS,Str.length]
@[simp] theorem gQ(a:List Nat):(mkS a).cps.toList=a:=by simp[mkS]
theorem qV(c:Nat):(⟨#[c]⟩:Str)=mkS [c]:=rfl
theorem fh:("":Str)=mkS []:=by decide +kernel
theorem sQ(l:List Nat)(z:Int)(h0:0<=z)(h1:z<l.length)(hl:l.length<=16777216):gIx (.str (mkS l)) (.int z)=some (.str ⟨#[l.getD z.toNat 0]⟩):=
 yA (by simpa using hl) (by rw[gQ];exact Af 0 h0 h1)
theorem ir(x:List Nat)(c:Nat)(hx:x.length<=1000):fI (.str (mkS x)) (.str ⟨#[c]⟩)=some (.str (mkS (x++[c]))):=by
 rw[qV,l6 (by simp;omega),lL]
theorem uF(xs:List Str):kz (xs.map .str)=some xs:=by
 induction xs with
 | nil=>rfl
 | cons x r ih=>simp[kz,ih]
theorem Eb{s:Str}{xs:List Str}(h:(xs.map (·.length)).sum+xs.length * s.length<=16777216):rm (.str s) (.lst (xs.map .str))=some (.str (Pk s xs)):=by
 show (kz (xs.map PV.str)).bind (fun ys=>if (ys.map (·.length)).sum+ys.length * s.length<=16777216 then some (PV.str (Txt.join s ys)) else none)=_;rw[uF,OW,if_pos h,zH]
end PU
namespace MT
open PySem L2 PU
inductive Room where
 | menu (text:Str) (keys:List (Str×Str)) (wrong waits:Int×Str)
 | names (text:Str) (words:List (Str×Str)) (wrong waits:Int×Str)
 | hours (spans:List (Int×Int×Str)) (last:Str)
 | hand (text:Str)
 | fin (text:Str)
structure House where
 first:Str
 letters:List (Str×Str)
 rooms:List (Str×Room)
def pv2(p:Str×Str):PV:=.tup [.str p.1,.str p.2]
def pvI(p:Int×Str):PV:=.tup [.int p.1,.str p.2]
def pv3(p:Int×Int×Str):PV:=.tup [.int p.1,.int p.2.1,.str p.2.2]
def Room.pv:Room->PV
 | .menu t ks wr wa=>.tup [.str "menu",.str t,.tup (ks.map pv2),pvI wr,pvI wa]
 | .names t ks wr wa=>.tup [.str "names",.str t,.tup (ks.map pv2),pvI wr,pvI wa]
 | .hours sp l=>.tup [.str "hours",.tup (sp.map pv3),.str l]
 | .hand t=>.tup [.str "hand",.str t]
 | .fin t=>.tup [.str "end",.str t]
def aC(rs:List (Str×Room)):PV:=.dct (rs.map fun r=>.inr r.1) (rs.map fun r=>r.2.pv)
def House.pv (h:House):PV:=.dct [.inr "first",.inr "letters",.inr "rooms"] [.str h.first,.lst (h.letters.map pv2),aC h.rooms]
def num(i:Int):Str:=toString i
abbrev sp:Str:=" "
def AR(kind name:Str)(wr wa:Int×Str)(t:Str):Str:=kind++(sp++(name++(sp++(num wr.1++(sp++(wr.2++(sp++(num wa.1++(sp++(wa.2++(sp++t)))))))))))
def DF(a b c:Str):Str:=a++(sp++(b++(sp++c)))
def Ki(a b c d:Str):Str:=a++(sp++(b++(sp++(c++(sp++d)))))
def yT(name:Str):Room->List Str
 | .menu t ks wr wa=>AR "menu" name wr wa t::ks.map fun k=>DF "key" k.1 k.2
 | .names t ks wr wa=>AR "names" name wr wa t::ks.map fun k=>DF "name" k.1 k.2
 | .hours sp l=>DF "hours" name l::sp.map fun s=>Ki "from" (num s.1) (num s.2.1) s.2.2
 | .hand t=>[DF "hand" name t]
 | .fin t=>[DF "end" name t]
def House.rows (h:House):List Str:=("first"++(sp++h.first):Str)::(h.letters.map (fun l=>DF "letters" l.1 l.2)++h.rooms.flatMap fun r=>yT r.1 r.2)
def House.text (h:House):Str:=Pk "\n" h.rows
end MT
end
namespace PU
open PySem L2
def chZ(fc:PSt->R PV)(g':PV->PV->Option PV)(ρ:PSt)(q:PV):PV->R PV
 | .bl true=>jE (opP g' q) (fc ρ)
 | .bl false=>.ok (.bl false)
 | _=>.no
def chQ(fc:PSt->R PV)(g g':PV->PV->Option PV)(ρ:PSt)(p q:PV):R PV:=jE (chZ fc g' ρ q) (R.ofO (g p q))
@[simp] theorem IG(fc:PSt->R PV)(g':PV->PV->Option PV)(ρ:PSt)(q:PV):chZ fc g' ρ q (.bl true)=jE (opP g' q) (fc ρ):=by unfold chZ;exact M0 _
@[simp] theorem KH(fc:PSt->R PV)(g':PV->PV->Option PV)(ρ:PSt)(q:PV):chZ fc g' ρ q (.bl false)=.ok (.bl false):=by unfold chZ;exact M0 _
@[simp] theorem IH(fc:PSt->R PV)(g g':PV->PV->Option PV)(ρ:PSt)(p q:PV):chQ fc g g' ρ p q=jE (chZ fc g' ρ q) (R.ofO (g p q)):=by unfold chQ;exact M0 _
@[simp] theorem GL{fa fb fc:PSt->R PV}{g g':PV->PV->Option PV}{ρ:PSt}:qm fa fb fc g g' ρ=nN (chQ fc g g' ρ) (fa ρ) (fb ρ):=by
 unfold qm;cases fa ρ with
 | ok p=>
  cases fb ρ with
  | ok q=>
   simp only[R.ok_bind,wF,IH];cases g p q with
   | none=>rfl
   | some z=>
    simp only[R.ofO_some,R.ok_bind,lQ];cases z with
    | bl b=>
     cases b with
     | true=>
      rw[IG];cases fc ρ <;> rfl
     | false=>rfl
    | _=>rfl
  | _=>rfl
 | _=>cases fb ρ <;> rfl
theorem kx{α:Type}{enc:α->PV}{h:Tgt}{t:PSt->R Bool}{fe:PSt->R PV}{ρ:PSt}(P:α->Bool)(F:α->PV):∀(xs:List α),
  (∀x∈xs,∃ρ1,h (enc x) ρ=some ρ1/\t ρ1=.ok (P x)/\(P x=true->fe ρ1=.ok (F x)))->c8 h t fe ρ (xs.map enc)=.ok ((xs.filter P).map F)
 | [],_=>rfl
 | x::xs,hs=>by
  obtain⟨ρ1,e1,e2,e3⟩:=hs x (Lu ..);have ih:=kx P F xs fun y hy=>hs y (Lo _ hy);rw[LH];unfold c8;rw[e1];simp only[R.ofO_some,R.ok_bind,e2];cases hp:P x with
  | true=>
   rw[if_pos rfl,e3 hp,PH hp,LH];simp only[R.ok_bind,ih]
  | false=>
   rw[if_neg LW,PJ (by rw[hp];exact LW)];exact ih
theorem jm{α:Type}{enc:α->PV}{h:Tgt}{g:PSt->R Fl}(P:α->Bool)(F:α->PV)(I:PSt->Prop)
  (hs:∀(x:α)(ρ:PSt),I ρ->∃ρ1,h (enc x) ρ=some ρ1/\(P x=true->g ρ1=.ok (.ret (F x)))/\(P x=false->∃ρ2,g ρ1=.ok (.next ρ2)/\I ρ2)) :
  ∀(xs:List α)(ρ:PSt),I ρ->(∀x,xs.find? P=some x->gh h g (xs.map enc) ρ=.ok (.ret (F x)))/\(xs.find? P=none->∃ρ',gh h g (xs.map enc) ρ=.ok (.next ρ')/\I ρ')
 | [],ρ,h0=>⟨fun x e=>(by cases e),fun _=>⟨ρ,rfl,h0⟩⟩
 | x::xs,ρ,h0=>by
  obtain⟨ρ1,e1,e2,e3⟩:=hs x ρ h0;cases hp:P x with
  | true=>
   rw[RL hp];refine⟨fun y e=>?_,fun e=>by cases e⟩;cases e;rw[LH];unfold gh;rw[e1];simp only[R.ofO_some,R.ok_bind,e2 hp]
  | false=>
   obtain⟨ρ2,e4,i2⟩:=e3 hp;obtain⟨k1,k2⟩:=jm P F I hs xs ρ2 i2;rw[OP (by rw[hp];exact LW)]
   have e5:gh h g ((x::xs).map enc) ρ=gh h g (xs.map enc) ρ2:=by
    rw[LH]
    conv=>lhs;unfold gh
    rw[e1];simp only[R.ofO_some,R.ok_bind,e4]
   rw[e5];exact⟨k1,k2⟩
@[simp] theorem Hf{n:Nat}{t:PSt->R Bool}{g:PSt->R Fl}{ρ:PSt}:whS n t g ρ=whF t g n ρ:=by unfold whS;exact M0 _
end PU
namespace WO
open PySem L2 PU MT
def sg(c:Nat):PV:=.str ⟨#[c]⟩
theorem yO(l:List Nat):gz (mkS l)=l.map sg:=by unfold gz sg;rw[gQ]
theorem it_mk(l:List Nat):eN (.str (mkS l))=some (l.map sg):=by rw[← yO];unfold eN;exact M0 _
theorem in_one(c:Nat)(l:List Nat):gIn (sg c) (.str (mkS l))=some (.bl (decide (c∈l))):=by
 show some (PV.bl (inS ⟨#[c]⟩ (mkS l)))=_;have e:=PySem.StrLaws.found_one (mkS l) c;rw[gQ] at e;unfold inS;rw[e]
def keyPv(o:Option Nat):PV:=match o with
 | some k=>sg k
 | none=>.non
def codePv(o:Option (List Nat)):PV:=match o with
 | some c=>.str (mkS c)
 | none=>.non
abbrev Lts:=List (Nat×List Nat)
def ltPv(ls:Lts):PV:=.lst (ls.map fun l=>.tup [sg l.1,.str (mkS l.2)])
def keyL(ls:Lts)(c:Nat):Option Nat:=(ls.find? fun l=>decide (c∈l.2)).map (·.1)
def codeL(ls:Lts)(x:List Nat):Option (List Nat):=if x.all (fun c=>(keyL ls c).isSome)=true then some (x.map fun c=>(keyL ls c).getD 0) else none
theorem wH:∀l:List Nat,Pk "" (l.map fun c=>(⟨#[c]⟩:Str))=mkS l
 | []=>by rw[← fh];rfl
 | [a]=>rfl
 | a::b::r=>by
  have ih:=wH (b::r);have e:Pk "" (((a::b::r:List Nat)).map fun c=>(⟨#[c]⟩:Str))=(⟨#[a]⟩:Str)++""++Pk "" ((b::r).map fun c=>(⟨#[c]⟩:Str)):=rfl;rw[e,ih,qV,fh,lL,lL];rfl
theorem joinV (l:List Nat) (h:l.length<=1000):rm (.str "") (.lst (l.map sg))=some (.str (mkS l)):=by
 have e:l.map sg=(l.map fun c=>(⟨#[c]⟩:Str)).map PV.str:=by rw[Lh];rfl
 rw[e,Eb,wH];rw[Lh];have:(List.map ((fun x=>x.length) ∘ fun c=>({ cps:=#[c] }:Str)) l)=l.map fun _=>1:=rfl;rw[this];have:("":Str).length=0:=by decide +kernel
 have h2:∀l:List Nat,(l.map fun _=>1).sum=l.length:=fun l=>by
  induction l with
  | nil=>rfl
  | cons a r ih=>simp only[LH,List.sum_cons,ih,Lz];omega
 rw[h2,this];omega
theorem mz(ls:Lts)(x:List Nat):(x.map fun c=>keyPv (keyL ls c)).all mD=true:=by
 rw[Nd];intro p hp;obtain⟨c,_,rfl⟩:=LV.mp hp;cases keyL ls c <;> rfl
theorem none_in(ls:Lts)(x:List Nat):gIn .non (.lst (x.map fun c=>keyPv (keyL ls c)))=some (.bl (!x.all fun c=>(keyL ls c).isSome)):=by
 have e:gIn .non (.lst (x.map fun c=>keyPv (keyL ls c)))=if mD .non=true/\(x.map fun c=>keyPv (keyL ls c)).all mD=true then some (.bl (inV (scV .non) ((x.map fun c=>keyPv (keyL ls c)).map scV))) else none:=rfl
 rw[e,if_pos ⟨rfl,mz ls x⟩]
 congr 2
 clear e
 induction x with
 | nil=>rfl
 | cons c r ih=>
  simp only[LH,NU,Bool.not_and,inV,Mp];rw[← ih];unfold inV;cases keyL ls c <;> simp[keyPv,sg,scV,eqV]
theorem in_list_comp{α:Type}{enc:α->PV}{h:Tgt}{fe:PSt->R PV}{ρ:PSt}(F:α->PV)(xs:List α)
  (hs:∀x∈xs,∃ρ1,h (enc x) ρ=some ρ1/\fe ρ1=.ok (F x)):c8 h iT fe ρ (xs.map enc)=.ok (xs.map F):=by
 have e:=kx (t:=iT) (fun _=>true) F xs fun x hx=>by
  obtain⟨ρ1,a,b⟩:=hs x hx;exact⟨ρ1,a,rO,fun _=>b⟩
 rw[List.filter_eq_self.mpr (fun _ _=>rfl)] at e;exact e
end WO
section
namespace PU
open PySem
theorem x9{α β:Type}{f:α->List β}{b:Nat}:∀{l:List α},(∀x∈l,(f x).length<=b)->(l.flatMap f).length<=l.length * b
 | [],_=>by simp
 | a::l,h=>by
  have:=x9 (l:=l) fun x hx=>h x (Lo _ hx);have h1:=h a (Lu ..);simp only[QD,Lw,Lz,Nat.succ_mul];omega
end PU
namespace FA
open PySem L2 PU MT
@[simp] theorem yW:(LS "menu"=LS "names")=False:=by decide +kernel
@[simp] theorem yX:(LS "menu"=LS "hours")=False:=by decide +kernel
@[simp] theorem AB:(LS "menu"=LS "hand")=False:=by decide +kernel
@[simp] theorem BK:(LS "menu"=LS "end")=False:=by decide +kernel
@[simp] theorem yU:(LS "names"=LS "menu")=False:=by decide +kernel
@[simp] theorem yf:(LS "names"=LS "hours")=False:=by decide +kernel
@[simp] theorem yV:(LS "names"=LS "hand")=False:=by decide +kernel
@[simp] theorem AA:(LS "names"=LS "end")=False:=by decide +kernel
@[simp] theorem yY:(LS "hours"=LS "menu")=False:=by decide +kernel
@[simp] theorem yg:(LS "hours"=LS "names")=False:=by decide +kernel
@[simp] theorem AC:(LS "hand"=LS "menu")=False:=by decide +kernel
@[simp] theorem yZ:(LS "hand"=LS "names")=False:=by decide +kernel
@[simp] theorem z6:(LS "hand"=LS "hours")=False:=by decide +kernel
@[simp] theorem BM:(LS "hand"=LS "end")=False:=by decide +kernel
@[simp] theorem BN:(LS "end"=LS "menu")=False:=by decide +kernel
@[simp] theorem AD:(LS "end"=LS "names")=False:=by decide +kernel
@[simp] theorem AE:(LS "end"=LS "hours")=False:=by decide +kernel
@[simp] theorem BP:(LS "end"=LS "hand")=False:=by decide +kernel
@[simp] theorem uJ:(LS "first"=LS "letters")=False:=by decide +kernel
@[simp] theorem yh:(LS "first"=LS "rooms")=False:=by decide +kernel
@[simp] theorem uI:(LS "letters"=LS "rooms")=False:=by decide +kernel
def holds(hour:Int)(s:Int×Int×Str):Bool:=decide (s.1<=hour) && decide (hour<s.2.1)
def handOf(spans:List (Int×Int×Str))(last:Str)(hour:Int):Str:=match spans.find? (holds hour) with
 | some s=>s.2.2
 | none=>last
abbrev Rooms:=List (Str×Room)
def lookR(rs:Rooms)(n:Str):Option Room:=(rs.find? fun r=>decide (r.1=n)).map (·.2)
def names(rs:Rooms):List Str:=rs.map (·.1)
theorem nr(n:Str):∀rs:Rooms,bJ (rs.map fun r=>.inr r.1) (rs.map fun r=>r.2.pv) (.inr n)=(lookR rs n).map Room.pv
 | []=>rfl
 | r::rs=>by
  have ih:=nr n rs;unfold lookR at ih ⊢
  by_cases h:r.1=n
  ·simp[h]
  ·simp only[LH,mP]
   rw[if_neg (by simpa using h),OP (by simpa using h)];exact ih
theorem ix_rooms(rs:Rooms)(n:Str):gIx (aC rs) (.str n)=(lookR rs n).map Room.pv:=nr n rs
theorem look_some(rs:Rooms)(n:Str)(h:n∈names rs):∃r,lookR rs n=some r:=by
 unfold lookR;cases e:rs.find? fun r=>decide (r.1=n) with
 | some r=>exact⟨_,rfl⟩
 | none=>
  obtain⟨r,hr,e2⟩:=LV.mp h;exact absurd (SZ.mp e r hr) (by simpa using e2)
theorem keys_rooms(rs:Rooms):eN (aC rs)=some ((names rs).map .str):=by
 have e:eN (aC rs)=some ((rs.map fun r=>(Ml r.1:Key)).map zG):=rfl;rw[e,Lh];unfold names;rw[Lh];rfl
end FA
end
namespace FA
open PySem L2 PU MT
theorem cut_from{α:Type}(xs:List α)(i:Nat)(h:i<xs.length):jD xs (some ((i:Int)+1)) none=xs.drop (i+1):=by
 unfold jD HT.sIx;simp;have e1:¬ ((i:Int)+1<0):=by omega
 have e2:((i:Int)+1).toNat=i+1:=by omega
 try simp[e1,e2]
 try rw[Qh (by omega)]
 try exact RG (by simp)
end FA
namespace MT
open PySem L2 PU
mutual
def flat:PV->Bool
 | .tup ps=>x8 ps
 | .lst ps=>x8 ps
 | .dct _ _=>false
 | .dtt _ _=>false
 | .fn _ _=>false
 | _=>true
def x8:List PV->Bool
 | []=>true
 | p::ps=>flat p && x8 ps
end
mutual
theorem zh:∀(p:PV),flat p=true->bp p p=some true
 | .non,_=>by simp[bp]
 | .bl _,_=>by simp[bp]
 | .int _,_=>by simp[bp]
 | .str _,_=>by simp[bp]
 | .tup ps,h=>by
  simp only[bp];exact lI ps (by simpa [flat] using h)
 | .lst ps,h=>by
  simp only[bp];exact lI ps (by simpa [flat] using h)
 | .dct _ _,h=>by simp[flat] at h
 | .dtt _ _,h=>by simp[flat] at h
 | .fn _ _,h=>by simp[flat] at h
theorem lI:∀(ps:List PV),x8 ps=true->bg ps ps=some true
 | [],_=>by simp[bg]
 | p::ps,h=>by
  simp only[x8,MR] at h;simp only[bg,zh p h.1,lI ps h.2,OW,Bool.and_self]
end
def pj(rs:List (Str×Room))(k:Str)(r:Room):List (Str×Room):=if k∈rs.map (·.1) then rs.map (fun x=>if x.1=k then (x.1,r) else x) else rs++[(k,r)]
theorem o8(rs:List (Str×Room))(k:Str)(r:Room):kO (rs.map fun r=>.inr r.1) (rs.map fun r=>r.2.pv) (.inr k) r.pv=aC (pj rs k r):=by
 unfold kO pj
 by_cases h:k∈rs.map (·.1)
 ·rw[if_pos h,if_pos (by
   obtain⟨x,hx,e⟩:=LV.mp h;rw[PL];exact⟨.inr x.1,LV.mpr ⟨x,hx,rfl⟩,by simp[e]⟩)]
  have e1:(rs.map fun x=>if x.1=k then (x.1,r) else x).map (fun r=>(Ml r.1:Key))=rs.map fun r=>.inr r.1:=by
   rw[Lh];apply Ms;intro x _;simp only[Nh]
   split <;> rfl
  have e2:kC (rs.map fun r=>.inr r.1) (rs.map fun r=>r.2.pv) (.inr k) r.pv=(rs.map fun x=>if x.1=k then (x.1,r) else x).map fun r=>r.2.pv:=by
   unfold kC;clear h e1
   induction rs with
   | nil=>rfl
   | cons x rs ih=>
    simp only[LH,Mr,ih,Qc]
    congr 1
    split <;> rfl
  unfold aC;rw[e1,e2]
 ·rw[if_neg h,if_neg (by
   rw[PL];rintro⟨j,hj,e⟩;obtain⟨x,hx,rfl⟩:=LV.mp hj;exact h (LV.mpr ⟨x,hx,by simpa using e⟩))]
  unfold aC;simp
theorem BR{rs:List (Str×Room)}{k:Str}{r:Room}(P:Str×Room->Prop)(h:∀x∈rs,P x)(hk:∀x:Str×Room,x.1=k->x.2=r->P x)(nd:(rs.map (·.1)).Nodup) :
  (∀x∈pj rs k r,P x)/\((pj rs k r).map (·.1)).Nodup/\(pj rs k r).length<=rs.length+1:=by
 unfold pj
 by_cases hm:k∈rs.map (·.1)
 ·rw[if_pos hm]
  refine⟨fun x hx=>?_,?_,by simp⟩
  ·obtain⟨y,hy,e⟩:=LV.mp hx
   by_cases hyk:y.1=k
   ·rw[if_pos hyk] at e
    subst e;exact hk _ hyk rfl
   ·rw[if_neg hyk] at e
    subst e;exact h _ hy
  ·rw[Lh]
   have:(rs.map ((fun x=>x.1) ∘ fun x=>if x.1=k then (x.1,r) else x))=rs.map (·.1):=by
    apply Ms;intro x _;simp only[Nh]
    split <;> rfl
   rw[this];exact nd
 ·rw[if_neg hm]
  refine⟨fun x hx=>?_,?_,by simp⟩
  ·rcases MA.mp hx with hx | hx
   ·exact h x hx
   ·have:x=(k,r):=by simpa using hx
    subst this;exact hk _ rfl rfl
  ·rw[Lq,N1]
   refine⟨nd,by simp,fun a ha b hb e=>?_⟩;have:b=k:=by simpa using hb
   subst this;subst e;exact hm ha
end MT
namespace NM
open PySem L2 PU MT
def c24:List Nat:=[97,99,100,101,102,103,104,105,106,108,109,110,111,112,113,114,115,116,117,118,119,120,121,122]
def Fd(n:Int):Nat:=(1+n % 8).toNat
def Kt(n:Int):Int:=n / 8 % (1+n % 8)
def Fe(n:Int)(t k:Nat):Nat:=c24.getD ((n / ((k:Int)+2)+(t:Int) * (if (k:Int)=Kt n then 1 else 0)) % 24).toNat 0
def Ca(n:Int)(t i:Nat):List Nat:=(LI i).map (Fe n t)
def nm(n:Int)(t:Nat):Str:=mkS (Ca n t (Fd n))
theorem Gw(nms:List Str)(z:Int)(h:0<nms.length):∃x∈nms,atI (nms.map PV.str) (z % (nms.length:Int))=some (.str x):=by
 have h0:0<=z % (nms.length:Int):=Os _ (by omega);have h1:z % (nms.length:Int)<nms.length:=OJ _ (by omega);have h2:(z % (nms.length:Int)).toNat<nms.length:=by omega
 refine⟨nms[(z % (nms.length:Int)).toNat],MS h2,bf (n:=(z % (nms.length:Int)).toNat) (by omega) ?_⟩;rw[LO,LG h2];rfl
theorem JS(ss:List Str)(i:Nat)(hi:i<ss.length):atI (ss.map PV.str) (i:Int)=some (.str ss[i]):=bf rfl (by
 rw[LO,LG hi];rfl)
theorem jV(rs:FA.Rooms)(k:Str)(r:Room)(x:Str):x∈FA.names (pj rs k r) ↔ x∈FA.names rs\/x=k:=by
 unfold FA.names pj
 by_cases h:k∈rs.map (·.1)
 ·rw[if_pos h,Lh]
  have:(rs.map ((fun x=>x.1) ∘ fun x=>if x.1=k then (x.1,r) else x))=rs.map (·.1):=by
   apply Ms;intro x _;simp only[Nh]
   split <;> rfl
  rw[this];exact⟨.inl,fun z=>z.elim id fun e=>e▸h⟩
 ·rw[if_neg h]
  simp
def comeGo(rs:FA.Rooms)(hour:Int):Nat->Str->Option Str
 | 0,_=>none
 | n+1,x=>match FA.lookR rs x with
  | some (.hours sp l)=>comeGo rs hour n (FA.handOf sp l hour)
  | some _=>some x
  | none=>none
theorem wd(rs:FA.Rooms)(n:Str)(r:Room)(h:FA.lookR rs n=some r):(n,r)∈rs:=by
 unfold FA.lookR at h;cases e:rs.find? fun r=>decide (r.1=n) with
 | none=>rw[e] at h;cases h
 | some q=>
  rw[e] at h;cases h;have h1:=Qb e;have h1:q.1=n:=by simpa using h1
  subst h1;exact NH e
end NM
section
namespace PU
open PySem L2
def HF(p:PV)(lh:Option Int×Option Int):R PV:=R.ofO (yp p lh.1 lh.2)
@[simp] theorem Ky(p:PV)(a b:Option Int):HF p (a,b)=R.ofO (yp p a b):=by unfold HF;exact M0 _
@[simp] theorem GF{f:PSt->R PV}{l h:PSt->R (Option Int)}{ρ:PSt}:jc f l h ρ=nN HF (f ρ) (nN pB (l ρ) (h ρ)):=by unfold jc;cases f ρ <;> cases l ρ <;> cases h ρ <;> rfl
theorem yy{x:Str}(lo hi:Option Int)(h:x.length<=16777216):yp (.str x) lo hi=some (.str (Mo x lo hi)):=if_pos h
@[simp] theorem E6(ps:List PV)(lo hi:Option Int):yp (.lst ps) lo hi=some (.lst (jD ps lo hi)):=rfl
end PU
namespace NM
open PySem L2 PU MT
theorem dh(ls:List Int)(k:Nat)(hk:k<ls.length):atI (ls.map PV.int) (k:Int)=some (.int ls[k]):=bf rfl (by rw[LO,LG hk];rfl)
theorem cut_1{α:Type}(xs:List α)(h:0<xs.length):jD xs (some 1) none=xs.drop 1:=FA.cut_from xs 0 h
end NM
end
section
namespace PU
open PySem L2 MT
def DS:PV->PV->R (List PV)
 | .lst ps,.lst qs=>if (ps.all iQ || qs.all iQ)=true then .ok ((tJ ps qs).map .tup) else .no
 | _,_=>.no
@[simp] theorem wD(ps qs:List PV)(h:(ps.all iQ || qs.all iQ)=true):DS (.lst ps) (.lst qs)=.ok ((tJ ps qs).map .tup):=by unfold DS;exact if_pos h
@[simp] theorem q8{α:Type}(f:α->Str)(l:List α):(l.map fun x=>PV.str (f x)).all iQ=true:=by induction l <;> simp_all [iQ]
@[simp] theorem Jg{f g:PSt->R PV}{ρ:PSt}:DB f g ρ=nN DS (f ρ) (g ρ):=by
 unfold DB;cases f ρ with
 | ok p=>
  cases g ρ with
  | ok q=>rw[R.ok_bind,R.ok_bind,wF];cases p <;> cases q <;> rfl
  | er x=>rfl
  | no=>rfl
 | er x=>rfl
 | no=>rfl
def H9(fe fd:PSt->R PV)(g:PV->PV->PV->Option PV)(ρ:PSt)(p:PV):R PV:=if CL p=true then nN (fun q y=>R.ofO (g p q y)) (fe ρ) (fd ρ) else .no
@[simp] theorem JG(fe fd:PSt->R PV)(g:PV->PV->PV->Option PV)(ρ:PSt)(ks:List Key)(ps:List PV):H9 fe fd g ρ (.dct ks ps)=nN (fun q y=>R.ofO (g (.dct ks ps) q y)) (fe ρ) (fd ρ):=by unfold H9;exact if_pos rfl
@[simp] theorem GI{fo fe fd:PSt->R PV}{g:PV->PV->PV->Option PV}{ρ:PSt}:sE fo fe fd g ρ=jE (H9 fe fd g ρ) (fo ρ):=by
 unfold sE;cases fo ρ with
 | ok p=>
  rw[R.ok_bind,lQ];unfold H9
  split
  ·cases fe ρ with
   | ok q=>cases fd ρ <;> rfl
   | er x=>rfl
   | no=>rfl
  ·rfl
 | er x=>rfl
 | no=>rfl
theorem kM(l:List Nat)(n:Nat):Mo (mkS l) none (some (n:Int))=mkS (l.take n):=by
 have main:∀m:Nat,m<=l.length->Mo (mkS l) none (some (m:Int))=mkS (l.take m):=fun m hm=>by
  have e:=PySem.StrLaws.sliceText_to (x:=mkS l) (j:=m) ⟨by omega,by rw[gQ];omega⟩;have e2:Mo (mkS l) none (some (m:Int))=PySem.StrLaws.sliceText (mkS l) none (some (m:Int)):=rfl;rw[e2,e,gQ];have:((m:Int)-0).toNat=m:=by omega
  rw[this];rfl
 by_cases h:n<=l.length
 ·exact main n h
 ·have e:Mo (mkS l) none (some (n:Int))=Mo (mkS l) none (some (l.length:Int)):=by
   have e1:Oa none (some (n:Int)) 1 (mkS l).length=Oa none (some (l.length:Int)) 1 (mkS l).length:=by
    rw[ck];unfold Oa;have a:¬ ((n:Int)<0):=by omega
    have b:¬ ((l.length:Int)<0):=by omega
    have c:max (0:Int) (SR (n:Int) (l.length:Int))=max 0 (SR (l.length:Int) (l.length:Int)):=by omega
    simp only[a,b,if_false,c,show (1:Int) > 0 from by decide,if_true]
   unfold Mo;rw[e1]
  rw[e,main l.length (LY _),O4,RG (by omega)]
end PU
namespace BG
open PySem L2 PU MT
abbrev W:=List Nat
def pre(p c:W):Bool:=p.isPrefixOf c
theorem jM{p c:W}:pre p c=true ↔ p <+: c:=List.isPrefixOf_iff_prefix
def many(cs:List W)(p:W):Nat:=(cs.filter (pre p)).length
def own(cs:List W)(c:W):W:=match (LI (c.length-1)).find? (fun i=>decide (many cs (c.take (i+1))=1)) with
 | some i=>c.take (i+1)
 | none=>c
def Code(c:W):Prop:=∃x:W,c=x++[35]/\35 ∉ x
theorem zZ{c d:W}(hc:Code c)(hd:Code d)(h:c <+: d):c=d:=by
 obtain⟨x,rfl,hx⟩:=hc;obtain⟨y,rfl,hy⟩:=hd;obtain⟨t,e⟩:=h;cases ht:t.reverse with
 | nil=>
  have:t=[]:=by simpa using ht
  rw[this,Mb] at e;exact e
 | cons a r=>
  exfalso
  have e1:t=r.reverse++[a]:=by
   have:=congrArg List.reverse ht;simpa using this
  rw[e1,← Mf] at e;have e2:=List.append_inj' e rfl;exact hy (by rw[← e2.1];simp)
theorem ot(cs:List W)(c:W):own cs c <+: c:=by
 unfold own
 split
 ·exact O3 _ _
 ·exact PC _
theorem AJ(cs:List W)(c:W)(h:c≠[]):own cs c≠[]:=by
 unfold own
 split
 ·intro e
  cases c with
  | nil=>exact h rfl
  | cons a r=>simp at e
 ·exact h
theorem vM{cs:List W}(hcs:∀c∈cs,Code c){c d:W}(hc:c∈cs)(hd:d∈cs)(h:own cs c <+: d):c=d:=by
 unfold own at h;split at h
 ·rename_i i e
  have h1:many cs (c.take (i+1))=1:=by simpa using Qb e
  unfold many at h1;have m1:c∈cs.filter (pre (c.take (i+1))):=Mt.mpr ⟨hc,jM.mpr (O3 _ _)⟩;have m2:d∈cs.filter (pre (c.take (i+1))):=Mt.mpr ⟨hd,jM.mpr h⟩;generalize cs.filter (pre (c.take (i+1)))=l at h1 m1 m2
  match l,h1,m1,m2 with
  | [a],_,m1,m2=>rw[Li.mp m1,Li.mp m2]
 ·exact zZ (hcs c hc) (hcs d hd) h
theorem BS{p q r:W}(hp:p <+: r)(hq:q <+: r):p <+: q\/q <+: p:=by
 rcases Nat.le_total p.length q.length with h | h
 ·exact .inl (QM hp hq h)
 ·exact .inr (QM hq hp h)
theorem vN{cs:List W}(hcs:∀c∈cs,Code c){c d r:W}(hc:c∈cs)(hd:d∈cs)(h1:own cs c <+: r)(h2:own cs d <+: r):c=d:=by
 rcases BS h1 h2 with h | h
 ·exact vM hcs hc hd (P9 h (ot cs d))
 ·exact(vM hcs hd hc (P9 h (ot cs c))).symm
def uL(c:W):List W:=(LI c.length).map fun i=>c.take (i+1)
theorem xB{l:List W}{p:W}(nd:l.Nodup)(h:p∈l):l.count p=1:=by
 induction l with
 | nil=>cases h
 | cons a r ih=>
  rw[MB] at nd
  by_cases e:a=p
  ·subst e
   rw[List.count_cons_self,Q3.mpr nd.1]
  ·rw[List.count_cons_of_ne e]
   exact ih nd.2 ((LX.mp h).resolve_left fun z=>e z.symm)
theorem uB(c p:W):(uL c).count p=if p≠[]/\p <+: c then 1 else 0:=by
 have nd:(uL c).Nodup:=by
  unfold uL List.Nodup;rw[Sn];refine Q8 (R:=fun a b=>a<b) (fun {a b} ha hb hab e=>?_) RH;rw[MD] at ha hb;have:=congrArg NT e;rw[N6,N6] at this;omega
 by_cases h:p≠[]/\p <+: c
 ·rw[if_pos h]
  refine xB nd ?_;unfold uL;refine LV.mpr ⟨p.length-1,MD.mpr ?_,?_⟩
  ·have:=h.2.length_le
   have:p.length≠0:=fun e=>h.1 (Nc.mp e);omega
  ·have:p.length≠0:=fun e=>h.1 (Nc.mp e)
   rw[show p.length-1+1=p.length by omega];exact(OI.mp h.2).symm
 ·rw[if_neg h]
  refine Q3.mpr fun hm=>h ?_;unfold uL at hm;obtain⟨i,hi,rfl⟩:=LV.mp hm;rw[MD] at hi;refine⟨fun e=>?_,O3 _ _⟩;have:=congrArg NT e;rw[N6,Np] at this;omega
theorem xC(cs:List W)(p:W)(hp:p≠[]):(cs.flatMap uL).count p=many cs p:=by
 induction cs with
 | nil=>rfl
 | cons c r ih=>
  rw[QD,So,ih,uB];unfold many
  by_cases h:p <+: c
  ·rw[if_pos ⟨hp,h⟩,PH (jM.mpr h),Lz]
   omega
  ·rw[if_neg fun z=>h z.2,PJ fun z=>h (jM.mp z)]
   omega
structure Cnt(L:List W)(ks:List Key)(ps:List PV):Prop where
 len:ks.length=ps.length
 le:ks.length<=L.length
 at_:∀p:W,bJ ks ps (.inr (mkS p))=if L.count p=0 then none else some (.int (L.count p))
theorem mkS_inj{a b:W}(h:mkS a=mkS b):a=b:=by
 have:=congrArg (fun s:Str=>s.cps.toList) h;simpa using this
theorem look_put(ks:List Key)(ps:List PV)(k:Key)(v:PV)(hl:ks.length=ps.length):∃ks' ps',kO ks ps k v=.dct ks' ps'/\ks'.length=ps'.length/\ks'.length<=ks.length+1/\∀j,bJ ks' ps' j=if k=j then some v else bJ ks ps j:=by
 unfold kO
 by_cases hk:(ks.any fun j=>decide (j=k))=true
 ·rw[if_pos hk]
  refine⟨ks,kC ks ps k v,rfl,by simp[kC,hl],by omega,fun j=>?_⟩
  induction ks generalizing ps with
  | nil=>simp at hk
  | cons a ks ih=>
   cases ps with
   | nil=>simp at hl
   | cons b ps=>
    have hl':ks.length=ps.length:=by simpa using hl
    have e:kC (a::ks) (b::ps) k v=(if a=k then v else b)::kC ks ps k v:=rfl;rw[e];simp only[mP]
    by_cases haj:a=j
    ·rw[if_pos haj,if_pos haj]
     by_cases hkj:k=j
     ·rw[if_pos (haj.trans hkj.symm),if_pos hkj]
     ·rw[if_neg fun z=>hkj (z.symm.trans haj),if_neg hkj]
    ·rw[if_neg haj,if_neg haj]
     by_cases hk2:(ks.any fun j=>decide (j=k))=true
     ·exact ih ps hl' hk2
     ·have hak:a=k:=by
       rw[Mp] at hk;simp only[Oo,decide_eq_true_eq] at hk;exact hk.resolve_right hk2
      have hkj:¬ k=j:=fun z=>haj (hak.trans z);rw[if_neg hkj]
      have:kC ks ps k v=ps:=by
       clear ih hk e hl
       induction ks generalizing ps with
       | nil=>cases ps with
        | nil=>rfl
        | cons=>simp at hl'
       | cons c ks ih=>
        cases ps with
        | nil=>simp at hl'
        | cons d ps=>
         have e:kC (c::ks) (d::ps) k v=(if c=k then v else d)::kC ks ps k v:=rfl;rw[Mp] at hk2;simp only[Oo,decide_eq_true_eq,not_or] at hk2;rw[e,if_neg hk2.1,ih ps (by simpa using hl') hk2.2]
      rw[this]
 ·rw[if_neg hk]
  refine⟨ks++[k],ps++[v],rfl,by simp[hl],by simp,fun j=>?_⟩
  induction ks generalizing ps with
  | nil=>
   cases ps with
   | nil=>simp[bJ]
   | cons=>simp at hl
  | cons a ks ih=>
   cases ps with
   | nil=>simp at hl
   | cons b ps=>
    rw[Mp] at hk;simp only[Oo,decide_eq_true_eq,not_or] at hk;simp only[O5,mP]
    by_cases haj:a=j
    ·rw[if_pos haj,if_pos haj,if_neg fun z=>hk.1 (haj.trans z.symm)]
    ·rw[if_neg haj,if_neg haj]
     exact ih ps (by simpa using hl) hk.2
theorem Dp{L:List W}{ks:List Key}{ps:List PV}(c:Cnt L ks ps)(p:W):∃ks' ps',kO ks ps (.inr (mkS p)) (.int ((L.count p:Int)+1))=.dct ks' ps'/\Cnt (L++[p]) ks' ps':=by
 obtain⟨ks',ps',e,h1,h2,h3⟩:=look_put ks ps (.inr (mkS p)) (.int ((L.count p:Int)+1)) c.len;refine⟨ks',ps',e,h1,by rw[Lw,Mh];have:=c.le;omega,fun q=>?_⟩;rw[h3,So]
 by_cases hq:p=q
 ·subst hq
  rw[if_pos rfl,List.count_singleton_self,if_neg (by omega)]
  congr 2
 ·rw[if_neg fun z=>hq (mkS_inj (OD z)),c.at_ q]
  have:List.count q [p]=0:=Q3.mpr (by simp;exact fun z=>hq z.symm);rw[this,Nat.add_zero]
theorem Dq{L:List W}{ks:List Key}{ps:List PV}(c:Cnt L ks ps)(p:W):uw (.dct ks ps) (.str (mkS p)) (.int 0)=some (.int (L.count p)):=by
 show some ((bJ ks ps (.inr (mkS p))).getD (.int 0))=_;rw[c.at_ p]
 split
 ·rename_i h
  rw[h];rfl
 ·rfl
end BG
end
namespace NW
open PySem L2 PU MT BG
def kA(p:W)(o:Option PV)(x:W×Str):Option PV:=if x.1=p then some (.str x.2) else if p≠[]/\p <+: x.1 then some .non else o
def Bh(bs:List (W×Str))(p:W):Option PV:=bs.foldl (kA p) none
def yn(p:W)(x:W×Str):Bool:=decide (p≠[]) && pre p x.1
theorem ij{p:W}{x:W×Str}:yn p x=true ↔ p≠[]/\p <+: x.1:=by simp[yn,jM]
theorem iU(p:W)(hp:p≠[]):∀(bs:List (W×Str))(o:Option PV),bs.foldl (kA p) o=match (bs.filter (yn p)).getLast? with
  | none=>o
  | some x=>if x.1=p then some (.str x.2) else some .non
 | [],o=>rfl
 | x::bs,o=>by
  rw[NJ,iU p hp bs]
  by_cases h:yn p x=true
  ·rw[PH h]
   have h':=(ij.mp h)
   have e:kA p o x=if x.1=p then some (.str x.2) else some .non:=by
    unfold kA;rw[if_pos h']
   cases hl:bs.filter (yn p) with
   | nil=>simp only[List.getLast?_nil,List.getLast?_singleton];exact e
   | cons a r=>
    rw[List.getLast?_cons_cons];cases hg:(a::r).getLast? with
    | none=>simp at hg
    | some y=>rfl
  ·rw[PJ h]
   have h':¬ (p≠[]/\p <+: x.1):=fun z=>h (ij.mpr z)
   have e:kA p o x=o:=by
    unfold kA;rw[if_neg h',if_neg fun e=>h' ⟨hp,by rw[e];exact PC _⟩]
   rw[e]
section
variable{bs : List (W×Str)}(hne : ∀x ∈ bs, x.1 ≠ [])(hpf : ∀x ∈ bs, ∀y ∈ bs, x.1 <+: y.1 → x = y)
include hne hpf
theorem yx{x:W×Str}(hx:x∈bs):Bh bs x.1=some (.str x.2):=by
 unfold Bh;rw[iU x.1 (hne x hx)];have m:x∈bs.filter (yn x.1):=Mt.mpr ⟨hx,ij.mpr ⟨hne x hx,PC _⟩⟩;cases e:(bs.filter (yn x.1)).getLast? with
 | none=>rw[Qt.mp e] at m;cases m
 | some y=>
  have my:=Mt.mp (Rx e);have:=hpf x hx y my.1 (ij.mp my.2).2;subst this;simp
theorem yw{x:W×Str}(hx:x∈bs){p:W}(hp:p≠[])(h1:p <+: x.1)(h2:p≠x.1):Bh bs p=some .non:=by
 unfold Bh;rw[iU p hp];have m:x∈bs.filter (yn p):=Mt.mpr ⟨hx,ij.mpr ⟨hp,h1⟩⟩;cases e:(bs.filter (yn p)).getLast? with
 | none=>rw[Qt.mp e] at m;cases m
 | some y=>
  have my:=Mt.mp (Rx e)
  have h3:¬ y.1=p:=fun z=>by
   have:y=x:=hpf y my.1 x hx (by rw[z];exact h1);exact h2 (by rw[← z,this])
  simp only[if_neg h3]
omit hpf in
theorem uT{p:W}(h:∀x∈bs,p≠[]->¬ p <+: x.1):Bh bs p=none:=by
 unfold Bh
 by_cases hp:p=[]
 ·subst hp
  have:∀(l:List (W×Str)),(∀x∈l,x.1≠[])->l.foldl (kA []) none=none:=by
   intro l
   induction l with
   | nil=>intro _;rfl
   | cons x l ih=>
    intro hl;rw[NJ]
    have e:kA [] none x=none:=by
     unfold kA;rw[if_neg (hl x Lu),if_neg (by simp)]
    rw[e];exact ih fun y hy=>hl y (Lo _ hy)
  exact this bs hne
 ·rw[iU p hp]
  have:bs.filter (yn p)=[]:=List.filter_eq_nil_iff.mpr fun x hx z=>h x hx hp (ij.mp z).2;rw[this];rfl
end
structure Tells(ks:List Key)(ps:List PV)(F:W->Option PV):Prop where
 len:ks.length=ps.length
 at_:∀p,bJ ks ps (.inr (mkS p))=F p
 nf:∀x∈ps,noFn x=true
theorem gN:∀ps:List PV,bE ps=true ↔ ∀p∈ps,noFn p=true
 | []=>by simp[bE]
 | p::ps=>by
  have e:bE (p::ps)=(noFn p && bE ps):=by simp[bE]
  rw[e,MR,gN ps];constructor
  ·rintro⟨h1,h2⟩ q hq
   rcases LX.mp hq with rfl | hq
   ·exact h1
   ·exact h2 q hq
  ·intro h
   exact⟨h p (by simp),fun q hq=>h q (by simp[hq])⟩
theorem uO{k:Key}{v x:PV}:∀(ks:List Key)(ps:List PV),x∈ks.zipWith (fun j q=>if j=k then v else q) ps->x∈ps\/x=v
 | [],_,h=>by simp at h
 | _::_,[],h=>by simp at h
 | j::ks,p::ps,h=>by
  rw[Mr] at h;rcases LX.mp h with h | h
  ·by_cases e:j=k
   ·rw[if_pos e] at h;exact .inr h
   ·rw[if_neg e] at h;exact .inl (by simp[h])
  ·rcases uO ks ps h with h | h
   ·exact .inl (by simp[h])
   ·exact .inr h
theorem vn{ks ks':List Key}{ps ps':List PV}{k:Key}{v:PV}(e:kO ks ps k v=.dct ks' ps'){x:PV}(hx:x∈ps'):x∈ps\/x=v:=by
 unfold kO at e;split at e
 ·injection e with e1 e2
  subst e2;exact uO ks ps hx
 ·injection e with e1 e2
  subst e2;simpa using hx
theorem Tells.put{ks:List Key}{ps:List PV}{F:W->Option PV}(h:Tells ks ps F)(p0:W)(v:PV)(hv:noFn v=true):∃ks' ps',kO ks ps (.inr (mkS p0)) v=.dct ks' ps'/\ks'.length<=ks.length+1/\Tells ks' ps' (fun p=>if p0=p then some v else F p):=by
 obtain⟨ks',ps',e,h1,h2,h3⟩:=look_put ks ps (.inr (mkS p0)) v h.len;refine⟨ks',ps',e,h2,h1,fun p=>?_,fun x hx=>(vn e hx).elim (h.nf x) fun z=>z▸hv⟩;rw[h3,h.at_]
 by_cases hp:p0=p
 ·rw[if_pos hp,if_pos (by rw[hp])]
 ·rw[if_neg hp,if_neg fun z=>hp (mkS_inj (OD z))]
theorem sL{k:Key}:∀(ks:List Key)(ps:List PV),ks.length=ps.length->(ks.any fun j=>decide (j=k))=(bJ ks ps k).isSome
 | [],[],_=>rfl
 | [],_::_,h=>by simp at h
 | _::_,[],h=>by simp at h
 | j::ks,p::ps,h=>by
  rw[mP,Mp]
  by_cases e:j=k
  ·simp[e]
  ·rw[if_neg e,sL ks ps (by simpa using h)]
   simp[e]
theorem Tells.notIn{ks:List Key}{ps:List PV}{F:W->Option PV}(h:Tells ks ps F)(p:W):iA (.str (mkS p)) (.dct ks ps)=some (.bl (!(F p).isSome)):=by
 have e:iA (.str (mkS p)) (.dct ks ps)=some (.bl (!(ks.any fun j=>decide (j=.inr (mkS p))))):=rfl;rw[e,sL ks ps h.len,h.at_]
theorem Tells.ix{ks:List Key}{ps:List PV}{F:W->Option PV}(h:Tells ks ps F)(p:W):gIx (.dct ks ps) (.str (mkS p))=F p:=h.at_ p
def Ar(wt:List (W×Str)):PV:=.tup (wt.map fun p=>.tup [.str (mkS p.1),.str p.2])
def wtD(wt:List (W×Str)):PV:=.dct (wt.map fun p=>.inr (mkS p.1)) (wt.map fun p=>.str p.2)
theorem pA:∀wt:List (W×Str),kn (wt.map fun p=>PV.tup [.str (mkS p.1),.str p.2])=some (wt.map fun p=>(.inr (mkS p.1),.str p.2))
 | []=>rfl
 | p::wt=>by
  rw[LH,LH];unfold kn;rw[pA wt];rfl
theorem o7{ks:List Key}{ps:List PV}{k:Key}{v:PV}(h:k ∉ ks):kO ks ps k v=.dct (ks++[k]) (ps++[v]):=by
 unfold kO;rw[if_neg]
 ·simpa using h
theorem x6:∀(wt:List (W×Str))(ks:List Key)(ps:List PV),((wt.map (·.1)).Nodup)->(∀p∈wt,(.inr (mkS p.1):Key) ∉ ks)->(wt.map fun p=>((.inr (mkS p.1):Key),PV.str p.2)).foldl Ai (.dct ks ps)=.dct (ks++wt.map fun p=>.inr (mkS p.1)) (ps++wt.map fun p=>.str p.2)
 | [],ks,ps,_,_=>by simp
 | p::wt,ks,ps,nd,hk=>by
  rw[LH,NJ];have e:Ai (.dct ks ps) (.inr (mkS p.1),.str p.2)=.dct (ks++[.inr (mkS p.1)]) (ps++[.str p.2]):=o7 (hk p Lu);rw[e,x6 wt _ _ (MB.mp nd).2]
  ·simp
  ·intro q hq z
   rcases MA.mp z with z | z
   ·exact hk q (Lo _ hq) z
   ·have z:=OD (Li.mp z)
    have z:=mkS_inj z;exact(MB.mp nd).1 (LV.mpr ⟨q,hq,z⟩)
theorem xp(wt:List (W×Str))(hl:wt.length<=1000)(nd:(wt.map (·.1)).Nodup):pW (Ar wt)=some (wtD wt):=by
 have e:pW (Ar wt)=if (wt.map fun p=>PV.tup [.str (mkS p.1),.str p.2]).length<=1000 then (kn (wt.map fun p=>PV.tup [.str (mkS p.1),.str p.2])).map gR else none:=rfl
 rw[e,if_pos (by simpa using hl),pA];show some (gR _)=_;have m:∀l,gR l=l.foldl Ai (.dct [] []):=fun l=>rfl;rw[m,x6 wt [] [] nd (by simp)];simp[wtD]
theorem Cr(wt:List (W×Str)):wV (wtD wt)=some (.lst (wt.map fun p=>.str (mkS p.1))):=by
 show some (PV.lst ((wt.map fun p=>(.inr (mkS p.1):Key)).map zG))=_;rw[Lh];rfl
theorem yK(wt:List (W×Str))(nd:(wt.map (·.1)).Nodup){p:W×Str}(hp:p∈wt):bJ (wt.map fun p=>.inr (mkS p.1)) (wt.map fun p=>.str p.2) (.inr (mkS p.1))=some (.str p.2):=by
 induction wt with
 | nil=>cases hp
 | cons q wt ih=>
  rw[LH,LH,mP];rcases LX.mp hp with rfl | h
  ·rw[if_pos rfl]
  ·have nd':=MB.mp nd
   rw[if_neg fun z=>nd'.1 (LV.mpr ⟨p,h,(mkS_inj (OD z)).symm⟩)];exact ih nd'.2 h
theorem pT{α β:Type}(f:α->β):∀(l:List α),(l.map f).Nodup->∀x∈l,∀y∈l,f x=f y->x=y
 | [],_,x,hx,_,_,_=>by cases hx
 | a::l,nd,x,hx,y,hy,e=>by
  rw[LH,MB] at nd;rcases LX.mp hx with h1 | h1
  ·rcases LX.mp hy with h2 | h2
   ·rw[h1,h2]
   ·exact absurd (LV.mpr ⟨y,h2,by rw[← e,h1]⟩) nd.1
  ·rcases LX.mp hy with h2 | h2
   ·exact absurd (LV.mpr ⟨x,h1,by rw[e,h2]⟩) nd.1
   ·exact pT f l nd.2 x h1 y h2 e
end NW
namespace PU
open PySem L2
theorem yR{m n:Nat}{g:PSt->R Fl}{ps:List PV}{p:PV}(hl:ps.length=m)(h:g (PU.start n ps)=.ok (.ret p)):runN m n g ps=some p:=by
 unfold runN;rw[if_pos hl,h]
@[simp] theorem Hh(p:PV)(ρ:PSt):Ay 0 (.own p::ρ)=.ok (.ret p):=by unfold Ay;exact M0 _
@[simp] theorem Hg(i:Nat)(l:Sl)(ρ:PSt):Ay (i+1) (l::ρ)=Ay i ρ:=by unfold Ay;rw[Lr]
end PU
namespace K42
open PySem L2 PU
noncomputable section
abbrev PT:Addr:=158
abbrev tw (w:Lx):TW:={ w:=w,tabs:=[PT],qual:=fun _ _=>"places.<locals>.<lambda>" }
def c_CODE_END:PV:=(.str "#")
def c_HEARD:PV:=(.dct [(.inr "menu"),(.inr "names"),(.inr "hand"),(.inr "end")] [(.str "asked"),(.str "asked"),(.str "hand"),(.str "end")])
def c_SIGNS:PV:=(.str "0123456789*#w")
def c_WAIT:PV:=(.str "w")
def eT:PSt->R Fl:=(aI (qB 2 (ah (a8 3) (kI 5040) dS)) (bK 3 (ah (a8 3) (kI 5040) CZ)))
def eS:PSt->R Fl:=(aI (bK 3 (ah (ah (ah (ah (a8 3) (a8 4) fI) (kI 1) fI) (kI 48271) wU) (kI 2147483647) dS)) (qB 2 (ah (ah (a8 3) (kI 69621) wU) (kI 2147483629) dS)))
def dY:PSt->R Fl:=(aI (mC 2 (pJ aM)) (aI (bK 3 (ah (a8 0) (kI 2) CZ)) (aI (ifF (di (ah (ah (a8 0) (kI 2) dS) (kI 1) gEq)) (aI (iB (Ax (a8 1)) (ai 4) eT) (qA 2 (cb (a8 2)))) cL) (aI (bK 3 (ah (a8 3) (kI 2147483647) dS)) (aI (iB (Ax (ah (a8 1) (kI 1) fI)) (ai 4) eS) (cb (lj (lX 2) (i6 (kI 1)) fG)))))))
def aV:List PV->Option PV:=eD 2 5 dY
def eB:PSt->R Fl:=(bK 7 (ah (a8 7) (ah (a8 1) (ah (ah (ah (a8 2) (a8 8) gIx) (ah (ah (kI 3) (a8 6) wU) (un1 (ah (a8 8) (a8 4) gEq) Hb) wU) fI) (kI 20) dS) gIx) fI))
def eA:PSt->R Fl:=(aI (bK 7 (kS "")) (aI (iB (Ax (a8 3)) (ai 8) eB) (qB 5 (a8 7))))
def iN:PSt->R Fl:=(aI (bK 1 (kS "bcdfghjlmnpqrstvwxyz")) (aI (bK 2 (aK (a7 (a8 0) (a7 (kI 10) aM)) aV)) (aI (bK 3 (ah (kI 1) (ah (ah (a8 2) (kI 8) gIx) (kI 8) dS) fI)) (aI (bK 4 (ah (ah (a8 2) (kI 9) gIx) (a8 3) dS)) (aI (mC 5 (pJ aM)) (aI (iB (Ax (kI 6)) (ai 6) eA) (qA 5 (cb (a8 5)))))))))
def gi:List PV->Option PV:=eD 1 9 iN
def dZ:PSt->R Fl:=(aI (ifF (di (ah (a8 1) (un1 (a8 0) kD) gLt)) (cb (ah (a8 0) (a8 1) gIx)) cL) (cb (kI 0)))
def aN:List PV->Option PV:=eD 2 2 dZ
def da:PSt->R Fl:=(ifF (di (ah (ah (ah (a8 2) (a8 5) gIx) (kI 3) dS) (kI 0) gEq)) (qB 4 (fD (a7 (a8 6) (a7 (ah (ah (a8 1) (pJ (a7 (kS "back") aM)) fI) (ah (ah (a8 2) (ah (a8 5) (kI 12) fI) gIx) (kI 7) dS) gIx) aM)))) cL)
def iO:PSt->R Fl:=(aI (bK 1 (aK (a7 (aK (a7 (a8 0) (a7 (kI 0) aM)) aN) aM) gi)) (aI (bK 2 (aK (a7 (aK (a7 (a8 0) (a7 (kI 1) aM)) aN) (a7 (kI 30) aM)) aV)) (aI (bK 3 (aK (a7 (aK (a7 (a8 0) (a7 (kI 2) aM)) aN) (a7 (kI 16) aM)) aV)) (aI (mC 4 (pJ aM)) (aI (iB (rD (kS "0123456789*#")) (gv 2 (aJ (ai 5) (aJ (ai 6) gw))) da) (aI (bK 7 (fD (a7 (ah (kI 1) (ah (ah (a8 2) (kI 26) gIx) (kI 2) dS) fI) (a7 (ah (a8 1) (ah (ah (a8 2) (kI 27) gIx) (kI 6) dS) gIx) aM)))) (aI (bK 8 (fD (a7 (kS "menu") (a7 (kS "Hello") (a7 (un1 (lX 4) nB) (a7 (fD (a7 (ah (kI 1) (ah (ah (a8 2) (kI 24) gIx) (kI 2) dS) fI) (a7 (ah (a8 1) (ah (ah (a8 2) (kI 25) gIx) (kI 6) dS) gIx) aM))) (a7 (a8 7) aM))))))) (aI (ifF (di (ah (ah (ah (a8 2) (kI 28) gIx) (kI 2) dS) (kI 1) gEq)) (aI (bK 9 (p8 (fD (a7 (fD (a7 (kS "bo") (a7 (ah (a8 1) (ah (ah (a8 2) (kI 0) gIx) (kI 6) dS) gIx) aM))) (a7 (fD (a7 (kS "bob") (a7 (ah (a8 1) (ah (ah (a8 2) (kI 1) gIx) (kI 6) dS) gIx) aM))) aM))) fG (i6 (ah (kI 1) (ah (ah (a8 2) (kI 2) gIx) (kI 2) dS) fI)))) (bK 8 (fD (a7 (kS "names") (a7 (kS "Hello") (a7 (a8 9) (a7 (fD (a7 (kI 1) (a7 (ah (a8 1) (ah (ah (a8 2) (kI 25) gIx) (kI 6) dS) gIx) aM))) (a7 (fD (a7 (kI 1) (a7 (ah (a8 1) (ah (ah (a8 2) (kI 27) gIx) (kI 6) dS) gIx) aM))) aM)))))))) cL) (aI (bK 9 (p8 (fD (a7 (fD (a7 (kS "bo") (a7 (ah (a8 1) (ah (ah (a8 3) (kI 0) gIx) (kI 6) dS) gIx) aM))) (a7 (fD (a7 (kS "lee") (a7 (ah (a8 1) (ah (ah (a8 3) (kI 1) gIx) (kI 6) dS) gIx) aM))) aM))) fG (i6 (ah (kI 1) (ah (ah (a8 3) (kI 2) gIx) (kI 2) dS) fI)))) (aI (bK 10 (fD (a7 (ah (kI 1) (ah (ah (a8 3) (kI 7) gIx) (kI 2) dS) fI) (a7 (ah (a8 1) (ah (ah (a8 3) (kI 4) gIx) (kI 6) dS) gIx) aM)))) (aI (bK 11 (fD (a7 (kS "names") (a7 (ah (pJ (a7 (kS "Hello") (a7 (kS "Spell") aM))) (ah (ah (a8 3) (kI 3) gIx) (kI 2) dS) gIx) (a7 (a8 9) (a7 (a8 10) (a7 (fD (a7 (kI 1) (a7 (ah (a8 1) (ah (ah (a8 3) (kI 8) gIx) (kI 6) dS) gIx) aM))) aM))))))) (aI (bK 12 (fD (a7 (ah (ah (a8 3) (kI 5) gIx) (kI 24) dS) (a7 (kI 24) (a7 (ah (a8 1) (ah (pJ (a7 (kI 0) (a7 (kI 1) (a7 (kI 3) aM)))) (ah (ah (a8 3) (kI 6) gIx) (kI 3) dS) gIx) gIx) aM))))) (aI (mC 13 (xq (oJ (ah (a8 1) (kI 0) gIx) (a8 8) (oJ (ah (a8 1) (kI 1) gIx) (a8 11) (oJ (ah (a8 1) (kI 2) gIx) (fD (a7 (kS "hours") (a7 (fD (a7 (a8 12) aM)) (a7 (ah (a8 1) (ah (pJ (a7 (kI 0) (a7 (kI 1) (a7 (kI 4) aM)))) (ah (ah (a8 3) (kI 9) gIx) (kI 3) dS) gIx) gIx) aM)))) Ff))))) (aI (ua 13 (ah (a8 1) (kI 3) gIx) (fD (a7 (kS "hand") (a7 (kS "Ann") aM)))) (aI (ua 13 (ah (a8 1) (kI 4) gIx) (fD (a7 (kS "end") (a7 (ah (pJ (a7 (kS "Bye") (a7 (kS "Ann") aM))) (ah (ah (a8 3) (kI 11) gIx) (kI 2) dS) gIx) aM)))) (aI (ua 13 (ah (a8 1) (kI 5) gIx) (fD (a7 (kS "hand") (a7 (ah (pJ (a7 (kS "Ann") (a7 (kS "Hello") aM))) (ah (ah (a8 3) (kI 12) gIx) (kI 2) dS) gIx) aM)))) (aI (bK 14 (pJ (a7 (fD (a7 (kS "3") (a7 (kS "def") aM))) (a7 (fD (a7 (kS "4") (a7 (kS "abc") aM))) (a7 (fD (a7 (kS "5") (a7 (kS "jkl") aM))) (a7 (fD (a7 (kS "6") (a7 (kS "mno") aM))) aM)))))) (qA 13 (cb (xq (oJ (kS "first") (ah (a8 1) (ah (ah (a8 3) (kI 10) gIx) (kI 5) dS) gIx) (oJ (kS "letters") (a8 14) (oJ (kS "rooms") (a8 13) Ff)))))))))))))))))))))))
def gj:List PV->Option PV:=eD 1 15 iO
def fN:PSt->R Fl:=(ifF (di (qm (a8 2) (a8 1) (a8 3) gLe gLt)) (cb (a8 4)) cL)
def kX:PSt->R Fl:=(aI (iB (itF (ah (a8 0) (kI 1) gIx)) (gv 3 (aJ (ai 2) (aJ (ai 3) (aJ (ai 4) gw)))) fN) (cb (ah (a8 0) (kI 2) gIx)))
def kZ:List PV->Option PV:=eD 2 5 kX
def gq:PSt->R Fl:=(bK 3 (aK (a7 (ah (ah (a8 0) (kS "rooms") gIx) (a8 3) gIx) (a7 (a8 1) aM)) kZ))
def lZ:PSt->R Fl:=(aI (bK 3 (a8 2)) (aI (whS 300 (di (ah (ah (ah (ah (a8 0) (kS "rooms") gIx) (a8 3) gIx) (kI 0) gIx) (kS "hours") gEq)) gq) (cb (a8 3))))
def jq:List PV->Option PV:=eD 3 4 lZ
def m6:PSt->R Fl:=(cb (fD (a7 (aK (a7 (a8 0) (a7 (a8 1) (a7 (a8 2) aM))) jq) (a7 (a8 3) (a7 (kI 0) (a7 (kI 0) (a7 (kS "") aM)))))))
def bT:List PV->Option PV:=eD 4 4 m6
def rj:PSt->R Fl:=(cb (aK (a7 (a8 0) (a7 (a8 1) (a7 (ah (a8 0) (kS "first") gIx) (a7 (kS "") aM)))) bT))
def gk:List PV->Option PV:=eD 2 2 rj
def dA:PSt->R Fl:=(aI (bK 3 (ah (ah (ah (a8 0) (kS "rooms") gIx) (ah (a8 2) (kI 0) gIx) gIx) (kI 3) gIx)) (aI (bK 4 (ah (ah (a8 2) (kI 2) gIx) (kI 1) fI)) (aI (ifF (di (ah (a8 4) (ah (a8 3) (kI 0) gIx) gEq)) (cb (aK (a7 (a8 0) (a7 (a8 1) (a7 (ah (a8 3) (kI 1) gIx) (a7 (ah (a8 2) (kI 0) gIx) aM)))) bT)) cL) (cb (fD (a7 (ah (a8 2) (kI 0) gIx) (a7 (ah (a8 2) (kI 1) gIx) (a7 (a8 4) (a7 (ah (a8 2) (kI 3) gIx) (a7 (kS "") aM))))))))))
def bG:List PV->Option PV:=eD 3 5 dA
def gg:PSt->R Fl:=(aI (bK 5 (ah (ah (a8 3) (kI 4) gIx) (a8 4) fI)) (aI (ifF (di (ah (a8 5) (a8 2) iA)) (cb (aK (a7 (a8 0) (a7 (a8 1) (a7 (a8 3) aM))) bG)) cL) (aI (bK 6 (ifV (di (ah (ah (a8 2) (a8 5) gIx) (kS "back") gEq)) (ah (a8 3) (kI 1) gIx) (ah (a8 2) (a8 5) gIx))) (aI (ifF (di (ah (a8 6) kN pV)) (cb (fD (a7 (ah (a8 3) (kI 0) gIx) (a7 (ah (a8 3) (kI 1) gIx) (a7 (ah (a8 3) (kI 2) gIx) (a7 (ah (a8 3) (kI 3) gIx) (a7 (a8 5) aM))))))) cL) (aI (ifF (di (ah (a8 6) (kS "") gEq)) (cb (aK (a7 (a8 0) (a7 (a8 1) (a7 (a8 3) aM))) bG)) cL) (cb (aK (a7 (a8 0) (a7 (a8 1) (a7 (a8 6) (a7 (ah (a8 3) (kI 0) gIx) aM)))) bT)))))))
def e9:List PV->Option PV:=eD 5 7 gg
def jl:PSt->R Fl:=(aI (bK 3 (ah (ah (ah (a8 0) (kS "rooms") gIx) (ah (a8 2) (kI 0) gIx) gIx) (kI 4) gIx)) (aI (bK 4 (ah (ah (a8 2) (kI 3) gIx) (kI 1) fI)) (aI (ifF (di (ah (a8 4) (ah (a8 3) (kI 0) gIx) gEq)) (cb (aK (a7 (a8 0) (a7 (a8 1) (a7 (ah (a8 3) (kI 1) gIx) (a7 (ah (a8 2) (kI 0) gIx) aM)))) bT)) cL) (cb (fD (a7 (ah (a8 2) (kI 0) gIx) (a7 (ah (a8 2) (kI 1) gIx) (a7 (ah (a8 2) (kI 2) gIx) (a7 (a8 4) (a7 (kS "") aM))))))))))
def jt:List PV->Option PV:=eD 3 5 jl
def eZ:PSt->R Fl:=(aI (bK 5 (ah (ah (ah (a8 0) (kS "rooms") gIx) (ah (a8 3) (kI 0) gIx) gIx) (kI 0) gIx)) (aI (ifF (orB (di (ah (a8 5) (kS "hand") gEq)) (di (ah (a8 5) (kS "end") gEq))) (cb (a8 3)) cL) (aI (ifF (di (ah (a8 4) (kP c_WAIT) gEq)) (cb (aK (a7 (a8 0) (a7 (a8 1) (a7 (a8 3) aM))) jt)) cL) (cb (aK (a7 (a8 0) (a7 (a8 1) (a7 (a8 2) (a7 (a8 3) (a7 (a8 4) aM))))) e9)))))
def bX:List PV->Option PV:=eD 5 6 eZ
def mN:Expr:=Az 1 (.Constant .none 0 ⟨0,0,0,0⟩) ((bH (MJ.main.body.getD 29 (.Pass ⟨0,0,0,0⟩))).getD 1 (.Pass ⟨0,0,0,0⟩))
def bN:Lam:=Cu "places.<locals>.<lambda>" ["ways","hour","H"] (aa (MJ.main.body.getD 29 (.Pass ⟨0,0,0,0⟩))) mN
def ik:PSt->R PV:=(aK (a7 (a8 4) (a7 (a8 3) (a7 (ah (a8 2) (ah (a8 0) (kI 0) gIx) gIx) (a7 (a8 0) (a7 (a8 1) aM))))) bX)
def mM:Expr:=Az 2 (.Constant .none 0 ⟨0,0,0,0⟩) ((bH (MJ.main.body.getD 29 (.Pass ⟨0,0,0,0⟩))).getD 1 (.Pass ⟨0,0,0,0⟩))
def bx:Lam:=Cu "places.<locals>.<lambda>" [] (aa (MJ.main.body.getD 29 (.Pass ⟨0,0,0,0⟩))) mM
def nJ:PSt->R PV:=(kB false)
open Classical in
noncomputable def appL(L:Lam)(qs cs:List PV):Option PV:=if L=bN then DJ 2 ik qs cs else if L=bx then DJ 1 nJ qs cs else none
def bM:PSt->R Fl:=(ua 1 (jc (a8 2) fG (i6 (a8 3))) (ah (sE (lX 1) (jc (a8 2) fG (i6 (a8 3))) (kI 0) uw) (kI 1) fI))
def bL:PSt->R Fl:=(iB (DH (kI 1) (ah (un1 (a8 2) kD) (kI 1) fI)) (ai 3) bM)
def cX:PSt->R Fl:=(aI (mC 1 newD) (aI (iB (itF (a8 0)) (ai 2) bL) (qA 1 (cb (a8 1)))))
def bB:List PV->Option PV:=eD 1 4 cX
def iq:PSt->R Fl:=(ifF (di (ah (a8 1) (a8 3) gIn)) (cb (a8 2)) cL)
def kW:PSt->R Fl:=(aI (iB (itF (a8 0)) (gv 2 (aJ (ai 2) (aJ (ai 3) gw))) iq) (cb kN))
def kY:List PV->Option PV:=eD 2 4 kW
def iS:PSt->R PV:=(aK (a7 (a8 1) (a7 (a8 0) aM)) kY)
def m4:PSt->R Fl:=(aI (bK 2 (gm (itF (a8 1)) (ai 0) iT iS 1 [0])) (cb (ifV (di (ah kN (a8 2) gIn)) kN (qX (kS "") (a8 2) rm))))
def gZ:List PV->Option PV:=eD 2 3 m4
def c9:PSt->R Fl:=(ifF (di (ah (ah (a8 1) (jc (a8 0) fG (i6 (a8 2))) gIx) (kI 1) gEq)) (cb (jc (a8 0) fG (i6 (a8 2)))) cL)
def cW:PSt->R Fl:=(aI (iB (DH (kI 1) (un1 (a8 0) kD)) (ai 2) c9) (cb (a8 0)))
def cY:List PV->Option PV:=eD 2 3 cW
def fA:PSt->R PV:=(ah (aK (a7 (a8 1) (a7 (a8 0) aM)) gZ) (kP c_CODE_END) fI)
def fz:PSt->R PV:=(fD (a7 (a8 0) (a7 (aK (a7 (a8 1) (a7 (a8 2) aM)) cY) aM)))
def gY:PSt->R Fl:=(aI (bK 2 (gm (itF (a8 1)) (ai 0) iT fA 1 [0])) (aI (bK 3 (aK (a7 (a8 2) aM) bB)) (cb (gm (DB (a8 1) (a8 2)) (gv 2 (aJ (ai 0) (aJ (ai 1) gw))) iT fz 2 [3]))))
def dP:List PV->Option PV:=eD 2 4 gY
def cB:PSt->R Fl:=(ua 2 (jc (a8 4) fG (i6 (a8 5))) kN)
def cA:PSt->R Fl:=(aI (iB (DH (kI 1) (un1 (a8 4) kD)) (ai 5) cB) (ua 2 (a8 4) (ah (a8 1) (a8 3) gIx)))
def gT:PSt->R Fl:=(aI (mC 2 newD) (aI (iB (itF (aK (a7 (a8 0) (a7 (un1 (a8 1) wV) aM)) dP)) (gv 2 (aJ (ai 3) (aJ (ai 4) gw))) cA) (qA 2 (cb (a8 2)))))
def f6:List PV->Option PV:=eD 2 6 gT
def du:PSt->R Fl:=(aI (bK 2 (ah (ah (a8 0) (kS "rooms") gIx) (a8 1) gIx)) (aI (ifF (di (ah (ah (a8 2) (kI 0) gIx) (kS "menu") gEq)) (cb (un1 (ah (a8 2) (kI 2) gIx) pW)) cL) (aI (ifF (di (ah (ah (a8 2) (kI 0) gIx) (kS "names") gEq)) (cb (aK (a7 (ah (a8 0) (kS "letters") gIx) (a7 (un1 (ah (a8 2) (kI 2) gIx) pW) aM)) f6)) cL) (cb newD))))
def aD:List PV->Option PV:=eD 2 3 du
def fB:PSt->R Fl:=(ua 1 (a8 2) (aK (a7 (a8 0) (a7 (a8 2) aM)) aD))
def gW:PSt->R Fl:=(aI (mC 1 newD) (aI (iB (itF (ah (a8 0) (kS "rooms") gIx)) (ai 2) fB) (qA 1 (cb (a8 1)))))
def bO:List PV->Option PV:=eD 1 3 gW
def bI:PSt->R Fl:=(aI (bK 8 (mv 1 (a7 (ah (a8 6) (kI 0) gIx) (a7 (a8 7) aM)) appL)) (ifF (di (ah (a8 8) (lX 3) k7)) (aI (mF 3 (a8 8) (kB true)) (aI (qB 4 (fD (a7 (a8 8) (a7 (ah (ah (a8 6) (kI 1) gIx) (a8 7) fI) aM)))) (ifF (di (mv 2 (a7 (a8 8) aM) appL)) J9 cL))) cL))
def cC:PSt->R Fl:=(aI (bK 6 (ah (lX 4) (a8 5) gIx)) (aI (Dv 5 (kI 1)) (iB (itF (kP c_SIGNS)) (ai 7) bI)))
def gX:PSt->R Fl:=(aI (mC 3 (zW (a8 0) (kB true))) (aI (mC 4 (pJ (a7 (fD (a7 (a8 0) (a7 (kS "") aM))) aM))) (aI (bK 5 (kI 0)) (aI (whS 20000 (DO (di (ah (a8 5) (un1 (lX 4) kD) gLt)) (ym (di (mv 2 (a7 (ah (ah (lX 4) (un1 (kI 1) qz) gIx) (kI 0) gIx) aM) appL)))) cC) (Ay 4)))))
def dO:List PV->Option PV:=runN 3 9 gX
def oC:PSt->R Fl:=(aI (bK 2 (aK (a7 (a8 0) aM) bO)) (cb (tF (DY (aK (a7 (a8 0) (a7 (a8 1) aM)) gk) (AU bN [2,1,0] (AU bx [] aM))) dO)))
def cG:List PV->Option PV:=eD 2 3 oC
def i5:PSt->R Fl:=(vc 1 (a8 2) (un1 (lX 1) G4))
def i4:PSt->R PV:=(ah (a8 1) (a8 0) yq)
def jZ:PSt->R Fl:=(aI (mC 1 Ce) (aI (iB (itF (a8 0)) (ai 2) i5) (qA 1 (cb (gm (itF (a8 0)) (ai 0) iT i4 1 [1])))))
def cJ:List PV->Option PV:=eD 1 3 jZ
def dw:PSt->R PV:=(ah (a8 1) (a8 0) gIx)
def dz:PSt->R Fl:=(qB 2 (fD (a7 (a8 3) (a7 (un1 (gm (itF (a8 4)) (ai 0) iT dw 1 [0]) nB) aM))))
def eQ:PSt->R Fl:=(aI (mC 2 (pJ aM)) (aI (iB (DB (a8 0) (a8 1)) (gv 2 (aJ (ai 3) (aJ (ai 4) gw))) dz) (qA 2 (cb (aK (a7 (a8 2) aM) cJ)))))
def bj:List PV->Option PV:=eD 2 5 eQ
def k0:PSt->R Fl:=(aI (bK 2 (ah (ah (a8 0) (kS "rooms") gIx) (ah (a8 1) (kI 0) gIx) gIx)) (cb (fD (a7 (ah (kP c_HEARD) (ah (a8 2) (kI 0) gIx) gIx) (a7 (ah (a8 2) (kI 1) gIx) aM)))))
def cI:List PV->Option PV:=eD 2 3 k0
def eo:PSt->R PV:=(aK (a7 (a8 2) (a7 (a8 0) aM)) cI)
def de:PSt->R Fl:=(aI (qB 3 (a8 4)) (bK 4 (aK (a7 (a8 4) (a7 (a8 2) aM)) bj)))
def iP:PSt->R Fl:=(aI (mC 3 (pJ (a7 (aK (a7 (gm (itF (a8 1)) (gv 2 (aJ (ai 0) (aJ (ai 1) gw))) iT eo 2 [0]) aM) cJ) aM))) (aI (bK 4 (aK (a7 (ah (lX 3) (un1 (kI 1) qz) gIx) (a7 (a8 2) aM)) bj)) (aI (whS 20000 (di (ah (a8 4) (ah (lX 3) (un1 (kI 1) qz) gIx) gNe)) de) (qA 3 (cb (a8 3))))))
def bF:List PV->Option PV:=eD 3 5 iP
def d9:PSt->R Fl:=(mF 4 (ah (a8 6) (kI 0) gIx) (a8 5))
def d0:PSt->R PV:=(ah (a8 1) (aK (a7 (a8 2) (a7 (a8 3) (a7 (ah (a8 5) (ah (a8 4) (kI 0) gIx) gIx) (a7 (a8 4) (a7 (a8 0) aM))))) bX) yq)
def bZ:PSt->R Fl:=(qA 4 (qB 7 (gm (itF (kP c_SIGNS)) (ai 0) iT d0 1 [4,0,1,8,3])))
def gf:PSt->R Fl:=(aI (bK 3 (aK (a7 (a8 0) aM) bO)) (aI (mC 4 Ce) (aI (iB (rD (a8 2)) (gv 2 (aJ (ai 5) (aJ (ai 6) gw))) d9) (aI (mC 7 (pJ aM)) (aI (iB (itF (a8 2)) (gv 2 (aJ (ai 8) (aJ (ai 9) gw))) bZ) (qA 7 (cb (a8 7))))))))
def bQ:List PV->Option PV:=eD 3 10 gf
def m5:PSt->R Fl:=(aI (bK 2 (aK (a7 (a8 0) (a7 (a8 1) aM)) cG)) (cb (ah (aK (a7 (a8 0) (a7 (a8 2) (a7 (aK (a7 (a8 0) (a7 (a8 1) (a7 (a8 2) aM))) bQ) aM))) bF) (un1 (kI 1) qz) gIx)))
def jr:List PV->Option PV:=eD 2 3 m5
def dv:PSt->R PV:=(ah (ah (a8 2) (a8 0) gIx) (ah (a8 2) (a8 1) gIx) gNe)
def bh:PSt->R Fl:=(aI (bK 8 (gm (DB (ah (a8 1) (a8 5) gIx) (ah (a8 1) (a8 6) gIx)) (gv 2 (aJ (ai 0) (aJ (ai 1) gw))) iT dv 2 [7])) (aI (bK 9 (FZ (a8 8) (kB true))) (aI (xS 4 (ah (kP c_SIGNS) (a8 9) gIx)) (aI (bK 5 (ah (ah (a8 1) (a8 5) gIx) (a8 9) gIx)) (bK 6 (ah (ah (a8 1) (a8 6) gIx) (a8 9) gIx))))))
def eO:PSt->R Fl:=(aI (bK 4 (kS "")) (aI (bK 5 (a8 2)) (aI (bK 6 (a8 3)) (aI (iB (H0 (a8 0)) (ai 7) bh) (cb (a8 4))))))
def cZ:List PV->Option PV:=eD 4 10 eO
def gp:PSt->R Fl:=(Dv 7 (kI 1))
def jk:PSt->R Fl:=(aI (bK 4 (aK (a7 (a8 0) (a7 (a8 1) aM)) cG)) (aI (bK 5 (aK (a7 (a8 0) (a7 (a8 1) (a7 (a8 4) aM))) bQ)) (aI (bK 6 (aK (a7 (a8 0) (a7 (a8 4) (a7 (a8 5) aM))) bF)) (aI (ifF (di (ah (ah (ah (a8 6) (un1 (kI 1) qz) gIx) (a8 2) gIx) (ah (ah (a8 6) (un1 (kI 1) qz) gIx) (a8 3) gIx) gEq)) (cb kN) cL) (aI (bK 7 (kI 0)) (aI (whS 20000 (di (ah (ah (ah (a8 6) (a8 7) gIx) (a8 2) gIx) (ah (ah (a8 6) (a8 7) gIx) (a8 3) gIx) gEq)) gp) (cb (aK (a7 (lj (a8 6) fG (i6 (a8 7))) (a7 (a8 5) (a7 (a8 2) (a7 (a8 3) aM)))) cZ))))))))
def fJ:List PV->Option PV:=eD 4 8 jk
def wQ:PSt->R Fl:=(cb (aK (a7 (a8 0) (a7 (a8 1) (a7 (aK (a7 (a8 0) (a7 (ah (a8 2) (kI 0) gIx) aM)) aD) (a7 (a8 2) (a7 (a8 3) aM))))) bX))
def iC:List PV->Option PV:=eD 4 4 wQ
def dD:PSt->R Fl:=(mF 4 (ah (a8 6) (kI 0) gIx) (ah (a8 3) (a8 5) gIx))
def cz:PSt->R PV:=(ah (a8 1) (aK (a7 (a8 2) (a7 (a8 3) (a7 (a8 4) (a7 (a8 0) aM)))) iC) yq)
def dC:PSt->R Fl:=(aI (qA 4 (bK 10 (gm (itF (kS "0123456789*#w")) (ai 0) iT cz 1 [4,0,1,8]))) (aI (bK 11 (fD (a7 (aK (a7 (a8 0) (a7 (a8 8) aM)) cI) (a7 (a8 10) aM)))) (ku 7 (ah (a8 3) (a8 5) gIx) (a8 11) (a8 11) (cb (kB false)))))
def gU:PSt->R Fl:=(aI (mC 4 Ce) (aI (iB (rD (a8 2)) (gv 2 (aJ (ai 5) (aJ (ai 6) gw))) dD) (aI (mC 7 newD) (aI (iB (rD (a8 2)) (gv 2 (aJ (ai 5) (aJ (gv 2 (aJ (ai 8) (aJ (ai 9) gw))) gw))) dC) (cb (kB true))))))
def f9:List PV->Option PV:=eD 4 12 gU
def dE:PSt->R Fl:=(bK 2 (aK (a7 (a8 0) (a7 (a8 1) (a7 (a8 2) (a7 (a8 4) aM)))) iC))
def gV:PSt->R Fl:=(aI (iB (itF (a8 3)) (ai 4) dE) (cb (aK (a7 (a8 0) (a7 (a8 2) aM)) cI)))
def dN:List PV->Option PV:=eD 4 5 gV
def oG:PSt->R PV:=(qX (kP c_SIGNS) (a8 0) nE)
def wR:PSt->R Fl:=(cb (fD (a7 (un1 (a8 0) kD) (a7 (gm (itF (a8 0)) (ai 0) iT oG 1 []) aM))))
def qb:List PV->Option PV:=eD 1 1 wR
def lY:PSt->R Fl:=(cb (ah (aK (a7 (a8 0) aM) qb) (aK (a7 (a8 1) aM) qb) G3))
def jo:List PV->Option PV:=eD 2 2 lY
def dB:PSt->R Fl:=(aI (ifF (DO (orB (di (ah (a8 5) kN pV)) (di (aK (a7 (jc (a8 4) fG (i6 (a8 8))) (a7 (a8 5) aM)) jo))) (di (ah (aK (a7 (a8 0) (a7 (a8 6) aM)) cI) (aK (a7 (a8 0) (a7 (a8 7) aM)) cI) gNe))) (cb (kB false)) cL) (aI (bK 6 (aK (a7 (a8 0) (a7 (a8 1) (a7 (a8 6) (a7 (ah (a8 4) (a8 8) gIx) aM)))) iC)) (bK 7 (aK (a7 (a8 0) (a7 (a8 1) (a7 (a8 7) (a7 (ah (a8 4) (a8 8) gIx) aM)))) iC))))
def eY:PSt->R Fl:=(aI (bK 6 (a8 2)) (aI (bK 7 (a8 3)) (aI (iB (Ax (un1 (a8 4) kD)) (ai 8) dB) (aI (ifF (di (ah (a8 5) kN pV)) (cb (ah (aK (a7 (a8 0) (a7 (a8 6) aM)) cI) (aK (a7 (a8 0) (a7 (a8 7) aM)) cI) gEq)) cL) (cb (ah (aK (a7 (a8 0) (a7 (a8 1) (a7 (a8 2) (a7 (a8 5) aM)))) dN) (aK (a7 (a8 0) (a7 (a8 1) (a7 (a8 3) (a7 (a8 5) aM)))) dN) gNe))))))
def f7:List PV->Option PV:=eD 6 9 eY
def oQ:PSt->R Fl:=(aI (ifF (orB (ym (di (un1 (a8 6) (zO "int")))) (orB (di (un1 (a8 6) (zO "bool"))) (ym (di (qm (kI 0) (a8 6) (a8 5) gLe gLe))))) (cb (kB false)) cL) (bK 5 (ah (a8 5) (ah (a8 6) (kI 1) fI) CW)))
def oH:PSt->R PV:=(ah (kS "0123456789*#w") (ah (a8 0) (kI 13) dS) gIx)
def oP:PSt->R Fl:=(aI (bK 9 (ah (a8 8) (un1 (a8 3) kD) dS)) (aI (bK 10 (ah (ah (a8 8) (kI 1000) CZ) (un1 (a8 3) kD) dS)) (aI (bK 11 (aK (a7 (a8 1) (a7 (a8 2) (a7 (a8 9) (a7 (a8 10) aM)))) fJ)) (aI (ifF (di (ah (ah (a8 11) kN pV) (ah (ah (a8 4) (a8 9) gIx) (ah (a8 4) (a8 10) gIx) gEq) gNe)) (cb (kB false)) cL) (ifF (ym (di (aK (a7 (a8 1) (a7 (a8 2) (a7 (ah (ah (a8 3) (a8 9) gIx) (kI 0) gIx) (a7 (ah (ah (a8 3) (a8 10) gIx) (kI 0) gIx) (a7 (a8 7) (a7 (a8 11) aM)))))) f7))) (cb (kB false)) cL)))))
def zN:PSt->R Fl:=(aI (bK 1 (aK (a7 (a8 0) aM) gj)) (aI (bK 2 (ah (aK (a7 (a8 0) (a7 (kI 3) aM)) aN) (kI 24) dS)) (aI (bK 3 (aK (a7 (a8 1) (a7 (a8 2) aM)) cG)) (aI (bK 4 (aK (a7 (a8 1) (a7 (a8 2) aM)) jr)) (aI (ifF (orB (ym (di (un1 (a8 4) (zO "list")))) (di (ah (un1 (a8 4) kD) (un1 (a8 3) kD) gNe))) (cb (kB false)) cL) (aI (bK 5 (kI 0)) (aI (iB (itF (a8 4)) (ai 6) oQ) (aI (ifF (orB (di (ah (ah (a8 4) (kI 0) gIx) (kI 0) gNe)) (ym (di (aK (a7 (a8 1) (a7 (a8 2) (a7 (a8 3) (a7 (a8 4) aM)))) f9)))) (cb (kB false)) cL) (aI (bK 7 (qX (kS "") (gm (itF (lj (a8 0) (i6 (kI 8)) (i6 (kI 68)))) (ai 0) iT oH 1 []) rm)) (aI (iB (itF (lj (a8 0) (i6 (kI 5)) (i6 (kI 8)))) (ai 8) oP) (cb (kB true))))))))))))
def xf:List PV->Option PV:=eD 1 12 zN
end
end K42
namespace K42
open PySem L2 PU MT
theorem DW(ls:WO.Lts)(c:Nat):kY [WO.ltPv ls,WO.sg c]=some (WO.keyPv (WO.keyL ls c)):=by
 refine au rfl ?_
 obtain⟨k1,k2⟩:=jm (enc:=fun l:Nat×List Nat=>PV.tup [WO.sg l.1,.str (mkS l.2)]) (h:=gv 2 (aJ (ai 2) (aJ (ai 3) gw))) (g:=iq) (fun l=>decide (c∈l.2)) (fun l=>WO.sg l.1)
  (I:=fun ρ=>∃a b,ρ=[.val (WO.ltPv ls),.val (WO.sg c),a,b]) (by
   rintro l ρ ⟨a,b,rfl⟩;have e:=WO.in_one c l.2;refine⟨_,rfl,fun hp=>?_,fun hp=>⟨_,?_,.val (WO.sg l.1),.val (.str (mkS l.2)),rfl⟩⟩
   ·rw[hp] at e
    simp[iq,e]
   ·rw[hp] at e
    simp[iq,e]) ls [.val (WO.ltPv ls),.val (WO.sg c),.no,.no] ⟨_,_,rfl⟩
 have ei:eN (WO.ltPv ls)=some (ls.map fun l=>PV.tup [WO.sg l.1,.str (mkS l.2)]):=rfl;cases e:ls.find? (fun l=>decide (c∈l.2)) with
 | some l=>
  have k:=k1 l e;simp[kW,PU.start,ei];rw[k];simp[WO.keyPv,WO.keyL,e]
 | none=>
  obtain⟨ρ',k,a,b,rfl⟩:=k2 e;simp[kW,PU.start,ei];rw[k];simp[WO.keyPv,WO.keyL,e]
theorem Bl(ls:WO.Lts)(x:List Nat)(hx:x.length<=1000):gZ [WO.ltPv ls,.str (mkS x)]=some (WO.codePv (WO.codeL ls x)):=by
 refine au rfl ?_
 have c1:c8 (ai 0) iT iS [.no,.val (WO.ltPv ls)] (x.map WO.sg)=.ok (x.map fun c=>WO.keyPv (WO.keyL ls c)):=
  WO.in_list_comp (fun c=>WO.keyPv (WO.keyL ls c)) x fun c _=>⟨_,qC _,by simp[iS,DW]⟩
 have c2:=WO.none_in ls x;have hl:x.length<=16777216:=by omega
 simp[m4,PU.start,WO.it_mk,uS,Mi,c1,hl,c2];cases h:x.all fun c=>(WO.keyL ls c).isSome with
 | false=>simp[WO.codeL,h,WO.codePv]
 | true=>
  have e:(x.map fun c=>WO.keyPv (WO.keyL ls c))=(x.map fun c=>(WO.keyL ls c).getD 0).map WO.sg:=by
   rw[Lh];apply Ms;intro c hc;have:=Nd.mp h c hc;cases h2:WO.keyL ls c with
   | none=>rw[h2] at this;cases this
   | some k=>simp[WO.keyPv,h2]
  have j:=WO.joinV (x.map fun c=>(WO.keyL ls c).getD 0) (by simpa using hx);rw[e];simp[-Lh,j,WO.codeL,h,WO.codePv]
open BG
abbrev bst(codes:PV)(ks:List Key)(ps:List PV)(a b:Sl):PSt:=[.val codes,.own (.dct ks ps),a,b]
theorem Jd(codes:PV)(L:List W)(ks:List Key)(ps:List PV)(h:Cnt L ks ps)(c:W)(n:Nat)(hc:c.length<=100)(hL:L.length<=10000):∃ks' ps',Cnt (L++[c.take n]) ks' ps'/\
  bM (bst codes ks ps (.val (.str (mkS c))) (.val (.int n)))=.ok (.next (bst codes ks' ps' (.val (.str (mkS c))) (.val (.int n)))):=by
 obtain⟨ks',ps',e,h'⟩:=Dp h (c.take n);have e1:=yy (x:=mkS c) none (some (n:Int)) (by rw[ck];omega);rw[kM] at e1;have e2:=Dq h (c.take n);have z:ks.length<16777216:=by have:=h.le;omega
 refine⟨ks',ps',h',?_⟩;simp[bM,bst,e1,e2,z,e]
theorem Jc(codes:PV)(L:List W)(ks:List Key)(ps:List PV)(h:Cnt L ks ps)(c:W)(b:Sl)(hc:c.length<=100)(hL:L.length<=9000):∃ks' ps' b',Cnt (L++uL c) ks' ps'/\
  bL (bst codes ks ps (.val (.str (mkS c))) b)=.ok (.next (bst codes ks' ps' (.val (.str (mkS c))) b')):=by
 obtain⟨ρ',f1,ks',ps',b',rfl,h'⟩:=forR (n:=c.length) (lo:=1) (h:=ai 3) (g:=bM) (ρ:=bst codes ks ps (.val (.str (mkS c))) b)
  (I:=fun i ρ=>∃ks ps b,ρ=bst codes ks ps (.val (.str (mkS c))) b/\Cnt (L++(LI i).map fun j=>c.take (j+1)) ks ps) ⟨ks,ps,b,rfl,by simpa using h⟩ (by
   rintro i ρ hi ⟨ks,ps,b,rfl,h⟩;obtain⟨ks',ps',h',e⟩:=Jd codes _ ks ps h c (i+1) hc (by simp;omega);have ei:(1:Int)+(i:Int)=((i+1:Nat):Int):=by omega
   rw[ei];refine⟨_,_,rfl,.inl e,ks',ps',_,rfl,?_⟩;rw[Nn,Lq,← Mf];exact h')
 refine⟨ks',ps',b',h',?_⟩;have e1:kD (.str (mkS c))=some (.int c.length):=by rw[gy (by rw[ck];omega),ck]
 have e2:DG (.int 1) (.int ((c.length:Int)+1))=.ok (cg 1 c.length):=by rw[uV (by omega) (by omega) (by omega) (by omega)];congr 2;omega
 simp[bL,e1,e2];exact f1
theorem xQ(cs:List W)(hn:cs.length<=12)(hc:∀c∈cs,c.length<=20):∃ks ps,Cnt (cs.flatMap uL) ks ps/\bB [.lst (cs.map fun c=>.str (mkS c))]=some (.dct ks ps):=by
 obtain⟨ρ',f1,ks,ps,a,b,rfl,h⟩:=forM (enc:=fun c:W=>PV.str (mkS c)) (xs:=cs) (h:=ai 2) (g:=bL) (ρ:=bst (.lst (cs.map fun c=>.str (mkS c))) [] [] .no .no)
  (I:=fun pre ρ=>∃ks ps a b,ρ=bst (.lst (cs.map fun c=>.str (mkS c))) ks ps a b/\Cnt (pre.flatMap uL) ks ps) ⟨[],[],_,_,rfl,⟨rfl,by simp,fun p=>by simp[bJ]⟩⟩ (by
   rintro pre c post ρ hx ⟨ks,ps,a,b,rfl,h⟩;have hcm:c∈cs:=by rw[hx];simp
   have hpl:pre.length<=12:=by
    have:=congrArg NT hx;rw[Lw] at this;omega
   have hfl:=x9 (l:=pre) (f:=uL) (b:=20) fun x hxm=>by
    unfold uL;rw[LJ,List.length_range];exact hc x (by rw[hx];exact NQ _ hxm)
   obtain⟨ks',ps',b',h',e⟩:=Jc (.lst (cs.map fun c=>.str (mkS c))) _ ks ps h c b (by have:=hc c hcm;omega) (by omega);refine⟨_,_,rfl,.inl e,ks',ps',_,_,rfl,?_⟩;rw[List.flatMap_append];simpa using h')
 refine⟨ks,ps,h,au rfl ?_⟩;simp[cX,PU.start];rw[f1];simp
theorem Gv(cs:List W)(ks:List Key)(ps:List PV)(h:Cnt (cs.flatMap uL) ks ps)(c:W)(hc:c∈cs)(hne:c≠[])(hl:c.length<=100):cY [.str (mkS c),.dct ks ps]=some (.str (mkS (own cs c))):=by
 refine au rfl ?_
 have key:∀i:Nat,gIx (.dct ks ps) (.str (mkS (c.take (i+1))))=some (.int (many cs (c.take (i+1)))):=fun i=>by
  have hp:c.take (i+1)≠[]:=fun e=>by
   cases c with
   | nil=>exact hne rfl
   | cons a r=>simp at e
  show bJ ks ps (.inr (mkS (c.take (i+1))))=_;rw[h.at_,xC cs _ hp,if_neg];intro e;unfold many at e;have:c∈cs.filter (pre (c.take (i+1))):=Mt.mpr ⟨hc,jM.mpr (O3 _ _)⟩;rw[Nc.mp e] at this;cases this
 obtain⟨k1,k2⟩:=jm (enc:=fun i:Nat=>PV.int (1+(i:Nat))) (h:=ai 2) (g:=c9) (fun i=>decide (many cs (c.take (i+1))=1)) (fun i=>PV.str (mkS (c.take (i+1))))
  (I:=fun ρ=>∃a,ρ=[.val (.str (mkS c)),.val (.dct ks ps),a]) (by
   rintro i ρ ⟨a,rfl⟩;have e1:=yy (x:=mkS c) none (some ((i+1:Nat):Int)) (by rw[ck];omega);rw[kM] at e1;have ei:(1:Int)+(i:Int)=((i+1:Nat):Int):=by omega
   have e2:=key i;have e2:((eF (.str (mkS (c.take (i+1))))).bind fun k=>bJ ks ps k)=some (.int (many cs (c.take (i+1)))):=e2;rw[ei];refine⟨_,rfl,fun hp=>?_,fun hp=>⟨_,?_,.val (.int ((i+1:Nat):Int)),rfl⟩⟩
   ·have hp:many cs (c.take (i+1))=1:=by simpa using hp
    rw[hp] at e2;have e2:bJ ks ps (.inr (mkS (c.take (i+1))))=some (.int 1):=e2;have e1:yp (.str (mkS c)) none (some ((i:Int)+1))=some (.str (mkS (c.take (i+1)))):=e1;simp[c9,e1,e2]
   ·have hp:¬ many cs (c.take (i+1))=1:=by simpa using hp
    have hp2:¬ ((many cs (c.take (i+1)):Nat):Int)=1:=by omega
    have e2:bJ ks ps (.inr (mkS (c.take (i+1))))=some (.int (many cs (c.take (i+1)))):=e2;have e1:yp (.str (mkS c)) none (some ((i:Int)+1))=some (.str (mkS (c.take (i+1)))):=e1;simp[c9,e1,e2,hp2]) (LI (c.length-1)) [.val (.str (mkS c)),.val (.dct ks ps),.no] ⟨_,rfl⟩
 have e1:kD (.str (mkS c))=some (.int c.length):=by rw[gy (by rw[ck];omega),ck]
 have e2:DG (.int 1) (.int (c.length:Int))=.ok ((LI (c.length-1)).map fun i:Nat=>PV.int (1+(i:Nat))):=by rw[uV (by omega) (by omega) (by omega) (by omega),show ((c.length:Int)-1).toNat=c.length-1 by omega];rfl
 unfold own;cases e:(LI (c.length-1)).find? (fun i=>decide (many cs (c.take (i+1))=1)) with
 | some i=>
  have k:=k1 i e;simp only[cW,PU.start,LH,NR,Lz,Np,Mi,O5,Pc,uR,Aq,Ao,Jr,DT,qD,lQ,FC,e1,R.ofO_some,wF,e2,FF,k,wG]
 | none=>
  obtain⟨ρ',k,a,rfl⟩:=k2 e;simp only[cW,PU.start,LH,NR,Lz,Np,Mi,O5,Pc,uR,Aq,Ao,Jr,DT,qD,lQ,FC,e1,R.ofO_some,wF,e2,FF,k,nv,Ap,FD]
def cdW(ls:WO.Lts)(w:W):W:=w.map (fun c=>(WO.keyL ls c).getD 0)
def cdH(ls:WO.Lts)(w:W):W:=cdW ls w++[35]
def told(ls:WO.Lts)(ws:List W)(w:W):PV:=.tup [.str (mkS w),.str (mkS (own (ws.map (cdH ls)) (cdH ls w)))]
theorem Ae(ls:WO.Lts)(ws:List W)(hn:ws.length<=12)(hw:∀w∈ws,w.length<=12/\∀c∈w,(WO.keyL ls c).isSome=true):dP [WO.ltPv ls,.lst (ws.map fun w=>.str (mkS w))]=some (.lst (ws.map (told ls ws))):=by
 refine au rfl ?_;have hash:("#":Str)=mkS [35]:=by decide +kernel
 have c1:c8 (ai 0) iT fA [.no,.val (WO.ltPv ls)] (ws.map fun w=>.str (mkS w))=.ok (ws.map fun w=>.str (mkS (cdH ls w))):=
  WO.in_list_comp (enc:=fun w:W=>PV.str (mkS w)) (fun w=>.str (mkS (cdH ls w))) ws fun w hwm=>by
   have h:=hw w hwm;have e:=Bl ls w (by omega)
   have e2:WO.codeL ls w=some (cdW ls w):=by
    unfold WO.codeL;rw[if_pos (Nd.mpr fun c hc=>h.2 c hc)];rfl
   rw[e2] at e;have e:gZ [WO.ltPv ls,.str (mkS w)]=some (.str (mkS (cdW ls w))):=e
   have e3:fI (.str (mkS (cdW ls w))) c_CODE_END=some (.str (mkS (cdH ls w))):=by
    show fI (.str (mkS (cdW ls w))) (.str "#")=_;rw[hash,l6 (by simp[cdW];omega),lL];rfl
   exact⟨_,qC _,by simp[fA,e,e3]⟩
 obtain⟨ks,ps,h,e2⟩:=xQ (ws.map (cdH ls)) (by simpa using hn) (fun c hc=>by
  obtain⟨w,hwm,rfl⟩:=LV.mp hc;have:=(hw w hwm).1;simp[cdH,cdW];omega)
 have e2:bB [.lst (ws.map fun w=>.str (mkS (cdH ls w)))]=some (.dct ks ps):=by rw[← e2,Lh];rfl
 have ez:∀l:List W,(tJ (l.map fun w=>PV.str (mkS w)) (l.map fun w=>PV.str (mkS (cdH ls w)))).map PV.tup=l.map fun w=>PV.tup [.str (mkS w),.str (mkS (cdH ls w))]:=by
  intro l;unfold tJ
  induction l with
  | nil=>rfl
  | cons a r ih=>simp only[LH,Mr];rw[ih]
 have c2:c8 (gv 2 (aJ (ai 0) (aJ (ai 1) gw))) iT fz [.no,.no,.val (.dct ks ps)] (ws.map fun w=>PV.tup [.str (mkS w),.str (mkS (cdH ls w))])=.ok (ws.map (told ls ws)):=
  WO.in_list_comp (enc:=fun w:W=>PV.tup [.str (mkS w),.str (mkS (cdH ls w))]) (told ls ws) ws fun w hwm=>by
   have:=(hw w hwm).1;have e:=Gv (ws.map (cdH ls)) ks ps h (cdH ls w) (LV.mpr ⟨w,hwm,rfl⟩) (by simp[cdH]) (by simp[cdH,cdW];omega);exact⟨[.val (.str (mkS w)),.val (.str (mkS (cdH ls w))),.val (.dct ks ps)],rfl,by simp[fz,e,told]⟩
 have z:ws.length<=16777216:=by omega
 have ei:eN (.lst (ws.map fun w=>PV.str (mkS w)))=some (ws.map fun w=>PV.str (mkS w)):=rfl;have zq:=wD (ws.map fun w=>PV.str (mkS w)) (ws.map fun w=>PV.str (mkS (cdH ls w))) (by rw[q8];rfl);simp[gY,PU.start,uS,Mi,c1,z,e2,zq];rw[ez,c2];simp[z]
open NW
abbrev yj(L D:PV)(ks:List Key)(ps:List PV)(a b c:Sl):PSt:=[.val L,.val D,.own (.dct ks ps),a,b,c]
theorem Il(L D:PV)(ks:List Key)(ps:List PV)(F:W->Option PV)(h:Tells ks ps F)(a:Sl)(b:W)(n:Nat)(hb:b.length<=100)(hk:ks.length<=100000):∃ks' ps',Tells ks' ps' (fun p=>if b.take n=p then some .non else F p)/\ks'.length<=ks.length+1/\
  cB (yj L D ks ps a (.val (.str (mkS b))) (.val (.int n)))=.ok (.next (yj L D ks' ps' a (.val (.str (mkS b))) (.val (.int n)))):=by
 obtain⟨ks',ps',e,h1,h2⟩:=h.put (b.take n) .non (by simp[noFn]);have e1:=yy (x:=mkS b) none (some (n:Int)) (by rw[ck];omega);rw[kM] at e1;have z:ks.length<16777216:=by omega
 refine⟨ks',ps',h2,h1,?_⟩;simp[cB,yj,e1,z,e]
theorem Ik(L D:PV)(ks:List Key)(ps:List PV)(F:W->Option PV)(h:Tells ks ps F)(w b:W)(t:Str)(hne:b≠[])(hD:gIx D (.str (mkS w))=some (.str t))(x:Sl)(hb:b.length<=100)(hk:ks.length<=10000):∃ks' ps' x',Tells ks' ps' (fun p=>kA p (F p) (b,t))/\ks'.length<=ks.length+100/\
  cA (yj L D ks ps (.val (.str (mkS w))) (.val (.str (mkS b))) x)=.ok (.next (yj L D ks' ps' (.val (.str (mkS w))) (.val (.str (mkS b))) x')):=by
 have hbl:1<=b.length:=by cases b with | nil=>exact absurd rfl hne | cons _ _=>simp
 obtain⟨ρ',f1,ks1,ps1,x1,rfl,h1,l1⟩:=forR (n:=b.length-1) (lo:=1) (h:=ai 5) (g:=cB) (ρ:=yj L D ks ps (.val (.str (mkS w))) (.val (.str (mkS b))) x)
  (I:=fun i ρ=>∃ks1 ps1 x1,ρ=yj L D ks1 ps1 (.val (.str (mkS w))) (.val (.str (mkS b))) x1/\Tells ks1 ps1 (fun p=>if p∈(LI i).map (fun j=>b.take (j+1)) then some .non else F p)/\ks1.length<=ks.length+i)
  ⟨ks,ps,x,rfl,⟨h.len,fun p=>by rw[h.at_,if_neg (by simp)],h.nf⟩,by omega⟩ (by
   rintro i ρ hi ⟨ks1,ps1,x1,rfl,h1,l1⟩;obtain⟨ks2,ps2,h2,l2,e⟩:=Il L D ks1 ps1 _ h1 (.val (.str (mkS w))) b (i+1) hb (by omega);have ei:(1:Int)+(i:Int)=((i+1:Nat):Int):=by omega
   rw[ei];refine⟨_,_,rfl,.inl e,ks2,ps2,_,rfl,⟨h2.len,fun p=>?_,h2.nf⟩,by omega⟩;rw[h2.at_,Nn,Lq]
   by_cases hp:b.take (i+1)=p
   ·rw[if_pos hp,if_pos (M9 _ (by simp[hp]))]
   ·rw[if_neg hp]
    by_cases hq:p∈(LI i).map (fun j=>b.take (j+1))
    ·rw[if_pos hq,if_pos (NQ _ hq)]
    ·rw[if_neg hq,if_neg]
     intro z;rcases MA.mp z with z | z
     ·exact hq z
     ·rw[Q0,Li] at z
      exact hp z.symm)
 obtain⟨ks2,ps2,e2,l2,h2⟩:=h1.put b (.str t) (by simp[noFn]);refine⟨ks2,ps2,x1,⟨h2.len,fun p=>?_,h2.nf⟩,by omega,?_⟩
 ·rw[h2.at_]
  unfold kA
  by_cases hp:b=p
  ·simp only[if_pos hp]
  ·simp only[if_neg hp]
   by_cases hq:p≠[]/\p <+: b
   ·rw[if_pos hq,if_pos]
    have hl:=NF hq.2
    have h0:1<=p.length:=by
     cases p with
     | nil=>exact absurd rfl hq.1
     | cons _ _=>simp
    have ht:=OI.mp hq.2;have hlt:p.length≠b.length:=fun z=>hp (by rw[z,O4] at ht;exact ht.symm);exact LV.mpr ⟨p.length-1,MD.mpr (by omega),by rw[show p.length-1+1=p.length by omega];exact ht.symm⟩
   ·rw[if_neg hq,if_neg]
    intro z;obtain⟨j,q2,rfl⟩:=LV.mp z;have q2:=MD.mp q2;refine hq ⟨fun z=>?_,O3 _ _⟩;cases b with
    | nil=>exact hne rfl
    | cons a r=>simp at z
 ·have e1:kD (.str (mkS b))=some (.int b.length):=by rw[gy (by rw[ck];omega),ck]
  have e3:DG (.int 1) (.int (b.length:Int))=.ok (cg 1 (b.length-1)):=by rw[uV (by omega) (by omega) (by omega) (by omega)];congr 2;omega
  have z:ks1.length<16777216:=by omega
  have f1:gh (ai 5) cB (cg 1 (b.length-1)) [.val L,.val D,.own (.dct ks ps),.val (.str (mkS w)),.val (.str (mkS b)),x]=.ok (.next [.val L,.val D,.own (.dct ks1 ps1),.val (.str (mkS w)),.val (.str (mkS b)),x1]):=f1;simp only[yj];simp[cA,e1,e3,f1,hD,z,e2]
def yt(ls:WO.Lts)(wt:List (W×Str)):List (W×Str):=wt.map fun p=>(own ((wt.map (·.1)).map (cdH ls)) (cdH ls p.1),p.2)
theorem zt(ls:WO.Lts)(wt:List (W×Str))(hn:wt.length<=12)(hw:∀p∈wt,p.1.length<=12/\∀c∈p.1,(WO.keyL ls c).isSome=true)(nd:(wt.map (·.1)).Nodup):∃ks ps,Tells ks ps (Bh (yt ls wt))/\f6 [WO.ltPv ls,wtD wt]=some (.dct ks ps):=by
 have eb:=Ae ls (wt.map (·.1)) (by simpa using hn) (fun w hwm=>by obtain⟨p,hp,rfl⟩:=LV.mp hwm;exact hw p hp);have el:=Cr wt;rw[Lh] at eb;have eb:dP [WO.ltPv ls,.lst (wt.map fun p=>.str (mkS p.1))]=some (.lst ((wt.map (·.1)).map (told ls (wt.map (·.1))))):=eb;rw[Lh] at eb
 let B:W×Str->W:=fun p=>own ((wt.map (·.1)).map (cdH ls)) (cdH ls p.1)
 have hB:∀p∈wt,B p≠[]/\(B p).length<=100:=fun p hp=>⟨AJ _ _ (by simp[cdH]),by
  have h1:=NF (ot ((wt.map (·.1)).map (cdH ls)) (cdH ls p.1));have h2:=(hw p hp).1;have h3:(cdH ls p.1).length=p.1.length+1:=by simp[cdH,cdW]
  show (own _ _).length<=100;omega⟩
 obtain⟨ρ',f1,ks,ps,a,b,c,rfl,h,l⟩:=forM (enc:=fun p:W×Str=>PV.tup [.str (mkS p.1),.str (mkS (B p))]) (xs:=wt) (h:=gv 2 (aJ (ai 3) (aJ (ai 4) gw))) (g:=cA) (ρ:=yj (WO.ltPv ls) (wtD wt) [] [] .no .no .no)
  (I:=fun pre ρ=>∃ks ps a b c,ρ=yj (WO.ltPv ls) (wtD wt) ks ps a b c/\Tells ks ps (fun p=>(pre.map fun q=>(B q,q.2)).foldl (kA p) none)/\ks.length<=pre.length * 100) ⟨[],[],.no,.no,.no,rfl,⟨rfl,fun p=>rfl,by simp⟩,by simp⟩ (by
   rintro pre p post ρ hx ⟨ks,ps,a,b,c,rfl,h,l⟩;have hp:p∈wt:=by rw[hx];simp
   have hpl:pre.length<=12:=by
    have:=congrArg NT hx;rw[Lw] at this;omega
   have hD:gIx (wtD wt) (.str (mkS p.1))=some (.str p.2):=yK wt nd hp;obtain⟨ks',ps',x',h',l',e⟩:=Ik (WO.ltPv ls) (wtD wt) ks ps _ h p.1 (B p) p.2 (hB p hp).1 hD c (hB p hp).2 (by omega);refine⟨_,_,rfl,.inl e,ks',ps',_,_,_,rfl,⟨h'.len,fun q=>?_,h'.nf⟩,by simp;omega⟩;rw[h'.at_,Lq,Nv];rfl)
 refine⟨ks,ps,h,au rfl ?_⟩;have ei:eN (.lst (wt.map (told ls (wt.map (·.1)) ∘ fun x=>x.1)))=some (wt.map fun p:W×Str=>PV.tup [.str (mkS p.1),.str (mkS (B p))]):=rfl;have f1:gh (gv 2 (aJ (ai 3) (aJ (ai 4) gw))) cA (wt.map fun p:W×Str=>PV.tup [.str (mkS p.1),.str (mkS (B p))]) [.val (WO.ltPv ls),.val (wtD wt),.own (.dct [] []),.no,.no,.no]=.ok (.next [.val (WO.ltPv ls),.val (wtD wt),.own (.dct ks ps),a,b,c]):=f1;generalize (wt.map fun p:W×Str=>PV.tup [.str (mkS p.1),.str (mkS (B p))])=TL at *;generalize PV.lst (wt.map (told ls (wt.map (·.1)) ∘ fun x=>x.1))=TQ at *;generalize PV.lst (wt.map fun p=>.str (mkS p.1))=WL at *;generalize wtD wt=DD at *;generalize WO.ltPv ls=LL at *;simp[gT,PU.start,el,eb,ei,f1]
theorem Cz{ls:WO.Lts}{c:Nat}(h:(WO.keyL ls c).isSome=true):∃l∈ls,(WO.keyL ls c).getD 0=l.1:=by
 unfold WO.keyL at h ⊢;cases e:ls.find? fun l=>decide (c∈l.2) with
 | none=>rw[e] at h;cases h
 | some l=>exact⟨l,NH e,rfl⟩
theorem Gn{ls:WO.Lts}(hk:∀l∈ls,l.1≠35){w:W}(hw:∀c∈w,(WO.keyL ls c).isSome=true):Code (cdH ls w):=by
 refine⟨cdW ls w,rfl,fun z=>?_⟩;obtain⟨c,hc,e⟩:=LV.mp z;obtain⟨l,hl,e2⟩:=Cz (hw c hc);exact hk l hl (by rw[← e2,e])
section
variable{ls : WO.Lts}{wt : List (W×Str)}(hk : ∀l ∈ ls, l.1 ≠ 35)(hw : ∀p ∈ wt, ∀c ∈ p.1, (WO.keyL ls c).isSome = true)(nc : (wt.map fun p => cdH ls p.1).Nodup)
omit hk hw nc in
theorem J8:∀x∈yt ls wt,x.1≠[]:=fun x hx=>by
 obtain⟨p,_,rfl⟩:=LV.mp hx;exact AJ _ _ (by simp[cdH])
include hk hw nc
theorem Dj:∀c∈(wt.map (·.1)).map (cdH ls),Code c:=fun c hc=>by
 obtain⟨w,hwm,rfl⟩:=LV.mp hc;obtain⟨p,hp,rfl⟩:=LV.mp hwm;exact Gn hk (hw p hp)
omit hk hw in
theorem Gp{p q:W×Str}(hp:p∈wt)(hq:q∈wt)(e:cdH ls p.1=cdH ls q.1):p=q:=
 pT (fun p:W×Str=>cdH ls p.1) wt nc p hp q hq e
theorem J6:∀x∈yt ls wt,∀y∈yt ls wt,x.1 <+: y.1->x=y:=fun x hx y hy h=>by
 obtain⟨p,hp,rfl⟩:=LV.mp hx;obtain⟨q,hq,rfl⟩:=LV.mp hy;have m:∀{p:W×Str},p∈wt->cdH ls p.1∈(wt.map (·.1)).map (cdH ls):=fun hp=>LV.mpr ⟨_,LV.mpr ⟨_,hp,rfl⟩,rfl⟩;have:=vN (Dj hk hw nc) (m hp) (m hq) h (PC _);rw[Gp nc hp hq this]
end
theorem CT (H:PV) (rs:FA.Rooms) (hR:gIx H (.str "rooms")=some (aC rs)) (hl:rs.length<=1000) (Dn:Str->PV) (hD:∀n∈FA.names rs,aD [H,.str n]=some (Dn n)) (hF:∀n∈FA.names rs,noFn (Dn n)=true):∃ks ps,bO [H]=some (.dct ks ps)/\(∀n∈FA.names rs,gIx (.dct ks ps) (.str n)=some (Dn n))/\noFn (.dct ks ps)=true:=by
 have hnl:(FA.names rs).length=rs.length:=by simp[FA.names]
 obtain⟨ρ',f1,ks,ps,a,rfl,h1,h2,h3,h4⟩:=forM (enc:=PV.str) (xs:=FA.names rs) (h:=ai 2) (g:=fB) (ρ:=[.val H,.own (.dct [] []),.no])
  (I:=fun pre ρ=>∃ks ps a,ρ=[.val H,.own (.dct ks ps),a]/\ks.length=ps.length/\ks.length<=pre.length/\(∀n∈pre,bJ ks ps (.inr n)=some (Dn n))/\∀x∈ps,noFn x=true) ⟨[],[],.no,rfl,rfl,by simp,by simp,by simp⟩ (by
   rintro pre n post ρ hx ⟨ks,ps,a,rfl,h1,h2,h3,h4⟩;have hn:n∈FA.names rs:=by rw[hx];simp
   have hpl:pre.length<=1000:=by
    have:=congrArg NT hx;rw[Lw] at this;omega
   obtain⟨ks',ps',e,g1,g2,g3⟩:=BG.look_put ks ps (.inr n) (Dn n) h1;have z:ks.length<16777216:=by omega
   have ed:=hD n hn;refine⟨_,[.val H,.own (.dct ks' ps'),.val (.str n)],qC _,.inl ?_,ks',ps',_,rfl,g1,by simp;omega,fun m hm=>?_,fun x hx=>(vn e hx).elim (h4 x) fun z=>z▸hF n hn⟩
   ·simp[fB,ed,z,e]
   ·rw[g3]
    by_cases hmn:n=m
    ·rw[if_pos (by rw[hmn]),hmn]
    ·rw[if_neg fun z=>hmn (OD z)]
     rcases MA.mp hm with hm | hm
     ·exact h3 m hm
     ·exact absurd (Li.mp hm).symm hmn)
 refine⟨ks,ps,au rfl ?_,h3,by have:=(gN ps).mpr h4;simpa [noFn] using this⟩;have ei:=FA.keys_rooms rs;generalize (FA.names rs).map PV.str=NL at *;generalize aC rs=RM at *;simp[gW,PU.start,hR,ei,f1]
theorem xc(spans:List (Int×Int×Str))(last:Str)(hour:Int):kZ [(Room.hours spans last).pv,.int hour]=some (.str (FA.handOf spans last hour)):=by
 refine au rfl ?_
 obtain⟨k1,k2⟩:=jm (enc:=pv3) (h:=gv 3 (aJ (ai 2) (aJ (ai 3) (aJ (ai 4) gw)))) (g:=fN) (FA.holds hour) (fun s=>PV.str s.2.2)
  (I:=fun ρ=>∃a b c,ρ=[.val (Room.hours spans last).pv,.val (.int hour),a,b,c]) (by
   rintro s ρ ⟨a,b,c,rfl⟩;refine⟨_,rfl,fun hp=>?_,fun hp=>⟨_,?_,.val (.int s.1),.val (.int s.2.1),.val (.str s.2.2),rfl⟩⟩
   ·unfold FA.holds at hp
    simp only[MR,decide_eq_true_eq] at hp;simp[fN,hp.1,hp.2]
   ·unfold FA.holds at hp
    by_cases h1:s.1<=hour
    ·have h2:¬ hour<s.2.1:=by simpa [h1] using hp
     simp[fN,h1,h2]
    ·simp[fN,h1]) spans [.val (Room.hours spans last).pv,.val (.int hour),.no,.no,.no] ⟨_,_,_,rfl⟩
 unfold FA.handOf;cases e:spans.find? (FA.holds hour) with
 | some s=>
  have k:=k1 s e;simp only[Room.pv] at k ⊢;simp[kX,PU.start];rw[k];rfl
 | none=>
  obtain⟨ρ',k,a,b,c,rfl⟩:=k2 e;simp only[Room.pv] at k ⊢;simp[kX,PU.start];rw[k];simp
theorem xH (H:PV) (rs:FA.Rooms) (hR:gIx H (.str "rooms")=some (aC rs)) (hour:Int) (a:Sl):∀(n N:Nat) (x y:Str),n<=N->NM.comeGo rs hour n x=some y->
  whF (di (ah (ah (ah (ah (a8 0) (kS "rooms") gIx) (a8 3) gIx) (kI 0) gIx) (kS "hours") gEq)) gq N [.val H,.val (.int hour),a,.val (.str x)]=.ok (.next [.val H,.val (.int hour),a,.val (.str y)])
 | 0,N,x,y,h,e=>by cases e
 | n+1,0,x,y,h,e=>by omega
 | n+1,N+1,x,y,h,e=>by
  have n2:=FA.ix_rooms rs x;unfold NM.comeGo at e;unfold whF;cases hr:FA.lookR rs x with
  | none=>rw[hr] at e;cases e
  | some r=>
   rw[hr] at e n2;have n2:gIx (aC rs) (.str x)=some r.pv:=n2;cases r with
   | hours sp l=>
    have n3:gIx (Room.hours sp l).pv (.int 0)=some (.str "hours"):=rfl;have n4:=xc sp l hour;have ih:=xH H rs hR hour a n N (FA.handOf sp l hour) y (by omega) e;have t:di (ah (ah (ah (ah (a8 0) (kS "rooms") gIx) (a8 3) gIx) (kI 0) gIx) (kS "hours") gEq) [.val H,.val (.int hour),a,.val (.str x)]=.ok true:=by simp[hR,n2,n3]
    have b:gq [.val H,.val (.int hour),a,.val (.str x)]=.ok (.next [.val H,.val (.int hour),a,.val (.str (FA.handOf sp l hour))]):=by simp[gq,hR,n2,n4]
    simp only[t,R.ok_bind,if_true,b];exact ih
   | menu t ks wr wa=>
    have n3:gIx (Room.menu t ks wr wa).pv (.int 0)=some (.str "menu"):=rfl;have t:di (ah (ah (ah (ah (a8 0) (kS "rooms") gIx) (a8 3) gIx) (kI 0) gIx) (kS "hours") gEq) [.val H,.val (.int hour),a,.val (.str x)]=.ok false:=by simp[hR,n2,n3]
    cases e;simp only[t,R.ok_bind,ME,if_false]
   | names t ks wr wa=>
    have n3:gIx (Room.names t ks wr wa).pv (.int 0)=some (.str "names"):=rfl;have t:di (ah (ah (ah (ah (a8 0) (kS "rooms") gIx) (a8 3) gIx) (kI 0) gIx) (kS "hours") gEq) [.val H,.val (.int hour),a,.val (.str x)]=.ok false:=by simp[hR,n2,n3]
    cases e;simp only[t,R.ok_bind,ME,if_false]
   | hand t=>
    have n3:gIx (Room.hand t).pv (.int 0)=some (.str "hand"):=rfl;have t:di (ah (ah (ah (ah (a8 0) (kS "rooms") gIx) (a8 3) gIx) (kI 0) gIx) (kS "hours") gEq) [.val H,.val (.int hour),a,.val (.str x)]=.ok false:=by simp[hR,n2,n3]
    cases e;simp only[t,R.ok_bind,ME,if_false]
   | fin t=>
    have n3:gIx (Room.fin t).pv (.int 0)=some (.str "end"):=rfl;have t:di (ah (ah (ah (ah (a8 0) (kS "rooms") gIx) (a8 3) gIx) (kI 0) gIx) (kS "hours") gEq) [.val H,.val (.int hour),a,.val (.str x)]=.ok false:=by simp[hR,n2,n3]
    cases e;simp only[t,R.ok_bind,ME,if_false]
theorem Do (H:PV) (rs:FA.Rooms) (hR:gIx H (.str "rooms")=some (aC rs)) (hour:Int) (n:Nat) (x y:Str) (hn:n<=300) (e:NM.comeGo rs hour n x=some y):jq [H,.int hour,.str x]=some (.str y):=by
 refine au rfl ?_;have k:=xH H rs hR hour (.val (.str x)) n 300 x y hn e;simp only[lZ,PU.start,LH,NR,Lz,Np,Mi,O5,Pc,uR,DU,Bk,qD,FD,Iz,nv,List.set_cons_succ,List.set_cons_zero,Hf,k,Ap]
theorem oM(ns:List Int)(k:Nat):aN [.lst (ns.map .int),.int k]=some (.int (ns.getD k 0)):=by
 refine au rfl ?_
 by_cases hk:k<ns.length
 ·have h2:(k:Int)<ns.length:=by omega
  have h3:atI (ns.map PV.int) (k:Int)=some (.int ns[k]):=bf rfl (by simp[hk]);simp[dZ,PU.start,h2,h3,hk]
 ·have h2:¬ (k:Int)<ns.length:=by omega
  simp[dZ,PU.start,h2,hk]
theorem numbers(cell:Int)(many:Nat)(hm:many<=100):∃ls:List Int,ls.length=many/\(∀x∈ls,0<=x)/\aV [.int cell,.int many]=some (.lst (ls.map .int)):=by
 by_cases h2:cell % 2=1
 ·obtain⟨ρ',f1,ls,n,a,rfl,h1,h3⟩:=forR (n:=many) (lo:=0) (h:=ai 4) (g:=eT) (ρ:=[.val (.int cell),.val (.int many),.own (.lst []),.val (.int (cell / 2)),.no])
   (I:=fun i ρ=>∃(ls:List Int)(n:Int)(a:Sl),ρ=[.val (.int cell),.val (.int many),.own (.lst (ls.map .int)),.val (.int n),a]/\ls.length=i/\∀x∈ls,0<=x) ⟨[],_,_,rfl,rfl,by simp⟩ (by
    rintro i ρ hi ⟨ls,n,a,rfl,h1,h3⟩;have hq:ls.length<16777216:=by omega
    refine⟨_,[.val (.int cell),.val (.int many),.own (.lst ((ls++[n % 5040]).map .int)),.val (.int (n / 5040)),.val (.int (0+(i:Int)))],rfl,.inl ?_,ls++[n % 5040],n / 5040,_,rfl,by simp[h1],fun x hx=>?_⟩
    ·simp (disch:=omega) [eT,gx,yC,hq]
    ·rcases MA.mp hx with hx | hx
     ·exact h3 x hx
     ·rw[Li.mp hx];omega)
  refine⟨ls,h1,h3,au rfl ?_⟩;simp (disch:=omega) [dY,PU.start,gx,yC,h2,uW];rw[f1];simp
 ·obtain⟨ρ',f1,ls,n,a,rfl,h1,h3⟩:=forR (n:=many+1) (lo:=0) (h:=ai 4) (g:=eS) (ρ:=[.val (.int cell),.val (.int many),.own (.lst []),.val (.int (cell / 2 % 2147483647)),.no])
   (I:=fun i ρ=>∃(ls:List Int)(n:Int)(a:Sl),ρ=[.val (.int cell),.val (.int many),.own (.lst (ls.map .int)),.val (.int n),a]/\ls.length=i/\∀x∈ls,0<=x) ⟨[],_,_,rfl,rfl,by simp⟩ (by
    rintro i ρ hi ⟨ls,n,a,rfl,h1,h3⟩;have hq:ls.length<16777216:=by omega
    rw[QN];have m1:wU (.int (n+(i:Int)+1)) (.int 48271)=some (.int ((n+(i:Int)+1) * 48271)):=yz (.inr (by decide));have m2:∀z:Int,wU (.int z) (.int 69621)=some (.int (z * 69621)):=fun z=>yz (.inr (by decide));refine⟨_,[.val (.int cell),.val (.int many),.own (.lst ((ls++[(n+(i:Int)+1) * 48271 % 2147483647 * 69621 % 2147483629]).map .int)),.val (.int ((n+(i:Int)+1) * 48271 % 2147483647)),.val (.int (i:Int))],rfl,.inl ?_,_,_,_,rfl,by simp[h1],fun x hx=>?_⟩
    ·simp (disch:=omega) [eS,gx,m1,m2,hq]
    ·rcases MA.mp hx with hx | hx
     ·exact h3 x hx
     ·rw[Li.mp hx];omega)
  refine⟨ls.drop 1,by simp[h1],fun x hx=>h3 x (List.mem_of_mem_drop hx),au rfl ?_⟩;have e1:(((many:Int)+1)).toNat=many+1:=by omega
  have e2:=NM.cut_1 (ls.map PV.int) (by rw[LJ];omega);simp (disch:=omega) [dY,PU.start,gx,yC,h2,uW,e1];rw[f1];simp[e2]
end K42
namespace K42
open PySem L2 PU MT NM BG NW
def c20:List Nat:=[98,99,100,102,103,104,106,108,109,110,112,113,114,115,116,118,119,120,121,122]
theorem Gu:("bcdfghjlmnpqrstvwxyz":Str)=mkS c20:=by decide +kernel
theorem Aa:∀i:Fin 20,∀j:Fin 20,c20.getD i.1 0=c20.getD j.1 0->i.1=j.1:=by decide +kernel
theorem Dt(i j:Nat)(hi:i<20)(hj:j<20)(e:c20.getD i 0=c20.getD j 0):i=j:=Aa ⟨i,hi⟩ ⟨j,hj⟩ e
def sgn(ls:List Int)(at_:Int)(t k:Nat):Nat:=c20.getD ((ls.getD k 0+3 * (t:Int) * (if (k:Int)=at_ then 1 else 0)) % 20).toNat 0
def cds(ls:List Int)(at_:Int)(t i:Nat):List Nat:=(LI i).map (sgn ls at_ t)
abbrev nst(c:Int)(ls:List Int)(size at_:Int)(done:List PV)(a b d:Sl):PSt:=
 [.val (.int c),.val (.str (mkS c20)),.val (.lst (ls.map .int)),.val (.int size),.val (.int at_),.own (.lst done),a,b,d]
theorem zy(c:Int)(ls:List Int)(size at_:Int)(done:List PV)(t k:Nat)(x:List Nat)(hl:ls.length=10)(hk:k<8)(hx:x.length<=100) :
  eB (nst c ls size at_ done (.val (.int t)) (.val (.str (mkS x))) (.val (.int k)))=.ok (.next (nst c ls size at_ done (.val (.int t)) (.val (.str (mkS (x++[sgn ls at_ t k])))) (.val (.int k)))):=by
 have i1:atI (ls.map PV.int) (k:Int)=some (.int (ls.getD k 0)):=by
  rw[dh ls k (by omega),Lm,LG (by omega)];rfl
 have m1:wU (.int 3) (.int t)=some (.int (3 * t)):=yz (.inl (by decide));have hq:(if (k:Int)=at_ then (1:Int) else 0).natAbs<18446744073709551616:=by split <;> decide
 have m2:wU (.int (3 * (t:Int))) (.int (if (k:Int)=at_ then 1 else 0))=some (.int (3 * (t:Int) * (if (k:Int)=at_ then 1 else 0))):=yz (.inr hq);have h3:∀z:Int,gIx (.str (mkS c20)) (.int (z % 20))=some (.str ⟨#[c20.getD (z % 20).toNat 0]⟩):=fun z=>sQ c20 (z % 20) (by omega) (by show _<(20:Int);omega) (by decide);have h4:=ir x (sgn ls at_ t k) (by omega);unfold sgn at h4 ⊢;simp (disch:=omega) [-Lm,eB,nst,i1,m1,m2,gx,h3,h4]
theorem zx(c:Int)(ls:List Int)(size:Nat)(at_:Int)(done:List PV)(t:Nat)(b d:Sl)(hl:ls.length=10)(hs:size<=8)(hd:done.length<=100):∃d',
  eA (nst c ls size at_ done (.val (.int t)) b d)=.ok (.next (nst c ls size at_ (done++[.str (mkS (cds ls at_ t size))]) (.val (.int t)) (.val (.str (mkS (cds ls at_ t size)))) d')):=by
 obtain⟨ρ',f1,d',rfl⟩:=forR (n:=size) (lo:=0) (h:=ai 8) (g:=eB) (ρ:=nst c ls size at_ done (.val (.int t)) (.val (.str (mkS []))) d)
  (I:=fun i ρ=>∃d,ρ=nst c ls size at_ done (.val (.int t)) (.val (.str (mkS (cds ls at_ t i)))) d) ⟨d,rfl⟩ (by
   rintro i ρ hi ⟨d,rfl⟩;have e:=zy c ls size at_ done t i (cds ls at_ t i) hl (by omega) (by simp[cds];omega);have:cds ls at_ t (i+1)=cds ls at_ t i++[sgn ls at_ t i]:=by simp[cds,Nn]
   rw[QN,this];exact⟨_,_,rfl,.inl e,_,rfl⟩)
 refine⟨d',?_⟩;have hq:done.length<16777216:=by omega
 simp (disch:=omega) [eA,fh,uW];rw[f1];simp[hq]
theorem names (c:Int):∃nms:List Str,nms.length=6/\nms.Nodup/\(∀x∈nms,x≠"back"/\x≠"")/\gi [.int c]=some (.lst (nms.map .str)):=by
 obtain⟨ls,l1,l2,el⟩:=numbers c 10 (by omega);have el:aV [.int c,.int 10]=some (.lst (ls.map .int)):=el;have i8:atI (ls.map PV.int) 8=some (.int ls[8]):=dh ls 8 (by omega);have i9:atI (ls.map PV.int) 9=some (.int ls[9]):=dh ls 9 (by omega);generalize ls[8]=z8 at i8;generalize ls[9]=z9 at i9;obtain⟨size,hsz,h1,h8⟩:∃size:Nat,(1+z8 % 8)=(size:Int)/\1<=size/\size<=8:=⟨(1+z8 % 8).toNat,by omega,by omega,by omega⟩;obtain⟨at_,hat,ha0,ha1⟩:∃at_:Int,z9 % (size:Int)=at_/\0<=at_/\at_<size:=⟨z9 % (size:Int),rfl,Os _ (by omega),OJ _ (by omega)⟩
 obtain⟨ρ',f1,a,b,d,rfl⟩:=forR (n:=6) (lo:=0) (h:=ai 6) (g:=eA) (ρ:=nst c ls size at_ [] .no .no .no)
  (I:=fun i ρ=>∃a b d,ρ=nst c ls size at_ ((LI i).map fun t=>.str (mkS (cds ls at_ t size))) a b d) ⟨_,_,_,rfl⟩ (by
   rintro i ρ hi ⟨a,b,d,rfl⟩;obtain⟨d',e⟩:=zx c ls size at_ ((LI i).map fun t=>.str (mkS (cds ls at_ t size))) i b d l1 h8 (by simp;omega);rw[QN,Nn,Lq];exact⟨_,_,rfl,.inl e,_,_,_,rfl⟩)
 refine⟨(LI 6).map fun t=>mkS (cds ls at_ t size),by simp,?_,?_,au rfl ?_⟩
 ·unfold List.Nodup
  rw[Sn];refine Q8 (R:=fun a b=>a<b) (fun {i j} hi hj hij e=>?_) RH;rw[MD] at hi hj;have e:=BG.mkS_inj e;have hs:at_.toNat<size:=by omega
  have e2:=congrArg (fun l:List Nat=>l[at_.toNat]?) e;simp only[cds,LO,MW hs,PQ] at e2;have e3:sgn ls at_ i at_.toNat=sgn ls at_ j at_.toNat:=Ly e2;unfold sgn at e3;rw[if_pos (by omega)] at e3;have e4:=Dt _ _ (by omega) (by omega) e3;omega
 ·intro x hx
  obtain⟨t,_,rfl⟩:=LV.mp hx;have hb:("back":Str)=mkS [98,97,99,107]:=by decide +kernel
  refine⟨fun e=>?_,fun e=>?_⟩
  ·rw[hb] at e
   have e:=BG.mkS_inj e;have m:97∈cds ls at_ t size:=by rw[e];simp
   obtain⟨k,_,ek⟩:=LV.mp m;have:∀z:Nat,z<20->c20.getD z 0≠97:=by decide +kernel
   exact this _ (by omega) ek
  ·rw[fh] at e
   have e:=BG.mkS_inj e;have:=congrArg NT e;simp[cds] at this;omega
 ·simp only[nst] at f1
  have hsz0:(0:Int)<size:=by omega
  simp (disch:=omega) [-Lh,iN,PU.start,Gu,el,i8,i9,gx,hsz,hat,uW];rw[f1];simp
def enc(w:W):PV:=.str (mkS w)
def W8:List W:=[[98,111],[98,111,98],[108,101,101]]
def LS5:WO.Lts:=[(51,[100,101,102]),(52,[97,98,99]),(53,[106,107,108]),(54,[109,110,111])]
theorem Fq:∀w∈W8,∀c∈w,(WO.keyL LS5 c).isSome=true:=by decide +kernel
theorem Iu:(W8.map (cdH LS5)).Nodup:=by decide +kernel
theorem Ir:∀l∈LS5,l.1≠35:=by decide +kernel
theorem Hu:W8.Nodup:=by decide +kernel
theorem As:∀w∈W8,w.length<=4:=by decide +kernel
theorem lp5:PV.lst [.tup [.str "3",.str "def"],.tup [.str "4",.str "abc"],.tup [.str "5",.str "jkl"],.tup [.str "6",.str "mno"]]=WO.ltPv LS5:=by kernel_rfl
def K12:List Nat:=[48,49,50,51,52,53,54,55,56,57,42,35]
def E12:List (Nat×Nat):=[(0,48),(1,49),(2,50),(3,51),(4,52),(5,53),(6,54),(7,55),(8,56),(9,57),(10,42),(11,35)]
def e12(p:Nat×Nat):PV:=.tup [.int p.1,WO.sg p.2]
theorem Gk:rC (.str "0123456789*#")=some (E12.map e12):=by kernel_rfl
theorem IY:E12.map (·.2)=K12:=by decide
theorem Gj:∀p∈E12,p.1<12:=by decide
theorem FJ:K12.Nodup:=by decide
def pvk(p:Nat×Str):PV:=.tup [WO.sg p.1,.str p.2]
def mk2(p:Nat×Str):Str×Str:=(⟨#[p.1]⟩,p.2)
theorem AM(ks:List (Nat×Str)):(ks.map mk2).map pv2=ks.map pvk:=by rw[Lh];rfl
def mw2(p:W×Str):Str×Str:=(mkS p.1,p.2)
theorem Fi(wt:List (W×Str)):PV.tup ((wt.map mw2).map pv2)=Ar wt:=by rw[Lh];rfl
def RW(nms:List Str):Room->Prop
 | .menu _ ks wr wa=>(∃kt:List (Nat×Str),ks=kt.map mk2/\Ni (kt.map (·.1)) K12/\∀k∈kt,k.2="back"\/k.2∈nms)/\wr.2∈nms/\wa.2∈nms/\(1<=wr.1/\wr.1<=3)/\(1<=wa.1/\wa.1<=3)
 | .names _ ws wr wa=>(∃wt:List (W×Str),ws=wt.map mw2/\Ni (wt.map (·.1)) W8/\wt≠[]/\∀p∈wt,p.2∈nms)/\wr.2∈nms/\wa.2∈nms/\(1<=wr.1/\wr.1<=3)/\(1<=wa.1/\wa.1<=3)
 | _=>True
structure Low(nms:List Str)(low:Nat)(lw:List Str):Prop where
 cut:jD (nms.map PV.str) none (some (low:Int))=lw.map PV.str
 ln:lw.length=low
 sub:∀x∈lw,x∈nms
 le:low<=nms.length
 pos:0<low
 sm:low<=100
theorem Low.at_{nms lw:List Str}{low:Nat}(L:Low nms low lw)(z:Int):∃x∈nms,atI (nms.map PV.str) (z % (low:Int))=some (.str x):=by
 have:=L.pos;have h0:=Os z (b:=(low:Int)) (by omega);have h1:=OJ z (b:=(low:Int)) (by omega);obtain⟨k,hk⟩:∃k:Nat,z % (low:Int)=(k:Int):=⟨(z % (low:Int)).toNat,by omega⟩;have hl:=L.le;rw[hk];exact⟨_,MS (by omega),JS nms k (by omega)⟩
theorem Low.bk {nms lw:List Str} {low:Nat} (L:Low nms low lw) (z:Int):∃x:Str,(x="back"\/x∈nms)/\atI (lw.map PV.str++[.str "back"]) (z % ((low:Int)+1))=some (.str x):=by
 have hl:(lw++[LS "back"]).length=low+1:=by simp[L.ln]
 obtain⟨x,hx,e⟩:=Gw (lw++[LS "back"]) z (by omega);rw[hl,Lq] at e;refine⟨x,?_,e⟩;rcases MA.mp hx with h | h
 ·exact .inr (L.sub x h)
 ·simp only[LX,Mk,or_false] at h
  exact .inl h
def Fit(nms ord:List Str)(r:Str×Room):Prop:=∃(k:Nat)(hk:k<ord.length),ord[k]=r.1/\(∀sp l,r.2=.hours sp l->l∈ord.drop (k+1)/\∀s∈sp,s.2.2∈ord.drop (k+1))/\RW nms r.2
structure Good(nms ord:List Str)(rs:FA.Rooms):Prop where
 ok:∀r∈rs,Fit nms ord r
 nd:(rs.map (·.1)).Nodup
theorem mV(nms:List Str)(rs:FA.Rooms)(k:Str)(r:Room)(ord:List Str)(g:Good nms ord rs)(hr:Fit nms ord (k,r)):Good nms ord (pj rs k r)/\(pj rs k r).length<=rs.length+1:=by
 obtain⟨a,b,c⟩:=BR (rs:=rs) (k:=k) (r:=r) (Fit nms ord) g.ok (fun x e1 e2=>by have:x=(k,r):=QB e1 e2;rw[this];exact hr) g.nd;exact⟨⟨a,b⟩,c⟩
theorem iF(rs:FA.Rooms):aC rs=.dct (rs.map fun r=>.inr r.1) (rs.map fun r=>r.2.pv):=rfl
theorem xG(nms ord:List Str)(rs:FA.Rooms)(nd:ord.Nodup)(g:Good nms ord rs)(hall:∀x∈ord,x∈FA.names rs)(hour:Int):∀(n k:Nat)(hk:k<ord.length),ord.length-k<=n->∃y r,comeGo rs hour n ord[k]=some y/\FA.lookR rs y=some r/\y∈ord/\∀sp l,r≠.hours sp l
 | 0,k,hk,h=>by omega
 | n+1,k,hk,h=>by
  obtain⟨r,hr⟩:=FA.look_some rs ord[k] (hall _ (MS hk));obtain⟨k',hk',e,ht,_⟩:=g.ok _ (wd rs _ r hr);have ek:k'=k:=(List.getElem_inj nd).mp e;subst ek;unfold comeGo;rw[hr]
  by_cases hh:∃sp l,r=.hours sp l
  ·obtain⟨sp,l,rfl⟩:=hh
   obtain⟨h1,h2⟩:=ht sp l rfl
   have hin:FA.handOf sp l hour∈ord.drop (k'+1):=by
    unfold FA.handOf;cases e:sp.find? (FA.holds hour) with
    | none=>exact h1
    | some s=>exact h2 s (NH e)
   obtain⟨j,hj,e2⟩:=Na hin;rw[QT] at hj;rw[List.getElem_drop] at e2;dsimp only;rw[← e2];exact xG nms ord rs nd g hall hour n (k'+1+j) (by omega) (by omega)
  ·refine⟨ord[k'],r,?_,hr,MS _,fun sp l e=>hh ⟨sp,l,e⟩⟩
   cases r with
   | hours sp l=>exact absurd ⟨sp,l,rfl⟩ hh
   | _=>rfl
structure HG(h:House)(nms ord:List Str):Prop where
 nd:ord.Nodup
 ol:ord.length<=20
 g:Good nms ord h.rooms
 all:∀x∈ord,x∈FA.names h.rooms
 nm:∀x∈nms,x∈ord
 mn:∀x∈ord,x∈nms
 nb:∀x∈nms,x≠"back"/\x≠""
 fst:h.first∈nms
 lets:gIx h.pv (.str "letters")=some (WO.ltPv LS5)
 rl:h.rooms.length<=20
 nl:nms.length<=6
def ltS(ls:WO.Lts):List (Str×Str):=ls.map fun l=>(⟨#[l.1]⟩,mkS l.2)
theorem Fp(ls:WO.Lts):PV.lst ((ltS ls).map pv2)=WO.ltPv ls:=by
 unfold ltS WO.ltPv;rw[Lh];rfl
abbrev hst(S:PV)(nms:List Str)(ls:List Int)(M:PV)(kt:List PV)(a b:Sl):PSt:=[.val S,.val (.lst (nms.map .str)),.val (.lst (ls.map .int)),.val M,.own (.lst kt),a,b,.no,.no,.no,.no,.no,.no,.no,.no]
theorem keys {nms:List Str} (L:Low nms 6 nms) (S M:PV) (ls:List Int) (l1:ls.length=30):∃(kt:List (Nat×Str)) (a b:Sl),Ni (kt.map (·.1)) K12/\(∀k∈kt,k.2="back"\/k.2∈nms)/\
  gh (gv 2 (aJ (ai 5) (aJ (ai 6) gw))) da (E12.map e12) (hst S nms ls M [] .no .no)=.ok (.next (hst S nms ls M (kt.map pvk) a b)):=by
 have ad:fI (.lst (nms.map .str)) (.lst [.str "back"])=some (.lst (nms.map .str++[.str "back"])):=uX (by simp[L.ln])
 obtain⟨ρ',f1,kt,a,b,rfl,h1,h2⟩:=forM (enc:=e12) (xs:=E12) (h:=gv 2 (aJ (ai 5) (aJ (ai 6) gw))) (g:=da) (ρ:=hst S nms ls M [] .no .no)
  (I:=fun pre ρ=>∃(kt:List (Nat×Str)) (a b:Sl),ρ=hst S nms ls M (kt.map pvk) a b/\Ni (kt.map (·.1)) (pre.map (·.2))/\∀k∈kt,k.2="back"\/k.2∈nms) ⟨[],.no,.no,rfl,Qw _,by simp⟩ (by
   rintro pre p post ρ hx ⟨kt,a,b,rfl,h1,h2⟩;have hp:p.1<12:=Gj p (by rw[hx];simp);have hE:E12.length=12:=rfl
   have hkl:kt.length<=12:=by
    have e1:=h1.length_le;have e2:=congrArg NT hx;rw[Lw] at e2;simp at e1;omega
   have i1:=dh ls p.1 (by omega);have i2:=dh ls (p.1+12) (by omega);have n2:((p.1+12:Nat):Int)=(p.1:Int)+12:=by omega
   rw[n2] at i2;generalize ls[p.1]=x at i1;generalize ls[p.1+12]=y at i2;obtain⟨tg,ht,et⟩:=L.bk y;have et:atI (nms.map PV.str++[.str "back"]) (y % 7)=some (.str tg):=et;have m3:dS (.int x) (.int 3)=some (.int (x % 3)):=gx (by decide);have m7:dS (.int y) (.int 7)=some (.int (y % 7)):=gx (by decide);have z:(kt.map pvk).length<16777216:=by simp;omega
   by_cases g1:x % 3=0
   ·refine⟨hst S nms ls M (kt.map pvk) (.val (.int p.1)) (.val (WO.sg p.2)),hst S nms ls M ((kt++[(p.2,tg)]).map pvk) (.val (.int p.1)) (.val (WO.sg p.2)),rfl,.inl ?_,kt++[(p.2,tg)],_,_,rfl,?_,?_⟩
    ·rw[Lq]
     simp only[hst];generalize kt.map pvk=KT at *;generalize nms.map PV.str=NN at *;simp[da,i1,i2,m3,m7,g1,ad,et,z,pvk]
    ·rw[Lq,Lq]
     exact List.Sublist.append h1 (Qw _)
    ·intro k hk
     rcases MA.mp hk with hk | hk
     ·exact h2 k hk
     ·rw[Li.mp hk];exact ht
   ·refine⟨hst S nms ls M (kt.map pvk) (.val (.int p.1)) (.val (WO.sg p.2)),hst S nms ls M (kt.map pvk) (.val (.int p.1)) (.val (WO.sg p.2)),rfl,.inl ?_,kt,_,_,rfl,?_,h2⟩
    ·simp[da,i1,m3,g1]
    ·rw[Lq]
     exact List.Sublist.trans h1 (List.sublist_append_left _ _))
 rw[IY] at h1;exact⟨kt,a,b,h1,h2,f1⟩
def GY(p:PV)(q:Option Int×Option Int):R PV:=R.ofO (Ha p q.1 q.2)
@[simp] theorem GD{f:PSt->R PV}{ρ:PSt}{l h:PSt->R (Option Int)}:p8 f l h ρ=nN GY (f ρ) (nN pB (l ρ) (h ρ)):=by unfold p8;cases f ρ <;> cases l ρ <;> cases h ρ <;> rfl
theorem Dy(rs:FA.Rooms)(k:Str)(r:Room):Ai (aC rs) (.inr k,r.pv)=aC (pj rs k r):=by
 rw[iF];exact o8 rs k r
theorem DV(nms:List Str)(a b:W)(hs:Ni [a,b] W8)(hs1:Ni [a] W8)(t0 t1:Str)(h0:t0∈nms)(h1:t1∈nms)(y:Int):∃wt:List (W×Str),Ni (wt.map (·.1)) W8/\wt≠[]/\(∀p∈wt,p.2∈nms)/\Ha (.tup [.tup [.str (mkS a),.str t0],.tup [.str (mkS b),.str t1]]) none (some (1+y % 2))=some (.tup ((wt.map mw2).map pv2)):=by
 obtain⟨k,hk,hk9⟩:∃k:Nat,y % 2=(k:Int)/\k<2:=⟨(y % 2).toNat,by omega,by omega⟩;rw[hk]
 match k,hk9 with
 | 0,_=>exact⟨[(a,t0)],hs1,by simp,fun p hp=>by rw[Li.mp hp];exact h0,rfl⟩
 | 1,_=>exact⟨[(a,t0),(b,t1)],hs,by simp,(fun p hp=>by rcases LX.mp hp with rfl | hp;exact h0;rw[Li.mp hp];exact h1),rfl⟩
theorem v3(a b:Str)(z:Int):∃t:Str,atI [PV.str a,.str b] (z % 2)=some (.str t):=by
 obtain⟨k,hk,hk9⟩:∃k:Nat,z % 2=(k:Int)/\k<2:=⟨(z % 2).toNat,by omega,by omega⟩;rw[hk]
 match k,hk9 with
 | 0,_=>exact⟨a,bf (n:=0) rfl rfl⟩
 | 1,_=>exact⟨b,bf (n:=1) rfl rfl⟩
theorem IL(ns:List Int):∃(h:House)(nms ord:List Str),HG h nms ord/\gj [.lst (ns.map .int)]=some h.pv:=by
 have c0:aN [PV.lst (ns.map PV.int),PV.int 0]=some (PV.int (ns.getD 0 0)):=oM ns 0;have c1:aN [PV.lst (ns.map PV.int),PV.int 1]=some (PV.int (ns.getD 1 0)):=oM ns 1;have c2:aN [PV.lst (ns.map PV.int),PV.int 2]=some (PV.int (ns.getD 2 0)):=oM ns 2;generalize ns.getD 0 0=z0 at c0;generalize ns.getD 1 0=z1 at c1;generalize ns.getD 2 0=z2 at c2;obtain⟨nms,hnl,hnd,hnb,en⟩:=names z0
 obtain⟨n0,n1,n2,n3,n4,n5,rfl⟩:∃n0 n1 n2 n3 n4 n5,nms=[n0,n1,n2,n3,n4,n5]:=by
  match nms,hnl with
  | [a,b,c,d,e,f],_=>exact⟨a,b,c,d,e,f,rfl⟩
 have L:Low [n0,n1,n2,n3,n4,n5] 6 [n0,n1,n2,n3,n4,n5]:=⟨rfl,rfl,fun x h=>h,by simp,by omega,by omega⟩;obtain⟨ls,l1,_,el⟩:=numbers z1 30 (by omega);have el:aV [.int z1,.int 30]=some (.lst (ls.map .int)):=el;obtain⟨ms,m1,_,em⟩:=numbers z2 16 (by omega);have em:aV [.int z2,.int 16]=some (.lst (ms.map .int)):=em;obtain⟨kt,ka,kb,hk1,hk2,f1⟩:=keys L (.lst (ns.map .int)) (.lst (ms.map .int)) ls l1;have at6:∀z:Int,∃x∈[n0,n1,n2,n3,n4,n5],atI ([n0,n1,n2,n3,n4,n5].map PV.str) (z % 6)=some (.str x):=fun z=>L.at_ z;have i0:atI (ls.map PV.int) 0=some (.int ls[0]):=dh ls 0 (l1▸by decide);have i1:atI (ls.map PV.int) 1=some (.int ls[1]):=dh ls 1 (l1▸by decide);have i2:atI (ls.map PV.int) 2=some (.int ls[2]):=dh ls 2 (l1▸by decide);have i24:atI (ls.map PV.int) 24=some (.int ls[24]):=dh ls 24 (l1▸by decide);have i25:atI (ls.map PV.int) 25=some (.int ls[25]):=dh ls 25 (l1▸by decide);have i26:atI (ls.map PV.int) 26=some (.int ls[26]):=dh ls 26 (l1▸by decide);have i27:atI (ls.map PV.int) 27=some (.int ls[27]):=dh ls 27 (l1▸by decide);have i28:atI (ls.map PV.int) 28=some (.int ls[28]):=dh ls 28 (l1▸by decide);have j:∀(k:Nat)(hk:k<16),atI (ms.map PV.int) (k:Int)=some (.int (ms[k]'(by rw[m1];exact hk))):=fun k hk=>dh ms k (by rw[m1];exact hk);have j0:=j 0 (by decide);have j1:=j 1 (by decide);have j2:=j 2 (by decide);have j3:=j 3 (by decide);have j4:=j 4 (by decide);have j5:=j 5 (by decide);have j6:=j 6 (by decide);have j7:=j 7 (by decide);have j8:=j 8 (by decide);have j9:=j 9 (by decide);have j10:=j 10 (by decide);have j11:=j 11 (by decide);have j12:=j 12 (by decide);generalize ls[0]=x0 at i0;generalize ls[1]=x1 at i1;generalize ls[2]=x2 at i2;generalize ls[24]=x24 at i24;generalize ls[25]=x25 at i25;generalize ls[26]=x26 at i26;generalize ls[27]=x27 at i27;generalize ls[28]=x28 at i28;generalize ms[0]=y0 at j0;generalize ms[1]=y1 at j1;generalize ms[2]=y2 at j2;generalize ms[3]=y3 at j3;generalize ms[4]=y4 at j4;generalize ms[5]=y5 at j5;generalize ms[6]=y6 at j6;generalize ms[7]=y7 at j7;generalize ms[8]=y8 at j8;generalize ms[9]=y9 at j9;generalize ms[10]=y10 at j10;generalize ms[11]=y11 at j11;generalize ms[12]=y12 at j12;clear j;have d2:∀z:Int,dS (.int z) (.int 2)=some (.int (z % 2)):=fun z=>gx (by decide);have d3:∀z:Int,dS (.int z) (.int 3)=some (.int (z % 3)):=fun z=>gx (by decide);have d5:∀z:Int,dS (.int z) (.int 5)=some (.int (z % 5)):=fun z=>gx (by decide);have d6:∀z:Int,dS (.int z) (.int 6)=some (.int (z % 6)):=fun z=>gx (by decide);have d24:∀z:Int,dS (.int z) (.int 24)=some (.int (z % 24)):=fun z=>gx (by decide);obtain⟨nms,hnms⟩:∃nms,nms=[n0,n1,n2,n3,n4,n5]:=⟨_,rfl⟩;have nin:∀x∈[n0,n1,n2,n3,n4,n5],x∈nms:=fun x h=>by rw[hnms];exact h
 obtain⟨w1,hw1,ew1⟩:=at6 x25;obtain⟨w2,hw2,ew2⟩:=at6 x27;obtain⟨a0,ha0,ea0⟩:=at6 x0;obtain⟨a1,ha1,ea1⟩:=at6 x1;obtain⟨t0,ht0,et0⟩:=at6 y0;obtain⟨t1,ht1,et1⟩:=at6 y1;obtain⟨w3,hw3,ew3⟩:=at6 y4;obtain⟨w4,hw4,ew4⟩:=at6 y8
 obtain⟨fst,hfst,ef⟩:∃x∈[n0,n1,n2,n3,n4,n5],atI ([n0,n1,n2,n3,n4,n5].map PV.str) (y10 % 5)=some (.str x):=by
  obtain⟨k,hk,hk9⟩:∃k:Nat,y10 % 5=(k:Int)/\k<5:=⟨(y10 % 5).toNat,by omega,by omega⟩;rw[hk];exact⟨_,MS (by simp;omega),JS [n0,n1,n2,n3,n4,n5] k (by simp;omega)⟩
 obtain⟨tb,etb⟩:=v3 "Hello" "Spell" y3;obtain⟨tc,etc⟩:=v3 "Bye" "Ann" y11;obtain⟨td,etd⟩:=v3 "Ann" "Hello" y12;have eb:(LS "bo")=mkS [98,111]:=by decide +kernel
 have ebb:(LS "bob")=mkS [98,111,98]:=by decide +kernel
 have ee:(LS "lee")=mkS [108,101,101]:=by decide +kernel
 obtain⟨wu,hu1,hu2,hu3,esu⟩:=DV nms [98,111] [98,111,98] (by decide +kernel) (by decide +kernel) a0 a1 (nin _ ha0) (nin _ ha1) x2;obtain⟨wt,hws,hwn,hwm,esl⟩:=DV nms [98,111] [108,101,101] (by decide +kernel) (by decide +kernel) t0 t1 (nin _ ht0) (nin _ ht1) y2;rw[← eb,← ebb] at esu;rw[← eb,← ee] at esl;obtain⟨ord,hord⟩:∃ord,ord=[n2,n0,n1,n3,n4,n5]:=⟨_,rfl⟩
 have hperm:∀x,x∈nms ↔ x∈ord:=fun x=>by
  rw[hord,hnms];simp only[LX,Mk,or_false];constructor
  ·rintro (h | h | h | h | h | h) <;> simp[h]
  ·rintro (h | h | h | h | h | h) <;> simp[h]
 have hond:ord.Nodup:=by
  rw[hord]
  have pm:List.Perm [n0,n1,n2,n3,n4,n5] [n2,n0,n1,n3,n4,n5]:=by
   show List.Perm ([n0,n1]++([n2]++[n3,n4,n5])) ([n2]++([n0,n1]++[n3,n4,n5]));rw[← Mf,← Mf];exact List.Perm.append_right _ List.perm_append_comm
  exact pm.nodup_iff.mp hnd
 have plain:∀(x:Str)(r:Room),x∈nms->(∀sp l,r≠.hours sp l)->RW nms r->Fit nms ord (x,r):=fun x r hx hr hw=>by
  obtain⟨k,hk,e⟩:=Na ((hperm x).mp hx);exact⟨k,hk,e,fun sp l e=>absurd e (hr sp l),hw⟩
 have ol:ord.length=6:=by rw[hord];rfl
 have dr:∀x∈[n0,n1,n3,n4],x∈ord.drop 1:=fun x hx=>by
  rw[hord];simp only[LX,Mk,or_false] at hx;rcases hx with h | h | h | h <;> simp[h]
 have three:∀(c:Nat)(nc:Str),nc∈ord.drop 1->atI ([n0,n1,n2,n3,n4,n5].map PV.str) (c:Int)=some (.str nc)->∀z:Int,∃(kk:Int)(t:Str),t∈ord.drop 1/\atI [PV.int 0,.int 1,.int c] (z % 3)=some (.int kk)/\atI ([n0,n1,n2,n3,n4,n5].map PV.str) kk=some (.str t):=fun c nc hc ec z=>by
  obtain⟨k,hk,hk9⟩:∃k:Nat,z % 3=(k:Int)/\k<3:=⟨(z % 3).toNat,by omega,by omega⟩;rw[hk]
  match k,hk9 with
  | 0,_=>exact⟨0,n0,dr _ (by simp),bf (n:=0) rfl rfl,bf (n:=0) rfl rfl⟩
  | 1,_=>exact⟨1,n1,dr _ (by simp),bf (n:=1) rfl rfl,bf (n:=1) rfl rfl⟩
  | 2,_=>exact⟨c,nc,hc,bf (n:=2) rfl rfl,ec⟩
 obtain⟨k6,ts,hts,ek6,ets⟩:=three 3 n3 (dr _ (by simp)) (bf (n:=3) rfl rfl) y6;obtain⟨k9,tl,htl,ek9,etl⟩:=three 4 n4 (dr _ (by simp)) (bf (n:=4) rfl rfl) y9;have ek6:atI [PV.int 0,.int 1,.int 3] (y6 % 3)=some (.int k6):=ek6;have ek9:atI [PV.int 0,.int 1,.int 4] (y9 % 3)=some (.int k9):=ek9
 obtain⟨R0,hR,nh,e8⟩:∃R0:Room,RW nms R0/\(∀sp l,R0≠.hours sp l)/\((x28 % 2=1/\R0.pv=.tup [.str "names",.str "Hello",.tup ((wu.map mw2).map pv2),.tup [.int 1,.str w1],.tup [.int 1,.str w2]])\/(¬ x28 % 2=1/\R0.pv=.tup [.str "menu",.str "Hello",.tup (kt.map pvk),.tup [.int (1+x24 % 2),.str w1],.tup [.int (1+x26 % 2),.str w2]])):=by
  by_cases c:x28 % 2=1
  ·exact⟨.names "Hello" (wu.map mw2) (1,w1) (1,w2),⟨⟨wu,rfl,hu1,hu2,hu3⟩,nin _ hw1,nin _ hw2,⟨by show (1:Int)<=1;omega,by show (1:Int)<=3;omega⟩,⟨by show (1:Int)<=1;omega,by show (1:Int)<=3;omega⟩⟩,(fun _ _ e=>by cases e),.inl ⟨c,rfl⟩⟩
  ·exact⟨.menu "Hello" (kt.map mk2) (1+x24 % 2,w1) (1+x26 % 2,w2),⟨⟨kt,rfl,hk1,fun k hk=>(hk2 k hk).imp id (nin _)⟩,nin _ hw1,nin _ hw2,⟨by show 1<=1+x24 % 2;omega,by show 1+x24 % 2<=3;omega⟩,⟨by show 1<=1+x26 % 2;omega,by show 1+x26 % 2<=3;omega⟩⟩,(fun _ _ e=>by cases e),.inr ⟨c,by rw[← AM];rfl⟩⟩
 have rwn:RW nms (.names tb (wt.map mw2) (1+y7 % 2,w3) (1,w4)):=⟨⟨wt,rfl,hws,hwn,hwm⟩,nin _ hw3,nin _ hw4,⟨by show 1<=1+y7 % 2;omega,by show 1+y7 % 2<=3;omega⟩,⟨by show (1:Int)<=1;omega,by show (1:Int)<=3;omega⟩⟩;have pvn:(Room.names tb (wt.map mw2) (1+y7 % 2,w3) (1,w4)).pv=.tup [.str "names",.str tb,.tup ((wt.map mw2).map pv2),.tup [.int (1+y7 % 2),.str w3],.tup [.int 1,.str w4]]:=rfl;have fit2:Fit nms ord (n2,.hours [(y5 % 24,24,ts)] tl):=⟨0,by omega,by simp[hord],fun sp l e=>by cases e;exact⟨htl,by simpa using hts⟩,trivial⟩;have pvh:(Room.hours [(y5 % 24,24,ts)] tl).pv=.tup [.str "hours",.tup [.tup [.int (y5 % 24),.int 24,.str ts]],.str tl]:=rfl;obtain⟨g1,e1⟩:=mV nms [] n0 R0 ord ⟨by simp,by simp⟩ (plain n0 _ (nin _ (by simp)) nh hR);have p1:=Dy [] n0 R0;have q1:=fun x=>jV [] n0 R0 x;generalize pj [] n0 R0=rs1 at g1 e1 p1 q1;obtain⟨g2,e2⟩:=mV nms rs1 n1 _ ord g1 (plain n1 _ (nin _ (by simp)) (fun _ _ e=>by cases e) rwn);have p2:=Dy rs1 n1 (.names tb (wt.map mw2) (1+y7 % 2,w3) (1,w4));have q2:=fun x=>jV rs1 n1 (.names tb (wt.map mw2) (1+y7 % 2,w3) (1,w4)) x;generalize pj rs1 n1 (.names tb (wt.map mw2) (1+y7 % 2,w3) (1,w4))=rs2 at g2 e2 p2 q2;obtain⟨g3,e3⟩:=mV nms rs2 n2 _ ord g2 fit2;have p3:=Dy rs2 n2 (.hours [(y5 % 24,24,ts)] tl);have q3:=fun x=>jV rs2 n2 (.hours [(y5 % 24,24,ts)] tl) x;generalize pj rs2 n2 (.hours [(y5 % 24,24,ts)] tl)=rs3 at g3 e3 p3 q3;obtain⟨g4,e4⟩:=mV nms rs3 n3 (.hand "Ann") ord g3 (plain n3 _ (nin _ (by simp)) (fun _ _ e=>by cases e) trivial);have p4:=o8 rs3 n3 (.hand "Ann");have q4:=fun x=>jV rs3 n3 (.hand "Ann") x;generalize pj rs3 n3 (.hand "Ann")=rs4 at g4 e4 p4 q4;obtain⟨g5,e5⟩:=mV nms rs4 n4 (.fin tc) ord g4 (plain n4 _ (nin _ (by simp)) (fun _ _ e=>by cases e) trivial);have p5:=o8 rs4 n4 (.fin tc);have q5:=fun x=>jV rs4 n4 (.fin tc) x;generalize pj rs4 n4 (.fin tc)=rs5 at g5 e5 p5 q5;obtain⟨g6,e6⟩:=mV nms rs5 n5 (.hand td) ord g5 (plain n5 _ (nin _ (by simp)) (fun _ _ e=>by cases e) trivial);have p6:=o8 rs5 n5 (.hand td);have q6:=fun x=>jV rs5 n5 (.hand td) x;generalize pj rs5 n5 (.hand td)=rs6 at g6 e6 p6 q6
 have hall:∀x∈ord,x∈FA.names rs6:=fun x hx=>by
  rw[q6,q5,q4,q3,q2,q1];rw[hord] at hx;simp only[LX,Mk,or_false] at hx;rcases hx with h | h | h | h | h | h <;> simp[h]
 have uH:House.pv ⟨fst,ltS LS5,rs6⟩=.dct [.inr "first",.inr "letters",.inr "rooms"] [.str fst,WO.ltPv LS5,aC rs6]:=by rw[← Fp];rfl
 have e1:rs1.length<=0+1:=e1;refine⟨⟨fst,ltS LS5,rs6⟩,nms,ord,⟨hond,by omega,g6,hall,fun x hx=>(hperm x).mp hx,fun x hx=>(hperm x).mpr hx,by rw[hnms];exact hnb,nin _ hfst,by rw[uH];simp,by show rs6.length<=20;omega,by rw[hnms];simp⟩,au rfl ?_⟩;rw[uH,← lp5];have k4:(Room.hand "Ann").pv=.tup [.str "hand",.str "Ann"]:=rfl;have k5:(Room.fin tc).pv=.tup [.str "end",.str tc]:=rfl;have k6':(Room.hand td).pv=.tup [.str "hand",.str td]:=rfl;have p0:aC []=.dct [] []:=rfl;rw[k4] at p4;rw[k5] at p5;rw[k6'] at p6;rw[p0] at p1;rw[pvn] at p2;rw[pvh] at p3;have u4:rs3.length<16777216:=by omega
 have u5:rs4.length<16777216:=by omega
 have u6:rs5.length<16777216:=by omega
 have b0:atI ([n0,n1,n2,n3,n4,n5].map PV.str) 0=some (.str n0):=bf (n:=0) rfl rfl;have b1:atI ([n0,n1,n2,n3,n4,n5].map PV.str) 1=some (.str n1):=bf (n:=1) rfl rfl;have b2:atI ([n0,n1,n2,n3,n4,n5].map PV.str) 2=some (.str n2):=bf (n:=2) rfl rfl;have b3:atI ([n0,n1,n2,n3,n4,n5].map PV.str) 3=some (.str n3):=bf (n:=3) rfl rfl;have b4:atI ([n0,n1,n2,n3,n4,n5].map PV.str) 4=some (.str n4):=bf (n:=4) rfl rfl;have b5:atI ([n0,n1,n2,n3,n4,n5].map PV.str) 5=some (.str n5):=bf (n:=5) rfl rfl;clear uH hall plain hperm hnb hnd fit2 dr three nin q1 q2 q3 q4 q5 q6 rwn hR at6;have ee':=Gk;simp only[hst] at f1;have j0:atI (ms.map PV.int) 0=some (.int y0):=j0;have j1:atI (ms.map PV.int) 1=some (.int y1):=j1;have j2:atI (ms.map PV.int) 2=some (.int y2):=j2;have j3:atI (ms.map PV.int) 3=some (.int y3):=j3;have j4:atI (ms.map PV.int) 4=some (.int y4):=j4;have j5:atI (ms.map PV.int) 5=some (.int y5):=j5;have j6:atI (ms.map PV.int) 6=some (.int y6):=j6;have j7:atI (ms.map PV.int) 7=some (.int y7):=j7;have j8:atI (ms.map PV.int) 8=some (.int y8):=j8;have j9:atI (ms.map PV.int) 9=some (.int y9):=j9;have j10:atI (ms.map PV.int) 10=some (.int y10):=j10;have j11:atI (ms.map PV.int) 11=some (.int y11):=j11;have j12:atI (ms.map PV.int) 12=some (.int y12):=j12;generalize E12.map e12=EE at *;generalize kt.map pvk=KT at *;generalize (wt.map mw2).map pv2=WT at *;generalize (wu.map mw2).map pv2=WU at *;generalize ([n0,n1,n2,n3,n4,n5].map PV.str)=N at *;generalize ls.map PV.int=LN at *;generalize ms.map PV.int=MN at *;simp[iO,PU.start,c0,c1,c2,en,el,em,ee'];rw[f1];simp[i24,i25,i26,i27,i28,d2,d6,ew1,ew2];rcases e8 with⟨c,pv0⟩|⟨c,pv0⟩
 ·rw[pv0] at p1
  simp[c,i0,i1,i2,i25,i27,d2,d6,ea0,ea1,ew1,ew2,pB,GY,esu];simp[j0,j1,j2,j3,j4,j5,j6,j7,j8,j9,d2,d3,d6,d24,et0,et1,pB,GY,esl,ew3,ew4,etb,ek6,ets,ek9,etl,b0,b1,b2,kU,p1,p2,p3];simp[iF rs3,u4,b3,p4];simp[iF rs4,u5,b4,j11,d2,etc,p5];simp[iF rs5,u6,b5,j12,d2,etd,p6];simp[j10,d5,ef,gR,kO]
 ·rw[pv0] at p1
  simp[c];simp[j0,j1,j2,j3,j4,j5,j6,j7,j8,j9,d2,d3,d6,d24,et0,et1,pB,GY,esl,ew3,ew4,etb,ek6,ets,ek9,etl,b0,b1,b2,kU,p1,p2,p3];simp[iF rs3,u4,b3,p4];simp[iF rs4,u5,b4,j11,d2,etc,p5];simp[iF rs5,u6,b5,j12,d2,etd,p6];simp[j10,d5,ef,gR,kO]
def sT(r b:Str)(w v:Int)(t:W):PV:=.tup [.str r,.str b,.int w,.int v,.str (mkS t)]
def beg(wt:List (W×Str))(w:W):W:=own ((wt.map (·.1)).map (cdH LS5)) (cdH LS5 w)
def TY:Room->W->Prop
 | .menu ..,t=>t=[]
 | .names _ ws _ _,t=>∀wt:List (W×Str),ws=wt.map mw2->(t=[]\/∃p∈wt,t <+: beg wt p.1/\t≠beg wt p.1)
 | _,t=>t=[]
theorem uZ(r:Room):TY r []:=by
 cases r with
 | names=>exact fun _ _=>.inl rfl
 | _=>exact rfl
def wrB:Room->Int
 | .menu _ _ wr _=>wr.1
 | .names _ _ wr _=>wr.1
 | _=>2
def waB:Room->Int
 | .menu _ _ _ wa=>wa.1
 | .names _ _ _ wa=>wa.1
 | _=>2
theorem RW.b{nms:List Str}{room:Room}(h:RW nms room):(1<=wrB room/\wrB room<=3)/\1<=waB room/\waB room<=3:=by
 cases room with
 | menu t ks wr wa=>exact⟨h.2.2.2.1,h.2.2.2.2⟩
 | names t ks wr wa=>exact⟨h.2.2.2.1,h.2.2.2.2⟩
 | _=>exact⟨⟨show (1:Int)<=2 by decide,show (2:Int)<=3 by decide⟩,show (1:Int)<=2 by decide,show (2:Int)<=3 by decide⟩
structure OK(h:House)(nms:List Str)(r b:Str)(room:Room)(w v:Int)(t:W):Prop where
 lk:FA.lookR h.rooms r=some room
 nh:∀sp l,room≠.hours sp l
 rn:r∈nms
 bn:b=""\/b∈nms
 tl:t.length<=50
 ty:TY room t
 hw:0<=w/\w<wrB room
 hv:0<=v/\v<waB room
section
variable{h : House}{nms ord : List Str}(hg : HG h nms ord)(hour : Int)
include hg
theorem hRo:gIx h.pv (.str "rooms")=some (aC h.rooms):=by simp[House.pv]
theorem uk(r:Str)(room:Room)(lk:FA.lookR h.rooms r=some room):RW nms room:=by
 obtain⟨_,_,_,_,hw⟩:=hg.g.ok _ (wd h.rooms r room lk);exact hw
theorem cm (x:Str) (hx:x∈nms):∃y room,comeGo h.rooms hour 20 x=some y/\∀b:Str,(b=""\/b∈nms)->OK h nms y b room 0 0 []:=by
 obtain⟨k,hk,ek⟩:=Na (hg.nm x hx);obtain⟨y,r,ey,hr,hy,hh⟩:=xG nms ord h.rooms hg.nd hg.g hg.all hour 20 k hk (by have:=hg.ol;omega);rw[ek] at ey;have bb:=(uk hg y r hr).b;exact⟨y,r,ey,fun b hb=>⟨hr,hh,hg.mn y hy,hb,by simp,uZ r,⟨by omega,by omega⟩,⟨by omega,by omega⟩⟩⟩
theorem arr (x:Str) (hx:x∈nms) (b:Str) (hb:b=""\/b∈nms):∃y room,OK h nms y b room 0 0 []/\bT [h.pv,.int hour,.str x,.str b]=some (sT y b 0 0 []):=by
 obtain⟨y,room,e,ok⟩:=cm hg hour x hx;refine⟨y,room,ok b hb,?_⟩;have k:=Do h.pv h.rooms (hRo hg) hour 20 x y (by omega) e;refine au rfl ?_;have em:=fh;have u:sT y b 0 0 []=.tup [.str y,.str b,.int 0,.int 0,.str ""]:=by unfold sT;rw[← em]
 rw[u];simp[m6,PU.start,k]
theorem wrong(r b:Str)(w v:Int)(t:W)(room:Room)(ok:OK h nms r b room w v t)(m:Int)(x:Str)(h3:gIx room.pv (.int 3)=some (.tup [.int m,.str x]))(hm:wrB room=m)(hx:x∈nms) :
  ∃r' b' w' v' room',OK h nms r' b' room' w' v' []/\bG [h.pv,.int hour,sT r b w v t]=some (sT r' b' w' v' []):=by
 have n2:=FA.ix_rooms h.rooms r;rw[ok.lk] at n2;have n2:gIx (aC h.rooms) (.str r)=some room.pv:=n2;have hR:=hRo hg;have em:=fh;have u:∀r b w v,sT r b w v []=.tup [.str r,.str b,.int w,.int v,.str ""]:=fun r b w v=>by unfold sT;rw[← em]
 by_cases hw:w+1=m
 ·obtain⟨y,room',ok',e1⟩:=arr hg hour x hx r (.inr ok.rn)
  refine⟨y,r,0,0,room',ok',au rfl ?_⟩;unfold sT at e1 ⊢;generalize mkS t=T at *;generalize room.pv=RP at *;generalize aC h.rooms=RM at *;generalize h.pv=H at *;simp[dA,PU.start,hR,n2,h3,hw,e1]
 ·have hw1:=ok.hw
  refine⟨r,b,w+1,v,room,⟨ok.lk,ok.nh,ok.rn,ok.bn,by simp,uZ room,⟨by omega,by omega⟩,ok.hv⟩,au rfl ?_⟩;rw[u];unfold sT;generalize mkS t=T at *;generalize room.pv=RP at *;generalize aC h.rooms=RM at *;generalize h.pv=H at *;simp[dA,PU.start,hR,n2,h3,hw]
theorem wait(r b:Str)(w v:Int)(t:W)(room:Room)(ok:OK h nms r b room w v t)(m:Int)(x:Str)(h3:gIx room.pv (.int 4)=some (.tup [.int m,.str x]))(hm:waB room=m)(hx:x∈nms) :
  ∃r' b' w' v' room',OK h nms r' b' room' w' v' []/\jt [h.pv,.int hour,sT r b w v t]=some (sT r' b' w' v' []):=by
 have n2:=FA.ix_rooms h.rooms r;rw[ok.lk] at n2;have n2:gIx (aC h.rooms) (.str r)=some room.pv:=n2;have hR:=hRo hg;have em:=fh;have u:∀r b w v,sT r b w v []=.tup [.str r,.str b,.int w,.int v,.str ""]:=fun r b w v=>by unfold sT;rw[← em]
 by_cases hw:v+1=m
 ·obtain⟨y,room',ok',e1⟩:=arr hg hour x hx r (.inr ok.rn)
  refine⟨y,r,0,0,room',ok',au rfl ?_⟩;unfold sT at e1 ⊢;generalize mkS t=T at *;generalize room.pv=RP at *;generalize aC h.rooms=RM at *;generalize h.pv=H at *;simp[jl,PU.start,hR,n2,h3,hw,e1]
 ·have hw1:=ok.hv
  refine⟨r,b,w,v+1,room,⟨ok.lk,ok.nh,ok.rn,ok.bn,by simp,uZ room,ok.hw,⟨by omega,by omega⟩⟩,au rfl ?_⟩;rw[u];unfold sT;generalize mkS t=T at *;generalize room.pv=RP at *;generalize aC h.rooms=RM at *;generalize h.pv=H at *;simp[jl,PU.start,hR,n2,h3,hw]
end
theorem HH(a b:Nat):gEq (WO.sg a) (WO.sg b)=some (.bl (decide (a=b))):=by
 unfold WO.sg;rw[yB]
 congr 2
 exact decide_eq_decide.mpr ⟨fun e=>by injection e with e;injection e with e;injection e,fun e=>by rw[e]⟩
theorem K1:PV.str "w"=WO.sg 119:=by kernel_rfl
theorem JA (c:Nat):gEq (WO.sg c) (.str "w")=some (.bl (decide (c=119))):=by rw[K1,HH]
section
variable{h : House}{nms ord : List Str}(hg : HG h nms ord)(hour : Int)
theorem Bw(r b:Str)(w v:Int)(t:W)(S D X:PV)(h1:aD [h.pv,.str r]=some D)(h2:bX [h.pv,.int hour,D,sT r b w v t,S]=some X):iC [h.pv,.int hour,sT r b w v t,S]=some X:=by
 have s0:gIx (sT r b w v t) (.int 0)=some (.str r):=rfl;generalize sT r b w v t=S at *;refine au rfl ?_;simp[wQ,PU.start,s0,h1,h2]
include hg
structure Goes(h:House)(nms:List Str)(hour:Int)(D:PV)(st:PV)(c:Nat)(r' b':Str)(w' v':Int)(t':W)(room':Room):Prop where
 ok:OK h nms r' b' room' w' v' t'
 fo:bX [h.pv,.int hour,D,st,WO.sg c]=some (sT r' b' w' v' t')
theorem sW (r b:Str) (w v:Int) (t:W) (room:Room) (ok:OK h nms r b room w v t) (c:Nat) (k:Str) (h0:gIx room.pv (.int 0)=some (.str k)) (hk:k="hand"\/k="end") (D:PV):Goes h nms hour D (sT r b w v t) c r b w v t room:=by
 have n2:=FA.ix_rooms h.rooms r;rw[ok.lk] at n2;have n2:gIx (aC h.rooms) (.str r)=some room.pv:=n2;have hR:=hRo hg;have s0:gIx (sT r b w v t) (.int 0)=some (.str r):=rfl;refine⟨ok,au rfl ?_⟩;generalize sT r b w v t=S at *;generalize room.pv=RP at *;generalize aC h.rooms=RM at *;generalize h.pv=H at *;rcases hk with rfl | rfl
 ·simp[eZ,PU.start,s0,hR,n2,h0]
 ·simp[eZ,PU.start,s0,hR,n2,h0]
theorem B2 (r b:Str) (w v:Int) (t:W) (room:Room) (ok:OK h nms r b room w v t) (k:Str) (h0:gIx room.pv (.int 0)=some (.str k)) (hk:k="menu"\/k="names") (m:Int) (x:Str) (h4:gIx room.pv (.int 4)=some (.tup [.int m,.str x])) (hm:waB room=m) (hx:x∈nms) (D:PV):∃r' b' w' v' t' room',Goes h nms hour D (sT r b w v t) 119 r' b' w' v' t' room':=by
 obtain⟨r',b',w',v',room',ok',e1⟩:=wait hg hour r b w v t room ok m x h4 hm hx;have n2:=FA.ix_rooms h.rooms r;rw[ok.lk] at n2;have n2:gIx (aC h.rooms) (.str r)=some room.pv:=n2;have hR:=hRo hg;have s0:gIx (sT r b w v t) (.int 0)=some (.str r):=rfl;have q:=JA 119;have cw:c_WAIT=.str "w":=rfl;refine⟨r',b',w',v',[],room',ok',au rfl ?_⟩;generalize sT r b w v t=S at *;generalize sT r' b' w' v' []=S' at *;generalize room.pv=RP at *;generalize aC h.rooms=RM at *;generalize h.pv=H at *;generalize WO.sg 119=G at *;rcases hk with rfl | rfl
 ·simp[eZ,PU.start,s0,hR,n2,h0,cw,q,e1]
 ·simp[eZ,PU.start,s0,hR,n2,h0,cw,q,e1]
theorem m9 (r b:Str) (w v:Int) (t:W) (room:Room) (ok:OK h nms r b room w v t) (k:Str) (h0:gIx room.pv (.int 0)=some (.str k)) (hk:k="menu"\/k="names") (D X:PV) (c:Nat) (hc:c≠119) (e:e9 [h.pv,.int hour,D,sT r b w v t,WO.sg c]=some X):bX [h.pv,.int hour,D,sT r b w v t,WO.sg c]=some X:=by
 have n2:=FA.ix_rooms h.rooms r;rw[ok.lk] at n2;have n2:gIx (aC h.rooms) (.str r)=some room.pv:=n2;have hR:=hRo hg;have s0:gIx (sT r b w v t) (.int 0)=some (.str r):=rfl;have q:=JA c;rw[decide_eq_false hc] at q;have cw:c_WAIT=.str "w":=rfl;generalize sT r b w v t=S at *;generalize room.pv=RP at *;generalize aC h.rooms=RM at *;generalize h.pv=H at *;generalize WO.sg c=G at *;refine au rfl ?_;rcases hk with rfl | rfl
 ·simp[eZ,PU.start,s0,hR,n2,h0,cw,q,e]
 ·simp[eZ,PU.start,s0,hR,n2,h0,cw,q,e]
end
section
variable{h : House}{nms ord : List Str}(hg : HG h nms ord)(hour : Int)
theorem AW(r b:Str)(w v:Int)(t:W)(c:Nat)(ht:t.length<=100)(ks:List Key)(ps:List PV)(F:W->Option PV)(T:Tells ks ps F)(hF:F (t++[c])=none)(X:PV)(e:bG [h.pv,.int hour,sT r b w v t]=some X):e9 [h.pv,.int hour,.dct ks ps,sT r b w v t,WO.sg c]=some X:=by
 have ad:fI (.str (mkS t)) (WO.sg c)=some (.str (mkS (t++[c]))):=ir t c (by omega);have ni:=T.notIn (t++[c]);rw[hF] at ni;have ni:iA (.str (mkS (t++[c]))) (.dct ks ps)=some (.bl true):=ni;have s4:gIx (sT r b w v t) (.int 4)=some (.str (mkS t)):=rfl;generalize sT r b w v t=S at *;generalize PV.dct ks ps=D at *;generalize WO.sg c=G at *;generalize mkS (t++[c])=TT at *;generalize h.pv=H at *;refine au rfl ?_;simp[gg,PU.start,s4,ad,ni,e]
theorem Cy(r b:Str)(w v:Int)(t:W)(c:Nat)(ht:t.length<=100)(ks:List Key)(ps:List PV)(F:W->Option PV)(T:Tells ks ps F)(hF:F (t++[c])=some .non):e9 [h.pv,.int hour,.dct ks ps,sT r b w v t,WO.sg c]=some (sT r b w v (t++[c])):=by
 have ad:fI (.str (mkS t)) (WO.sg c)=some (.str (mkS (t++[c]))):=ir t c (by omega);have ni:=T.notIn (t++[c]);have ix:=T.ix (t++[c]);rw[hF] at ni ix;have ni:iA (.str (mkS (t++[c]))) (.dct ks ps)=some (.bl false):=ni;have s0:gIx (sT r b w v t) (.int 0)=some (.str r):=rfl;have s1:gIx (sT r b w v t) (.int 1)=some (.str b):=rfl;have s2:gIx (sT r b w v t) (.int 2)=some (.int w):=rfl;have s3:gIx (sT r b w v t) (.int 3)=some (.int v):=rfl;have s4:gIx (sT r b w v t) (.int 4)=some (.str (mkS t)):=rfl;have q:gEq .non (.str "back")=some (.bl false):=rfl;have n:pV .non .non=some (.bl true):=rfl;generalize sT r b w v t=S at *;generalize PV.dct ks ps=D at *;generalize WO.sg c=G at *;unfold sT;generalize mkS (t++[c])=TT at *;generalize h.pv=H at *;refine au rfl ?_;simp[gg,PU.start,s0,s1,s2,s3,s4,ad,ni,ix,q,n]
theorem AX (r b:Str) (w v:Int) (t:W) (c:Nat) (ht:t.length<=100) (ks:List Key) (ps:List PV) (F:W->Option PV) (T:Tells ks ps F) (x:Str) (hF:F (t++[c])=some (.str x)) (h1:x≠"back") (h2:x≠"") (X:PV) (e:bT [h.pv,.int hour,.str x,.str r]=some X):e9 [h.pv,.int hour,.dct ks ps,sT r b w v t,WO.sg c]=some X:=by
 have ad:fI (.str (mkS t)) (WO.sg c)=some (.str (mkS (t++[c]))):=ir t c (by omega);have ni:=T.notIn (t++[c]);have ix:=T.ix (t++[c]);rw[hF] at ni ix;have ni:iA (.str (mkS (t++[c]))) (.dct ks ps)=some (.bl false):=ni;have s0:gIx (sT r b w v t) (.int 0)=some (.str r):=rfl;have s1:gIx (sT r b w v t) (.int 1)=some (.str b):=rfl;have s4:gIx (sT r b w v t) (.int 4)=some (.str (mkS t)):=rfl;have n:pV (.str x) .non=some (.bl false):=rfl;generalize sT r b w v t=S at *;generalize PV.dct ks ps=D at *;generalize WO.sg c=G at *;generalize mkS (t++[c])=TT at *;generalize h.pv=H at *;refine au rfl ?_;simp[gg,PU.start,s0,s1,s4,ad,ni,ix,h1,h2,n,e]
theorem zE (r b:Str) (w v:Int) (t:W) (c:Nat) (ht:t.length<=100) (ks:List Key) (ps:List PV) (F:W->Option PV) (T:Tells ks ps F) (hF:F (t++[c])=some (.str "back")) (h2:b≠"") (X:PV) (e:bT [h.pv,.int hour,.str b,.str r]=some X):e9 [h.pv,.int hour,.dct ks ps,sT r b w v t,WO.sg c]=some X:=by
 have ad:fI (.str (mkS t)) (WO.sg c)=some (.str (mkS (t++[c]))):=ir t c (by omega);have ni:=T.notIn (t++[c]);have ix:=T.ix (t++[c]);rw[hF] at ni ix;have ni:iA (.str (mkS (t++[c]))) (.dct ks ps)=some (.bl false):=ni;have s0:gIx (sT r b w v t) (.int 0)=some (.str r):=rfl;have s1:gIx (sT r b w v t) (.int 1)=some (.str b):=rfl;have s4:gIx (sT r b w v t) (.int 4)=some (.str (mkS t)):=rfl;have n:pV (.str b) .non=some (.bl false):=rfl;generalize sT r b w v t=S at *;generalize PV.dct ks ps=D at *;generalize WO.sg c=G at *;generalize mkS (t++[c])=TT at *;generalize h.pv=H at *;refine au rfl ?_;simp[gg,PU.start,s0,s1,s4,ad,ni,ix,h2,n,e]
theorem qZ (r:Str) (w v:Int) (t:W) (c:Nat) (ht:t.length<=100) (ks:List Key) (ps:List PV) (F:W->Option PV) (T:Tells ks ps F) (hF:F (t++[c])=some (.str "back")) (X:PV) (e:bG [h.pv,.int hour,sT r "" w v t]=some X):e9 [h.pv,.int hour,.dct ks ps,sT r "" w v t,WO.sg c]=some X:=by
 have ad:fI (.str (mkS t)) (WO.sg c)=some (.str (mkS (t++[c]))):=ir t c (by omega);have ni:=T.notIn (t++[c]);have ix:=T.ix (t++[c]);rw[hF] at ni ix;have ni:iA (.str (mkS (t++[c]))) (.dct ks ps)=some (.bl false):=ni;have s0:gIx (sT r "" w v t) (.int 0)=some (.str r):=rfl;have s1:gIx (sT r "" w v t) (.int 1)=some (.str ""):=rfl;have s4:gIx (sT r "" w v t) (.int 4)=some (.str (mkS t)):=rfl;have n:pV (.str "") .non=some (.bl false):=rfl;generalize sT r "" w v t=S at *;generalize PV.dct ks ps=D at *;generalize WO.sg c=G at *;generalize mkS (t++[c])=TT at *;generalize h.pv=H at *;refine au rfl ?_;simp[gg,PU.start,s0,s1,s4,ad,ni,ix,n,e]
def kw(kt:List (Nat×Str)):List (W×Str):=kt.map fun p=>([p.1],p.2)
def kF(kt:List (Nat×Str))(p:W):Option PV:=((kw kt).find? fun q=>decide (q.1=p)).map fun q=>.str q.2
theorem jH:∀(wt:List (W×Str)),Tells (wt.map fun p=>.inr (mkS p.1)) (wt.map fun p=>.str p.2) fun p=>(wt.find? fun q=>decide (q.1=p)).map fun q=>.str q.2
 | []=>⟨rfl,fun p=>rfl,by simp⟩
 | q::wt=>⟨by simp,fun p=>by
   rw[LH,LH,mP]
   by_cases h:q.1=p
   ·rw[if_pos (by rw[h]),RL (by simpa using h)]
    rfl
   ·rw[if_neg fun z=>h (mkS_inj (OD z)),OP (by simpa using h)]
    exact(jH wt).at_ p,fun x hx=>by
   obtain⟨p,_,rfl⟩:=LV.mp hx;simp[noFn]⟩
theorem Cv(kt:List (Nat×Str))(c:Nat):kF kt [c]=(kt.find? fun q=>decide (q.1=c)).map fun q=>.str q.2:=by
 unfold kF kw;rw[List.find?_map,Option.map_map]
 have:((fun q:W×Str=>decide (q.1=[c])) ∘ fun p:Nat×Str=>([p.1],p.2))=fun q:Nat×Str=>decide (q.1=c):=by
  funext q
  simp
 rw[this];rfl
include hg in
theorem lN(r:Str)(room:Room)(lk:FA.lookR h.rooms r=some room)(t:Str)(kt:List (Nat×Str))(wr wa:Int×Str)(hr:room=.menu t (kt.map mk2) wr wa)(hs:Ni (kt.map (·.1)) K12):aD [h.pv,.str r]=some (wtD (kw kt)):=by
 have n2:=FA.ix_rooms h.rooms r;rw[lk,hr] at n2;have n2:gIx (aC h.rooms) (.str r)=some (.tup [.str "menu",.str t,.tup ((kt.map mk2).map pv2),.tup [.int wr.1,.str wr.2],.tup [.int wa.1,.str wa.2]]):=n2;have hR:=hRo hg
 have e:PV.tup ((kt.map mk2).map pv2)=Ar (kw kt):=by
  rw[AM];unfold Ar kw;rw[Lh];rfl
 have kl:kt.length<=12:=by
  have h1:=hs.length_le;have h2:K12.length=12:=rfl;rw[LJ] at h1;omega
 have d:=xp (kw kt) (by simp[kw];omega) (by
  unfold kw;rw[Lh];have nd:=hs.nodup FJ;have:(List.map ((fun x:W×Str=>x.1) ∘ fun p:Nat×Str=>([p.1],p.2)) kt)=(kt.map (·.1)).map (fun c=>[c]):=by rw[Lh];rfl
  rw[this]
  have inj:∀l:List Nat,l.Nodup->(l.map fun c=>[c]).Nodup:=by
   intro l
   induction l with
   | nil=>intro _;simp
   | cons a l ih=>
    intro h1;rw[MB] at h1;rw[LH,MB];refine⟨fun z=>?_,ih h1.2⟩;obtain⟨b,hb,e⟩:=LV.mp z;have:b=a:=by simpa using e
    subst this;exact h1.1 hb
  exact inj _ nd)
 rw[e] at n2;generalize Ar (kw kt)=KP at *;generalize wtD (kw kt)=KD at *;generalize aC h.rooms=RM at *;generalize h.pv=H at *;refine au rfl ?_;simp[du,PU.start,hR,n2,d]
include hg in
theorem wO(r b:Str)(w v:Int)(room:Room)(tt:W)(ok:OK h nms r b room w v tt)(t:Str)(ks:List (Str×Str))(wr wa:Int×Str)(hr:room=.menu t ks wr wa)(c:Nat)(hc:c≠119):∃D r' b' w' v' t' room',aD [h.pv,.str r]=some D/\Goes h nms hour D (sT r b w v tt) c r' b' w' v' t' room':=by
 have hw:=uk hg r room ok.lk;rw[hr] at hw;obtain⟨⟨kt,rfl,hs,ht⟩,hwr,hwa,_,_⟩:=hw;have tt0:tt=[]:=by have:=ok.ty;rw[hr] at this;exact this
 subst tt0;have ew:=lN hg r room ok.lk t kt wr wa hr hs;have TL:=jH (kw kt);have TLf:∀c,((kw kt).find? fun q=>decide (q.1=[c])).map (fun q=>PV.str q.2)=(kt.find? fun q=>decide (q.1=c)).map fun q=>.str q.2:=Cv kt;have h0:gIx room.pv (.int 0)=some (.str "menu"):=by rw[hr];rfl
 have h3:gIx room.pv (.int 3)=some (.tup [.int wr.1,.str wr.2]):=by rw[hr];rfl
 obtain⟨r1,b1,w1,v1,room1,ok1,e1⟩:=wrong hg hour r b w v [] room ok wr.1 wr.2 h3 (by rw[hr];rfl) hwr;cases hf:kt.find? fun q=>decide (q.1=c) with
 | none=>
  refine⟨_,r1,b1,w1,v1,[],room1,ew,ok1,m9 hg hour r b w v [] room ok "menu" h0 (.inl rfl) _ _ c hc ?_⟩;exact AW hour r b w v [] c (by simp) _ _ _ TL (by show ((kw kt).find? fun q=>decide (q.1=[c])).map (fun q=>PV.str q.2)=none;rw[TLf,hf];rfl) _ e1
 | some p=>
  have pm:=NH hf
  have hF:((kw kt).find? fun q=>decide (q.1=[]++[c])).map (fun q=>PV.str q.2)=some (.str p.2):=by
   show ((kw kt).find? fun q=>decide (q.1=[c])).map (fun q=>PV.str q.2)=_;rw[TLf,hf];rfl
  by_cases hb:p.2=LS "back"
  ·by_cases hbb:b=LS ""
   ·subst hbb
    rw[hb] at hF;refine⟨_,r1,b1,w1,v1,[],room1,ew,ok1,m9 hg hour r "" w v [] room ok "menu" h0 (.inl rfl) _ _ c hc ?_⟩;exact qZ hour r w v [] c (by simp) _ _ _ TL hF _ e1
   ·have hbn:b∈nms:=ok.bn.resolve_left hbb
    obtain⟨y,room2,ok2,a1⟩:=arr hg hour b hbn r (.inr ok.rn);rw[hb] at hF;refine⟨_,y,r,0,0,[],room2,ew,ok2,m9 hg hour r b w v [] room ok "menu" h0 (.inl rfl) _ _ c hc ?_⟩;exact zE hour r b w v [] c (by simp) _ _ _ TL hF hbb _ a1
  ·have hpn:p.2∈nms:=(ht p pm).resolve_left hb
   obtain⟨y,room2,ok2,a1⟩:=arr hg hour p.2 hpn r (.inr ok.rn);refine⟨_,y,r,0,0,[],room2,ew,ok2,m9 hg hour r b w v [] room ok "menu" h0 (.inl rfl) _ _ c hc ?_⟩;exact AX hour r b w v [] c (by simp) _ _ _ TL p.2 hF hb (hg.nb p.2 hpn).2 _ a1
end
theorem Dr{a:W}(ha:a∈W8):(cdH LS5 a).length<=5/\1<=(cdH LS5 a).length:=by
 have:=As a ha;simp[cdH,cdW];omega
structure WT(wt:List (W×Str))(nms:List Str):Prop where
 sb:Ni (wt.map (·.1)) W8
 ne:wt≠[]
 tn:∀p∈wt,p.2∈nms
section
variable{wt : List (W×Str)}{nms : List Str}(k : WT wt nms)
include k
theorem WT.w8:∀p∈wt,p.1∈W8:=fun p hp=>k.sb.subset (LV.mpr ⟨p,hp,rfl⟩)
theorem WT.nd:(wt.map (·.1)).Nodup:=k.sb.nodup Hu
theorem WT.len:wt.length<=8:=by
 have h1:=k.sb.length_le;have h2:W8.length<=8:=by decide
 rw[LJ] at h1;omega
theorem WT.ok:∀p∈wt,p.1.length<=12/\∀c∈p.1,(WO.keyL LS5 c).isSome=true:=fun p hp=>⟨by have:=As p.1 (k.w8 p hp);omega,Fq p.1 (k.w8 p hp)⟩
theorem WT.nc:(wt.map fun p=>cdH LS5 p.1).Nodup:=by
 have:((wt.map (·.1)).map (cdH LS5)).Nodup:=(k.sb.map (cdH LS5)).nodup Iu;rw[Lh] at this;exact this
theorem WT.bs:(∀x∈yt LS5 wt,x.1≠[])/\∀x∈yt LS5 wt,∀y∈yt LS5 wt,x.1 <+: y.1->x=y:=⟨J8,J6 Ir (fun p hp=>(k.ok p hp).2) k.nc⟩
theorem WT.mem{p:W×Str}(hp:p∈wt):(beg wt p.1,p.2)∈yt LS5 wt:=LV.mpr ⟨p,hp,rfl⟩
theorem WT.inv{x:W×Str}(hx:x∈yt LS5 wt):∃p∈wt,x=(beg wt p.1,p.2):=by
 obtain⟨p,hp,rfl⟩:=LV.mp hx;exact⟨p,hp,rfl⟩
theorem WT.pre{p:W×Str}(hp:p∈wt):beg wt p.1 <+: cdH LS5 p.1:=by unfold beg;exact ot _ _
theorem WT.bl{p:W×Str}(hp:p∈wt):(beg wt p.1).length<=5:=by
 have h1:=NF (k.pre hp);have h2:=(Dr (k.w8 p hp)).1;omega
end
theorem rT(b ty:W):b.take ty.length=ty ↔ ty <+: b:=⟨fun e=>by rw[← e];exact O3 _ _,fun e=>(OI.mp e).symm⟩
def fits(wt:List (W×Str))(ty:W)(q:W×Str):Bool:=decide ((beg wt q.1).take ty.length=ty)
theorem Ck:∀(a b:List (W×Str)),a.map mw2=b.map mw2->a=b:=by
 intro a
 induction a with
 | nil=>intro b e;cases b with | nil=>rfl | cons _ _=>cases e
 | cons x a ih=>
  intro b e;cases b with
  | nil=>cases e
  | cons y b=>
   rw[LH,LH] at e;injection e with e1 e2;have e3:x.1=y.1:=mkS_inj (show (mw2 x).1=(mw2 y).1 by rw[e1]);have e4:x.2=y.2:=(show (mw2 x).2=(mw2 y).2 by rw[e1]);rw[ih b e2,QB e3 e4]
section
variable{h : House}{nms ord : List Str}(hg : HG h nms ord)(hour : Int)
include hg
theorem Ex (r:Str) (room:Room) (lk:FA.lookR h.rooms r=some room) (t:Str) (wt:List (W×Str)) (wr wa:Int×Str) (hr:room=.names t (wt.map mw2) wr wa):gIx (aC h.rooms) (.str r)=some (.tup [.str "names",.str t,Ar wt,.tup [.int wr.1,.str wr.2],.tup [.int wa.1,.str wa.2]]):=by
 have n2:=FA.ix_rooms h.rooms r;rw[lk,hr] at n2;rw[← Fi];exact n2
theorem kT(r:Str)(room:Room)(lk:FA.lookR h.rooms r=some room)(t:Str)(ks:List (Str×Str))(wr wa:Int×Str)(hr:room=.names t ks wr wa):∃wt,ks=wt.map mw2/\WT wt nms/\wr.2∈nms/\wa.2∈nms:=by
 have hw:=uk hg r room lk;rw[hr] at hw;obtain⟨⟨wt,e,hs,hne,ht⟩,hwr,hwa,_,_⟩:=hw;exact⟨wt,e,⟨hs,hne,ht⟩,hwr,hwa⟩
theorem g9(r:Str)(room:Room)(lk:FA.lookR h.rooms r=some room)(t:Str)(wt:List (W×Str))(wr wa:Int×Str)(hr:room=.names t (wt.map mw2) wr wa)(k:WT wt nms):∃ks ps,Tells ks ps (Bh (yt LS5 wt))/\aD [h.pv,.str r]=some (.dct ks ps):=by
 obtain⟨ks,ps,tl,e⟩:=zt LS5 wt (by have:=k.len;omega) k.ok k.nd;have d:=xp wt (by have:=k.len;omega) k.nd;have n2:=Ex hg r room lk t wt wr wa hr;have hR:=hRo hg;have hL:=hg.lets;refine⟨ks,ps,tl,au rfl ?_⟩;generalize Ar wt=WP at *;generalize wtD wt=WD at *;generalize WO.ltPv LS5=LL at *;generalize aC h.rooms=RM at *;generalize h.pv=H at *;simp[du,PU.start,hR,n2,hL,d,e]
theorem uu(r b:Str)(w v:Int)(room:Room)(tt:W)(ok:OK h nms r b room w v tt)(t:Str)(ks:List (Str×Str))(wr wa:Int×Str)(hr:room=.names t ks wr wa)(c:Nat)(hc:c≠119):∃D r' b' w' v' t' room',aD [h.pv,.str r]=some D/\Goes h nms hour D (sT r b w v tt) c r' b' w' v' t' room':=by
 obtain⟨wt,rfl,k,hwr,hwa⟩:=kT hg r room ok.lk t ks wr wa hr;obtain⟨dk,dp,TL,ew⟩:=g9 hg r room ok.lk t wt wr wa hr k;have h0:gIx room.pv (.int 0)=some (.str "names"):=by rw[hr];rfl
 have h3:gIx room.pv (.int 3)=some (.tup [.int wr.1,.str wr.2]):=by rw[hr];rfl
 have tl:=ok.tl;obtain⟨b1,b2⟩:=k.bs;cases hf:wt.find? (fits wt (tt++[c])) with
 | none=>
  obtain⟨r1,bb1,w1,v1,room1,ok1,e1⟩:=wrong hg hour r b w v tt room ok wr.1 wr.2 h3 (by rw[hr];rfl) hwr;refine⟨_,r1,bb1,w1,v1,[],room1,ew,ok1,m9 hg hour r b w v tt room ok "names" h0 (.inr rfl) _ _ c hc ?_⟩;refine AW hour r b w v tt c (by omega) _ _ _ TL ?_ _ e1;refine uT b1 fun x hx _ hp=>?_;obtain⟨p,hp2,rfl⟩:=k.inv hx;have:=SZ.mp hf p hp2;exact this (decide_eq_true ((rT _ _).mpr hp))
 | some p=>
  have pm:=NH hf;have pf:fits wt (tt++[c]) p=true:=Qb hf;have pp:(tt++[c]) <+: beg wt p.1:=(rT _ _).mp (of_decide_eq_true pf)
  by_cases hb:beg wt p.1=tt++[c]
  ·have hpn:=k.tn p pm
   obtain⟨y,room2,ok2,a1⟩:=arr hg hour p.2 hpn r (.inr ok.rn);refine⟨_,y,r,0,0,[],room2,ew,ok2,m9 hg hour r b w v tt room ok "names" h0 (.inr rfl) _ _ c hc ?_⟩;refine AX hour r b w v tt c (by omega) _ _ _ TL p.2 ?_ (hg.nb p.2 hpn).1 (hg.nb p.2 hpn).2 _ a1;rw[← hb];exact yx b1 b2 (k.mem pm)
  ·have bl:=k.bl pm
   have ttl:=NF pp;refine⟨_,r,b,w,v,tt++[c],room,ew,⟨ok.lk,ok.nh,ok.rn,ok.bn,by omega,?_,ok.hw,ok.hv⟩,m9 hg hour r b w v tt room ok "names" h0 (.inr rfl) _ _ c hc ?_⟩
   ·rw[hr]
    intro wt' e';have:=Ck wt wt' e';subst this;exact .inr ⟨p,pm,pp,fun z=>hb z.symm⟩
   ·refine Cy hour r b w v tt c (by omega) _ _ _ TL ?_
    exact yw b1 b2 (k.mem pm) (by simp) pp (fun z=>hb z.symm)
theorem KM(r b:Str)(w v:Int)(room:Room)(tt:W)(ok:OK h nms r b room w v tt)(c:Nat):∃D r' b' w' v' t' room',aD [h.pv,.str r]=some D/\Goes h nms hour D (sT r b w v tt) c r' b' w' v' t' room':=by
 have n2:=FA.ix_rooms h.rooms r;rw[ok.lk] at n2;have n2:gIx (aC h.rooms) (.str r)=some room.pv:=n2;have hR:=hRo hg
 have plain:∀k:Str,gIx room.pv (.int 0)=some (.str k)->¬ k="menu"->¬ k="names"->aD [h.pv,.str r]=some (.dct [] []):=fun k h0 h1 h2=>by
  refine au rfl ?_;generalize room.pv=RP at *;generalize aC h.rooms=RM at *;generalize h.pv=H at *;simp[du,PU.start,hR,n2,h0,h1,h2]
 cases hroom:room with
 | hours sp l=>exact absurd hroom (ok.nh sp l)
 | menu t ks wr wa=>
  by_cases hc:c=119
  ·subst hc
   have hw:=uk hg r room ok.lk;rw[hroom] at hw;obtain⟨⟨kt,rfl,hs,ht⟩,hwr,hwa,_,_⟩:=hw;have ew:=lN hg r room ok.lk t kt wr wa hroom hs;obtain⟨r',b',w',v',t',room',B⟩:=B2 hg hour r b w v tt room ok "menu" (by rw[hroom];rfl) (.inl rfl) wa.1 wa.2 (by rw[hroom];rfl) (by rw[hroom];rfl) hwa (wtD (kw kt));exact⟨_,r',b',w',v',t',room',ew,B⟩
  ·exact wO hg hour r b w v room tt ok t ks wr wa hroom c hc
 | names t ks wr wa=>
  by_cases hc:c=119
  ·subst hc
   obtain⟨wt,rfl,k,hwr,hwa⟩:=kT hg r room ok.lk t ks wr wa hroom;obtain⟨dk,dp,TL,ew⟩:=g9 hg r room ok.lk t wt wr wa hroom k;obtain⟨r',b',w',v',t',room',B⟩:=B2 hg hour r b w v tt room ok "names" (by rw[hroom];rfl) (.inr rfl) wa.1 wa.2 (by rw[hroom];rfl) (by rw[hroom];rfl) hwa (.dct dk dp);exact⟨_,r',b',w',v',t',room',ew,B⟩
  ·exact uu hg hour r b w v room tt ok t ks wr wa hroom c hc
 | hand t=>exact⟨_,r,b,w,v,tt,room,plain "hand" (by rw[hroom];rfl) (by simp) (by simp),sW hg hour r b w v tt room ok c "hand" (by rw[hroom];rfl) (.inl rfl) _⟩
 | fin t=>exact⟨_,r,b,w,v,tt,room,plain "end" (by rw[hroom];rfl) (by simp) (by simp),sW hg hour r b w v tt room ok c "end" (by rw[hroom];rfl) (.inr rfl) _⟩
theorem BD(n:Str)(room:Room)(lk:FA.lookR h.rooms n=some room):∃D,aD [h.pv,.str n]=some D/\noFn D=true:=by
 have n2:=FA.ix_rooms h.rooms n;rw[lk] at n2;have n2:gIx (aC h.rooms) (.str n)=some room.pv:=n2;have hR:=hRo hg
 have plain:∀k:Str,gIx room.pv (.int 0)=some (.str k)->¬ k="menu"->¬ k="names"->aD [h.pv,.str n]=some (.dct [] []):=fun k h0 h1 h2=>by
  refine au rfl ?_;generalize room.pv=RP at *;generalize aC h.rooms=RM at *;generalize h.pv=H at *;simp[du,PU.start,hR,n2,h0,h1,h2]
 have z:noFn (.dct [] [])=true:=by simp[noFn,bE]
 cases hroom:room with
 | hours sp l=>exact⟨_,plain "hours" (by rw[hroom];rfl) (by simp) (by simp),z⟩
 | hand t=>exact⟨_,plain "hand" (by rw[hroom];rfl) (by simp) (by simp),z⟩
 | fin t=>exact⟨_,plain "end" (by rw[hroom];rfl) (by simp) (by simp),z⟩
 | menu t ks wr wa=>
  have hw:=uk hg n room lk;rw[hroom] at hw;obtain⟨⟨kt,rfl,hs,ht⟩,hwr,hwa,_,_⟩:=hw;refine⟨_,lN hg n room lk t kt wr wa hroom hs,?_⟩;have:=(gN _).mpr (jH (kw kt)).nf;simpa [wtD,noFn] using this
 | names t ks wr wa=>
  obtain⟨wt,rfl,k,hwr,hwa⟩:=kT hg n room lk t ks wr wa hroom;obtain⟨dk,dp,TL,ew⟩:=g9 hg n room lk t wt wr wa hroom k;refine⟨_,ew,?_⟩;have:=(gN _).mpr TL.nf;simpa [noFn] using this
theorem Bm:∃WD,bO [h.pv]=some WD/\noFn WD=true/\∀r b room w v tt,OK h nms r b room w v tt->∀D,aD [h.pv,.str r]=some D->gIx WD (.str r)=some D:=by
 have rx:∀n∈FA.names h.rooms,∃D,aD [h.pv,.str n]=some D/\noFn D=true:=fun n hn=>by
  obtain⟨room,hr⟩:=FA.look_some h.rooms n hn;exact BD hg n room hr
 obtain⟨ks,ps,e,g,nf⟩:=CT h.pv h.rooms (hRo hg) (by have:=hg.rl;omega) (fun n=>(aD [h.pv,.str n]).getD .non) (fun n hn=>by
  obtain⟨D,e,_⟩:=rx n hn;rw[e];rfl) (fun n hn=>by
  obtain⟨D,e,f⟩:=rx n hn;rw[e];exact f)
 refine⟨_,e,nf,fun r b room w v tt ok D hD=>?_⟩;rw[g r (hg.all r (hg.nm r ok.rn)),hD];rfl
theorem Ad:∃y room,OK h nms y "" room 0 0 []/\gk [h.pv,.int hour]=some (sT y "" 0 0 []):=by
 obtain⟨y,room,ok,e1⟩:=arr hg hour h.first hg.fst "" (.inl rfl);refine⟨y,room,ok,au rfl ?_⟩;have hF:gIx h.pv (.str "first")=some (.str h.first):=by simp[House.pv]
 generalize h.pv=H at *;simp[rj,PU.start,hF,e1]
end
structure St where
 r:Str
 b:Str
 w:Int
 v:Int
 t:W
deriving DecidableEq
def St.pv(s:St):PV:=sT s.r s.b s.w s.v s.t
def St.key(s:St):bW:=[.inl (.inr s.r),.inl (.inr s.b),.inl (.inl s.w),.inl (.inl s.v),.inl (.inr (mkS s.t))]
theorem St.tk(s:St):mB s.pv=some s.key:=rfl
theorem St.kinj{a b:St}(e:a.key=b.key):a=b:=by
 cases a;cases b;simp only[St.key,N9,Qc,Sum.inl.injEq,and_true] at e;obtain⟨h1,h2,h3,h4,h5⟩:=e;have h5:=mkS_inj h5;subst h1 h2 h3 h4 h5;rfl
theorem St.nf(s:St):noFn s.pv=true:=by simp[St.pv,sT,noFn,bE]
def Ok(h:House)(nms:List Str)(s:St):Prop:=∃room,OK h nms s.r s.b room s.w s.v s.t
def S13:List Nat:=[48,49,50,51,52,53,54,55,56,57,42,35,119]
def cd(i:Nat):Nat:=S13.getD i 0
theorem vh:eN (.str "0123456789*#w")=some ((LI 13).map fun i=>WO.sg (cd i)):=by kernel_rfl
def Nx(h:House)(nms:List Str)(hour:Int)(s:St)(i:Nat)(s':St):Prop:=Ok h nms s'/\∃D,aD [h.pv,.str s.r]=some D/\bX [h.pv,.int hour,D,s.pv,WO.sg (cd i)]=some s'.pv
open Classical in
noncomputable def lead(h:House)(nms:List Str)(hour:Int)(s:St)(i:Nat):St:=if e:∃s',Nx h nms hour s i s' then e.choose else s
def TL:List W:=W8.flatMap fun w=>(LI 6).map fun n=>(cdH LS5 w).take n
def univ (nms:List Str):List St:=nms.flatMap fun r=>(LS ""::nms).flatMap fun b=>[(0:Int),1,2].flatMap fun w=>[(0:Int),1,2].flatMap fun v=>TL.map fun t=>⟨r,b,w,v,t⟩
theorem pP{α β:Type}(f:α->List β)(n:Nat):∀l:List α,(∀x∈l,(f x).length=n)->(l.flatMap f).length=l.length * n
 | [],_=>by simp
 | x::l,h=>by
  rw[QD,Lw,h x (by simp),pP f n l fun y hy=>h y (by simp[hy]),Lz,Nat.add_mul];omega
theorem yE(nms:List Str)(h:nms.length<=6):(univ nms).length<=19999:=by
 have hT:TL.length=18:=by decide +kernel
 have e:(univ nms).length=nms.length * ((nms.length+1) * (3 * (3 * 18))):=by
  unfold univ;refine pP _ _ _ fun r _=>?_;refine(pP _ (3 * (3 * 18)) _ fun b _=>?_);refine(pP _ (3 * 18) _ fun w _=>?_);refine(pP _ 18 _ fun v _=>?_);rw[LJ,hT]
 rw[e];have h2:nms.length * ((nms.length+1) * (3 * (3 * 18)))<=6 * ((6+1) * (3 * (3 * 18))):=Nat.mul_le_mul h (Nat.mul_le_mul (by omega) (LY _));omega
section
variable{h : House}{nms ord : List Str}(hg : HG h nms ord)(hour : Int)
include hg
theorem yD(s:St)(hs:Ok h nms s):s∈univ nms:=by
 obtain⟨room,ok⟩:=hs;have bb:=(uk hg s.r room ok.lk).b;have h1:=ok.hw;have h2:=ok.hv
 have ht:s.t∈TL:=by
  have z:([]:W)∈TL:=by decide +kernel
  have ty:=ok.ty;cases hroom:room with
  | names t ks wr wa=>
   obtain⟨wt,rfl,k,_,_⟩:=kT hg s.r room ok.lk t ks wr wa hroom;rw[hroom] at ty;rcases ty wt rfl with e | ⟨p,hp,h1,h2⟩
   ·rw[e];exact z
   ·have pre:=P9 h1 (k.pre hp)
    have l1:=NF h1;have l2:=k.bl hp;refine Oc.mpr ⟨p.1,k.w8 p hp,LV.mpr ⟨s.t.length,MD.mpr (by omega),?_⟩⟩;exact(OI.mp pre).symm
  | _=>
   rw[hroom] at ty;have ty:s.t=[]:=ty;rw[ty];exact z
 have hw:s.w=0\/s.w=1\/s.w=2:=by omega
 have hv:s.v=0\/s.v=1\/s.v=2:=by omega
 refine Oc.mpr ⟨s.r,ok.rn,Oc.mpr ⟨s.b,?_,Oc.mpr ⟨s.w,?_,Oc.mpr ⟨s.v,?_,LV.mpr ⟨s.t,ht,rfl⟩⟩⟩⟩⟩
 ·rcases ok.bn with e | e
  ·rw[e];exact Lu
  ·exact Lo _ e
 ·rcases hw with e | e | e <;> simp[e]
 ·rcases hv with e | e | e <;> simp[e]
theorem lO(s:St)(hs:Ok h nms s)(i:Nat):Nx h nms hour s i (lead h nms hour s i):=by
 have ex:∃s',Nx h nms hour s i s':=by
  obtain⟨room,ok⟩:=hs;obtain⟨D,r',b',w',v',t',room',e,g⟩:=KM hg hour s.r s.b s.w s.v room s.t ok (cd i);exact⟨⟨r',b',w',v',t'⟩,⟨room',g.ok⟩,D,e,g.fo⟩
 unfold lead;rw[dif_pos ex];exact ex.choose_spec
theorem jb(s:St)(hs:Ok h nms s)(i:Nat):iC [h.pv,.int hour,s.pv,WO.sg (cd i)]=some (lead h nms hour s i).pv:=by
 obtain⟨_,D,e1,e2⟩:=lO hg hour s hs i;exact Bw hour s.r s.b s.w s.v s.t _ D _ e1 e2
end
theorem mw(L:List PV)(st:PV):gIx (.lst (L++[st])) (.int (-1))=some st:=by
 show atI (L++[st]) (-1)=some st
 have e:ixN (L++[st]).length (-1)=some L.length:=by
  rw[Lw,Mh];unfold ixN;rw[if_neg (by omega)]
  first
   | (rw[if_pos (by omega)];congr 1;omega)
   | (simp;omega)
   | simp
 unfold atI;rw[e];simp
structure WD(h:House)(nms:List Str)(D:PV):Prop where
 eq:bO [h.pv]=some D
 nf:noFn D=true
 ix:∀s:St,Ok h nms s->∀X,aD [h.pv,.str s.r]=some X->gIx D (.str s.r)=some X
theorem DX{h:House}{nms ord:List Str}(hg:HG h nms ord):∃D,WD h nms D:=by
 obtain⟨D,h1,h2,h3⟩:=Bm hg;exact⟨D,h1,h2,fun s ⟨room,ok⟩ X hX=>h3 s.r s.b room s.w s.v s.t ok X hX⟩
section
variable{h : House}{nms ord : List Str}(hg : HG h nms ord)(hour : Int){D : PV}(hD : WD h nms D)
include hg hD
theorem JR(s:St)(hs:Ok h nms s)(i:Nat):∃X,gIx D (.str s.r)=some X/\bX [h.pv,.int hour,X,s.pv,WO.sg (cd i)]=some (lead h nms hour s i).pv:=by
 obtain⟨_,X,e1,e2⟩:=lO hg hour s hs i;exact⟨X,hD.ix s hs X e1,e2⟩
end
theorem wx{n:Nat}{fe:PSt->R PV}{qs cs:List PV}{p:PV}(hl:qs.length=n)(h:fe ((qs++cs).map .val)=.ok p):DJ n fe qs cs=some p:=by
 unfold DJ;rw[if_pos hl,h]
theorem sO(q:Str)(k:List Str)(sc:Scope)(e:Expr):(Cu q k sc e).kept=k:=by
 cases e <;> rfl
theorem qF{i:Nat}{fs:PSt->R (List PV)}{app:Lam->List PV->List PV->Option PV}{ρ:PSt}{L:Lam}{cs qs:List PV}{p:PV}(h:ρ[i]?=some (.val (.fn L cs)))(hq:fs ρ=.ok qs)(n1:bE qs=true)(n2:bE cs=true)(e:app L qs cs=some p):mv i fs app ρ=.ok p:=by
 unfold mv;rw[h];show (fs ρ >>= fun qs=>if bE qs=true/\bE cs=true then R.ofO (app L qs cs) else .no)=_;rw[hq];show (if bE qs=true/\bE cs=true then R.ofO (app L qs cs) else .no)=_;rw[if_pos ⟨n1,n2⟩,e];rfl
theorem KZ(S G W_ T X:PV)(hour:Int)(H:PV)(r:Str)(h0:gIx S (.int 0)=some (.str r))(h1:gIx W_ (.str r)=some X)(h2:bX [H,.int hour,X,S,G]=some T):appL bN [S,G] [W_,.int hour,H]=some T:=by
 unfold appL;rw[if_pos rfl];refine wx rfl ?_;show ik [.val S,.val G,.val W_,.val (.int hour),.val H]=_;simp[ik,h0,h1,h2]
theorem JT(S:PV):appL bx [S] []=some (.bl false):=by
 unfold appL;rw[if_neg,if_pos rfl]
 ·exact wx rfl rfl
 ·intro e
  have:=congrArg Lam.kept e;unfold bN bx at this;rw[sO,sO] at this;cases this
theorem fF{α:Type}(f:α->PV)(l:List α)(h:∀x∈l,noFn (f x)=true):bE (l.map f)=true:=(gN _).mpr fun p hp=>by
 obtain⟨x,hx,rfl⟩:=LV.mp hp;exact h x hx
theorem vU(p:Str×Str):noFn (pv2 p)=true:=by simp[pv2,noFn,bE]
theorem Fg(p:Int×Int×Str):noFn (pv3 p)=true:=by simp[pv3,noFn,bE]
theorem Cb(r:Room):noFn r.pv=true:=by
 cases r with
 | menu t ks wr wa=>simp[Room.pv,pvI,noFn,bE,fF pv2 ks fun x _=>vU x]
 | names t ks wr wa=>simp[Room.pv,pvI,noFn,bE,fF pv2 ks fun x _=>vU x]
 | hours sp l=>simp[Room.pv,noFn,bE,fF pv3 sp fun x _=>Fg x]
 | hand t=>simp[Room.pv,noFn,bE]
 | fin t=>simp[Room.pv,noFn,bE]
theorem zw(h:House):noFn h.pv=true:=by
 have h1:=fF pv2 h.letters fun x _=>vU x;have h2:=fF (fun r:Str×Room=>r.2.pv) h.rooms fun x _=>Cb x.2;simp[House.pv,aC,noFn,bE,h1,h2]
theorem o6{ks:List bW}{ps:List PV}{k:bW}{v:PV}(h:(ks.any fun j=>decide (j=k))=false):uK ks ps k v=.dtt (ks++[k]) (ps++[v]):=by
 unfold uK;rw[h];rfl
theorem qE{i:Nat}{fk fv:PSt->R PV}{ρ:PSt}{ks:List bW}{ps:List PV}{p kp:PV}{k:bW}(h:ρ[i]?=some (.own (.dtt ks ps)))(hv:fv ρ=.ok p)(hk:fk ρ=.ok kp)(ht:mB kp=some k)(hl:ks.length<16777216):mF i fk fv ρ=.ok (.next (ρ.set i (.own (uK ks ps k p)))):=by
 unfold mF;rw[h];show (fv ρ >>= fun p=>fk ρ >>= fun kp=>R.ofO (mB kp) >>= fun k=>if ks.length<16777216 then R.ok (Fl.next (ρ.set i (.own (uK ks ps k p)))) else R.no)=_;rw[hv];show (fk ρ >>= fun kp=>R.ofO (mB kp) >>= fun k=>if ks.length<16777216 then R.ok (Fl.next (ρ.set i (.own (uK ks ps k p)))) else R.no)=_;rw[hk];show (R.ofO (mB kp) >>= fun k=>if ks.length<16777216 then R.ok (Fl.next (ρ.set i (.own (uK ks ps k p)))) else R.no)=_;rw[ht];exact if_pos hl
theorem IR(S0 F1 F2:PV)(KS:List bW)(PS FS:List PV)(d:Int)(NP SG T:PV)(c:Sl)(x x':Str)(k:bW)
  (h1:mv 1 (a7 (ah (a8 6) (kI 0) gIx) (a7 (a8 7) aM)) appL [.val S0,.val F1,.val F2,.own (.dtt KS PS),.own (.lst FS),.val (.int d),.val NP,.val SG,c]=.ok T)
  (h2:∀KS PS FS,mv 2 (a7 (a8 8) aM) appL [.val S0,.val F1,.val F2,.own (.dtt KS PS),.own (.lst FS),.val (.int d),.val NP,.val SG,.val T]=.ok (.bl false))
  (hk:mB T=some k) (hx:gIx NP (.int 1)=some (.str x)) (ha:fI (.str x) SG=some (.str x')) (hl:KS.length<16777216) (hf:FS.length<16777216) :
  bI [.val S0,.val F1,.val F2,.own (.dtt KS PS),.own (.lst FS),.val (.int d),.val NP,.val SG,c]=.ok (.next (if (KS.any fun j=>decide (j=k))=true then [.val S0,.val F1,.val F2,.own (.dtt KS PS),.own (.lst FS),.val (.int d),.val NP,.val SG,.val T] else [.val S0,.val F1,.val F2,.own (.dtt (KS++[k]) (PS++[.bl true])),.own (.lst (FS++[.tup [T,.str x']])),.val (.int d),.val NP,.val SG,.val T])):=by
 have ni:k7 T (.dtt KS PS)=some (.bl (!(KS.any fun j=>decide (j=k)))):=by
  show (mB T).map _=_;rw[hk];rfl
 by_cases hh:(KS.any fun j=>decide (j=k))=true
 ·rw[if_pos hh]
  rw[hh] at ni;simp[bI,h1,ni]
 ·have hh':(KS.any fun j=>decide (j=k))=false:=(Od _).mp hh
  rw[if_neg hh];rw[hh'] at ni
  have pt:mF 3 (a8 8) (kB true) [.val S0,.val F1,.val F2,.own (.dtt KS PS),.own (.lst FS),.val (.int d),.val NP,.val SG,.val T]=.ok (.next [.val S0,.val F1,.val F2,.own (.dtt (KS++[k]) (PS++[.bl true])),.own (.lst FS),.val (.int d),.val NP,.val SG,.val T]):=by
   rw[qE (ks:=KS) (ps:=PS) (p:=.bl true) (kp:=T) (k:=k) rfl rfl rfl hk hl,o6 hh'];rfl
  have h3:=h2 (KS++[k]) (PS++[.bl true]) (FS++[.tup [T,.str x']]);simp[bI,h1,ni,pt,hx,ha,hf,h3]
theorem xX(x:List Nat)(c:Nat)(hx:x.length<=1000000):fI (.str (mkS x)) (.str ⟨#[c]⟩)=some (.str (mkS (x++[c]))):=by
 rw[qV,l6 (by simp;omega),lL]
def br(l:List Nat):Str:=mkS (l.map cd)
def av(p:BF.Row St):PV:=.tup [p.1.pv,.str (br p.2)]
theorem vi(r:List Nat)(i:Nat)(h:r.length<=100000):fI (.str (br r)) (WO.sg (cd i))=some (.str (br (r++[i]))):=by
 unfold br;rw[Lq];exact xX (r.map cd) (cd i) (by simp;omega)
def kL(found:List (BF.Row St)):List bW:=found.map fun p=>p.1.key
def tL(found:List (BF.Row St)):List PV:=found.map fun _=>PV.bl true
theorem rK(found:List (BF.Row St))(s:St):((kL found).any fun j=>decide (j=s.key))=decide (s∈found.map (·.1)):=by
 rw[MP];simp only[kL,O6,PL,Nh,decide_eq_true_eq,LV];constructor
 ·rintro⟨p,hp,e⟩
  exact⟨p,hp,St.kinj e⟩
 ·rintro⟨p,hp,e⟩
  exact⟨p,hp,by rw[e]⟩
abbrev oS(S0 F1 F2:PV)(found:List (BF.Row St))(d:Nat)(a b c:Sl):PSt:=[.val S0,.val F1,.val F2,.own (.dtt (kL found) (tL found)),.own (.lst (found.map av)),.val (.int d),a,b,c]
abbrev F1(h:House)(hour:Int)(D:PV):PV:=.fn bN [D,.int hour,h.pv]
abbrev F2:PV:=.fn bx []
section
variable{h : House}{nms ord : List Str}(hg : HG h nms ord)(hour : Int){D : PV}(hD : WD h nms D)(S0 : PV)
include hg hD
theorem G7(found:List (BF.Row St))(near:BF.Row St)(hn:Ok h nms near.1)(i d:Nat)(c:Sl)(hl:found.length<1000000)(hr:near.2.length<=100000) :
  bI (oS S0 (F1 h hour D) F2 found d (.val (av near)) (.val (WO.sg (cd i))) c)=.ok (.next (oS S0 (F1 h hour D) F2 (BF.inn (lead h nms hour) near found i) d (.val (av near)) (.val (WO.sg (cd i))) (.val (lead h nms hour near.1 i).pv))):=by
 obtain⟨X,e1,e2⟩:=JR hg hour hD near.1 hn i;have n1:bE [near.1.pv,WO.sg (cd i)]=true:=by simp[bE,St.nf,WO.sg,noFn]
 have n2:bE [D,.int hour,h.pv]=true:=by simp[bE,hD.nf,zw,noFn]
 have n3:bE [(lead h nms hour near.1 i).pv]=true:=by simp[bE,St.nf]
 have B:=IR S0 (F1 h hour D) F2 (kL found) (tL found) (found.map av) d (av near) (WO.sg (cd i)) (lead h nms hour near.1 i).pv c (br near.2) (br (near.2++[i])) (lead h nms hour near.1 i).key
  (qF (L:=bN) (cs:=[D,.int hour,h.pv]) (qs:=[near.1.pv,WO.sg (cd i)]) rfl rfl n1 n2 (KZ near.1.pv (WO.sg (cd i)) D _ X hour h.pv near.1.r rfl e1 e2))
  (fun KS PS FS=>qF (L:=bx) (cs:=[]) (qs:=[(lead h nms hour near.1 i).pv]) rfl rfl n3 rfl (JT _))
  (St.tk _) rfl (vi near.2 i hr) (by simp[kL];omega) (by simp;omega)
 rw[rK] at B;unfold BF.inn
 by_cases hm:lead h nms hour near.1 i∈found.map (·.1)
 ·rw[if_pos hm]
  rw[if_pos (decide_eq_true hm)] at B;exact B
 ·rw[if_neg hm]
  rw[if_neg (by simpa using hm)] at B;rw[B];simp only[oS,kL,tL,Lq];rfl
theorem CQ(lead:St->Nat->St)(near:BF.Row St)(found:List (BF.Row St))(i:Nat):(BF.inn lead near found i).length<=found.length+1:=by
 unfold BF.inn
 split
 ·omega
 ·simp
theorem sY(near:BF.Row St)(hn:Ok h nms near.1)(d:Nat)(hr:near.2.length<=100000):∀(l:List Nat)(found:List (BF.Row St))(b c:Sl),found.length+l.length<1000000->∃b' c',
  gh (ai 7) bI (l.map fun i=>WO.sg (cd i)) (oS S0 (F1 h hour D) F2 found d (.val (av near)) b c)=.ok (.next (oS S0 (F1 h hour D) F2 (l.foldl (BF.inn (lead h nms hour) near) found) d (.val (av near)) b' c'))
 | [],found,b,c,_=>⟨b,c,rfl⟩
 | i::l,found,b,c,hl=>by
  rw[Lz] at hl;have e1:=G7 hg hour hD S0 found near hn i d c (by omega) hr;have il:=CQ hg hD (lead h nms hour) near found i;obtain⟨b',c',e2⟩:=sY near hn d hr l (BF.inn (lead h nms hour) near found i) (.val (WO.sg (cd i))) (.val (lead h nms hour near.1 i).pv) (by omega);refine⟨b',c',?_⟩;have e0:ai 7 (WO.sg (cd i)) (oS S0 (F1 h hour D) F2 found d (.val (av near)) b c)=some (oS S0 (F1 h hour D) F2 found d (.val (av near)) (.val (WO.sg (cd i))) c):=rfl;rw[LH,NJ];unfold gh;rw[e0];simp only[R.ofO_some,R.ok_bind,e1];exact e2
theorem IQ(found:List (BF.Row St))(near:BF.Row St)(d:Nat)(hd:found[d]?=some near)(hn:Ok h nms near.1)(hr:near.2.length<=100000)(a b c:Sl)(hl:found.length<100000):∃b' c',
  cC (oS S0 (F1 h hour D) F2 found d a b c)=.ok (.next (oS S0 (F1 h hour D) F2 (BF.sweep (lead h nms hour) near found) (d+1) (.val (av near)) b' c')):=by
 obtain⟨b',c',e⟩:=sY hg hour hD S0 near hn (d+1) hr (LI 13) found b c (by simp;omega);refine⟨b',c',?_⟩;have i0:atI (found.map av) (d:Int)=some (av near):=bf rfl (by rw[LO,hd];rfl);have es:c_SIGNS=.str "0123456789*#w":=rfl;have it:=vh;have ag:∀(A1 A2 A3 A4 A5 A6 A7 A8:Sl),Dv 5 (kI 1) [A1,A2,A3,A4,A5,.val (.int d),A6,A7,A8]=.ok (.next [A1,A2,A3,A4,A5,.val (.int ((d+1:Nat):Int)),A6,A7,A8]):=fun _ _ _ _ _ _ _ _=>rfl;have e:gh (ai 7) bI ((LI 13).map fun i=>WO.sg (cd i)) [.val S0,.val (F1 h hour D),.val F2,.own (.dtt (kL found) (tL found)),.own (.lst (found.map av)),.val (.int ((d+1:Nat):Int)),.val (av near),b,c]=_:=e;show _=R.ok (Fl.next (oS S0 (F1 h hour D) F2 ((LI 13).foldl (BF.inn (lead h nms hour) near) found) (d+1) (.val (av near)) b' c'));rw[← e];simp only[oS];generalize F1 h hour D=G1 at *;generalize F2=G2 at *;generalize found.map av=FS at *;generalize PV.dtt (kL found) (tL found)=KD at *;generalize av near=NP at *;generalize (LI 13).map (fun i=>WO.sg (cd i))=SS at *;simp[cC,i0,ag,es,it]
noncomputable def tst:PSt->R Bool:=(DO (di (ah (a8 5) (un1 (lX 4) kD) gLt)) (ym (di (mv 2 (a7 (ah (ah (lX 4) (un1 (kI 1) qz) gIx) (kI 0) gIx) aM) appL))))
omit hg hD in
theorem G6(G1:PV)(found:List (BF.Row St))(hne:found≠[])(d:Nat)(a b c:Sl):tst (oS S0 G1 F2 found d a b c)=.ok (decide (d<found.length)):=by
 by_cases hd:d<found.length
 ·obtain⟨f',p,rfl⟩:∃f' p,found=f'++[p]:=⟨found.dropLast,found.getLast hne,(List.dropLast_concat_getLast hne).symm⟩
  have l:gIx (.lst ((f'++[p]).map av)) (.int (-1))=some (av p):=by
   rw[Lq];exact mw (f'.map av) (av p)
  have ng:qz (.int 1)=some (.int (-1)):=rfl;have g0:gIx (av p) (.int 0)=some p.1.pv:=rfl
  have cv:mv 2 (a7 (ah (ah (lX 4) (un1 (kI 1) qz) gIx) (kI 0) gIx) aM) appL (oS S0 G1 F2 (f'++[p]) d a b c)=.ok (.bl false):=by
   refine qF (L:=bx) (cs:=[]) (qs:=[p.1.pv]) rfl ?_ (by simp[bE,St.nf]) rfl (JT _);simp only[oS];generalize (f'++[p]).map av=FS at *;generalize av p=NP at *;simp[ng,l,g0]
  have hd':(d:Int)<((f'++[p]).map av).length:=by rw[LJ];omega
  rw[decide_eq_true hd];simp only[oS] at cv ⊢;generalize (f'++[p]).map av=FS at *;generalize PV.dtt (kL (f'++[p])) (tL (f'++[p]))=KD at *;simp[tst,hd',cv]
 ·rw[decide_eq_false hd]
  have hd':¬ (d:Int)<((found.map av).length:Nat):=by rw[LJ];omega
  simp only[oS];generalize found.map av=FS at *;simp[tst,hd']
theorem sX(s0:St)(U:List St)(hUl:U.length<=19999)(hU:∀found,BF.Inv (lead h nms hour) s0 found->∀p∈found,p.1∈U)(hP:∀found,BF.Inv (lead h nms hour) s0 found->∀p∈found,Ok h nms p.1):∀(n d:Nat)(found:List (BF.Row St))(a b c:Sl),BF.Inv (lead h nms hour) s0 found->(∀near,found[d]?=some near->∀p∈found,BF.lt p.2 (near.2++[0]))->d<=found.length->U.length<d+n->∃d' a' b' c',
  whF tst cC n (oS S0 (F1 h hour D) F2 found d a b c)=.ok (.next (oS S0 (F1 h hour D) F2 (BF.bfs (lead h nms hour) n d found) d' a' b' c'))
 | 0,d,found,a,b,c,I,top,hd,hn=>by
  have:=BF.inv_len (lead h nms hour) s0 U hU I;omega
 | n+1,d,found,a,b,c,I,top,hd,hn=>by
  have hl:=BF.inv_len (lead h nms hour) s0 U hU I;have hne:found≠[]:=by obtain⟨tl,e⟩:=I.h0;rw[e];simp
  have ht:=G6 S0 (F1 h hour D) found hne d a b c;unfold whF BF.bfs;rw[ht];cases e:found[d]? with
  | none=>
   have:¬ d<found.length:=by have:=Qv.mp e;omega
   rw[decide_eq_false this];exact⟨d,a,b,c,rfl⟩
  | some near=>
   have hdl:d<found.length:=(LM.mp e).1;rw[decide_eq_true hdl];have nm:near∈found:=M5 e;obtain⟨b',c',eb⟩:=IQ hg hour hD S0 found near d e (hP found I near nm) (by have:=I.len d near e;omega) a b c (by omega);obtain⟨I2,⟨tl,e2⟩,t2⟩:=BF.sweep_keep (lead h nms hour) s0 I e (top near e);obtain⟨d',a2,b2,c2,ew⟩:=sX s0 U hUl hU hP n (d+1) (BF.sweep (lead h nms hour) near found) (.val (av near)) b' c' I2 t2 (by rw[e2,Lw];omega) (by omega);refine⟨d',a2,b2,c2,?_⟩;rw[R.ok_bind,if_pos rfl,eb,R.ok_bind];exact ew
end
structure Found(h:House)(nms:List Str)(hour:Int)(s0:St)(found:List (BF.Row St)):Prop where
 inv:BF.Inv (lead h nms hour) s0 found
 cl:∀p∈found,∀i<13,BF.Cl (lead h nms hour) found p i
 ok:∀p∈found,Ok h nms p.1
 ln:found.length<=19999
section
variable{h : House}{nms ord : List Str}(hg : HG h nms ord)(hour : Int)
include hg
theorem Ab:∃s0:St,Ok h nms s0/\gk [h.pv,.int hour]=some s0.pv:=by
 obtain⟨y,room,ok,e⟩:=Ad hg hour;exact⟨⟨y,"",0,0,[]⟩,⟨room,ok⟩,e⟩
theorem Eu(p:BF.Row St):noFn (av p)=true:=by simp[av,noFn,bE,St.nf]
theorem vC(s0:St)(h0:Ok h nms s0)(hb:gk [h.pv,.int hour]=some s0.pv):∃found,Found h nms hour s0 found/\cG [h.pv,.int hour]=some (.lst (found.map av)):=by
 obtain⟨D,hD⟩:=DX hg;have hP:∀found,BF.Inv (lead h nms hour) s0 found->∀p∈found,Ok h nms p.1:=BF.inv_P _ s0 (Ok h nms) h0 fun s hs i _=>(lO hg hour s hs i).1;have hU:∀found,BF.Inv (lead h nms hour) s0 found->∀p∈found,p.1∈univ nms:=fun found I p hp=>yD hg p.1 (hP found I p hp);have hUl:=yE nms hg.nl;obtain⟨J1,J2⟩:=BF.bfs_all (lead h nms hour) s0 (univ nms) 20000 (by omega) hU;obtain⟨d',a',b',c',ew⟩:=sX hg hour hD s0.pv s0 (univ nms) hUl hU hP 20000 0 [(s0,[])] .no .no .no (BF.inv_0 _ s0) (fun near e=>BF.top_0 s0 near e) (by simp) (by omega);have hl:=BF.inv_len (lead h nms hour) s0 (univ nms) hU J1;refine⟨BF.bfs (lead h nms hour) 20000 0 [(s0,[])],⟨J1,J2,hP _ J1,by omega⟩,?_⟩
 have nfl:noFn (.lst ((BF.bfs (lead h nms hour) 20000 0 [(s0,[])]).map av))=true:=by
  have:=fF av (BF.bfs (lead h nms hour) 20000 0 [(s0,[])]) fun p _=>Eu hg p;simpa [noFn] using this
 have r0:av (s0,[])=.tup [s0.pv,.str ""]:=by
  unfold av br;rw[fh];rfl
 have tk:=s0.tk;have ew:whF tst cC 20000 [.val s0.pv,.val (F1 h hour D),.val F2,.own (.dtt [s0.key] [.bl true]),.own (.lst [av (s0,[])]),.val (.int 0),.no,.no,.no]=.ok (.next [.val s0.pv,.val (F1 h hour D),.val F2,.own (.dtt (kL (BF.bfs (lead h nms hour) 20000 0 [(s0,[])])) (tL (BF.bfs (lead h nms hour) 20000 0 [(s0,[])]))),.own (.lst ((BF.bfs (lead h nms hour) 20000 0 [(s0,[])]).map av)),.val (.int d'),a',b',c']):=ew;rw[r0] at ew
 have dt:zW (a8 0) (kB true) [.val s0.pv,.val (F1 h hour D),.val F2,.no,.no,.no,.no,.no,.no]=.ok (.dtt [s0.key] [.bl true]):=by
  unfold zW;rw[show a8 0 [.val s0.pv,.val (F1 h hour D),.val F2,.no,.no,.no,.no,.no,.no]=.ok s0.pv from rfl];simp only[R.ok_bind,JW,tk,R.ofO_some]
 have snf:=s0.nf;have hW:=hD.eq;generalize (BF.bfs (lead h nms hour) 20000 0 [(s0,[])]).map av=FS at *;generalize PV.dtt (kL (BF.bfs (lead h nms hour) 20000 0 [(s0,[])])) (tL (BF.bfs (lead h nms hour) 20000 0 [(s0,[])]))=KD at *
 have fr:dO [s0.pv,F1 h hour D,F2]=some (.lst FS):=by
  refine yR rfl ?_;unfold tst at ew;generalize F1 h hour D=G1 at *;generalize F2=G2 at *;generalize PV.dtt [s0.key] [.bl true]=K0 at *;generalize s0.pv=S at *;simp[gX,PU.start,dt];rw[ew];simp
 have ca:xK [.val h.pv,.val (.int hour),.val D] [2,1,0]=.ok [D,.int hour,h.pv]:=rfl
 have fa:(DY (aK (a7 (a8 0) (a7 (a8 1) aM)) gk) (AU bN [2,1,0] (AU bx [] aM))) [.val h.pv,.val (.int hour),.val D]=.ok [s0.pv,F1 h hour D,F2]:=by
  unfold DY;rw[show aK (a7 (a8 0) (a7 (a8 1) aM)) gk [.val h.pv,.val (.int hour),.val D]=.ok s0.pv by simp[hb]];simp only[R.ok_bind,snf,if_true];rfl
 have cl:tF (DY (aK (a7 (a8 0) (a7 (a8 1) aM)) gk) (AU bN [2,1,0] (AU bx [] aM))) dO [.val h.pv,.val (.int hour),.val D]=.ok (.lst FS):=by
  unfold tF;rw[fa];simp only[R.ok_bind,fr,R.ofO_some,nfl,if_true]
 refine au rfl ?_;generalize h.pv=H at *;simp[oC,PU.start,hW,cl]
end
def cR:List (BF.Row St)->St->Nat
 | [],_=>0
 | p::f,s=>if p.1=s then 0 else cR f s+1
theorem vB:∀(f:List (BF.Row St))(s:St),s∈f.map (·.1)->∃p,f[cR f s]?=some p/\p.1=s
 | [],_,h=>by simp at h
 | p::f,s,h=>by
  unfold cR
  by_cases e:p.1=s
  ·rw[if_pos e]
   exact⟨p,rfl,e⟩
  ·rw[if_neg e]
   rw[LH] at h;rcases LX.mp h with z | z
   ·exact absurd z.symm e
   ·exact vB f s z
theorem EJ{f:List (BF.Row St)}{s:St}(h:s∈f.map (·.1)):cR f s<f.length:=by
 obtain⟨p,e,_⟩:=vB f s h;exact(LM.mp e).1
def nums:Nat->List (BF.Row St)->List PV
 | _,[]=>[]
 | o,_::f=>.int o::nums (o+1) f
theorem pF:∀(f:List (BF.Row St))(o:Nat)(p:BF.Row St),nums o (f++[p])=nums o f++[.int ((o+f.length:Nat):Int)]
 | [],o,p=>rfl
 | q::f,o,p=>by
  show PV.int o::nums (o+1) (f++[p])=_;rw[pF f (o+1) p,Lz,show o+1+f.length=o+(f.length+1) by omega];rfl
theorem pG:∀(f:List (BF.Row St))(o:Nat)(s:St),s∈f.map (·.1)->ji (kL f) (nums o f) s.key=some (.int ((o+cR f s:Nat):Int))
 | [],_,_,h=>by simp at h
 | p::f,o,s,h=>by
  show (if p.1.key=s.key then some (PV.int (o:Int)) else ji (kL f) (nums (o+1) f) s.key)=_;unfold cR
  by_cases e:p.1=s
  ·rw[if_pos (by rw[e]),if_pos e]
   rfl
  ·rw[if_neg fun z=>e (St.kinj z),if_neg e]
   rw[LH] at h;rcases LX.mp h with z | z
   ·exact absurd z.symm e
   ·rw[pG f (o+1) s z,show o+1+cR f s=o+(cR f s+1) by omega]
def enI(x:Nat×BF.Row St):PV:=.tup [.int x.1,av x.2]
theorem B6:∀(l:List Nat)(f:List (BF.Row St)),(l.zipWith (fun (i:Nat) p=>[PV.int (i:Int),p]) (f.map av)).map PV.tup=(l.zip f).map enI
 | [],_=>by simp
 | _::_,[]=>by simp
 | i::l,p::f=>by
  rw[LH,Mr,LH,B6 l f,SU,LH];rfl
theorem Gg(f:List (BF.Row St)):rC (.lst (f.map av))=some (((LI f.length).zip f).map enI):=by
 have:=B6 (LI f.length) f;rw[← this];show some ((yk (f.map av)).map PV.tup)=_;unfold yk;rw[LJ]
theorem uQ{f:List (BF.Row St)}{pre post:List (Nat×BF.Row St)}{x:Nat×BF.Row St}(e:(LI f.length).zip f=pre++x::post):x.1=pre.length/\f=pre.map (·.2)++x.2::post.map (·.2):=by
 have h1:((LI f.length).zip f).map (·.1)=LI f.length:=QS (by simp);have h2:((LI f.length).zip f).map (·.2)=f:=PD (by simp);rw[e] at h1 h2;refine⟨?_,?_⟩
 ·rw[Lq,LH] at h1
  have:(LI f.length)[pre.length]?=some x.1:=by
   rw[← h1,M3 (by simp)];simp
  obtain⟨q,q2⟩:=LM.mp this;rw[List.getElem_range] at q2;exact q2.symm
 ·rw[Lq,LH] at h2
  exact h2.symm
theorem Ec{T:PV}{k:bW}(KS:List bW)(PS:List PV)(hk:mB T=some k):yq (.dtt KS PS) T=ji KS PS k:=by
 show (mB T).bind _=_;rw[hk];rfl
noncomputable def nxt(h:House)(nms:List Str)(hour:Int)(found:List (BF.Row St))(p:BF.Row St):List Int:=(LI 13).map fun i=>((cR found (lead h nms hour p.1 i):Nat):Int)
section
variable{h : House}{nms ord : List Str}(hg : HG h nms ord)(hour : Int){s0 : St}{found : List (BF.Row St)}(F : Found h nms hour s0 found)
include hg F
theorem tx(p:BF.Row St)(hp:p∈found)(i:Nat)(hi:i<13):lead h nms hour p.1 i∈found.map (·.1):=by
 obtain⟨q,hq,e,_⟩:=F.cl p hp i hi;exact LV.mpr ⟨q,hq,e⟩
abbrev sv(h:House)(hour:Int)(found:List (BF.Row St))(D:PV)(s4 a b s7 c d:Sl):PSt:=[.val h.pv,.val (.int hour),.val (.lst (found.map av)),.val D,s4,a,b,s7,c,d]
theorem np1(D:PV):∃a b,gh (gv 2 (aJ (ai 5) (aJ (ai 6) gw))) d9 (((LI found.length).zip found).map enI) (sv h hour found D (.own (.dtt [] [])) .no .no .no .no .no)=.ok (.next (sv h hour found D (.own (.dtt (kL found) (nums 0 found))) a b .no .no .no)):=by
 obtain⟨ρ',f1,a,b,rfl⟩:=forM (enc:=enI) (xs:=(LI found.length).zip found) (h:=gv 2 (aJ (ai 5) (aJ (ai 6) gw))) (g:=d9) (ρ:=sv h hour found D (.own (.dtt [] [])) .no .no .no .no .no)
  (I:=fun pre ρ=>∃a b,ρ=sv h hour found D (.own (.dtt (kL (pre.map (·.2))) (nums 0 (pre.map (·.2))))) a b .no .no .no) ⟨_,_,rfl⟩ (by
   rintro pre x post ρ hx ⟨a,b,rfl⟩;obtain⟨hi,hf⟩:=uQ hx;obtain⟨i,p⟩:=x;have hi:i=pre.length:=hi;have hf:found=pre.map (·.2)++p::post.map (·.2):=hf
   have fresh:p.1 ∉ (pre.map (·.2)).map (·.1):=fun z=>by
    have nd:=F.inv.nd;rw[hf,Lq,LH,N1] at nd;exact nd.2.2 p.1 z p.1 (by simp) rfl
   have hany:((kL (pre.map (·.2))).any fun j=>decide (j=p.1.key))=false:=by
    rw[rK];exact decide_eq_false fresh
   have hlen:=F.ln;have hpl:pre.length<found.length:=by rw[hf];simp
   refine⟨sv h hour found D (.own (.dtt (kL (pre.map (·.2))) (nums 0 (pre.map (·.2))))) (.val (.int i)) (.val (av p)) .no .no .no,sv h hour found D (.own (.dtt (kL ((pre++[(i,p)]).map (·.2))) (nums 0 ((pre++[(i,p)]).map (·.2))))) (.val (.int i)) (.val (av p)) .no .no .no,rfl,.inl ?_,_,_,rfl⟩;unfold d9;rw[qE (ks:=kL (pre.map (·.2))) (ps:=nums 0 (pre.map (·.2))) (p:=.int i) (kp:=p.1.pv) (k:=p.1.key) rfl rfl rfl p.1.tk (by simp[kL];omega),o6 hany]
   have:nums 0 ((pre++[(i,p)]).map (·.2))=nums 0 (pre.map (·.2))++[.int i]:=by
    rw[Lq];show nums 0 (pre.map (·.2)++[p])=_;rw[pF,LJ,QI,hi]
   rw[this];simp only[kL,Lq];rfl)
 have h2:((LI found.length).zip found).map (·.2)=found:=PD (by simp);rw[h2] at f1;exact⟨a,b,f1⟩
theorem vR{D:PV}(hD:WD h nms D)(p:BF.Row St)(hp:p∈found):∀l:List Nat,(∀i∈l,i<13)->c8 (ai 0) iT d0 [.no,.val (.dtt (kL found) (nums 0 found)),.val h.pv,.val (.int hour),.val p.1.pv,.val D] (l.map fun i=>WO.sg (cd i))=.ok (l.map fun i=>PV.int ((cR found (lead h nms hour p.1 i):Nat):Int))
 | [],_=>rfl
 | i::l,hl=>by
  have ih:=vR hD p hp l fun j hj=>hl j (by simp[hj]);have hi:=hl i (by simp);obtain⟨X,e1,e2⟩:=JR hg hour hD p.1 (F.ok p hp) i
  have ix:yq (.dtt (kL found) (nums 0 found)) (lead h nms hour p.1 i).pv=some (.int ((cR found (lead h nms hour p.1 i):Nat):Int)):=by
   rw[Ec _ _ (St.tk _),pG found 0 _ (tx hg hour F p hp i hi),QI]
  have g0:gIx p.1.pv (.int 0)=some (.str p.1.r):=rfl
  have ee:d0 [.val (WO.sg (cd i)),.val (.dtt (kL found) (nums 0 found)),.val h.pv,.val (.int hour),.val p.1.pv,.val D]=.ok (.int ((cR found (lead h nms hour p.1 i):Nat):Int)):=by
   generalize (lead h nms hour p.1 i).pv=S' at *;generalize cR found (lead h nms hour p.1 i)=PO at *;generalize PV.dtt (kL found) (nums 0 found)=KD at *;generalize WO.sg (cd i)=G at *;generalize p.1.pv=S at *;generalize h.pv=H at *;simp[d0,g0,e1,e2,ix]
  rw[LH];unfold c8;rw[show ai 0 (WO.sg (cd i)) [.no,.val (.dtt (kL found) (nums 0 found)),.val h.pv,.val (.int hour),.val p.1.pv,.val D]=some [.val (WO.sg (cd i)),.val (.dtt (kL found) (nums 0 found)),.val h.pv,.val (.int hour),.val p.1.pv,.val D] from rfl];simp only[R.ofO_some,R.ok_bind,rO,if_true,ee,ih];rfl
theorem np2{D:PV}(hD:WD h nms D)(a b:Sl):∃s4 c d,gh (gv 2 (aJ (ai 8) (aJ (ai 9) gw))) bZ (found.map av) (sv h hour found D (.own (.dtt (kL found) (nums 0 found))) a b (.own (.lst [])) .no .no)=.ok (.next (sv h hour found D s4 a b (.own (.lst (found.map fun p=>jP (nxt h nms hour found p)))) c d)):=by
 obtain⟨ρ',f1,s4,c,d,rfl,_⟩:=forM (enc:=av) (xs:=found) (h:=gv 2 (aJ (ai 8) (aJ (ai 9) gw))) (g:=bZ) (ρ:=sv h hour found D (.own (.dtt (kL found) (nums 0 found))) a b (.own (.lst [])) .no .no)
  (I:=fun pre ρ=>∃s4 c d,ρ=sv h hour found D s4 a b (.own (.lst (pre.map fun p=>jP (nxt h nms hour found p)))) c d/\(s4=.own (.dtt (kL found) (nums 0 found))\/s4=.val (.dtt (kL found) (nums 0 found)))) ⟨_,_,_,rfl,.inl rfl⟩ (by
   rintro pre p post ρ hx ⟨s4,c,d,rfl,hs4⟩;have pm:p∈found:=by rw[hx];simp
   have hlen:=F.ln;have hpl:pre.length<found.length:=by rw[hx];simp
   have ec:=vR hg hour F hD p pm (LI 13) fun i hi=>MD.mp hi;have es:c_SIGNS=.str "0123456789*#w":=rfl;have it:=vh;have z:(pre.map fun p=>jP (nxt h nms hour found p)).length<16777216:=by simp;omega
   have z13:((LI 13).map fun i=>PV.int ((cR found (lead h nms hour p.1 i):Nat):Int)).length<=16777216:=by simp
   have nx:PV.lst ((LI 13).map fun i=>PV.int ((cR found (lead h nms hour p.1 i):Nat):Int))=jP (nxt h nms hour found p):=by
    unfold jP nxt;rw[Lh];rfl
   refine⟨sv h hour found D s4 a b (.own (.lst (pre.map fun p=>jP (nxt h nms hour found p)))) (.val p.1.pv) (.val (.str (br p.2))),sv h hour found D (.val (.dtt (kL found) (nums 0 found))) a b (.own (.lst ((pre++[p]).map fun p=>jP (nxt h nms hour found p)))) (.val p.1.pv) (.val (.str (br p.2))),rfl,.inl ?_,_,_,_,rfl,.inr rfl⟩;rw[Lq,Q0,← nx];generalize ((LI 13).map fun i=>PV.int ((cR found (lead h nms hour p.1 i):Nat):Int))=R13 at *;simp only[sv];generalize (pre.map fun p=>jP (nxt h nms hour found p))=PN at *;generalize PV.dtt (kL found) (nums 0 found)=KD at *;generalize (LI 13).map (fun i=>WO.sg (cd i))=SS at *;generalize found.map av=FS at *;generalize p.1.pv=S at *;generalize h.pv=H at *;rcases hs4 with rfl | rfl
   ·simp[bZ,es,it,bY,roS,ec,z13,z]
   ·simp[bZ,es,it,bY,roS,ec,z13,z])
 exact⟨s4,c,d,f1⟩
theorem Cc:bQ [h.pv,.int hour,.lst (found.map av)]=some (.lst (found.map fun p=>jP (nxt h nms hour found p))):=by
 obtain⟨D,hD⟩:=DX hg;obtain⟨a,b,l1⟩:=np1 hg hour F D;obtain⟨s4,c,d,l2⟩:=np2 hg hour F hD a b;have en:=Gg found;have it:eN (.lst (found.map av))=some (found.map av):=rfl;have hW:=hD.eq;refine au rfl ?_;simp only[sv] at l1 l2;generalize (found.map fun p=>jP (nxt h nms hour found p))=NX at *;generalize PV.dtt (kL found) (nums 0 found)=KD at *;generalize ((LI found.length).zip found).map enI=EN at *;generalize hFS:found.map av=FS at *;generalize h.pv=H at *;simp[gf,PU.start,hW,Ce,en];rw[l1];simp[it];rw[l2];simp
end
theorem wL:∀js:List Int,pS (js.map PV.int)=some js
 | []=>rfl
 | j::js=>by
  show (pS (js.map PV.int)).map (j::·)=_;rw[wL js];rfl
def kindOf:Room->Str
 | .hand _=>"hand"
 | .fin _=>"end"
 | _=>"asked"
def mR:Room->Str
 | .menu t ..=>t
 | .names t ..=>t
 | .hand t=>t
 | .fin t=>t
 | .hours ..=>""
section
variable{h : House}{nms ord : List Str}(hg : HG h nms ord)
include hg
theorem heard(r b:Str)(w v:Int)(room:Room)(tt:W)(ok:OK h nms r b room w v tt):cI [h.pv,sT r b w v tt]=some (.tup [.str (kindOf room),.str (mR room)]):=by
 refine au rfl ?_;have n2:=FA.ix_rooms h.rooms r;rw[ok.lk] at n2;have n2:gIx (aC h.rooms) (.str r)=some room.pv:=n2;have hR:=hRo hg;have g0:gIx (sT r b w v tt) (.int 0)=some (.str r):=rfl;have c:c_HEARD=.dct [.inr "menu",.inr "names",.inr "hand",.inr "end"] [.str "asked",.str "asked",.str "hand",.str "end"]:=rfl;have nh:=ok.nh;generalize sT r b w v tt=S at *;generalize aC h.rooms=RM at *;generalize h.pv=H at *;cases room with
 | hours sp l=>exact absurd rfl (nh sp l)
 | menu t ks wr wa=>
  have n2:gIx RM (.str r)=some (.tup [.str "menu",.str t,.tup (ks.map pv2),.tup [.int wr.1,.str wr.2],.tup [.int wa.1,.str wa.2]]):=n2;simp[k0,PU.start,hR,g0,n2,c,kindOf,mR]
 | names t ks wr wa=>
  have n2:gIx RM (.str r)=some (.tup [.str "names",.str t,.tup (ks.map pv2),.tup [.int wr.1,.str wr.2],.tup [.int wa.1,.str wa.2]]):=n2;simp[k0,PU.start,hR,g0,n2,c,kindOf,mR]
 | hand t=>
  have n2:gIx RM (.str r)=some (.tup [.str "hand",.str t]):=n2;simp[k0,PU.start,hR,g0,n2,c,kindOf,mR]
 | fin t=>
  have n2:gIx RM (.str r)=some (.tup [.str "end",.str t]):=n2;simp[k0,PU.start,hR,g0,n2,c,kindOf,mR]
end
section
variable{α : Type}[DecidableEq α]
def jF(l:List α)(k:α):List α:=if k∈l then l else l++[k]
def uniq(ks:List α):List α:=ks.foldl jF []
def ib:List α->α->Nat
 | [],_=>0
 | x::l,k=>if x=k then 0 else ib l k+1
def nmL(ks:List α):List Nat:=ks.map (ib (uniq ks))
theorem iW(ks:List α)(k:α):uniq (ks++[k])=jF (uniq ks) k:=by simp[uniq]
theorem pY:∀(ks l:List α)(x:α),x∈l->x∈ks.foldl jF l
 | [],_,_,h=>h
 | k::ks,l,x,h=>by
  refine pY ks _ x ?_;unfold jF
  split
  ·exact h
  ·exact NQ _ h
theorem sZ:∀(ks l:List α)(x:α),x∈ks->x∈ks.foldl jF l
 | k::ks,l,x,h=>by
  rcases LX.mp h with rfl | h
  ·refine pY ks _ x ?_
   unfold jF
   split
   ·assumption
   ·simp
  ·exact sZ ks _ x h
theorem iX{ks:List α}{x:α}(h:x∈ks):x∈uniq ks:=sZ ks [] x h
theorem uY:∀{l:List α}{k:α},k∈l->ib l k<l.length
 | x::l,k,h=>by
  unfold ib
  split
  ·simp
  ·rename_i e
   have:=uY (l:=l) (k:=k) ((LX.mp h).resolve_left fun z=>e z.symm);simp;omega
theorem qG:∀{l:List α}{k:α},k∈l->l[ib l k]?=some k
 | x::l,k,h=>by
  unfold ib
  split
  ·rename_i e;simp[e]
  ·rename_i e
   have:=qG (l:=l) (k:=k) ((LX.mp h).resolve_left fun z=>e z.symm);simpa using this
theorem BU{l:List α}{a b:α}(ha:a∈l)(hb:b∈l)(e:ib l a=ib l b):a=b:=by
 have h1:=qG ha;rw[e,qG hb] at h1;exact(Ly h1).symm
theorem Ah(l:List α)(k:α):(jF l k).length<=l.length+1:=by
 unfold jF
 split <;> simp
theorem t5:∀(ks l:List α),(ks.foldl jF l).length<=l.length+ks.length
 | [],l=>by simp
 | k::ks,l=>by
  have h1:=t5 ks (jF l k);have h2:=Ah l k;simp only[NJ,Lz];omega
theorem yF(ks:List α):(uniq ks).length<=ks.length:=by
 have:=t5 ks [];simpa [uniq] using this
end
def rI(n:Nat):List PV:=(LI n).map fun i:Nat=>PV.int (i:Int)
theorem BI(n:Nat):rI (n+1)=rI n++[.int n]:=by simp[rI,Nn]
theorem AO:∀(l:List bW)(o:Nat)(k:bW),k∈l->ji l ((Rw o l.length).map fun i:Nat=>PV.int (i:Int)) k=some (.int ((o+ib l k:Nat):Int))
 | x::l,o,k,h=>by
  show (if x=k then some (PV.int ((o:Nat):Int)) else ji l ((Rw (o+1) l.length).map fun i:Nat=>PV.int (i:Int)) k)=_;unfold ib
  by_cases e:x=k
  ·rw[if_pos e,if_pos e];rfl
  ·rw[if_neg e,if_neg e,AO l (o+1) k ((LX.mp h).resolve_left fun z=>e z.symm)]
   congr 2
   omega
theorem Cq(l:List bW)(k:bW)(h:k∈l):ji l (rI l.length) k=some (.int (ib l k:Nat)):=by
 have:=AO l 0 k h;rw[QI,← List.range_eq_range'] at this;exact this
theorem Hv{T:PV}{k:bW}(KS:List bW)(PS:List PV)(hk:mB T=some k):yq (.dtt KS PS) T=ji KS PS k:=by
 show (mB T).bind _=_;rw[hk];rfl
theorem Bz(X:PV)(KS:List bW)(p:PV)(k:bW)(hk:mB p=some k)(hl:KS.length<16777216):i5 [.val X,.own (.dtt KS (rI KS.length)),.val p]=.ok (.next [.val X,.own (.dtt (jF KS k) (rI (jF KS k).length)),.val p]):=by
 show (R.ok p >>= fun kp=>(R.ok (PV.int (KS.length:Int)) >>= fun q=>R.ofO (mB kp) >>= fun k=>if KS.length<16777216 then R.ok (Fl.next (if (KS.any fun j=>decide (j=k))=true then _ else _)) else .no))=_;simp only[R.ok_bind,hk,R.ofO_some,if_pos hl]
 have ha:(KS.any fun j=>decide (j=k))=true ↔ k∈KS:=by
  rw[PL];exact⟨fun ⟨x,hx,e⟩=>of_decide_eq_true e▸hx,fun h=>⟨k,h,decide_eq_true rfl⟩⟩
 unfold jF
 by_cases h:k∈KS
 ·rw[if_pos (ha.mpr h),if_pos h]
 ·rw[if_neg (fun z=>h (ha.mp z)),if_neg h]
  unfold uK;rw[if_neg (fun z=>h (ha.mp z)),Lw,Mh,BI];rfl
theorem lJ{β:Type}(enc:β->PV)(key:β->bW)(hk:∀b,mB (enc b)=some (key b))(L:List β)(hl:L.length<=100000):cJ [.lst (L.map enc)]=some (.lst ((nmL (L.map key)).map fun n:Nat=>PV.int (n:Int))):=by
 refine au rfl ?_
 obtain⟨ρ',f1,a,rfl⟩:=forM (enc:=enc) (xs:=L) (h:=ai 2) (g:=i5) (ρ:=[.val (.lst (L.map enc)),.own (.dtt [] []),.no])
  (I:=fun pre ρ=>∃a,ρ=[.val (.lst (L.map enc)),.own (.dtt (uniq (pre.map key)) (rI (uniq (pre.map key)).length)),a]) ⟨.no,rfl⟩ (by
   rintro pre x post ρ hx ⟨a,rfl⟩;have h1:=yF (pre.map key);rw[LJ] at h1;have h2:pre.length<L.length:=by rw[hx];simp
   refine⟨[.val (.lst (L.map enc)),.own (.dtt (uniq (pre.map key)) (rI (uniq (pre.map key)).length)),.val (enc x)],_,rfl,.inl (Bz _ _ (enc x) (key x) (hk x) (by omega)),.val (enc x),?_⟩;rw[Lq,LH,NR,iW])
 have it:eN (.lst (L.map enc))=some (L.map enc):=rfl
 have cc:c8 (ai 0) iT i4 [.no,.val (.dtt (uniq (L.map key)) (rI (uniq (L.map key)).length))] (L.map enc)=.ok (L.map fun b=>PV.int (ib (uniq (L.map key)) (key b):Nat)):=WO.in_list_comp (enc:=enc) _ L fun b hb=>⟨[.val (enc b),.val (.dtt (uniq (L.map key)) (rI (uniq (L.map key)).length))],rfl,by
  have e:yq (.dtt (uniq (L.map key)) (rI (uniq (L.map key)).length)) (enc b)=some (.int (ib (uniq (L.map key)) (key b):Nat)):=by
   rw[Hv _ _ (hk b)];exact Cq _ _ (iX (LV.mpr ⟨b,hb,rfl⟩))
  generalize PV.dtt (uniq (L.map key)) (rI (uniq (L.map key)).length)=D at *;generalize enc b=EB at *;simp[i4,e]⟩
 have z:(L.map fun b=>PV.int (ib (uniq (L.map key)) (key b):Nat)).length<=16777216:=by rw[LJ];omega
 have er:(nmL (L.map key)).map (fun n:Nat=>PV.int (n:Int))=L.map fun b=>PV.int (ib (uniq (L.map key)) (key b):Nat):=by
  unfold nmL;rw[Lh,Lh];rfl
 rw[er];generalize (L.map fun b=>PV.int (ib (uniq (L.map key)) (key b):Nat))=RS at *;generalize L.map enc=LE at *;simp[jZ,PU.start,Ce,it];rw[f1];simp[it,bY,roS,cc,z]
def nI(n:Nat):PV:=.int n
def rN(js:List Nat):PV:=.lst (js.map nI)
def mkE(c:List Nat)(x:Nat×List Nat):PV:=.tup [.int x.1,.tup (x.2.map fun j=>nI (c.getD j 0))]
def mkK(c:List Nat)(x:Nat×List Nat):bW:=[.inl (.inl x.1),.inr (x.2.map fun j=>.inl ((c.getD j 0:Nat):Int))]
theorem Ft:∀l:List Nat,oY (l.map nI)=some (l.map fun n:Nat=>.inl (n:Int))
 | []=>rfl
 | n::l=>by
  show (oY (l.map nI)).map (fun r=>.inl (n:Int)::r)=_;rw[Ft l];rfl
theorem Fj(c:List Nat)(x:Nat×List Nat):mB (mkE c x)=some (mkK c x):=by
 have e:=Ft (x.2.map fun j=>c.getD j 0);rw[Lh,Lh] at e;show (GX (.int x.1)).bind (fun k=>(ye [.tup (x.2.map fun j=>nI (c.getD j 0))]).map fun l=>k::l)=_;show ((some (Nb (Nb (x.1:Int)))).bind fun k=>(((oY (x.2.map fun j=>nI (c.getD j 0))).map Ml).bind fun k2=>(some []).map fun l=>k2::l).map fun l=>k::l)=_;have e':oY (x.2.map fun j=>nI (c.getD j 0))=some (x.2.map fun j=>.inl ((c.getD j 0:Nat):Int)):=e;rw[e'];rfl
def finer(c:List Nat)(E:List (List Nat)):List Nat:=nmL ((c.zip E).map (mkK c))
theorem rM:∀(c:List Nat)(E:List (List Nat)),(tJ (c.map nI) (E.map rN)).map PV.tup=(c.zip E).map fun x=>PV.tup [nI x.1,rN x.2]
 | [],_=>by simp[tJ]
 | _::_,[]=>by simp[tJ]
 | n::c,e::E=>by
  have:=rM c E;simp only[tJ,LH,SU,Mr] at this ⊢;rw[this]
theorem lS(c:List Nat)(j:Nat)(h:j<c.length):atI (c.map nI) (j:Int)=some (nI (c.getD j 0)):=bf rfl (by
 rw[LO,LG h,Lm,LG h];rfl)
theorem t8(c:List Nat)(E:List (List Nat))(hl:c.length<=20000)(he:∀js∈E,js.length=13/\∀j∈js,j<c.length):bj [.lst (c.map nI),.lst (E.map rN)]=some (.lst ((finer c E).map nI)):=by
 refine au rfl ?_
 have hz:DS (.lst (c.map nI)) (.lst (E.map rN))=.ok ((c.zip E).map fun x=>PV.tup [nI x.1,rN x.2]):=by
  rw[wD _ _ (by
   rw[Oo];refine .inl (Nd.mpr fun p hp=>?_);obtain⟨o,_,rfl⟩:=LV.mp hp;rfl),rM]
 have lz:(c.zip E).length<=c.length:=by rw[On];omega
 obtain⟨ρ',f1,a,b,rfl⟩:=forM (enc:=fun x:Nat×List Nat=>PV.tup [nI x.1,rN x.2]) (xs:=c.zip E) (h:=gv 2 (aJ (ai 3) (aJ (ai 4) gw))) (g:=dz) (ρ:=[.val (.lst (c.map nI)),.val (.lst (E.map rN)),.own (.lst []),.no,.no])
  (I:=fun pre ρ=>∃a b,ρ=[.val (.lst (c.map nI)),.val (.lst (E.map rN)),.own (.lst (pre.map (mkE c))),a,b]) ⟨.no,.no,rfl⟩ (by
   rintro pre x post ρ hx ⟨a,b,rfl⟩;have hm:x∈c.zip E:=by rw[hx];simp
   have h1:=he x.2 (Om hm).2;have h2:pre.length<(c.zip E).length:=by rw[hx];simp
   have z:(pre.map (mkE c)).length<16777216:=by rw[LJ];omega
   have it:eN (rN x.2)=some (x.2.map nI):=rfl
   have cc:c8 (ai 0) iT dw [.no,.val (.lst (c.map nI))] (x.2.map nI)=.ok (x.2.map fun j=>nI (c.getD j 0)):=WO.in_list_comp (enc:=nI) _ x.2 fun j hj=>⟨[.val (nI j),.val (.lst (c.map nI))],rfl,by
    have e:gIx (.lst (c.map nI)) (nI j)=some (nI (c.getD j 0)):=lS c j (h1.2 j hj);generalize PV.lst (c.map nI)=LC at *;generalize nI (c.getD j 0)=CJ at *;generalize nI j=J at *;simp[dw,e]⟩
   have z13:(x.2.map fun j=>nI (c.getD j 0)).length<=16777216:=by rw[LJ,h1.1];decide
   refine⟨[.val (.lst (c.map nI)),.val (.lst (E.map rN)),.own (.lst (pre.map (mkE c))),.val (nI x.1),.val (rN x.2)],[.val (.lst (c.map nI)),.val (.lst (E.map rN)),.own (.lst ((pre++[x]).map (mkE c))),.val (nI x.1),.val (rN x.2)],rfl,.inl ?_,_,_,rfl⟩;rw[Lq];have em:[x].map (mkE c)=[PV.tup [nI x.1,.tup (x.2.map fun j=>nI (c.getD j 0))]]:=rfl;rw[em]
   have gt:nB (.lst (x.2.map fun j=>nI (c.getD j 0)))=some (.tup (x.2.map fun j=>nI (c.getD j 0))):=by
    first | rfl | exact if_pos z13
   generalize pre.map (mkE c)=PM at *;generalize (x.2.map fun j=>nI (c.getD j 0))=XJ at *;generalize x.2.map nI=XI at *;generalize rN x.2=RX at *;generalize nI x.1=NX at *;generalize c.map nI=CM at *;generalize E.map rN=EM at *;simp[dz,it,bY,roS,cc,z13,gt,z])
 have nm:=lJ (mkE c) (mkK c) (Fj c) (c.zip E) (by omega);have nm:cJ [.lst ((c.zip E).map (mkE c))]=some (.lst ((finer c E).map nI)):=nm;generalize (c.zip E).map (mkE c)=ZM at *;generalize (finer c E).map nI=FM at *;generalize (c.zip E).map (fun x=>PV.tup [nI x.1,rN x.2])=ZP at *;generalize c.map nI=CM at *;generalize E.map rN=EM at *;simp[eQ,PU.start,hz];rw[f1];simp[nm]
theorem q9(c:List Nat)(E:List (List Nat))(h:E.length=c.length):(finer c E).length=c.length:=by
 unfold finer nmL;rw[LJ,LJ,On,h,QJ]
end K42
namespace K42
section
variable{α β : Type}[DecidableEq α][DecidableEq β]
theorem gO(ks:List α):(nmL ks).length=ks.length:=by simp[nmL]
theorem sA(ks:List α)(i:Nat)(h:i<ks.length):(nmL ks)[i]?=some (ib (uniq ks) ks[i]):=by
 unfold nmL;rw[LO,LG h];rfl
theorem vT(ks:List α)(i j:Nat)(hi:i<ks.length)(hj:j<ks.length):(nmL ks)[i]?=(nmL ks)[j]? ↔ ks[i]?=ks[j]?:=by
 rw[sA ks i hi,sA ks j hj,LG hi,LG hj];constructor
 ·intro e
  rw[BU (iX (MS hi)) (iX (MS hj)) (Ly e)]
 ·intro e
  rw[Ly e]
def Fst(ks:List α)(i:Nat):Prop:=∀j,j<i->ks[j]?≠ks[i]?
theorem B3(ks:List α):∀i,i<ks.length->∃i0,i0<=i/\ks[i0]?=ks[i]?/\Fst ks i0:=by
 intro i
 induction i using Nat.strongRecOn with
 | _ i ih=>
  intro hi
  by_cases h:Fst ks i
  ·exact⟨i,LY _,rfl,h⟩
  ·unfold Fst at h
   have:∃j,j<i/\ks[j]?=ks[i]?:=by
    by_cases h2:∃j,j<i/\ks[j]?=ks[i]?
    ·exact h2
    ·exact absurd (fun j hj e=>h2 ⟨j,hj,e⟩) h
   obtain⟨j,hj,e⟩:=this;obtain⟨i0,a,b,c⟩:=ih j hj (by omega);exact⟨i0,by omega,b.trans e,c⟩
theorem D0(ks:List α){i j:Nat}(h1:Fst ks i)(h2:Fst ks j)(e:ks[i]?=ks[j]?):i=j:=by
 rcases Nat.lt_trichotomy i j with h | h | h
 ·exact absurd e (h2 i h)
 ·exact h
 ·exact absurd e.symm (h1 j h)
instance (ks:List α) (i:Nat):Decidable (Fst ks i):=by unfold Fst;exact Nat.decidableBallLT i fun j _=>ks[j]?≠ks[i]?
def kinds(ks:List α):Nat:=(LI ks.length).countP fun i=>decide (Fst ks i)
def He(f:List α)(c:List β):Prop:=f.length=c.length/\∀i j,i<c.length->j<c.length->f[i]?=f[j]?->c[i]?=c[j]?
theorem xb{f:List α}{c:List β}(h:He f c)(i:Nat)(hi:i<c.length)(hc:Fst c i):Fst f i:=fun j hj e=>hc j hj (h.2 j i (by omega) hi e)
theorem zD{f:List α}{c:List β}(h:He f c):kinds c<=kinds f:=by
 unfold kinds;rw[h.1];exact Rp fun i hi e=>decide_eq_true (xb h i (MD.mp hi) (of_decide_eq_true e))
theorem wA(ks:List α):kinds ks<=ks.length:=by
 unfold kinds;have:=List.countP_le_length (p:=fun i=>decide (Fst ks i)) (l:=LI ks.length);simpa using this
theorem tu:∀(l:List Nat)(p q:Nat->Bool),(∀i∈l,p i=true->q i=true)->l.countP p=l.countP q->∀i∈l,q i=true->p i=true
 | [],_,_,_,_,_,h,_=>by cases h
 | x::l,p,q,hpq,he,i,hi,hq=>by
  have hle:=Rp (l:=l) (p:=p) (q:=q) fun i hi=>hpq i (Lo _ hi);have ih:=tu l p q (fun i hi=>hpq i (Lo _ hi));rw[List.countP_cons,List.countP_cons] at he;rcases LX.mp hi with rfl | hi
  ·by_cases h:p i=true
   ·exact h
   ·rw[if_neg h,if_pos hq] at he
    omega
  ·refine ih ?_ i hi hq
   by_cases h:p x=true
   ·rw[if_pos h,if_pos (hpq x Lu h)] at he
    omega
   ·rw[if_neg h] at he
    by_cases h2:q x=true
    ·rw[if_pos h2] at he;omega
    ·rw[if_neg h2] at he;omega
theorem BC{f:List α}{c:List β}(h:He f c)(e:kinds c=kinds f):∀i j,i<c.length->j<c.length->c[i]?=c[j]?->f[i]?=f[j]?:=by
 intro i j hi hj hc;obtain⟨i0,a1,a2,a3⟩:=B3 f i (by rw[h.1];exact hi);obtain⟨j0,b1,b2,b3⟩:=B3 f j (by rw[h.1];exact hj)
 have all:∀k,k<c.length->Fst f k->Fst c k:=by
  intro k hk hf
  have e':(LI c.length).countP (fun i=>decide (Fst c i))=(LI c.length).countP (fun i=>decide (Fst f i)):=by
   unfold kinds at e;rw[h.1] at e;exact e
  exact of_decide_eq_true (tu _ _ _ (fun i hi e=>decide_eq_true (xb h i (MD.mp hi) (of_decide_eq_true e))) e' k (MD.mpr hk) (decide_eq_true hf))
 have c1:=h.2 i0 i (by omega) hi a2;have c2:=h.2 j0 j (by omega) hj b2;have:=D0 c (all i0 (by omega) a3) (all j0 (by omega) b3) (c1.trans (hc.trans c2.symm));rw[← a2,← b2,this]
end
end K42
namespace K42
section
variable{α β : Type}[DecidableEq α][DecidableEq β]
theorem o9:∀(l:List α)(k x:α),x∈l->ib (l++[k]) x=ib l x
 | y::l,k,x,h=>by
  show (if y=x then 0 else ib (l++[k]) x+1)=(if y=x then 0 else ib l x+1)
  by_cases e:y=x
  ·rw[if_pos e,if_pos e]
  ·rw[if_neg e,if_neg e,o9 l k x ((LX.mp h).resolve_left fun z=>e z.symm)]
theorem oa:∀(l:List α)(k:α),k ∉ l->ib (l++[k]) k=l.length
 | [],k,_=>by simp[ib]
 | y::l,k,h=>by
  show (if y=k then 0 else ib (l++[k]) k+1)=_;rw[if_neg (fun e=>h (by rw[e];exact Lu)),oa l k (fun z=>h (Lo _ z))];rfl
theorem pZ:∀(ks l:List α)(x:α),x∈ks.foldl jF l->x∈l\/x∈ks
 | [],_,_,h=>.inl h
 | k::ks,l,x,h=>by
  rcases pZ ks _ x h with h | h
  ·unfold jF at h
   split at h
   ·exact .inl h
   ·rcases MA.mp h with h | h
    ·exact .inl h
    ·rw[Li.mp h];exact .inr Lu
  ·exact .inr (Lo _ h)
theorem l7{ks:List α}{x:α}(h:x∈uniq ks):x∈ks:=(pZ ks [] x h).resolve_left (by simp)
def Alike(a:List α)(b:List β):Prop:=a.length=b.length/\∀i j,i<a.length->j<a.length->(a[i]?=a[j]? ↔ b[i]?=b[j]?)
theorem iZ{γ:Type}(l:List γ)(i:Nat)(h:i<l.length):l[i]?=some l[i]:=LG h
theorem Fc{a:List α}{b:List β}(h:Alike a b):∀m,m<=a.length->(uniq (a.take m)).length=(uniq (b.take m)).length/\∀i (hi:i<m) (ha:i<a.length) (hb:i<b.length),ib (uniq (a.take m)) a[i]=ib (uniq (b.take m)) b[i]
 | 0,_=>⟨by simp[uniq],fun i hi=>absurd hi (N4 _)⟩
 | m+1,hm=>by
  obtain⟨l1,p1⟩:=Fc h m (by omega);have hl:=h.1;have ea:a.take (m+1)=a.take m++[a[m]]:=NO (by omega);have eb:b.take (m+1)=b.take m++[b[m]'(by omega)]:=NO (by omega);have ina:∀i (hi:i<m),a[i]'(by omega)∈uniq (a.take m):=fun i hi=>iX (NG.mpr ⟨i,by omega,rfl⟩);have inb:∀i (hi:i<m),b[i]'(by omega)∈uniq (b.take m):=fun i hi=>iX (NG.mpr ⟨i,by omega,rfl⟩)
  have eqv:∀i (hi:i<m),(a[i]'(by omega)=a[m]'(by omega) ↔ b[i]'(by omega)=b[m]'(by omega)):=fun i hi=>by
   have:=h.2 i m (by omega) (by omega);rw[iZ a i (by omega),iZ a m (by omega),iZ b i (by omega),iZ b m (by omega)] at this;simpa using this
  have mem:a[m]'(by omega)∈uniq (a.take m) ↔ b[m]'(by omega)∈uniq (b.take m):=by
   constructor
   ·intro z
    obtain⟨i,hi,e⟩:=NG.mp (l7 z);rw[← (eqv i (by omega)).mp e];exact inb i (by omega)
   ·intro z
    obtain⟨i,hi,e⟩:=NG.mp (l7 z);rw[← (eqv i (by omega)).mpr e];exact ina i (by omega)
  rw[ea,eb,iW,iW];unfold jF
  by_cases z:a[m]'(by omega)∈uniq (a.take m)
  ·rw[if_pos z,if_pos (mem.mp z)]
   refine⟨l1,fun i hi ha hb=>?_⟩
   by_cases e:i<m
   ·exact p1 i e ha hb
   ·have e:i=m:=by omega
    subst e;obtain⟨i',hi',e'⟩:=NG.mp (l7 z);rw[← e',← (eqv i' (by omega)).mp e'];exact p1 i' (by omega) (by omega) (by omega)
  ·rw[if_neg z,if_neg fun q=>z (mem.mpr q)]
   refine⟨by simp[l1],fun i hi ha hb=>?_⟩
   by_cases e:i<m
   ·rw[o9 _ _ _ (ina i e),o9 _ _ _ (inb i e)]
    exact p1 i e ha hb
   ·have e:i=m:=by omega
    subst e;rw[oa _ _ z,oa _ _ fun q=>z (mem.mpr q),l1]
theorem sC{a:List α}{b:List β}(h:Alike a b):nmL a=nmL b:=by
 obtain⟨_,p⟩:=Fc h a.length (LY _);have hb:b.take a.length=b:=by rw[h.1];exact O4
 rw[O4,hb] at p;refine QE fun i=>?_
 by_cases hi:i<a.length
 ·have hb:i<b.length:=by rw[← h.1];exact hi
  rw[sA a i hi,sA b i hb,p i hi hi hb]
 ·rw[MY (by rw[gO];omega),MY (by rw[gO,← h.1];omega)]
theorem Ag(a:List α):Alike (nmL a) a:=⟨gO a,fun i j hi hj=>by
 rw[gO] at hi hj;exact vT a i j hi hj⟩
theorem zu(a:List α):nmL (nmL a)=nmL a:=sC (Ag a)
end
end K42
namespace K42
open PySem L2 PU MT NM BG NW
def cs(E:List (List Nat))(c0:List Nat):Nat->List Nat
 | 0=>c0
 | k+1=>finer (cs E c0 k) E
theorem Fk{c:List Nat}{x y:Nat×List Nat}:mkK c x=mkK c y ↔ x.1=y.1/\(x.2.map fun j=>c.getD j 0)=(y.2.map fun j=>c.getD j 0):=by
 unfold mkK;constructor
 ·intro e
  injection e with e1 e2;injection e2 with e3 _;injection e1 with e1;injection e1 with e1;injection e3 with e3;refine⟨by omega,?_⟩
  have:((x.2.map fun j=>c.getD j 0).map fun n:Nat=>(Nb (n:Int):Key))=(y.2.map fun j=>c.getD j 0).map fun n:Nat=>(Nb (n:Int):Key):=by
   rw[Lh,Lh];exact e3
  exact List.map_inj_right (f:=fun n:Nat=>(Nb (n:Int):Key)) (fun a b h=>by injection h with h;omega) |>.mp this
 ·rintro⟨e1,e2⟩
  have:((x.2.map fun j=>c.getD j 0).map fun n:Nat=>(Nb (n:Int):Key))=(y.2.map fun j=>c.getD j 0).map fun n:Nat=>(Nb (n:Int):Key):=by rw[e2]
  rw[Lh,Lh] at this;have this:(x.2.map fun j=>(Nb ((c.getD j 0:Nat):Int):Key))=y.2.map fun j=>(Nb ((c.getD j 0:Nat):Int):Key):=this;rw[e1,this]
theorem uP(c:List Nat)(E:List (List Nat))(h:E.length=c.length)(i:Nat)(hi:i<c.length):(c.zip E)[i]?=some (c[i],E[i]'(by omega)):=by
 rw[LG (by rw[On];omega),List.getElem_zip]
theorem qa(c:List Nat)(E:List (List Nat))(h:E.length=c.length)(i j:Nat)(hi:i<c.length)(hj:j<c.length) :
  (finer c E)[i]?=(finer c E)[j]? ↔ c[i]=c[j]/\((E[i]'(by omega)).map fun j=>c.getD j 0)=((E[j]'(by omega)).map fun j=>c.getD j 0):=by
 unfold finer;have lz:((c.zip E).map (mkK c)).length=c.length:=by rw[LJ,On,h,QJ]
 rw[vT _ i j (by omega) (by omega),LO,LO,uP c E h i hi,uP c E h j hj];show some (mkK c _)=some (mkK c _) ↔ _;rw[Mj,Fk]
theorem xa(c:List Nat)(E:List (List Nat))(h:E.length=c.length):He (finer c E) c:=⟨q9 c E h,fun i j hi hj e=>by
 rw[LG hi,LG hj,((qa c E h i j hi hj).mp e).1]⟩
theorem t7(c:List Nat)(E:List (List Nat)):nmL (finer c E)=finer c E:=zu _
theorem uy(c:List Nat)(E:List (List Nat))(h:E.length=c.length)(hc:nmL c=c)(hne:finer c E≠c):kinds c<kinds (finer c E):=by
 have f:=xa c E h;rcases O9 (kinds c) (kinds (finer c E)) with q | q
 ·exact q
 ·exfalso
  have e:=Nat.le_antisymm (zD f) q;have al:Alike (finer c E) c:=⟨f.1,fun i j hi hj=>⟨f.2 i j (by rw[← f.1];exact hi) (by rw[← f.1];exact hj),BC f e i j (by rw[← f.1];exact hi) (by rw[← f.1];exact hj)⟩⟩;have:=sC al;rw[t7,hc] at this;exact hne this
theorem mq(E:List (List Nat))(c0:List Nat)(h:E.length=c0.length)(hc:nmL c0=c0):∀k,(cs E c0 k).length=c0.length/\nmL (cs E c0 k)=cs E c0 k
 | 0=>⟨rfl,hc⟩
 | k+1=>by
  obtain⟨l,_⟩:=mq E c0 h hc k;exact⟨(q9 _ E (by rw[h,l])).trans l,t7 _ E⟩
theorem Bv(E:List (List Nat))(c0:List Nat)(h:E.length=c0.length)(hc:nmL c0=c0):∃K,K<=c0.length/\cs E c0 (K+1)=cs E c0 K/\∀m,m<K->cs E c0 (m+1)≠cs E c0 m:=by
 have go:∀n k,(∀m,m<k->cs E c0 (m+1)≠cs E c0 m)->k<=kinds (cs E c0 k)->c0.length<k+n->∃K,K<=c0.length/\cs E c0 (K+1)=cs E c0 K/\∀m,m<K->cs E c0 (m+1)≠cs E c0 m:=by
  intro n
  induction n with
  | zero=>
   intro k _ hk hn;have h1:=wA (cs E c0 k);rw[(mq E c0 h hc k).1] at h1;omega
  | succ n ih=>
   intro k hm hk hn
   by_cases e:cs E c0 (k+1)=cs E c0 k
   ·refine⟨k,?_,e,hm⟩
    have h1:=wA (cs E c0 k);rw[(mq E c0 h hc k).1] at h1;omega
   ·obtain⟨l,hk2⟩:=mq E c0 h hc k
    have:=uy (cs E c0 k) E (by rw[h,l]) hk2 e;refine ih (k+1) (fun m hm2=>?_) (show k+1<=kinds (finer (cs E c0 k) E) by omega) (by omega)
    by_cases q:m<k
    ·exact hm m q
    ·have:m=k:=by omega
     subst this;exact e
 exact go (c0.length+1) 0 (fun m hm=>absurd hm (N4 _)) (N0 _) (by omega)
def hP(h:House)(s:St):Str×Str:=match FA.lookR h.rooms s.r with
 | some room=>(kindOf room,mR room)
 | none=>("","")
def hE(x:Str×Str):PV:=.tup [.str x.1,.str x.2]
def hK(x:Str×Str):bW:=[.inl (.inr x.1),.inl (.inr x.2)]
theorem B1{x y:Str×Str}(e:hK x=hK y):x=y:=by
 unfold hK at e;simp only[N9,Sum.inl.injEq,Qc,and_true] at e;exact QB e.1 e.2
theorem gc{h:House}{nms ord:List Str}(hg:HG h nms ord)(s:St)(hs:Ok h nms s):cI [h.pv,s.pv]=some (hE (hP h s)):=by
 obtain⟨room,ok⟩:=hs;have:=heard hg s.r s.b s.w s.v room s.t ok;unfold hP;rw[ok.lk];exact this
def c0(h:House)(found:List (BF.Row St)):List Nat:=nmL ((found.map fun p=>hP h p.1).map hK)
theorem qQ:∀a b:List Nat,bg (a.map nI) (b.map nI)=some (decide (a=b))
 | [],[]=>by simp[bg]
 | [],_::_=>by simp[bg]
 | _::_,[]=>by simp[bg]
 | x::a,y::b=>by
  have e:bp (nI x) (nI y)=some (decide (x=y)):=by
   simp[nI,bp];rw[MP];simp;omega
  simp only[LH,bg,e,qQ a b,OW]
  congr 1
  rw[MP];simp
theorem oo:∀a:List Nat,dj (a.map nI)=0
 | []=>rfl
 | x::a=>by
  show max (vK (nI x)) (dj (a.map nI))=0;rw[oo a];rfl
theorem Io(a b:List Nat):gNe (.lst (a.map nI)) (.lst (b.map nI))=some (.bl (!decide (a=b))):=by
 have e:gNe (.lst (a.map nI)) (.lst (b.map nI))=if dj (a.map nI)<=60 then (bg (a.map nI) (b.map nI)).map fun b=>.bl (!b) else none:=rfl
 rw[e,if_pos (by rw[oo];omega),qQ];rfl
def aY(E:List (List Nat))(c:List Nat)(k:Nat):List PV:=(LI k).map fun m=>.lst ((cs E c m).map nI)
theorem fE(E:List (List Nat))(c:List Nat)(k:Nat):aY E c (k+1)=aY E c k++[.lst ((cs E c k).map nI)]:=by simp[aY,Nn]
abbrev cst(H FS:PV)(E:List (List Nat))(c:List Nat)(k:Nat):PSt:=[.val H,.val FS,.val (.lst (E.map rN)),.own (.lst (aY E c (k+1))),.val (.lst ((cs E c (k+1)).map nI))]
abbrev IZ:PSt->R Bool:=di (ah (a8 4) (ah (lX 3) (un1 (kI 1) qz) gIx) gNe)
theorem J0(H FS:PV)(E:List (List Nat))(c:List Nat)(k:Nat):IZ (cst H FS E c k)=.ok (!decide (cs E c (k+1)=cs E c k)):=by
 have l:gIx (.lst (aY E c (k+1))) (.int (-1))=some (.lst ((cs E c k).map nI)):=by
  rw[fE];exact mw _ _
 have ng:qz (.int 1)=some (.int (-1)):=rfl;have ne:=Io (cs E c (k+1)) (cs E c k);simp only[cst];generalize aY E c (k+1)=T at *;generalize (cs E c (k+1)).map nI=A at *;generalize (cs E c k).map nI=B at *;simp[IZ,ng,l,ne]
theorem Gq(H FS:PV)(E:List (List Nat))(c:List Nat)(k:Nat)(hk:k<=20000)(hl:(cs E c (k+1)).length<=20000)(he:∀js∈E,js.length=13/\∀j∈js,j<(cs E c (k+1)).length):de (cst H FS E c k)=.ok (.next (cst H FS E c (k+1))):=by
 have f:=t8 (cs E c (k+1)) E hl he;have f:bj [.lst ((cs E c (k+1)).map nI),.lst (E.map rN)]=some (.lst ((cs E c (k+1+1)).map nI)):=f;have z:(aY E c (k+1)).length<16777216:=by simp[aY];omega
 simp only[cst];rw[fE E c (k+1)];generalize aY E c (k+1)=T at *;generalize (cs E c (k+1+1)).map nI=A2 at *;generalize (cs E c (k+1)).map nI=A at *;generalize E.map rN=EM at *;simp[de,z,f]
theorem xM(H FS:PV)(E:List (List Nat))(c:List Nat)(K:Nat)(hK:K<=19999)(hst:cs E c (K+1)=cs E c K)(hne:∀m,m<K->cs E c (m+1)≠cs E c m)(hl:∀k,(cs E c k).length=c.length)(hc:c.length<=20000)(he:∀js∈E,js.length=13/\∀j∈js,j<c.length) :
  ∀(n k:Nat),k<=K->K<k+n->whF IZ de n (cst H FS E c k)=.ok (.next (cst H FS E c K))
 | 0,k,h1,h2=>by omega
 | n+1,k,h1,h2=>by
  unfold whF;rw[J0]
  by_cases e:k=K
  ·subst e
   rw[decide_eq_true hst];rfl
  ·rw[decide_eq_false (hne k (by omega)),Gq H FS E c k (by omega) (by rw[hl];exact hc) (fun js hj=>by rw[hl];exact he js hj)]
   exact xM H FS E c K hK hst hne hl hc he n (k+1) (by omega) (by omega)
theorem ql{h:House}{nms ord:List Str}(hg:HG h nms ord){hour:Int}{s0:St}{found:List (BF.Row St)}(F:Found h nms hour s0 found)(E:List (List Nat))(hEl:E.length=found.length)(he:∀js∈E,js.length=13/\∀j∈js,j<found.length) :
  ∃K,K<=found.length/\cs E (c0 h found) (K+1)=cs E (c0 h found) K/\(∀m,m<K->cs E (c0 h found) (m+1)≠cs E (c0 h found) m)/\bF [h.pv,.lst (found.map av),.lst (E.map rN)]=some (.lst (aY E (c0 h found) (K+1))):=by
 have lc:(c0 h found).length=found.length:=by simp[c0,gO]
 have hnm:nmL (c0 h found)=c0 h found:=zu _;have hln:=F.ln;obtain⟨K,k1,k2,k3⟩:=Bv E (c0 h found) (by rw[hEl,lc]) hnm;rw[lc] at k1;refine⟨K,k1,k2,k3,au rfl ?_⟩;have ok:=mq E (c0 h found) (by rw[hEl,lc]) hnm
 have cc:c8 (gv 2 (aJ (ai 0) (aJ (ai 1) gw))) iT eo [.no,.no,.val h.pv] (found.map av)=.ok ((found.map fun p=>hP h p.1).map hE):=by
  have:=WO.in_list_comp (enc:=av) (h:=gv 2 (aJ (ai 0) (aJ (ai 1) gw))) (fe:=eo) (ρ:=[.no,.no,.val h.pv]) (fun p=>hE (hP h p.1)) found fun p hp=>⟨[.val p.1.pv,.val (.str (br p.2)),.val h.pv],rfl,by
   have e:=gc hg p.1 (F.ok p hp);generalize hE (hP h p.1)=HE at *;generalize p.1.pv=SP at *;generalize h.pv=H at *;simp[eo,e]⟩
  rw[Lh];exact this
 have z:((found.map fun p=>hP h p.1).map hE).length<=16777216:=by rw[LJ,LJ];omega
 have nm:=lJ hE hK (fun b=>rfl) (found.map fun p=>hP h p.1) (by rw[LJ];omega);have nm:cJ [.lst ((found.map fun p=>hP h p.1).map hE)]=some (.lst ((c0 h found).map nI)):=nm;have f0:=t8 (c0 h found) E (by omega) (fun js hj=>by rw[lc];exact he js hj);have f0:bj [.lst ((c0 h found).map nI),.lst (E.map rN)]=some (.lst ((cs E (c0 h found) 1).map nI)):=f0;have wh:=xM h.pv (.lst (found.map av)) E (c0 h found) K (by omega) k2 k3 (fun k=>(ok k).1) (by omega) (fun js hj=>by rw[lc];exact he js hj) 20000 0 (by omega) (by omega);have t1:aY E (c0 h found) (0+1)=[.lst ((c0 h found).map nI)]:=rfl;have it:eN (.lst (found.map av))=some (found.map av):=rfl;have l1:gIx (.lst [PV.lst ((c0 h found).map nI)]) (.int (-1))=some (.lst ((c0 h found).map nI)):=mw [] _;have ng:qz (.int 1)=some (.int (-1)):=rfl;simp only[cst,t1] at wh;generalize aY E (c0 h found) (K+1)=TK at *;generalize (cs E (c0 h found) (0+1)).map nI=C1 at *;generalize (cs E (c0 h found) (K+1)).map nI=CK at *;generalize (cs E (c0 h found) 1).map nI=C1' at *;generalize (c0 h found).map nI=C0 at *;generalize (found.map fun p=>hP h p.1).map hE=HL at *;generalize found.map av=FS at *;generalize E.map rN=EM at *;generalize h.pv=H at *;simp[iP,PU.start,it,bY,roS,cc,z,nm,ng,l1,f0,whS];have wh:whF (di (ah (a8 4) (ah (lX 3) (un1 (kI 1) qz) gIx) gNe)) de 20000 _=_:=wh;rw[wh];simp
noncomputable def EN_(h:House)(nms:List Str)(hour:Int)(found:List (BF.Row St)):List (List Nat):=found.map fun p=>(LI 13).map fun i=>cR found (lead h nms hour p.1 i)
section
variable{h : House}{nms ord : List Str}(hg : HG h nms ord){hour : Int}{s0 : St}{found : List (BF.Row St)}(F : Found h nms hour s0 found)
include hg F
theorem zT:(EN_ h nms hour found).length=found.length/\(∀js∈EN_ h nms hour found,js.length=13/\∀j∈js,j<found.length)/\bQ [h.pv,.int hour,.lst (found.map av)]=some (.lst ((EN_ h nms hour found).map rN)):=by
 refine⟨by simp[EN_],fun js hj=>?_,?_⟩
 ·obtain⟨p,hp,rfl⟩:=LV.mp hj
  refine⟨by simp,fun j hj=>?_⟩;obtain⟨i,hi,rfl⟩:=LV.mp hj;exact EJ (tx hg hour F p hp i (MD.mp hi))
 ·rw[Cc hg hour F]
  congr 2
  unfold EN_;rw[Lh];refine Ms fun p _=>?_;show jP _=rN _;unfold rN nxt;rw[Lh];show PV.lst _=PV.lst _;rw[Lh];rfl
theorem uE(ep:cG [h.pv,.int hour]=some (.lst (found.map av))):∃K,K<=found.length/\cs (EN_ h nms hour found) (c0 h found) (K+1)=cs (EN_ h nms hour found) (c0 h found) K/\(∀m,m<K->cs (EN_ h nms hour found) (c0 h found) (m+1)≠cs (EN_ h nms hour found) (c0 h found) m)/\
  bF [h.pv,.lst (found.map av),.lst ((EN_ h nms hour found).map rN)]=some (.lst (aY (EN_ h nms hour found) (c0 h found) (K+1)))/\jr [h.pv,.int hour]=some (.lst ((cs (EN_ h nms hour found) (c0 h found) K).map nI)):=by
 obtain⟨l1,l2,en⟩:=zT hg F;obtain⟨K,k1,k2,k3,ec⟩:=ql hg F _ l1 l2;refine⟨K,k1,k2,k3,ec,au rfl ?_⟩
 have la:gIx (.lst (aY (EN_ h nms hour found) (c0 h found) (K+1))) (.int (-1))=some (.lst ((cs (EN_ h nms hour found) (c0 h found) K).map nI)):=by
  rw[fE];exact mw _ _
 have ng:qz (.int 1)=some (.int (-1)):=rfl;generalize aY (EN_ h nms hour found) (c0 h found) (K+1)=TK at *;generalize (cs (EN_ h nms hour found) (c0 h found) K).map nI=CK at *;generalize (EN_ h nms hour found).map rN=EM at *;generalize found.map av=FS at *;generalize h.pv=H at *;simp[m5,PU.start,ep,en,ec,ng,la]
end
end K42
namespace K42
def nx(E:List (List Nat))(x i:Nat):Nat:=(E.getD x []).getD i 0
def runN(E:List (List Nat))(x:Nat)(r:List Nat):Nat:=r.foldl (nx E) x
def cv(E:List (List Nat))(c:List Nat)(k x:Nat):Nat:=(cs E c k).getD x 0
structure Gr(E:List (List Nat))(c:List Nat):Prop where
 len:E.length=c.length
 row:∀js∈E,js.length=13/\∀j∈js,j<c.length
 nm:nmL c=c
section
variable{E : List (List Nat)}{c : List Nat}(G : Gr E c)
include G
theorem Gr.at_(x:Nat)(hx:x<c.length):∃js,E[x]?=some js/\E.getD x []=js/\js∈E:=by
 have h:=G.len;refine⟨E[x]'(by omega),LG _,?_,MS _⟩;rw[Lm,LG (by omega)];rfl
theorem Gr.nx_lt(x i:Nat)(hx:x<c.length)(hi:i<13):nx E x i<c.length:=by
 obtain⟨js,_,e,hm⟩:=G.at_ x hx;obtain⟨l,hj⟩:=G.row js hm;unfold nx;rw[e,Lm,LG (by omega)];exact hj _ (MS _)
theorem Gr.step(k x y:Nat)(hx:x<c.length)(hy:y<c.length):cv E c (k+1) x=cv E c (k+1) y ↔ cv E c k x=cv E c k y/\∀i,i<13->cv E c k (nx E x i)=cv E c k (nx E y i):=by
 have l:=(mq E c G.len G.nm k).1;have l2:=(mq E c G.len G.nm (k+1)).1;obtain⟨jx,e1,e2,m1⟩:=G.at_ x hx;obtain⟨jy,f1,f2,m2⟩:=G.at_ y hy;have r1:=(G.row jx m1).1;have r2:=(G.row jy m2).1;have it:=qa (cs E c k) E (by rw[G.len,l]) x y (by omega) (by omega)
 have g1:E[x]'(by rw[G.len];omega)=jx:=by
  have:=LG (l:=E) (i:=x) (by rw[G.len];omega);rw[e1] at this;exact(Ly this).symm
 have g2:E[y]'(by rw[G.len];omega)=jy:=by
  have:=LG (l:=E) (i:=y) (by rw[G.len];omega);rw[f1] at this;exact(Ly this).symm
 rw[g1,g2] at it
 have gd:∀m z (hz:z<(cs E c m).length),(cs E c m)[z]?=some (cv E c m z):=fun m z hz=>by
  unfold cv;rw[Lm,LG hz];rfl
 have a1:(cs E c (k+1))[x]?=(cs E c (k+1))[y]? ↔ cv E c (k+1) x=cv E c (k+1) y:=by
  rw[gd (k+1) x (by omega),gd (k+1) y (by omega),Mj]
 have a2:(cs E c k)[x]'(by omega)=(cs E c k)[y]'(by omega) ↔ cv E c k x=cv E c k y:=by
  have q1:=gd k x (by omega);have q2:=gd k y (by omega);rw[LG (by omega)] at q1 q2;rw[Ly q1,Ly q2]
 rw[← a1,← a2];refine it.trans (and_congr Iff.rfl ?_);have nxx:∀i,nx E x i=jx.getD i 0:=fun i=>by unfold nx;rw[e2]
 have nxy:∀i,nx E y i=jy.getD i 0:=fun i=>by unfold nx;rw[f2]
 constructor
 ·intro e i hi
  have:=congrArg (fun l:List Nat=>l[i]?) e;simp only[LO] at this;rw[LG (by omega),LG (by omega)] at this;have:=Ly this;rw[nxx,nxy,Lm,Lm,LG (by omega),LG (by omega)];exact this
 ·intro e
  refine QE fun i=>?_;rw[LO,LO]
  by_cases hi:i<13
  ·have:=e i hi
   rw[nxx,nxy,Lm,Lm,LG (by omega),LG (by omega)] at this;rw[LG (by omega),LG (by omega)];exact congrArg some this
  ·rw[MY (by omega),MY (by omega)]
theorem Gr.moore:∀(k x y:Nat),x<c.length->y<c.length->(cv E c k x=cv E c k y ↔ ∀r:List Nat,(∀i∈r,i<13)->r.length<=k->cv E c 0 (runN E x r)=cv E c 0 (runN E y r))
 | 0,x,y,hx,hy=>⟨fun e r _ hl=>by
   have:r=[]:=Nc.mp (by omega);subst this;exact e,fun e=>e [] (by simp) (LY _)⟩
 | k+1,x,y,hx,hy=>by
  rw[G.step k x y hx hy,Gr.moore k x y hx hy];constructor
  ·rintro⟨h1,h2⟩ r hr hl
   cases r with
   | nil=>exact h1 [] (by simp) (by simp)
   | cons i r=>
    have hi:=hr i (by simp);exact(Gr.moore k _ _ (G.nx_lt x i hx hi) (G.nx_lt y i hy hi)).mp (h2 i hi) r (fun j hj=>hr j (by simp[hj])) (by simpa using hl)
  ·intro h
   refine⟨fun r hr hl=>h r hr (by omega),fun i hi=>?_⟩
   exact(Gr.moore k _ _ (G.nx_lt x i hx hi) (G.nx_lt y i hy hi)).mpr fun r hr hl=>h (i::r) (fun j hj=>by
    rcases LX.mp hj with rfl | hj
    ·exact hi
    ·exact hr j hj) (by simpa using hl)
end
end K42
namespace K42
open PySem L2 PU MT NM BG NW
theorem ixs (i:Nat) (hi:i<13):gIx (.str "0123456789*#w") (.int i)=some (WO.sg (cd i)):=by
 match i,hi with
 | 0,_=>kernel_rfl
 | 1,_=>kernel_rfl
 | 2,_=>kernel_rfl
 | 3,_=>kernel_rfl
 | 4,_=>kernel_rfl
 | 5,_=>kernel_rfl
 | 6,_=>kernel_rfl
 | 7,_=>kernel_rfl
 | 8,_=>kernel_rfl
 | 9,_=>kernel_rfl
 | 10,_=>kernel_rfl
 | 11,_=>kernel_rfl
 | 12,_=>kernel_rfl
inductive Pt (E:List (List Nat)) (c:List Nat):Nat->Nat->Nat->List Nat->Prop
 | nil {x y:Nat}:Pt E c 0 x y []
 | cons {k x y i:Nat} {r:List Nat}:i<13->cv E c k (nx E x i)≠cv E c k (nx E y i)->(∀j,j<i->cv E c k (nx E x j)=cv E c k (nx E y j))->Pt E c k (nx E x i) (nx E y i) r->Pt E c (k+1) x y (i::r)
theorem Ku(a b:Nat):gNe (nI a) (nI b)=some (.bl (!decide (a=b))):=by
 show (if mD (nI a)=true/\mD (nI b)=true/\yP (scV (nI a)) (scV (nI b))=true then some (PV.bl (!decide (scV (nI a)=scV (nI b)))) else none)=_;rw[if_pos ⟨rfl,rfl,rfl⟩]
 congr 3
 have:(scV (nI a)=scV (nI b)) ↔ a=b:=⟨fun e=>by
  have e:V.int (a:Int)=V.int (b:Int):=e;injection e with e;omega,fun e=>by rw[e]⟩
 exact decide_eq_decide.mpr this
theorem qw(p:Nat->Bool):∀l:List Nat,qy (l.map fun i=>PV.bl (p i))=some (l.map p)
 | []=>rfl
 | x::l=>by
  show (qy (l.map fun i=>PV.bl (p i))).map (p x::·)=_;rw[qw p l];rfl
theorem II(p:Nat->Bool)(h:∃i,i<13/\p i=true):∃i,i<13/\p i=true/\(∀j,j<i->p j=false)/\m8 (.lst ((LI 13).map fun i=>PV.bl (p i))) (.bl true)=some (.int (i:Nat)):=by
 obtain⟨i0,h0,hp⟩:=h;cases e:((LI 13).map p).findIdx? fun x=>x == true with
 | none=>
  have:=List.findIdx?_eq_none_iff.mp e (p i0) (LV.mpr ⟨i0,MD.mpr h0,rfl⟩);rw[hp] at this;cases this
 | some i=>
  obtain⟨h1,h2,h3⟩:=Q7.mp e;have h1':i<13:=by simpa using h1
  refine⟨i,h1',by simpa using h2,fun j hj=>by simpa using h3 j hj,?_⟩;show (qy ((LI 13).map fun i=>PV.bl (p i))).bind (fun bs=>(bs.findIdx? fun x=>x == true).map fun (i:Nat)=>PV.int i)=_;rw[qw];show (((LI 13).map p).findIdx? fun x=>x == true).map (fun (i:Nat)=>PV.int i)=_;rw[e];rfl
theorem Du(r:List Nat)(i:Nat)(f:PSt->R PV)(ρ:PSt)(h4:ρ[4]?=some (.val (.str (br r))))(hf:f ρ=.ok (WO.sg (cd i)))(hl:r.length<=100000):xS 4 f ρ=.ok (.next (ρ.set 4 (.val (.str (br (r++[i])))))):=by
 have ra:=vi r i hl;have l1:(br r).length=r.length:=by unfold br;rw[ck,LJ]
 unfold xS;rw[h4]
 show (f ρ >>= fun q=>match q with
  | .str b=>if (br r).length+b.length<=16777216 then R.ok (Fl.next (ρ.set 4 (.val (.str (br r++b))))) else .no
  | _=>.no)=_
 rw[hf];show (if (br r).length+(⟨#[cd i]⟩:Str).length<=16777216 then R.ok (Fl.next (ρ.set 4 (.val (.str (br r++(⟨#[cd i]⟩:Str)))))) else .no)=_;have l2:(⟨#[cd i]⟩:Str).length=1:=rfl;rw[if_pos (by omega)]
 have e:fI (.str (br r)) (.str ⟨#[cd i]⟩)=some (.str (br r++⟨#[cd i]⟩)):=by
  first | rfl | exact if_pos (by omega)
 have ra:fI (.str (br r)) (.str ⟨#[cd i]⟩)=some (.str (br (r++[i]))):=ra;rw[e] at ra;injection ra with ra;rw[ra]
theorem sq{f g:PSt->R Fl}{ρ ρ1:PSt}(h:f ρ=.ok (.next ρ1)):aI f g ρ=g ρ1:=by
 unfold aI;rw[h];rfl
abbrev pst(T EM o1 o2:PV)(r:List Nat)(x y:Nat)(a b d:Sl):PSt:=[.val T,.val EM,.val o1,.val o2,.val (.str (br r)),.val (nI x),.val (nI y),a,b,d]
theorem F4{E:List (List Nat)}{c:List Nat}(G:Gr E c)(T o1 o2:PV)(r:List Nat)(k x y:Nat)(hx:x<c.length)(hy:y<c.length)(hr:r.length<=100000)(hn:∃i,i<13/\cv E c k (nx E x i)≠cv E c k (nx E y i))(b d:Sl) :
  ∃i,i<13/\cv E c k (nx E x i)≠cv E c k (nx E y i)/\(∀j,j<i->cv E c k (nx E x j)=cv E c k (nx E y j))/\∃b' d',bh (pst T (.lst (E.map rN)) o1 o2 r x y (.val (.lst ((cs E c k).map nI))) b d)=.ok (.next (pst T (.lst (E.map rN)) o1 o2 (r++[i]) (nx E x i) (nx E y i) (.val (.lst ((cs E c k).map nI))) b' d')):=by
 have lc:=(mq E c G.len G.nm k).1
 have rowX:∀z,z<c.length->gIx (.lst (E.map rN)) (nI z)=some (.lst ((LI 13).map fun i=>nI (nx E z i))):=fun z hz=>by
  obtain⟨js,e1,e2,m⟩:=G.at_ z hz;have l13:=(G.row js m).1;show atI (E.map rN) (z:Int)=_;rw[bf (n:=z) rfl (by rw[LO,e1];rfl)]
  congr 1
  unfold rN
  congr 1
  refine QE fun i=>?_;rw[LO,LO]
  by_cases hi:i<13
  ·rw[MW hi,LG (by omega)]
   show some (nI _)=some (nI _);unfold nx;rw[e2,Lm,LG (by omega)];rfl
  ·rw[MY (by omega),MY (by simp;omega)]
   rfl
 have numX:∀z,z<c.length->gIx (.lst ((cs E c k).map nI)) (nI z)=some (nI (cv E c k z)):=fun z hz=>lS (cs E c k) z (by omega)
 have hz:DS (.lst ((LI 13).map fun i=>nI (nx E x i))) (.lst ((LI 13).map fun i=>nI (nx E y i)))=.ok ((LI 13).map fun i=>PV.tup [nI (nx E x i),nI (nx E y i)]):=by
  rw[wD _ _ (by
   rw[Oo];refine .inl (Nd.mpr fun p hp=>?_);obtain⟨o,_,rfl⟩:=LV.mp hp;rfl)]
  congr 1
 have cc:c8 (gv 2 (aJ (ai 0) (aJ (ai 1) gw))) iT dv [.no,.no,.val (.lst ((cs E c k).map nI))] ((LI 13).map fun i=>PV.tup [nI (nx E x i),nI (nx E y i)])=.ok ((LI 13).map fun i=>PV.bl (!decide (cv E c k (nx E x i)=cv E c k (nx E y i)))):=
  WO.in_list_comp (enc:=fun i=>PV.tup [nI (nx E x i),nI (nx E y i)]) _ (LI 13) fun i hi=>⟨[.val (nI (nx E x i)),.val (nI (nx E y i)),.val (.lst ((cs E c k).map nI))],rfl,by
   have hi:=MD.mp hi;have a1:=numX _ (G.nx_lt x i hx hi);have a2:=numX _ (G.nx_lt y i hy hi);have a3:=Ku (cv E c k (nx E x i)) (cv E c k (nx E y i));generalize nI (cv E c k (nx E x i))=A at *;generalize nI (cv E c k (nx E y i))=B at *;generalize nI (nx E x i)=NX at *;generalize nI (nx E y i)=NY at *;generalize PV.lst ((cs E c k).map nI)=CS at *;simp[dv,a1,a2,a3]⟩
 obtain⟨i,h1,h2,h3,ei⟩:=II (fun i=>!decide (cv E c k (nx E x i)=cv E c k (nx E y i))) (by
  obtain⟨i,h1,h2⟩:=hn;exact⟨i,h1,by simpa using h2⟩)
 have z13:((LI 13).map fun i=>PV.bl (!decide (cv E c k (nx E x i)=cv E c k (nx E y i)))).length<=16777216:=by simp
 refine⟨i,h1,by simpa using h2,fun j hj=>by simpa using h3 j hj,.val (.lst ((LI 13).map fun i=>PV.bl (!decide (cv E c k (nx E x i)=cv E c k (nx E y i))))),.val (.int i),?_⟩;have rx:=rowX x hx;have ry:=rowX y hy;have ax:gIx (.lst ((LI 13).map fun i=>nI (nx E x i))) (.int i)=some (nI (nx E x i)):=bf (n:=i) rfl (by rw[LO,MW h1];rfl);have ay:gIx (.lst ((LI 13).map fun i=>nI (nx E y i))) (.int i)=some (nI (nx E y i)):=bf (n:=i) rfl (by rw[LO,MW h1];rfl);have sg:=ixs i h1;have cS:c_SIGNS=.str "0123456789*#w":=rfl;unfold bh;generalize hB:PV.lst ((LI 13).map fun i=>PV.bl (!decide (cv E c k (nx E x i)=cv E c k (nx E y i))))=BL at *
 rw[sq (ρ1:=pst T (.lst (E.map rN)) o1 o2 r x y (.val (.lst ((cs E c k).map nI))) (.val BL) d) (by
  simp only[pst];generalize ((LI 13).map fun i=>PV.bl (!decide (cv E c k (nx E x i)=cv E c k (nx E y i))))=BB at *;generalize ((LI 13).map fun i=>PV.tup [nI (nx E x i),nI (nx E y i)])=ZZ at *;generalize ((LI 13).map fun i=>nI (nx E x i))=XX at *;generalize ((LI 13).map fun i=>nI (nx E y i))=YY at *;generalize (cs E c k).map nI=CC at *;generalize E.map rN=EM at *;generalize nI x=NX at *;generalize nI y=NY at *;simp[rx,ry,hz,bY,roS,cc,z13,hB])]
 rw[sq (ρ1:=pst T (.lst (E.map rN)) o1 o2 r x y (.val (.lst ((cs E c k).map nI))) (.val BL) (.val (.int i))) (by
  rw[← hB];show bK 9 (FZ (a8 8) (kB true)) _=_;generalize ((LI 13).map fun i=>PV.bl (!decide (cv E c k (nx E x i)=cv E c k (nx E y i))))=BB at *
  have e:FZ (a8 8) (kB true) (pst T (.lst (E.map rN)) o1 o2 r x y (.val (.lst ((cs E c k).map nI))) (.val (.lst BB)) d)=.ok (.int i):=by
   show R.ofO (m8 (.lst BB) (.bl true))=_;rw[hB,ei];rfl
  show (FZ (a8 8) (kB true) _ >>= _)=_;rw[e];rfl)]
 rw[sq (ρ1:=pst T (.lst (E.map rN)) o1 o2 (r++[i]) x y (.val (.lst ((cs E c k).map nI))) (.val BL) (.val (.int i))) (Du r i _ _ rfl (by
  simp only[pst];generalize (cs E c k).map nI=CC at *;generalize E.map rN=EM at *;generalize WO.sg (cd i)=SG at *;generalize br r=RR at *;generalize nI x=NX at *;generalize nI y=NY at *;simp[cS,sg]) hr)]
 rw[sq (ρ1:=pst T (.lst (E.map rN)) o1 o2 (r++[i]) (nx E x i) y (.val (.lst ((cs E c k).map nI))) (.val BL) (.val (.int i))) (by
  simp only[pst];generalize ((LI 13).map fun i=>nI (nx E x i))=XX at *;generalize (cs E c k).map nI=CC at *;generalize E.map rN=EM at *;generalize br (r++[i])=RR at *;generalize nI (nx E x i)=NX2 at *;generalize nI x=NX at *;generalize nI y=NY at *;simp[rx,ax])]
 simp only[pst];generalize ((LI 13).map fun i=>nI (nx E y i))=YY at *;generalize (cs E c k).map nI=CC at *;generalize E.map rN=EM at *;generalize br (r++[i])=RR at *;generalize nI (nx E x i)=NX2 at *;generalize nI (nx E y i)=NY2 at *;generalize nI y=NY at *;simp[ry,ay]
def lev(E:List (List Nat))(c:List Nat):Nat->List PV
 | 0=>[]
 | k+1=>.lst ((cs E c k).map nI)::lev E c k
theorem wj(E:List (List Nat))(c:List Nat):∀k,(aY E c k).reverse=lev E c k
 | 0=>rfl
 | k+1=>by
  rw[fE,List.reverse_append,wj E c k];rfl
theorem wY{E:List (List Nat)}{c:List Nat}(G:Gr E c)(T o1 o2:PV):∀(k:Nat)(r:List Nat)(x y:Nat)(a b d:Sl),x<c.length->y<c.length->(∀k',k=k'+1->cv E c k x≠cv E c k y/\cv E c k' x=cv E c k' y)->r.length+k<=100000->
  ∃r' x' y' a' b' d',Pt E c k x y r'/\gh (ai 7) bh (lev E c k) (pst T (.lst (E.map rN)) o1 o2 r x y a b d)=.ok (.next (pst T (.lst (E.map rN)) o1 o2 (r++r') x' y' a' b' d'))
 | 0,r,x,y,a,b,d,_,_,_,_=>⟨[],x,y,a,b,d,.nil,by rw[Mb];rfl⟩
 | k+1,r,x,y,a,b,d,hx,hy,h,hl=>by
  obtain⟨hne,heq⟩:=h k rfl
  have hn:∃i,i<13/\cv E c k (nx E x i)≠cv E c k (nx E y i):=by
   by_cases z:∃i,i<13/\cv E c k (nx E x i)≠cv E c k (nx E y i)
   ·exact z
   ·refine absurd ((G.step k x y hx hy).mpr ⟨heq,fun i hi=>?_⟩) hne
    by_cases q:cv E c k (nx E x i)=cv E c k (nx E y i)
    ·exact q
    ·exact absurd ⟨i,hi,q⟩ z
  obtain⟨i,h1,h2,h3,b',d',e⟩:=F4 G T o1 o2 r k x y hx hy (by omega) hn b d
  obtain⟨r',x',y',a2,b2,d2,pt,f⟩:=wY G T o1 o2 k (r++[i]) (nx E x i) (nx E y i) (.val (.lst ((cs E c k).map nI))) b' d' (G.nx_lt x i hx h1) (G.nx_lt y i hy h1) (fun k' ek=>by
   subst ek;exact⟨h2,((G.step k' x y hx hy).mp heq).2 i h1⟩) (by rw[Lw,Mh];omega)
  refine⟨i::r',x',y',a2,b2,d2,.cons h1 h2 h3 pt,?_⟩;show gh (ai 7) bh (.lst ((cs E c k).map nI)::lev E c k) _=_;unfold gh;show (R.ok (pst T (.lst (E.map rN)) o1 o2 r x y (.val (.lst ((cs E c k).map nI))) b d) >>= _)=_;rw[R.ok_bind,e];rw[Mf] at f;exact f
theorem IS{E:List (List Nat)}{c:List Nat}(G:Gr E c)(k x y:Nat)(hx:x<c.length)(hy:y<c.length)(h:∀k',k=k'+1->cv E c k x≠cv E c k y/\cv E c k' x=cv E c k' y)(hk:k<=100000) :
  ∃r,Pt E c k x y r/\cZ [.lst (aY E c k),.lst (E.map rN),nI x,nI y]=some (.str (br r)):=by
 obtain⟨r,x',y',a,b,d,pt,f⟩:=wY G (.lst (aY E c k)) (nI x) (nI y) k [] x y .no .no .no hx hy h (by simpa using hk);refine⟨r,pt,au rfl ?_⟩
 have rv:H0 (a8 0) (pst (.lst (aY E c k)) (.lst (E.map rN)) (nI x) (nI y) [] x y .no .no .no)=.ok (lev E c k):=by
  show R.ok (aY E c k).reverse=_;rw[wj]
 have e0:(.str "":PV)=.str (br []):=by kernel_rfl
 unfold eO;rw[sq (ρ1:=[.val (.lst (aY E c k)),.val (.lst (E.map rN)),.val (nI x),.val (nI y),.val (.str (br [])),.no,.no,.no,.no,.no]) (by rw[← e0];rfl),sq (ρ1:=[.val (.lst (aY E c k)),.val (.lst (E.map rN)),.val (nI x),.val (nI y),.val (.str (br [])),.val (nI x),.no,.no,.no,.no]) rfl,sq (ρ1:=pst (.lst (aY E c k)) (.lst (E.map rN)) (nI x) (nI y) [] x y .no .no .no) rfl]
 have fs:iB (H0 (a8 0)) (ai 7) bh (pst (.lst (aY E c k)) (.lst (E.map rN)) (nI x) (nI y) [] x y .no .no .no)=.ok (.next (pst (.lst (aY E c k)) (.lst (E.map rN)) (nI x) (nI y) r x' y' a b d)):=by
  unfold iB;rw[rv];exact f
 rw[sq fs];rfl
theorem Hc(a b:Nat):gEq (nI a) (nI b)=some (.bl (decide (a=b))):=by
 show (if mD (nI a)=true/\mD (nI b)=true/\yP (scV (nI a)) (scV (nI b))=true then some (PV.bl (decide (scV (nI a)=scV (nI b)))) else none)=_;rw[if_pos ⟨rfl,rfl,rfl⟩]
 congr 2
 have:(scV (nI a)=scV (nI b)) ↔ a=b:=⟨fun e=>by
  have e:V.int (a:Int)=V.int (b:Int):=e;injection e with e;omega,fun e=>by rw[e]⟩
 exact decide_eq_decide.mpr this
theorem yJ(E:List (List Nat))(c:List Nat)(k m:Nat)(h:m<k):gIx (.lst (aY E c k)) (.int (m:Nat))=some (.lst ((cs E c m).map nI)):=bf (n:=m) rfl (by
 unfold aY;rw[LO,MW h];rfl)
theorem v9(E:List (List Nat))(c:List Nat)(k m:Nat)(h:m<=k):jD (aY E c k) none (some (m:Int))=aY E c m:=by
 unfold jD;have e0:HT.sIx (aY E c k).length 0 none=0:=rfl;have e1:HT.sIx (aY E c k).length (aY E c k).length (some (m:Int))=SR m (aY E c k).length:=HT.sIx_nat _ _ m;have l:(aY E c k).length=k:=by simp[aY]
 rw[e0,e1,l,Qh h,Nat.sub_zero,List.drop_zero];unfold aY;rw[← R3,List.take_range,Qh h]
abbrev qst(H o1 o2 FS EM T:PV)(hour:Int)(m:Sl):PSt:=[.val H,.val (.int hour),.val o1,.val o2,.val FS,.val EM,.val T,m]
abbrev HQ:PSt->R Bool:=di (ah (ah (ah (a8 6) (a8 7) gIx) (a8 2) gIx) (ah (ah (a8 6) (a8 7) gIx) (a8 3) gIx) gEq)
theorem HR{E:List (List Nat)}{c:List Nat}(G:Gr E c)(H FS EM:PV)(hour:Int)(k m x y:Nat)(hm:m<k)(hx:x<c.length)(hy:y<c.length):HQ (qst H (nI x) (nI y) FS EM (.lst (aY E c k)) hour (.val (.int (m:Nat))))=.ok (decide (cv E c m x=cv E c m y)):=by
 have l:=(mq E c G.len G.nm m).1;have t:=yJ E c k m hm;have a1:gIx (.lst ((cs E c m).map nI)) (nI x)=some (nI (cv E c m x)):=lS (cs E c m) x (by omega);have a2:gIx (.lst ((cs E c m).map nI)) (nI y)=some (nI (cv E c m y)):=lS (cs E c m) y (by omega);have a3:=Hc (cv E c m x) (cv E c m y);simp only[qst];generalize aY E c k=T at *;generalize (cs E c m).map nI=CM at *;generalize nI (cv E c m x)=A at *;generalize nI (cv E c m y)=B at *;generalize nI x=NX at *;generalize nI y=NY at *;simp[HQ,t,a1,a2,a3]
theorem vm{E:List (List Nat)}{c:List Nat}(G:Gr E c)(H FS EM:PV)(hour:Int)(k s x y:Nat)(hs:s<k)(hx:x<c.length)(hy:y<c.length)(h1:∀m,m<s->cv E c m x=cv E c m y)(h2:cv E c s x≠cv E c s y) :
  ∀n m,m<=s->s<m+n->whF HQ gp n (qst H (nI x) (nI y) FS EM (.lst (aY E c k)) hour (.val (.int (m:Nat))))=.ok (.next (qst H (nI x) (nI y) FS EM (.lst (aY E c k)) hour (.val (.int (s:Nat)))))
 | 0,m,a,b=>by omega
 | n+1,m,a,b=>by
  unfold whF;rw[HR G H FS EM hour k m x y (by omega) hx hy]
  by_cases e:m=s
  ·subst e
   rw[decide_eq_false h2];rfl
  ·rw[decide_eq_true (h1 m (by omega))]
   have bb:gp (qst H (nI x) (nI y) FS EM (.lst (aY E c k)) hour (.val (.int (m:Nat))))=.ok (.next (qst H (nI x) (nI y) FS EM (.lst (aY E c k)) hour (.val (.int ((m+1:Nat):Int))))):=rfl;show (R.ok true >>= _)=_;rw[R.ok_bind,if_pos rfl,bb];exact vm G H FS EM hour k s x y hs hx hy h1 h2 n (m+1) (by omega) (by omega)
theorem CV{h:House}{nms ord:List Str}(hg:HG h nms ord){hour:Int}{s0:St}{found:List (BF.Row St)}(F:Found h nms hour s0 found):Gr (EN_ h nms hour found) (c0 h found):=by
 obtain⟨l1,l2,_⟩:=zT hg F;have lc:(c0 h found).length=found.length:=by simp[c0,gO]
 exact⟨by rw[l1,lc],fun js hj=>by rw[lc];exact l2 js hj,zu _⟩
theorem zB(P:Nat->Prop):∀K,P K->∃s,s<=K/\P s/\∀m,m<s->¬ P m:=by
 intro K
 induction K using Nat.strongRecOn with
 | _ K ih=>
  intro h
  by_cases z:∃m,m<K/\P m
  ·obtain⟨m,hm,pm⟩:=z
   obtain⟨s,a,b,d⟩:=ih m hm pm;exact⟨s,by omega,b,d⟩
  ·exact⟨K,LY _,h,fun m hm pm=>z ⟨m,hm,pm⟩⟩
theorem uc{h:House}{nms ord:List Str}(hg:HG h nms ord){hour:Int}{s0:St}{found:List (BF.Row St)}(F:Found h nms hour s0 found)(ep:cG [h.pv,.int hour]=some (.lst (found.map av)))(K:Nat)(hK:K<=found.length)
  (ec:bF [h.pv,.lst (found.map av),.lst ((EN_ h nms hour found).map rN)]=some (.lst (aY (EN_ h nms hour found) (c0 h found) (K+1)))) (x y:Nat) (hx:x<found.length) (hy:y<found.length) :
  (cv (EN_ h nms hour found) (c0 h found) K x=cv (EN_ h nms hour found) (c0 h found) K y/\fJ [h.pv,.int hour,nI x,nI y]=some .non) ∨
  ∃s r,s<=K/\(∀m,m<s->cv (EN_ h nms hour found) (c0 h found) m x=cv (EN_ h nms hour found) (c0 h found) m y)/\cv (EN_ h nms hour found) (c0 h found) s x≠cv (EN_ h nms hour found) (c0 h found) s y/\cv (EN_ h nms hour found) (c0 h found) K x≠cv (EN_ h nms hour found) (c0 h found) K y/\Pt (EN_ h nms hour found) (c0 h found) s x y r/\fJ [h.pv,.int hour,nI x,nI y]=some (.str (br r)):=by
 obtain⟨_,_,en⟩:=zT hg F;have G:=CV hg F;have lc:(c0 h found).length=found.length:=by simp[c0,gO]
 have hln:=F.ln;have ng:qz (.int 1)=some (.int (-1)):=rfl
 have la:gIx (.lst (aY (EN_ h nms hour found) (c0 h found) (K+1))) (.int (-1))=some (.lst ((cs (EN_ h nms hour found) (c0 h found) K).map nI)):=by
  rw[fE];exact mw _ _
 have lk:=(mq (EN_ h nms hour found) (c0 h found) G.len G.nm K).1;have a1:gIx (.lst ((cs (EN_ h nms hour found) (c0 h found) K).map nI)) (nI x)=some (nI (cv (EN_ h nms hour found) (c0 h found) K x)):=lS _ x (by omega);have a2:gIx (.lst ((cs (EN_ h nms hour found) (c0 h found) K).map nI)) (nI y)=some (nI (cv (EN_ h nms hour found) (c0 h found) K y)):=lS _ y (by omega);have a3:=Hc (cv (EN_ h nms hour found) (c0 h found) K x) (cv (EN_ h nms hour found) (c0 h found) K y)
 by_cases e:cv (EN_ h nms hour found) (c0 h found) K x=cv (EN_ h nms hour found) (c0 h found) K y
 ·refine .inl ⟨e,au rfl ?_⟩
  rw[decide_eq_true e] at a3;generalize nI (cv (EN_ h nms hour found) (c0 h found) K x)=A at *;generalize nI (cv (EN_ h nms hour found) (c0 h found) K y)=B at *;generalize (cs (EN_ h nms hour found) (c0 h found) K).map nI=CK at *;generalize aY (EN_ h nms hour found) (c0 h found) (K+1)=TK at *;generalize (EN_ h nms hour found).map rN=EM at *;generalize found.map av=FS at *;generalize nI x=NX at *;generalize nI y=NY at *;generalize h.pv=H at *;simp[jk,PU.start,ep,en,ec,ng,la,a1,a2,a3]
 ·obtain⟨s,s1,s2,s3⟩:=zB (fun m=>cv (EN_ h nms hour found) (c0 h found) m x≠cv (EN_ h nms hour found) (c0 h found) m y) K e
  have s3:∀m,m<s->cv (EN_ h nms hour found) (c0 h found) m x=cv (EN_ h nms hour found) (c0 h found) m y:=fun m hm=>by
   by_cases q:cv (EN_ h nms hour found) (c0 h found) m x=cv (EN_ h nms hour found) (c0 h found) m y
   ·exact q
   ·exact absurd q (s3 m hm)
  obtain⟨r,pt,fp⟩:=IS G s x y (by omega) (by omega) (fun k' ek=>⟨s2,s3 k' (by omega)⟩) (by omega);refine .inr ⟨s,r,s1,s3,s2,e,pt,au rfl ?_⟩;rw[decide_eq_false e] at a3;have wh:=vm G h.pv (.lst (found.map av)) (.lst ((EN_ h nms hour found).map rN)) hour (K+1) s x y (by omega) (by omega) (by omega) s3 s2 20000 0 (by omega) (by omega);have cu:=v9 (EN_ h nms hour found) (c0 h found) (K+1) s (by omega)
  have sl:gSl (.lst (aY (EN_ h nms hour found) (c0 h found) (K+1))) none (some (s:Int))=some (.lst (aY (EN_ h nms hour found) (c0 h found) s)):=by
   show some (PV.lst (jD _ none (some (s:Int))))=_;rw[cu]
  simp only[qst] at wh;have wh:whF (di (ah (ah (ah (a8 6) (a8 7) gIx) (a8 2) gIx) (ah (ah (a8 6) (a8 7) gIx) (a8 3) gIx) gEq)) gp 20000 [.val h.pv,.val (.int hour),.val (nI x),.val (nI y),.val (.lst (found.map av)),.val (.lst ((EN_ h nms hour found).map rN)),.val (.lst (aY (EN_ h nms hour found) (c0 h found) (K+1))),.val (.int 0)]=_:=wh;generalize nI (cv (EN_ h nms hour found) (c0 h found) K x)=A at *;generalize nI (cv (EN_ h nms hour found) (c0 h found) K y)=B at *;generalize (cs (EN_ h nms hour found) (c0 h found) K).map nI=CK at *;generalize aY (EN_ h nms hour found) (c0 h found) (K+1)=TK at *;generalize aY (EN_ h nms hour found) (c0 h found) s=TS at *;generalize (EN_ h nms hour found).map rN=EM at *;generalize found.map av=FS at *;generalize br r=RR at *;generalize nI x=NX at *;generalize nI y=NY at *;generalize h.pv=H at *;simp[jk,PU.start,ep,en,ec,ng,la,a1,a2,a3,whS];rw[wh];simp[sl,fp]
theorem Pt.len{E:List (List Nat)}{c:List Nat}{k x y:Nat}{r:List Nat}(h:Pt E c k x y r):r.length=k/\∀i∈r,i<13:=by
 induction h with
 | nil=>exact⟨rfl,by simp⟩
 | cons h1 _ _ _ ih=>
  refine⟨by simp[ih.1],fun j hj=>?_⟩;rcases LX.mp hj with rfl | hj
  ·exact h1
  ·exact ih.2 j hj
theorem Pt.sep{E:List (List Nat)}{c:List Nat}{k x y:Nat}{r:List Nat}(h:Pt E c k x y r):cv E c k x≠cv E c k y->cv E c 0 (runN E x r)≠cv E c 0 (runN E y r):=by
 induction h with
 | nil=>exact fun h=>h
 | cons _ h2 _ _ ih=>exact fun _=>ih h2
theorem Pt.least{E:List (List Nat)}{c:List Nat}(G:Gr E c){k x y:Nat}{r:List Nat}(h:Pt E c k x y r):x<c.length->y<c.length->∀q:List Nat,(∀i∈q,i<13)->q.length=r.length->BF.lexLt q r=true->cv E c 0 (runN E x q)=cv E c 0 (runN E y q):=by
 induction h with
 | nil=>
  intro _ _ q _ hl hq;have:q=[]:=Nc.mp (by simpa using hl);subst this;simp[BF.lexLt] at hq
 | @cons k x y i r h1 h2 h3 pt ih=>
  intro hx hy q hr hl hq;cases q with
  | nil=>simp at hl
  | cons j q=>
   simp only[BF.lexLt] at hq;have hj:=hr j (by simp);have hq':∀m∈q,m<13:=fun m hm=>hr m (by simp[hm]);have hl':q.length=r.length:=by simpa using hl
   by_cases e:j=i
   ·subst e
    rw[if_pos rfl] at hq;exact ih (G.nx_lt x j hx h1) (G.nx_lt y j hy h1) q hq' hl' hq
   ·rw[if_neg e] at hq
    have hlt:j<i:=by simpa using hq
    exact(G.moore k _ _ (G.nx_lt x j hx hj) (G.nx_lt y j hy hj)).mp (h3 j hlt) q hq' (by rw[hl',pt.len.1];exact LY _)
theorem Pt.ahead{E:List (List Nat)}{c:List Nat}(G:Gr E c){k x y:Nat}{r:List Nat}(h:Pt E c k x y r)(hx:x<c.length)(hy:y<c.length)(hm:∀m,m<k->cv E c m x=cv E c m y)(q:List Nat)(hq:∀i∈q,i<13)(hl:BF.lt q r):cv E c 0 (runN E x q)=cv E c 0 (runN E y q):=by
 rcases hl with hl | ⟨hl,hx'⟩
 ·rw[h.len.1] at hl
  exact(G.moore q.length x y hx hy).mp (hm _ hl) q hq (LY _)
 ·exact h.least G hx hy q hq hl hx'
theorem xA{E:List (List Nat)}{c:List Nat}{K:Nat}(h:cs E c (K+1)=cs E c K):∀n,cs E c (K+n)=cs E c K
 | 0=>rfl
 | n+1=>by
  show finer (cs E c (K+n)) E=_;rw[xA h n];exact h
theorem never{E:List (List Nat)}{c:List Nat}(G:Gr E c){K x y:Nat}(hs:cs E c (K+1)=cs E c K)(hx:x<c.length)(hy:y<c.length)(h:cv E c K x=cv E c K y)(q:List Nat)(hq:∀i∈q,i<13):cv E c 0 (runN E x q)=cv E c 0 (runN E y q):=by
 refine(G.moore (K+q.length) x y hx hy).mp ?_ q hq (by omega);unfold cv at h ⊢;rw[xA hs];exact h
section
variable{h : House}{nms ord : List Str}(hg : HG h nms ord){hour : Int}{s0 : St}{found : List (BF.Row St)}(F : Found h nms hour s0 found)
include hg F
theorem qM:∀(r:List Nat)(x:Nat)(p:BF.Row St),(∀i∈r,i<13)->found[x]?=some p->∃q,found[runN (EN_ h nms hour found) x r]?=some q/\q.1=r.foldl (lead h nms hour) p.1
 | [],x,p,_,hp=>⟨p,hp,rfl⟩
 | i::r,x,p,hr,hp=>by
  have hi:=hr i (by simp);have hm:=M5 hp
  have e:nx (EN_ h nms hour found) x i=cR found (lead h nms hour p.1 i):=by
   have er:(EN_ h nms hour found).getD x []=(LI 13).map fun i=>cR found (lead h nms hour p.1 i):=by
    unfold EN_;rw[Lm,LO,hp];rfl
   unfold nx;rw[er,Lm,LO,MW hi];rfl
  obtain⟨q,e1,e2⟩:=vB found (lead h nms hour p.1 i) (tx hg hour F p hm i hi);rw[← e] at e1;obtain⟨q2,e3,e4⟩:=qM r (nx (EN_ h nms hour found) x i) q (fun j hj=>hr j (by simp[hj])) e1;exact⟨q2,e3,by rw[e4,e2];rfl⟩
omit hg F in
theorem Be(x y:Nat)(p q:BF.Row St)(hp:found[x]?=some p)(hq:found[y]?=some q)(E:List (List Nat)):cv E (c0 h found) 0 x=cv E (c0 h found) 0 y ↔ hP h p.1=hP h q.1:=by
 have hx:=(LM.mp hp).1;have hy:=(LM.mp hq).1;have l:(c0 h found).length=found.length:=by simp[c0,gO]
 have gd:∀z,z<found.length->(c0 h found)[z]?=some (cv E (c0 h found) 0 z):=fun z hz=>by
  unfold cv;show _=some ((c0 h found).getD z 0);rw[Lm,LG (by omega)];rfl
 have it:=vT ((found.map fun p=>hP h p.1).map hK) x y (by simpa using hx) (by simpa using hy);have it:(c0 h found)[x]?=(c0 h found)[y]? ↔ _:=it;rw[gd x hx,gd y hy,Mj,LO,LO,LO,LO,hp,hq] at it;refine it.trans ?_;show some (hK _)=some (hK _) ↔ _;rw[Mj];exact⟨fun e=>B1 e,fun e=>congrArg hK e⟩
end
theorem FP(r:List Nat):eN (.str (br r))=some (r.map fun i=>WO.sg (cd i)):=by unfold br;rw[WO.it_mk,Lh];rfl
theorem ig{h:House}{nms ord:List Str}(hg:HG h nms ord)(hour:Int):∀(r:List Nat)(s:St),Ok h nms s->Ok h nms (r.foldl (lead h nms hour) s)
 | [],_,hs=>hs
 | i::r,s,hs=>ig hg hour r _ (lO hg hour s hs i).1
theorem xP{h:House}{nms ord:List Str}(hg:HG h nms ord)(hour:Int)(RR:PV):∀(r:List Nat)(s:St)(a:Sl),Ok h nms s->∃a',gh (ai 4) dE (r.map fun i=>WO.sg (cd i)) [.val h.pv,.val (.int hour),.val s.pv,.val RR,a]=.ok (.next [.val h.pv,.val (.int hour),.val (r.foldl (lead h nms hour) s).pv,.val RR,a'])
 | [],s,a,_=>⟨a,rfl⟩
 | i::r,s,a,hs=>by
  have e:=jb hg hour s hs i;obtain⟨a',f⟩:=xP hg hour RR r (lead h nms hour s i) (.val (WO.sg (cd i))) (lO hg hour s hs i).1;refine⟨a',?_⟩
  have b1:dE [.val h.pv,.val (.int hour),.val s.pv,.val RR,.val (WO.sg (cd i))]=.ok (.next [.val h.pv,.val (.int hour),.val (lead h nms hour s i).pv,.val RR,.val (WO.sg (cd i))]):=by
   generalize (lead h nms hour s i).pv=S2 at *;generalize WO.sg (cd i)=G at *;generalize s.pv=S at *;generalize h.pv=H at *;simp[dE,e]
  rw[LH];unfold gh;show (R.ok ([.val h.pv,.val (.int hour),.val s.pv,.val RR,.val (WO.sg (cd i))]:PSt) >>= _)=_;rw[R.ok_bind,b1];exact f
theorem qv{h:House}{nms ord:List Str}(hg:HG h nms ord)(hour:Int)(s:St)(hs:Ok h nms s)(r:List Nat):dN [h.pv,.int hour,s.pv,.str (br r)]=some (hE (hP h (r.foldl (lead h nms hour) s))):=by
 obtain⟨a,f⟩:=xP hg hour (.str (br r)) r s .no hs;have hd:=gc hg _ (ig hg hour r s hs);have it:=FP r;refine au rfl ?_;generalize hE (hP h (r.foldl (lead h nms hour) s))=HE at *;generalize (r.foldl (lead h nms hour) s).pv=S2 at *;generalize (r.map fun i=>WO.sg (cd i))=RS at *;generalize br r=RR at *;generalize s.pv=S at *;generalize h.pv=H at *;simp[gV,PU.start,it];rw[f];simp[hd]
def kR(r:List Nat):PV:=.tup [.int r.length,.lst (r.map fun i:Nat=>PV.int (i:Int))]
theorem KI (i:Nat) (hi:i<13):nE (.str "0123456789*#w") (WO.sg (cd i))=some (.int i):=by
 match i,hi with
 | 0,_=>kernel_rfl
 | 1,_=>kernel_rfl
 | 2,_=>kernel_rfl
 | 3,_=>kernel_rfl
 | 4,_=>kernel_rfl
 | 5,_=>kernel_rfl
 | 6,_=>kernel_rfl
 | 7,_=>kernel_rfl
 | 8,_=>kernel_rfl
 | 9,_=>kernel_rfl
 | 10,_=>kernel_rfl
 | 11,_=>kernel_rfl
 | 12,_=>kernel_rfl
theorem sP(ρ:PSt)(hρ:ρ=[.no]):∀(r:List Nat),(∀i∈r,i<13)->c8 (ai 0) iT oG ρ (r.map fun i=>WO.sg (cd i))=.ok (r.map fun i:Nat=>PV.int (i:Int))
 | [],_=>rfl
 | i::r,h=>by
  have ih:=sP ρ hρ r fun j hj=>h j (by simp[hj]);have e:=KI i (h i (by simp))
  have e1:oG [.val (WO.sg (cd i))]=.ok (.int i):=by
   generalize WO.sg (cd i)=G at *;show qX (kS "0123456789*#w") (a8 0) nE _=_;simp[e]
  rw[LH];unfold c8;rw[show ai 0 (WO.sg (cd i)) ρ=some [.val (WO.sg (cd i))] by rw[hρ];rfl];simp only[R.ofO_some,R.ok_bind,rO,if_true,e1,ih];rfl
theorem vj(r:List Nat)(h:∀i∈r,i<13)(hl:r.length<=100000):qb [.str (br r)]=some (kR r):=by
 have ei:eN (.str (br r))=some (r.map fun i=>WO.sg (cd i)):=by
  unfold br;rw[WO.it_mk,Lh];rfl
 have gl:kD (.str (br r))=some (.int r.length):=by
  unfold br;rw[gy (by rw[ck,LJ];omega),ck,LJ]
 have ec:=sP [.no] rfl r h;have z:(r.map fun i:Nat=>PV.int (i:Int)).length<=16777216:=by simp;omega
 unfold kR;generalize br r=RR at *;generalize (r.map fun i=>WO.sg (cd i))=RS at *;generalize (r.map fun i:Nat=>PV.int (i:Int))=RI at *;refine au rfl ?_;simp[wR,PU.start,gl,ei,bY,ec,z]
def iL(r:List Nat):List Int:=r.map fun i:Nat=>(i:Int)
theorem Cj(r:List Nat):pS (r.map fun i:Nat=>PV.int (i:Int))=some (iL r):=by
 have:=wL (iL r);unfold iL at this;rw[Lh] at this;exact this
theorem sG:∀a b:List Nat,ltL (iL a) (iL b)=true->BF.lexLt a b=true
 | [],[],h=>by simp[iL,ltL] at h
 | [],_::_,h=>by simp[iL,ltL] at h
 | _::_,[],h=>by simp[iL,ltL] at h
 | x::xs,y::ys,h=>by
  have h:(if (x:Int)=(y:Int) then ltL (iL xs) (iL ys) else decide ((x:Int)<(y:Int)))=true:=h;simp only[BF.lexLt]
  by_cases e:x=y
  ·rw[if_pos (by omega)] at h
   rw[if_pos e];exact sG xs ys h
  ·rw[if_neg (by omega)] at h
   rw[if_neg e];simp at h ⊢;omega
theorem IX(a b:List Nat)(ha:∀i∈a,i<13)(hb:∀i∈b,i<13)(la:a.length<=100000)(lb:b.length<=100000):∃z:Bool,jo [.str (br a),.str (br b)]=some (.bl z)/\(z=true->BF.lt a b):=by
 have e1:=vj a ha la;have e2:=vj b hb lb;have l1:(iL a).length=a.length:=by simp[iL]
 have l2:(iL b).length=b.length:=by simp[iL]
 obtain⟨z,e3,hz⟩:∃z:Bool,G3 (kR a) (kR b)=some (.bl z)/\(z=true->BF.lt a b):=by
  unfold kR;simp only[G3,Cj];rw[if_neg (by omega)];refine⟨_,rfl,fun h=>?_⟩
  by_cases e:(a.length:Int)=(b.length:Int)
  ·rw[if_pos e] at h
   exact .inr ⟨by omega,sG a b h⟩
  ·rw[if_neg e] at h
   exact .inl (by simpa using h)
 refine⟨z,?_,hz⟩;generalize br a=A at *;generalize br b=B at *;generalize kR a=KA at *;generalize kR b=KB at *;refine au rfl ?_;simp[lY,PU.start,e1,e2,e3]
theorem Ip(a b:Str×Str):gNe (hE a) (hE b)=some (.bl (!decide (a=b)))/\gEq (hE a) (hE b)=some (.bl (decide (a=b))):=by
 have e:bg [PV.str a.1,.str a.2] [PV.str b.1,.str b.2]=some (decide (a=b)):=by
  have:=vG [PV.str a.1,.str a.2] [PV.str b.1,.str b.2] (hK a) (hK b) rfl rfl;rw[this]
  congr 1
  exact decide_eq_decide.mpr ⟨B1,fun e=>by rw[e]⟩
 have z:dj [PV.str a.1,.str a.2]<=60:=by simp[vK,dj]
 constructor
 ·have q:gNe (hE a) (hE b)=if dj [PV.str a.1,.str a.2]<=60 then (bg [PV.str a.1,.str a.2] [PV.str b.1,.str b.2]).map fun b=>.bl (!b) else none:=rfl
  rw[q,if_pos z,e];rfl
 ·have q:gEq (hE a) (hE b)=if dj [PV.str a.1,.str a.2]<=60 then (bg [PV.str a.1,.str a.2] [PV.str b.1,.str b.2]).map .bl else none:=rfl
  rw[q,if_pos z,e];rfl
theorem Ew(r:List Nat)(k:Nat)(hk:k<r.length)(hl:r.length<=100000):gIx (.str (br r)) (.int (k:Nat))=some (WO.sg (cd r[k])):=by
 unfold br;rw[sQ (r.map cd) (k:Int) (by omega) (by rw[LJ];omega) (by rw[LJ];omega)]
 have e:(r.map cd).getD (k:Int).toNat 0=cd r[k]:=by
  rw[P4,Lm,LO,LG hk];rfl
 rw[e];rfl
theorem KJ{t:PSt->R Bool}{f g:PSt->R Fl}{ρ:PSt}(h:t ρ=.ok false):ifF t f g ρ=g ρ:=by
 unfold ifF;rw[h];rfl
abbrev Aj(h:House)(nms:List Str)(hour:Int)(s1 s2:St)(q:List Nat):Prop:=hP h (q.foldl (lead h nms hour) s1)=hP h (q.foldl (lead h nms hour) s2)
def ya(h:House)(nms:List Str)(hour:Int)(s1 s2:St)(P:PV):Prop:=
 (P=.non/\∀q:List Nat,(∀i∈q,i<13)->Aj h nms hour s1 s2 q) ∨
 ∃t:List Nat,P=.str (br t)/\(∀i∈t,i<13)/\t.length<=100000/\(∀q:List Nat,(∀i∈q,i<13)->BF.lt q t->Aj h nms hour s1 s2 q)/\¬ Aj h nms hour s1 s2 t
section
variable{h : House}{nms ord : List Str}(hg : HG h nms ord)(hour : Int)
include hg
theorem vL(s1 s2:St)(o1:Ok h nms s1)(o2:Ok h nms s2)(r:List Nat)(hr:∀i∈r,i<13)(hl:r.length<=1000)(P:PV)(pk:ya h nms hour s1 s2 P):f7 [h.pv,.int hour,s1.pv,s2.pv,.str (br r),P]=some (.bl true):=by
 refine au rfl ?_
 obtain⟨ρ',f1,a,rfl⟩:=forR (n:=r.length) (lo:=0) (h:=ai 8) (g:=dB) (ρ:=[.val h.pv,.val (.int hour),.val s1.pv,.val s2.pv,.val (.str (br r)),.val P,.val s1.pv,.val s2.pv,.no])
  (I:=fun k ρ=>∃a,ρ=[.val h.pv,.val (.int hour),.val s1.pv,.val s2.pv,.val (.str (br r)),.val P,.val ((r.take k).foldl (lead h nms hour) s1).pv,.val ((r.take k).foldl (lead h nms hour) s2).pv,a]) ⟨.no,by simp⟩ (by
   rintro k ρ hk ⟨a,rfl⟩;rw[QN];have et:r.take (k+1)=r.take k++[r[k]]:=NO hk;have w1:=ig hg hour (r.take k) s1 o1;have w2:=ig hg hour (r.take k) s2 o2;have hq:∀i∈r.take k,i<13:=fun i hi=>hr i (List.mem_of_mem_take hi);have e1:=gc hg _ w1;have e2:=gc hg _ w2;have e3:=(Ip (hP h ((r.take k).foldl (lead h nms hour) s1)) (hP h ((r.take k).foldl (lead h nms hour) s2))).1;have s1':=jb hg hour _ w1 r[k];have s2':=jb hg hour _ w2 r[k];have ra:=Ew r k hk (by omega)
   have sl:yp (.str (br r)) none (some (k:Int))=some (.str (br (r.take k))):=by
    unfold br;rw[yy _ _ (by rw[ck,LJ];omega),kM,R3]
   refine⟨[.val h.pv,.val (.int hour),.val s1.pv,.val s2.pv,.val (.str (br r)),.val P,.val ((r.take k).foldl (lead h nms hour) s1).pv,.val ((r.take k).foldl (lead h nms hour) s2).pv,.val (.int (k:Nat))],[.val h.pv,.val (.int hour),.val s1.pv,.val s2.pv,.val (.str (br r)),.val P,.val ((r.take (k+1)).foldl (lead h nms hour) s1).pv,.val ((r.take (k+1)).foldl (lead h nms hour) s2).pv,.val (.int (k:Nat))],rfl,.inl ?_,_,rfl⟩;rw[et,Nv,Nv];show dB _=.ok (.next [.val h.pv,.val (.int hour),.val s1.pv,.val s2.pv,.val (.str (br r)),.val P,.val (lead h nms hour ((r.take k).foldl (lead h nms hour) s1) r[k]).pv,.val (lead h nms hour ((r.take k).foldl (lead h nms hour) s2) r[k]).pv,.val (.int (k:Nat))]);unfold dB
   rw[sq (ρ1:=[.val h.pv,.val (.int hour),.val s1.pv,.val s2.pv,.val (.str (br r)),.val P,.val ((r.take k).foldl (lead h nms hour) s1).pv,.val ((r.take k).foldl (lead h nms hour) s2).pv,.val (.int (k:Nat))]) (by
    rw[KJ (by
     rcases pk with⟨rfl,pk⟩|⟨t,rfl,t1,t2,t3,t4⟩
     ·rw[decide_eq_true (pk (r.take k) hq)] at e3
      have gn:pV .non .non=some (.bl true):=rfl;generalize hE (hP h ((r.take k).foldl (lead h nms hour) s1))=A1 at *;generalize hE (hP h ((r.take k).foldl (lead h nms hour) s2))=A2 at *;generalize ((r.take k).foldl (lead h nms hour) s1).pv=S1 at *;generalize ((r.take k).foldl (lead h nms hour) s2).pv=S2 at *;generalize h.pv=H at *;simp[gn,e1,e2,e3]
     ·have gn:pV (.str (br t)) .non=some (.bl false):=rfl
      obtain⟨z,ez,hz⟩:=IX (r.take k) t hq t1 (by rw[N6];omega) t2;cases z with
      | false=>
       generalize ((r.take k).foldl (lead h nms hour) s1).pv=S1 at *;generalize ((r.take k).foldl (lead h nms hour) s2).pv=S2 at *;generalize br (r.take k)=RK at *;generalize br r=RR at *;generalize br t=RT at *;generalize h.pv=H at *;simp[gn,sl,ez]
      | true=>
       rw[decide_eq_true (t3 (r.take k) hq (hz rfl))] at e3;generalize hE (hP h ((r.take k).foldl (lead h nms hour) s1))=A1 at *;generalize hE (hP h ((r.take k).foldl (lead h nms hour) s2))=A2 at *;generalize ((r.take k).foldl (lead h nms hour) s1).pv=S1 at *;generalize ((r.take k).foldl (lead h nms hour) s2).pv=S2 at *;generalize br (r.take k)=RK at *;generalize br r=RR at *;generalize br t=RT at *;generalize h.pv=H at *;simp[gn,sl,ez,e1,e2,e3])]
    rfl)]
   generalize (lead h nms hour ((r.take k).foldl (lead h nms hour) s1) r[k]).pv=L1 at *;generalize (lead h nms hour ((r.take k).foldl (lead h nms hour) s2) r[k]).pv=L2 at *;generalize ((r.take k).foldl (lead h nms hour) s1).pv=S1 at *;generalize ((r.take k).foldl (lead h nms hour) s2).pv=S2 at *;generalize WO.sg (cd r[k])=SG at *;generalize br r=RR at *;generalize h.pv=H at *;simp[ra,s1',s2'])
 have tk:r.take r.length=r:=O4;rw[tk] at f1
 have gl:kD (.str (br r))=some (.int r.length):=by
  unfold br;rw[gy (by rw[ck,LJ];omega),ck,LJ]
 have rg:GZ (.int r.length)=.ok (cg 0 r.length):=by
  rw[uW (by omega) (by omega),P4]
 have w1:=ig hg hour r s1 o1;have w2:=ig hg hour r s2 o2;have e1:=gc hg _ w1;have e2:=gc hg _ w2;have e3:=(Ip (hP h (r.foldl (lead h nms hour) s1)) (hP h (r.foldl (lead h nms hour) s2))).2;rcases pk with⟨rfl,pk⟩|⟨t,rfl,t1,t2,t3,t4⟩
 ·rw[decide_eq_true (pk r hr)] at e3
  have gn:pV .non .non=some (.bl true):=rfl;generalize hE (hP h (r.foldl (lead h nms hour) s1))=A1 at *;generalize hE (hP h (r.foldl (lead h nms hour) s2))=A2 at *;generalize (r.foldl (lead h nms hour) s1).pv=S1' at *;generalize (r.foldl (lead h nms hour) s2).pv=S2' at *;generalize br r=RR at *;generalize s1.pv=S1 at *;generalize s2.pv=S2 at *;generalize h.pv=H at *;simp[eY,PU.start,gl,rg];rw[f1];simp[gn,e1,e2,e3]
 ·have gn:pV (.str (br t)) .non=some (.bl false):=rfl
  have b1:=qv hg hour s1 o1 t;have b2:=qv hg hour s2 o2 t;have b3:=(Ip (hP h (t.foldl (lead h nms hour) s1)) (hP h (t.foldl (lead h nms hour) s2))).1;rw[decide_eq_false t4] at b3;generalize hE (hP h (t.foldl (lead h nms hour) s1))=A1 at *;generalize hE (hP h (t.foldl (lead h nms hour) s2))=A2 at *;generalize (r.foldl (lead h nms hour) s1).pv=S1' at *;generalize (r.foldl (lead h nms hour) s2).pv=S2' at *;generalize br r=RR at *;generalize br t=RT at *;generalize s1.pv=S1 at *;generalize s2.pv=S2 at *;generalize h.pv=H at *;simp[eY,PU.start,gl,rg];rw[f1];simp[gn,b1,b2,b3]
end
theorem AQ:∀(f:List (BF.Row St))(c:List Nat)(s:St),c.length=f.length->s∈f.map (·.1)->ji (kL f) (c.map nI) s.key=some (nI (c.getD (cR f s) 0))
 | [],_,_,_,h=>by simp at h
 | p::f,[],s,hl,_=>by simp at hl
 | p::f,n::c,s,hl,h=>by
  show (if p.1.key=s.key then some (nI n) else ji (kL f) (c.map nI) s.key)=_;unfold cR
  by_cases e:p.1=s
  ·rw[if_pos (by rw[e]),if_pos e]
   rfl
  ·rw[if_neg fun z=>e (St.kinj z),if_neg e]
   rw[LH] at h;rcases LX.mp h with z | z
   ·exact absurd z.symm e
   ·rw[AQ f c s (by simpa using hl) z]
    rfl
noncomputable def mk13(h:House)(nms:List Str)(hour:Int)(found:List (BF.Row St))(c:List Nat)(s:St):List Nat:=(LI 13).map fun i=>c.getD (cR found (lead h nms hour s i)) 0
noncomputable def mkL(h:House)(nms:List Str)(hour:Int)(found:List (BF.Row St))(c:List Nat)(s:St):PV:=.tup [hE (hP h s),.lst ((mk13 h nms hour found c s).map nI)]
theorem Cg(x:Str×Str)(l:List Nat):gNe (.tup [hE x,.lst (l.map nI)]) (.tup [hE x,.lst (l.map nI)])=some (.bl false):=by
 have e:bg [hE x,.lst (l.map nI)] [hE x,.lst (l.map nI)]=some true:=by
  have e1:bp (hE x) (hE x)=some true:=by
   show bg [PV.str x.1,.str x.2] [PV.str x.1,.str x.2]=_;simp[bg,bp]
  have e2:bp (.lst (l.map nI)) (.lst (l.map nI))=some true:=by
   show bg (l.map nI) (l.map nI)=_;rw[qQ,decide_eq_true rfl]
  simp[bg,e1,e2]
 have z:dj [hE x,.lst (l.map nI)]<=60:=by
  have:=oo l;simp[dj,vK,hE,this]
 have q:gNe (.tup [hE x,.lst (l.map nI)]) (.tup [hE x,.lst (l.map nI)])=if dj [hE x,.lst (l.map nI)]<=60 then (bg [hE x,.lst (l.map nI)] [hE x,.lst (l.map nI)]).map fun b=>.bl (!b) else none:=rfl
 rw[q,if_pos z,e];rfl
theorem Fh{f2:PSt->R PV}{g:PSt->R Fl}{w q:PV}{ρ:PSt}(h:f2 ρ=.ok q)(e:gNe w q=some (.bl false)):neK f2 g w ρ=.ok (.next ρ):=by
 unfold neK;rw[h];simp only[R.ok_bind,e,R.ofO_some]
theorem uq{i:Nat}{fk fv f2:PSt->R PV}{g:PSt->R Fl}{ρ:PSt}{ks:List Key}{ps:List PV}{kp p w:PV}{k:Key}(h:ρ[i]?=some (.own (.dct ks ps)))(hk:fk ρ=.ok kp)(hv:fv ρ=.ok p)(ht:eF kp=some k)(hl:ks.length<16777216)(hw:bJ ks ps k=some w):ku i fk fv f2 g ρ=neK f2 g w ρ:=by
 unfold ku;rw[h];simp only[hk,hv,ht,R.ok_bind,R.ofO_some,if_pos hl,hw]
theorem ur{i:Nat}{fk fv f2:PSt->R PV}{g:PSt->R Fl}{ρ:PSt}{ks:List Key}{ps:List PV}{kp p:PV}{k:Key}(h:ρ[i]?=some (.own (.dct ks ps)))(hk:fk ρ=.ok kp)(hv:fv ρ=.ok p)(ht:eF kp=some k)(hl:ks.length<16777216)(hw:bJ ks ps k=none):ku i fk fv f2 g ρ=neK f2 g p (ρ.set i (.own (kO ks ps k p))):=by
 unfold ku;rw[h];simp only[hk,hv,ht,R.ok_bind,R.ofO_some,if_pos hl,hw]
abbrev lP(h:House)(hour:Int)(found:List (BF.Row St))(c:List Nat)(s4 a b s7 s8 s9 s10 s11:Sl):PSt:=[.val h.pv,.val (.int hour),.val (.lst (found.map av)),.val (.lst (c.map nI)),s4,a,b,s7,s8,s9,s10,s11]
section
variable{h : House}{nms ord : List Str}(hg : HG h nms ord){hour : Int}{s0 : St}{found : List (BF.Row St)}(F : Found h nms hour s0 found)(c : List Nat)(hc : c.length = found.length)
include hg F hc
theorem lc1:∃a b,gh (gv 2 (aJ (ai 5) (aJ (ai 6) gw))) dD (((LI found.length).zip found).map enI) (lP h hour found c (.own (.dtt [] [])) .no .no .no .no .no .no .no)=.ok (.next (lP h hour found c (.own (.dtt (kL found) (c.map nI))) a b .no .no .no .no .no)):=by
 obtain⟨ρ',f1,a,b,rfl⟩:=forM (enc:=enI) (xs:=(LI found.length).zip found) (h:=gv 2 (aJ (ai 5) (aJ (ai 6) gw))) (g:=dD) (ρ:=lP h hour found c (.own (.dtt [] [])) .no .no .no .no .no .no .no)
  (I:=fun pre ρ=>∃a b,ρ=lP h hour found c (.own (.dtt (kL (pre.map (·.2))) ((c.take pre.length).map nI))) a b .no .no .no .no .no) ⟨_,_,rfl⟩ (by
   rintro pre x post ρ hx ⟨a,b,rfl⟩;obtain⟨hi,hf⟩:=uQ hx;obtain⟨i,p⟩:=x;have hi:i=pre.length:=hi;have hf:found=pre.map (·.2)++p::post.map (·.2):=hf
   have fresh:p.1 ∉ (pre.map (·.2)).map (·.1):=fun z=>by
    have nd:=F.inv.nd;rw[hf,Lq,LH,N1] at nd;exact nd.2.2 p.1 z p.1 (by simp) rfl
   have hany:((kL (pre.map (·.2))).any fun j=>decide (j=p.1.key))=false:=by
    rw[rK];exact decide_eq_false fresh
   have hlen:=F.ln;have hpl:pre.length<found.length:=by rw[hf];simp
   have il:i<c.length:=by omega
   have ix:gIx (.lst (c.map nI)) (.int (i:Nat))=some (nI (c.getD i 0)):=lS c i il;refine⟨lP h hour found c (.own (.dtt (kL (pre.map (·.2))) ((c.take pre.length).map nI))) (.val (.int i)) (.val (av p)) .no .no .no .no .no,lP h hour found c (.own (.dtt (kL ((pre++[(i,p)]).map (·.2))) ((c.take (pre++[(i,p)]).length).map nI))) (.val (.int i)) (.val (av p)) .no .no .no .no .no,rfl,.inl ?_,_,_,rfl⟩;unfold dD
   rw[qE (ks:=kL (pre.map (·.2))) (ps:=(c.take pre.length).map nI) (p:=nI (c.getD i 0)) (kp:=p.1.pv) (k:=p.1.key) rfl (by
    simp only[lP];generalize nI (c.getD i 0)=CI at *;generalize h.pv=H;generalize found.map av=FS;generalize kL (pre.map (·.2))=KK;generalize (c.take pre.length).map nI=CC;generalize c.map nI=CN at *;simp[ix]) rfl p.1.tk (by simp[kL];omega),o6 hany]
   have:(c.take (pre++[(i,p)]).length).map nI=(c.take pre.length).map nI++[nI (c.getD i 0)]:=by
    rw[Lw,Mh,← hi,NO il,Lq,Q0]
    congr 3
    rw[Lm,LG il];rfl
   rw[this];simp only[kL,Lq];rfl)
 have h2:((LI found.length).zip found).map (·.2)=found:=PD (by simp);have h3:((LI found.length).zip found).length=c.length:=by simp[hc]
 rw[h2,h3,O4] at f1;exact⟨a,b,f1⟩
theorem wm(p:BF.Row St)(hp:p∈found):∀l:List Nat,(∀i∈l,i<13)->c8 (ai 0) iT cz [.no,.val (.dtt (kL found) (c.map nI)),.val h.pv,.val (.int hour),.val p.1.pv] (l.map fun i=>WO.sg (cd i))=.ok (l.map fun i=>nI (c.getD (cR found (lead h nms hour p.1 i)) 0))
 | [],_=>rfl
 | i::l,hl=>by
  have ih:=wm p hp l fun j hj=>hl j (by simp[hj]);have hi:=hl i (by simp);have e2:=jb hg hour p.1 (F.ok p hp) i
  have ix:yq (.dtt (kL found) (c.map nI)) (lead h nms hour p.1 i).pv=some (nI (c.getD (cR found (lead h nms hour p.1 i)) 0)):=by
   rw[Ec _ _ (St.tk _),AQ found c _ hc (tx hg hour F p hp i hi)]
  have ee:cz [.val (WO.sg (cd i)),.val (.dtt (kL found) (c.map nI)),.val h.pv,.val (.int hour),.val p.1.pv]=.ok (nI (c.getD (cR found (lead h nms hour p.1 i)) 0)):=by
   generalize nI (c.getD (cR found (lead h nms hour p.1 i)) 0)=PO at *;generalize (lead h nms hour p.1 i).pv=S' at *;generalize PV.dtt (kL found) (c.map nI)=KD at *;generalize WO.sg (cd i)=G at *;generalize p.1.pv=S at *;generalize h.pv=H at *;simp[cz,e2,ix]
  rw[LH];unfold c8;rw[show ai 0 (WO.sg (cd i)) [.no,.val (.dtt (kL found) (c.map nI)),.val h.pv,.val (.int hour),.val p.1.pv]=some [.val (WO.sg (cd i)),.val (.dtt (kL found) (c.map nI)),.val h.pv,.val (.int hour),.val p.1.pv] from rfl];simp only[R.ofO_some,R.ok_bind,rO,if_true,ee,ih];rfl
theorem vW{K x y:Nat}(hs:cs (EN_ h nms hour found) (c0 h found) (K+1)=cs (EN_ h nms hour found) (c0 h found) K)(hk:c=cs (EN_ h nms hour found) (c0 h found) K)(p q:BF.Row St)(hp:found[x]?=some p)(hq:found[y]?=some q)(e:c.getD x 0=c.getD y 0):mkL h nms hour found c p.1=mkL h nms hour found c q.1:=by
 have G:=CV hg F;have lc:(c0 h found).length=found.length:=by simp[c0,gO]
 have hx:=(LM.mp hp).1;have hy:=(LM.mp hq).1
 have e':cv (EN_ h nms hour found) (c0 h found) K x=cv (EN_ h nms hour found) (c0 h found) K y:=by
  unfold cv;rw[← hk];exact e
 have e0:=never G hs (by omega) (by omega) e' [] (by simp);have h0:=(Be x y p q hp hq _).mp e0
 have e1:cv (EN_ h nms hour found) (c0 h found) (K+1) x=cv (EN_ h nms hour found) (c0 h found) (K+1) y:=by
  unfold cv at e' ⊢;rw[hs];exact e'
 have st:=((G.step K x y (by omega) (by omega)).mp e1).2
 have nxe:∀(z:Nat)(r:BF.Row St)(i:Nat),found[z]?=some r->i<13->nx (EN_ h nms hour found) z i=cR found (lead h nms hour r.1 i):=fun z r i hz hi=>by
  unfold nx EN_;rw[Lm,Lm,LO,hz];show (((LI 13).map fun i=>cR found (lead h nms hour r.1 i))[i]?).getD 0=_;rw[LO,MW hi];rfl
 have m:mk13 h nms hour found c p.1=mk13 h nms hour found c q.1:=by
  unfold mk13;refine Ms fun i hi=>?_;have hi:=MD.mp hi;have z:=st i hi;rw[nxe x p i hp hi,nxe y q i hq hi] at z;unfold cv at z;rw[← hk] at z;exact z
 unfold mkL;rw[h0,m]
theorem lc2{K:Nat}(hs:cs (EN_ h nms hour found) (c0 h found) (K+1)=cs (EN_ h nms hour found) (c0 h found) K)(hk:c=cs (EN_ h nms hour found) (c0 h found) K)(a b:Sl):∃ρ',gh (gv 2 (aJ (ai 5) (aJ (gv 2 (aJ (ai 8) (aJ (ai 9) gw))) gw))) dC (((LI found.length).zip found).map enI) (lP h hour found c (.own (.dtt (kL found) (c.map nI))) a b (.own (.dct [] [])) .no .no .no .no)=.ok (.next ρ'):=by
 obtain⟨ρ',f1,_⟩:=forM (enc:=enI) (xs:=(LI found.length).zip found) (h:=gv 2 (aJ (ai 5) (aJ (gv 2 (aJ (ai 8) (aJ (ai 9) gw))) gw))) (g:=dC) (ρ:=lP h hour found c (.own (.dtt (kL found) (c.map nI))) a b (.own (.dct [] [])) .no .no .no .no)
  (I:=fun pre ρ=>∃s4 a b s8 s9 s10 s11 ks ps,ρ=lP h hour found c s4 a b (.own (.dct ks ps)) s8 s9 s10 s11/\(s4=.own (.dtt (kL found) (c.map nI))\/s4=.val (.dtt (kL found) (c.map nI)))/\ks.length=ps.length/\ks.length<=pre.length/\∀k w,bJ ks ps k=some w->∃y q,found[y]?=some q/\k=.inl ((c.getD y 0:Nat):Int)/\w=mkL h nms hour found c q.1) ⟨_,_,_,_,_,_,_,_,_,rfl,.inl rfl,rfl,LY _,fun k w e=>by cases e⟩ (by
   rintro pre x post ρ hx ⟨s4,a,b,s8,s9,s10,s11,ks,ps,rfl,hs4,h1,h2,h3⟩;obtain⟨hi,hf⟩:=uQ hx;obtain⟨i,p⟩:=x;have hi:i=pre.length:=hi;have hf:found=pre.map (·.2)++p::post.map (·.2):=hf;have pm:p∈found:=by rw[hf];simp
   have hpi:found[i]?=some p:=by
    rw[hf,M3 (by simp[hi])];simp[hi]
   have hlen:=F.ln;have hpl:pre.length<found.length:=by rw[hf];simp
   have il:i<c.length:=by omega
   have ix:gIx (.lst (c.map nI)) (.int (i:Nat))=some (nI (c.getD i 0)):=lS c i il;have ec:=wm hg F c hc p pm (LI 13) fun i hi=>MD.mp hi
   have er:((LI 13).map fun i=>nI (c.getD (cR found (lead h nms hour p.1 i)) 0))=(mk13 h nms hour found c p.1).map nI:=by
    unfold mk13;rw[Lh];rfl
   rw[er] at ec;have it:=vh;have z13:((mk13 h nms hour found c p.1).map nI).length<=16777216:=by simp[mk13]
   have eh:=gc hg p.1 (F.ok p pm);have nes:=Cg (hP h p.1) (mk13 h nms hour found c p.1);have hM:mkL h nms hour found c p.1=.tup [hE (hP h p.1),.lst ((mk13 h nms hour found c p.1).map nI)]:=rfl;have tk:eF (nI (c.getD i 0))=some (.inl ((c.getD i 0:Nat):Int)):=rfl;obtain⟨ks',ps',q1,q2,q3,q4⟩:=BG.look_put ks ps (.inl ((c.getD i 0:Nat):Int)) (mkL h nms hour found c p.1) h1;have kl:ks.length<16777216:=by omega
   have b1:(qA 4 (bK 10 (gm (itF (kS "0123456789*#w")) (ai 0) iT cz 1 [4,0,1,8]))) (lP h hour found c s4 (.val (.int i)) b (.own (.dct ks ps)) (.val p.1.pv) (.val (.str (br p.2))) s10 s11)=.ok (.next (lP h hour found c (.val (.dtt (kL found) (c.map nI))) (.val (.int i)) b (.own (.dct ks ps)) (.val p.1.pv) (.val (.str (br p.2))) (.val (.lst ((mk13 h nms hour found c p.1).map nI))) s11)):=by
    simp only[lP];generalize (mk13 h nms hour found c p.1).map nI=R13 at *;generalize PV.dtt (kL found) (c.map nI)=KD at *;generalize (LI 13).map (fun i=>WO.sg (cd i))=SS at *;generalize found.map av=FS at *;generalize c.map nI=CN at *;generalize hE (hP h p.1)=HE at *;generalize p.1.pv=S at *;generalize h.pv=H at *;rcases hs4 with rfl | rfl
    ·simp[it,bY,roS,ec,z13,eh]
    ·simp[it,bY,roS,ec,z13,eh]
   have b1':(bK 11 (fD (a7 (aK (a7 (a8 0) (a7 (a8 8) aM)) cI) (a7 (a8 10) aM)))) (lP h hour found c (.val (.dtt (kL found) (c.map nI))) (.val (.int i)) b (.own (.dct ks ps)) (.val p.1.pv) (.val (.str (br p.2))) (.val (.lst ((mk13 h nms hour found c p.1).map nI))) s11)=.ok (.next (lP h hour found c (.val (.dtt (kL found) (c.map nI))) (.val (.int i)) b (.own (.dct ks ps)) (.val p.1.pv) (.val (.str (br p.2))) (.val (.lst ((mk13 h nms hour found c p.1).map nI))) (.val (mkL h nms hour found c p.1)))):=by
    rw[hM];simp only[lP];generalize (mk13 h nms hour found c p.1).map nI=R13 at *;generalize PV.dtt (kL found) (c.map nI)=KD at *;generalize found.map av=FS at *;generalize c.map nI=CN at *;generalize hE (hP h p.1)=HE at *;generalize p.1.pv=S at *;generalize h.pv=H at *;simp[eh]
   have b2:∃ks2 ps2,(ku 7 (ah (a8 3) (a8 5) gIx) (a8 11) (a8 11) (cb (kB false))) (lP h hour found c (.val (.dtt (kL found) (c.map nI))) (.val (.int i)) b (.own (.dct ks ps)) (.val p.1.pv) (.val (.str (br p.2))) (.val (.lst ((mk13 h nms hour found c p.1).map nI))) (.val (mkL h nms hour found c p.1)))=.ok (.next (lP h hour found c (.val (.dtt (kL found) (c.map nI))) (.val (.int i)) b (.own (.dct ks2 ps2)) (.val p.1.pv) (.val (.str (br p.2))) (.val (.lst ((mk13 h nms hour found c p.1).map nI))) (.val (mkL h nms hour found c p.1))))/\ks2.length=ps2.length/\ks2.length<=ks.length+1/\∀k w,bJ ks2 ps2 k=some w->∃y q,found[y]?=some q/\k=.inl ((c.getD y 0:Nat):Int)/\w=mkL h nms hour found c q.1:=by
    have hk0:∀(d4 d10:Sl)(d7:Sl),(ah (a8 3) (a8 5) gIx) (lP h hour found c d4 (.val (.int i)) b d7 (.val p.1.pv) (.val (.str (br p.2))) d10 (.val (mkL h nms hour found c p.1)))=.ok (nI (c.getD i 0)):=fun d4 d10 d7=>by
     simp only[lP];generalize nI (c.getD i 0)=CI at *;generalize c.map nI=CN at *;generalize found.map av=FS at *;generalize mkL h nms hour found c p.1=MK at *;generalize h.pv=H at *;simp[ix]
    rw[← hM] at nes;cases hl:bJ ks ps (.inl ((c.getD i 0:Nat):Int)) with
    | some w=>
     obtain⟨y,q,y1,y2,y3⟩:=h3 _ _ hl;refine⟨ks,ps,?_,h1,by omega,h3⟩;rw[uq rfl (hk0 _ _ _) rfl tk kl hl];refine Fh (q:=mkL h nms hour found c p.1) rfl ?_
     have ey:c.getD i 0=c.getD y 0:=by
      have:=Sum.inl.inj y2;omega
     rw[y3,← vW hg F c hc hs hk p q hpi y1 ey];exact nes
    | none=>
     refine⟨ks',ps',?_,q2,q3,fun k w e=>?_⟩
     ·rw[ur rfl (hk0 _ _ _) rfl tk kl hl,q1]
      exact Fh (q:=mkL h nms hour found c p.1) rfl nes
     ·rw[q4] at e
      by_cases ek:(.inl ((c.getD i 0:Nat):Int):Key)=k
      ·rw[if_pos ek] at e
       exact⟨i,p,hpi,ek.symm,(Ly e).symm⟩
      ·rw[if_neg ek] at e
       exact h3 k w e
   obtain⟨ks2,ps2,b2,l1,l2,l3⟩:=b2;refine⟨lP h hour found c s4 (.val (.int i)) b (.own (.dct ks ps)) (.val p.1.pv) (.val (.str (br p.2))) s10 s11,lP h hour found c (.val (.dtt (kL found) (c.map nI))) (.val (.int i)) b (.own (.dct ks2 ps2)) (.val p.1.pv) (.val (.str (br p.2))) (.val (.lst ((mk13 h nms hour found c p.1).map nI))) (.val (mkL h nms hour found c p.1)),rfl,.inl ?_,_,_,_,_,_,_,_,_,_,rfl,.inr rfl,l1,by rw[Lw,Mh];omega,l3⟩;unfold dC;rw[sq b1,sq b1'];exact b2)
 exact⟨ρ',f1⟩
theorem xI{K:Nat}(hs:cs (EN_ h nms hour found) (c0 h found) (K+1)=cs (EN_ h nms hour found) (c0 h found) K)(hk:c=cs (EN_ h nms hour found) (c0 h found) K):f9 [h.pv,.int hour,.lst (found.map av),.lst (c.map nI)]=some (.bl true):=by
 obtain⟨a,b,l1⟩:=lc1 hg F c hc;obtain⟨ρ',l2⟩:=lc2 hg F c hc hs hk a b;have en:=Gg found;refine au rfl ?_;simp only[lP] at l1 l2;generalize PV.dtt (kL found) (c.map nI)=KD at *;generalize ((LI found.length).zip found).map enI=EN at *;generalize c.map nI=CN at *;generalize hFS:found.map av=FS at *;generalize h.pv=H at *;simp[gU,PU.start,Ce,newD,en];rw[l1];simp[en];rw[l2];simp
end
section
variable{α : Type}[DecidableEq α]
theorem ze(l:List α)(k x:α)(h:x∈l):ib (jF l k) x=ib l x:=by
 unfold jF
 split
 ·rfl
 ·exact o9 l k x h
theorem si:∀(r l:List α)(x:α),x∈l->ib (r.foldl jF l) x=ib l x
 | [],_,_,_=>rfl
 | k::r,l,x,h=>by
  rw[NJ,si r (jF l k) x (by unfold jF;split;exact h;exact NQ _ h),ze l k x h]
theorem zd(pre post:List α)(x:α):ib (uniq (pre++x::post)) x=ib (jF (uniq pre) x) x:=by
 have e:uniq (pre++x::post)=post.foldl jF (jF (uniq pre) x):=by
  unfold uniq;rw[Nv,NJ]
 have m:x∈jF (uniq pre) x:=by
  unfold jF
  split
  ·assumption
  ·exact M9 _ (Li.mpr rfl)
 rw[e,si post _ x m]
end
theorem canon(c pre post:List Nat)(x:Nat)(hn:nmL c=c)(hc:c=pre++x::post):x<=(uniq pre).length/\(uniq (pre++[x])).length=max (uniq pre).length (x+1):=by
 have e:x=ib (jF (uniq pre) x) x:=by
  have h1:(nmL c)[pre.length]?=c[pre.length]?:=by rw[hn]
  have hl:pre.length<c.length:=by rw[hc];simp
  have hx:c[pre.length]?=some x:=by
   rw[hc,M3 (LY _),Nat.sub_self];rfl
  unfold nmL at h1;rw[LO,hx] at h1;have h2:ib (uniq c) x=x:=Ly h1;rw[hc,zd] at h2;exact h2.symm
 rw[iW];unfold jF at e ⊢
 by_cases m:x∈uniq pre
 ·rw[if_pos m] at e ⊢
  have:=uY m;omega
 ·rw[if_neg m] at e ⊢
  rw[oa _ _ m] at e;rw[Lw,Mh];omega
theorem xy{α β:Type}(f:α->β)(l:List α)(a b:Option Int):jD (l.map f) a b=(jD l a b).map f:=by
 unfold jD;rw[LJ,← List.map_drop,← R3]
theorem yS:∀zs:List Int,c8 (ai 0) iT oH [.no] (zs.map PV.int)=.ok ((zs.map fun z=>(z % 13).toNat).map fun i=>WO.sg (cd i)):=fun zs=>by
 have:=WO.in_list_comp (enc:=PV.int) (h:=ai 0) (fe:=oH) (ρ:=[.no]) (fun z:Int=>WO.sg (cd (z % 13).toNat)) zs fun z _=>⟨[.val (.int z)],rfl,by
  have m:dS (.int z) (.int 13)=some (.int (z % 13)):=gx (by decide);have e:=ixs (z % 13).toNat (by omega);rw[show (((z % 13).toNat:Nat):Int)=z % 13 by omega] at e;generalize WO.sg (cd (z % 13).toNat)=G at *;simp[oH,m,e]⟩
 rw[Lh];exact this
abbrev sF(S:PV)(h:House)(hour:Int)(found:List (BF.Row St))(c:List Nat)(s5 s6 s7 s8 s9 s10 s11:Sl):PSt:=[.val S,.val h.pv,.val (.int hour),.val (.lst (found.map av)),.val (.lst (c.map nI)),s5,s6,s7,s8,s9,s10,s11]
theorem Iw(S:PV)(h:House)(hour:Int)(found:List (BF.Row St))(c:List Nat)(hn:nmL c=c):∃s5 s6,gh (ai 6) oQ (c.map nI) (sF S h hour found c (.val (.int 0)) .no .no .no .no .no .no)=.ok (.next (sF S h hour found c s5 s6 .no .no .no .no .no)):=by
 obtain⟨ρ',f1,s6,rfl⟩:=forM (enc:=nI) (xs:=c) (h:=ai 6) (g:=oQ) (ρ:=sF S h hour found c (.val (.int 0)) .no .no .no .no .no .no)
  (I:=fun pre ρ=>∃s6,ρ=sF S h hour found c (.val (.int ((uniq pre).length:Nat))) s6 .no .no .no .no .no) ⟨_,rfl⟩ (by
   rintro pre x post ρ hx ⟨s6,rfl⟩;obtain⟨k1,k2⟩:=canon c pre post x hn hx;refine⟨sF S h hour found c (.val (.int ((uniq pre).length:Nat))) (.val (nI x)) .no .no .no .no .no,sF S h hour found c (.val (.int ((uniq (pre++[x])).length:Nat))) (.val (nI x)) .no .no .no .no .no,rfl,.inl ?_,_,rfl⟩;rw[k2];generalize (uniq pre).length=n at *;have g1:zO "int" (.int x)=some (.bl true):=rfl;have g2:zO "bool" (.int x)=some (.bl false):=rfl
   have g3:CW (.int n) (.int ((x:Int)+1))=some (.int ((max n (x+1):Nat):Int)):=by
    show some (PV.int _)=_
    congr 2
    split <;> omega
   have a1:(0:Int)<=(x:Int):=by omega
   have a2:(x:Int)<=(n:Int):=by omega
   simp only[sF,nI];generalize found.map av=FS at *;generalize c.map nI=CN at *;generalize h.pv=H at *;generalize ((max n (x+1):Nat):Int)=MX at *;simp[oQ,g1,g2,g3,a1,a2])
 exact⟨_,_,f1⟩
section
variable{h : House}{nms ord : List Str}(hg : HG h nms ord){hour : Int}{s0 : St}{found : List (BF.Row St)}(F : Found h nms hour s0 found)
include hg F
theorem zm(ep:cG [h.pv,.int hour]=some (.lst (found.map av)))(K:Nat)(hK:K<=found.length)(hs:cs (EN_ h nms hour found) (c0 h found) (K+1)=cs (EN_ h nms hour found) (c0 h found) K)
  (ec:bF [h.pv,.lst (found.map av),.lst ((EN_ h nms hour found).map rN)]=some (.lst (aY (EN_ h nms hour found) (c0 h found) (K+1)))) (x y:Nat) (p q:BF.Row St) (hp:found[x]?=some p) (hq:found[y]?=some q) :
  ∃P,fJ [h.pv,.int hour,nI x,nI y]=some P/\ya h nms hour p.1 q.1 P/\pV P .non=some (.bl (decide ((cs (EN_ h nms hour found) (c0 h found) K).getD x 0=(cs (EN_ h nms hour found) (c0 h found) K).getD y 0))):=by
 have G:=CV hg F;have lc:(c0 h found).length=found.length:=by simp[c0,gO]
 have hx:=(LM.mp hp).1;have hy:=(LM.mp hq).1;have hln:=F.ln
 have same:∀t:List Nat,(∀i∈t,i<13)->(cv (EN_ h nms hour found) (c0 h found) 0 (runN (EN_ h nms hour found) x t)=cv (EN_ h nms hour found) (c0 h found) 0 (runN (EN_ h nms hour found) y t) ↔ Aj h nms hour p.1 q.1 t):=fun t ht=>by
  obtain⟨p',e1,e2⟩:=qM hg F t x p ht hp;obtain⟨q',e3,e4⟩:=qM hg F t y q ht hq;rw[Be _ _ p' q' e1 e3,e2,e4]
 rcases uc hg F ep K hK ec x y hx hy with⟨e,z⟩|⟨s,r,s1,s2,s3,s4,s5,s6⟩
 ·refine⟨_,z,.inl ⟨rfl,fun t ht=>(same t ht).mp (never G hs (by omega) (by omega) e t ht)⟩,?_⟩
  unfold cv at e;rw[decide_eq_true e];rfl
 ·refine⟨_,s6,.inr ⟨r,rfl,s5.len.2,by rw[s5.len.1];omega,fun t ht hl=>(same t ht).mp (s5.ahead G (by omega) (by omega) s2 t ht hl),fun z=>s5.sep s3 ((same r s5.len.2).mpr z)⟩,?_⟩
  unfold cv at s4;rw[decide_eq_false s4];rfl
end
theorem Iq(a:Bool):gNe (.bl a) (.bl a)=some (.bl false):=by cases a <;> rfl
section
variable{h : House}{nms ord : List Str}(hg : HG h nms ord){hour : Int}{s0 : St}{found : List (BF.Row St)}(F : Found h nms hour s0 found)
include hg F
theorem Iv(ep:cG [h.pv,.int hour]=some (.lst (found.map av)))(K:Nat)(hK:K<=found.length)(hs:cs (EN_ h nms hour found) (c0 h found) (K+1)=cs (EN_ h nms hour found) (c0 h found) K)
  (ec:bF [h.pv,.lst (found.map av),.lst ((EN_ h nms hour found).map rN)]=some (.lst (aY (EN_ h nms hour found) (c0 h found) (K+1)))) (hc:(cs (EN_ h nms hour found) (c0 h found) K).length=found.length) (hf:0<found.length) (S:PV) (r:List Nat) (hr:∀i∈r,i<13) (rl:r.length<=1000) (zs:List Int) (s5 s6:Sl) :
  ∃ρ',gh (ai 8) oP (zs.map PV.int) (sF S h hour found (cs (EN_ h nms hour found) (c0 h found) K) s5 s6 (.val (.str (br r))) .no .no .no .no)=.ok (.next ρ'):=by
 obtain⟨ρ',f1,_⟩:=forM (enc:=PV.int) (xs:=zs) (h:=ai 8) (g:=oP) (ρ:=sF S h hour found (cs (EN_ h nms hour found) (c0 h found) K) s5 s6 (.val (.str (br r))) .no .no .no .no)
  (I:=fun _ ρ=>∃s8 s9 s10 s11,ρ=sF S h hour found (cs (EN_ h nms hour found) (c0 h found) K) s5 s6 (.val (.str (br r))) s8 s9 s10 s11) ⟨_,_,_,_,rfl⟩ (by
   rintro pre z post ρ hx ⟨s8,s9,s10,s11,rfl⟩;have hln:=F.ln;obtain⟨x,ex⟩:∃x:Nat,z % (found.length:Int)=(x:Int):=⟨(z % (found.length:Int)).toNat,by have:=Os z (b:=(found.length:Int)) (by omega);omega⟩;obtain⟨y,ey⟩:∃y:Nat,z / 1000 % (found.length:Int)=(y:Int):=⟨(z / 1000 % (found.length:Int)).toNat,by have:=Os (z / 1000) (b:=(found.length:Int)) (by omega);omega⟩;have hx:x<found.length:=by have:=OJ z (b:=(found.length:Int)) (by omega);omega
   have hy:y<found.length:=by have:=OJ (z / 1000) (b:=(found.length:Int)) (by omega);omega
   have hp:=LG hx;have hq:=LG hy;obtain⟨P,p1,p2,p3⟩:=zm hg F ep K hK hs ec x y _ _ hp hq;have p4:=vL hg hour _ _ (F.ok _ (M5 hp)) (F.ok _ (M5 hq)) r hr rl P p2
   have gl:kD (.lst (found.map av))=some (.int (found.length:Int)):=by
    show some (PV.int ((found.map av).length:Int))=_;rw[LJ]
   have m1:dS (.int z) (.int (found.length:Int))=some (nI x):=by rw[gx (by omega),ex];rfl
   have d1:CZ (.int z) (.int 1000)=some (.int (z / 1000)):=yC (by decide);have m2:dS (.int (z / 1000)) (.int (found.length:Int))=some (nI y):=by rw[gx (by omega),ey];rfl
   have i1:gIx (.lst ((cs (EN_ h nms hour found) (c0 h found) K).map nI)) (nI x)=some (nI ((cs (EN_ h nms hour found) (c0 h found) K).getD x 0)):=lS _ x (by omega);have i2:gIx (.lst ((cs (EN_ h nms hour found) (c0 h found) K).map nI)) (nI y)=some (nI ((cs (EN_ h nms hour found) (c0 h found) K).getD y 0)):=lS _ y (by omega);have e3:=Hc ((cs (EN_ h nms hour found) (c0 h found) K).getD x 0) ((cs (EN_ h nms hour found) (c0 h found) K).getD y 0);have j1:gIx (.lst (found.map av)) (nI x)=some (av found[x]):=bf (n:=x) rfl (by rw[LO,hp];rfl);have j2:gIx (.lst (found.map av)) (nI y)=some (av found[y]):=bf (n:=y) rfl (by rw[LO,hq];rfl);have k1:gIx (av found[x]) (.int 0)=some found[x].1.pv:=rfl;have k2:gIx (av found[y]) (.int 0)=some found[y].1.pv:=rfl;have nb:=Iq (decide ((cs (EN_ h nms hour found) (c0 h found) K).getD x 0=(cs (EN_ h nms hour found) (c0 h found) K).getD y 0));refine⟨sF S h hour found (cs (EN_ h nms hour found) (c0 h found) K) s5 s6 (.val (.str (br r))) (.val (.int z)) s9 s10 s11,sF S h hour found (cs (EN_ h nms hour found) (c0 h found) K) s5 s6 (.val (.str (br r))) (.val (.int z)) (.val (nI x)) (.val (nI y)) (.val P),rfl,.inl ?_,_,_,_,_,rfl⟩;simp only[sF];generalize PV.bl (decide ((cs (EN_ h nms hour found) (c0 h found) K).getD x 0=(cs (EN_ h nms hour found) (c0 h found) K).getD y 0))=BB at *;generalize nI ((cs (EN_ h nms hour found) (c0 h found) K).getD x 0)=NX at *;generalize nI ((cs (EN_ h nms hour found) (c0 h found) K).getD y 0)=NY at *;generalize (cs (EN_ h nms hour found) (c0 h found) K).map nI=CN at *;generalize found[x].1.pv=SX at *;generalize found[y].1.pv=SY at *;generalize av found[x]=RX at *;generalize av found[y]=RY at *;generalize nI x=X at *;generalize nI y=Y at *;generalize found.map av=FS at *;generalize br r=RR at *;generalize h.pv=H at *;generalize (found.length:Int)=FL at *;simp[oP,gl,m1,d1,m2,p1,p3,i1,i2,e3,nb,j1,j2,k1,k2,p4])
 exact⟨ρ',f1⟩
end
theorem zC(ns:List Int):xf [.lst (ns.map .int)]=some (.bl true):=by
 refine au rfl ?_;obtain⟨h,nms,ord,hg,eh⟩:=IL ns;have c4:aN [PV.lst (ns.map PV.int),PV.int 3]=some (PV.int (ns.getD 3 0)):=oM ns 3;generalize ns.getD 3 0=z4 at c4;have m24:dS (.int z4) (.int 24)=some (.int (z4 % 24)):=gx (by decide);generalize z4 % 24=hour at m24;obtain⟨s0,h0,hb⟩:=Ab hg hour;obtain⟨found,F,ep⟩:=vC hg hour s0 h0 hb;have hln:=F.ln
 have hf:0<found.length:=by
  obtain⟨r,e⟩:=F.inv.h0;rw[e];simp
 obtain⟨K,hK,hs,hne,ec,ecl⟩:=uE hg F ep;have lc:(c0 h found).length=found.length:=by simp[c0,gO]
 have hEl:(EN_ h nms hour found).length=found.length:=(zT hg F).1;have ok:=mq (EN_ h nms hour found) (c0 h found) (by rw[hEl,lc]) (zu _) K;have hc:(cs (EN_ h nms hour found) (c0 h found) K).length=found.length:=by rw[ok.1,lc]
 have clo:=xI hg F _ hc hs rfl;obtain⟨s5,s6,f1⟩:=Iw (.lst (ns.map PV.int)) h hour found _ ok.2
 have sl:gSl (.lst (ns.map PV.int)) (some 8) (some 68)=some (.lst ((jD ns (some 8) (some 68)).map PV.int)):=by
  show some (PV.lst (jD (ns.map PV.int) (some 8) (some 68)))=_;rw[xy]
 have zl:(jD ns (some 8) (some 68)).length<=68:=by
  unfold jD;rw[N6];have e:HT.sIx ns.length ns.length (some 68)=SR 68 ns.length:=HT.sIx_nat ns.length ns.length 68;rw[e];omega
 generalize jD ns (some 8) (some 68)=zs at sl zl
 have sl2:gSl (.lst (ns.map PV.int)) (some 5) (some 8)=some (.lst ((jD ns (some 5) (some 8)).map PV.int)):=by
  show some (PV.lst (jD (ns.map PV.int) (some 5) (some 8)))=_;rw[xy]
 generalize jD ns (some 5) (some 8)=ys at sl2;have it:eN (.lst (zs.map PV.int))=some (zs.map PV.int):=rfl;have it2:eN (.lst (ys.map PV.int))=some (ys.map PV.int):=rfl;have rc:=yS zs;obtain⟨r,er⟩:∃r,r=zs.map fun z=>(z % 13).toNat:=⟨_,rfl⟩
 have hr:∀i∈r,i<13:=fun i hi=>by
  rw[er] at hi;obtain⟨z,_,rfl⟩:=LV.mp hi;omega
 have rl:r.length<=68:=by rw[er,LJ];exact zl
 rw[← er] at rc;have z1:(r.map fun i=>WO.sg (cd i)).length<=16777216:=by rw[LJ];omega
 have jn:rm (.str "") (.lst (r.map fun i=>WO.sg (cd i)))=some (.str (br r)):=by
  have:=WO.joinV (r.map cd) (by rw[LJ];omega);rw[Lh] at this;exact this
 obtain⟨ρ',f3⟩:=Iv hg F ep K hK hs ec hc hf (.lst (ns.map PV.int)) r hr (by omega) ys s5 s6;have isl:zO "list" (.lst ((cs (EN_ h nms hour found) (c0 h found) K).map nI))=some (.bl true):=rfl
 have gl1:kD (.lst ((cs (EN_ h nms hour found) (c0 h found) K).map nI))=some (.int (found.length:Int)):=by
  show some (PV.int (((cs (EN_ h nms hour found) (c0 h found) K).map nI).length:Int))=_;rw[LJ,hc]
 have gl2:kD (.lst (found.map av))=some (.int (found.length:Int)):=by
  show some (PV.int ((found.map av).length:Int))=_;rw[LJ]
 have nl:gNe (.int (found.length:Int)) (.int (found.length:Int))=some (.bl false):=by
  have:=(Hc found.length found.length);show (if mD (nI found.length)=true/\mD (nI found.length)=true/\yP (scV (nI found.length)) (scV (nI found.length))=true then some (PV.bl (!decide (scV (nI found.length)=scV (nI found.length)))) else none)=_;rw[if_pos ⟨rfl,rfl,rfl⟩,decide_eq_true rfl];rfl
 have i0:gIx (.lst ((cs (EN_ h nms hour found) (c0 h found) K).map nI)) (.int 0)=some (.int 0):=by
  have e:gIx (.lst ((cs (EN_ h nms hour found) (c0 h found) K).map nI)) (.int ((0:Nat):Int))=some (nI ((cs (EN_ h nms hour found) (c0 h found) K).getD 0 0)):=lS _ 0 (by omega);generalize cs (EN_ h nms hour found) (c0 h found) K=c at *;cases c with
  | nil=>simp at hc;omega
  | cons x c=>
   have:=(canon (x::c) [] c x ok.2 rfl).1;have x0:x=0:=by simpa [uniq] using this
   subst x0;exact e
 have n0:gNe (.int 0) (.int 0)=some (.bl false):=rfl;have itc:eN (.lst ((cs (EN_ h nms hour found) (c0 h found) K).map nI))=some ((cs (EN_ h nms hour found) (c0 h found) K).map nI):=rfl;simp only[sF] at f1 f3;generalize (cs (EN_ h nms hour found) (c0 h found) K).map nI=CN at *;generalize found.map av=FS at *;generalize (r.map fun i=>WO.sg (cd i))=RS at *;generalize br r=RR at *;generalize zs.map PV.int=ZS at *;generalize ys.map PV.int=YS at *;generalize ns.map PV.int=NS at *;generalize h.pv=H at *;generalize (found.length:Int)=FL at *;simp[zN,PU.start,eh,c4,m24,ep,ecl,isl,gl1,gl2,nl,itc];rw[f1];simp[i0,n0,clo,sl,it,bY,rc,z1,jn,sl2,it2];rw[f3];simp
end K42
namespace K42
open PySem PySem.Spec PyProof.Rows L2 PU
seal EV EO EN EA ET EW SV SVs TGt Dz TCt DA EI ETs ED EOI EL
def top(i:Nat):Stmt:=MJ.main.body.getD i (.Pass ⟨0,0,0,0⟩)
structure Txt(w:Lx)(K:LA)(mg:Str->Option LB):Prop where
 n_bool:mg "bool"=none
 n_dict:mg "dict"=none
 n_enumerate:mg "enumerate"=none
 n_int:mg "int"=none
 n_isinstance:mg "isinstance"=none
 n_len:mg "len"=none
 n_list:mg "list"=none
 n_max:mg "max"=none
 n_range:mg "range"=none
 n_reversed:mg "reversed"=none
 n_tuple:mg "tuple"=none
 n_zip:mg "zip"=none
 c_CODE_END:@Con (tw w) K mg "CODE_END" c_CODE_END
 c_HEARD:@Con (tw w) K mg "HEARD" c_HEARD
 c_SIGNS:@Con (tw w) K mg "SIGNS" c_SIGNS
 c_WAIT:@Con (tw w) K mg "WAIT" c_WAIT
end K42
namespace K42
open PySem PySem.Spec PyProof.Rows L2 PU
seal EV EO EN EA ET EW SV SVs TGt Dz TCt DA EI ETs ED EOI EL
variable{P : Ll}{w : Lx}{K : LA}{mg : Str → Option LB}{base : Heap}
abbrev fU:Stmt:=top 40
theorem ba:FnScope ["_law_cell","_law_many","_law_found","_law_number","_law_k"] ["_law_cell","_law_many"] (aa fU):=fsc
theorem bU (T:Txt w K mg) (hs:Hs K mg "_law_numbers" fU):@PF (tw w) P w K mg base 1 "_law_numbers" aV:=
 letI:TW:=tw w
 ic (g:=dY) hs ba fun _ _ _ _ _ _ _ hr=>have hu:=hr.units;(a6 (dW 2 ba.nd (fg ae)) (a6 (ar 3 ba.nd (aw C6 (ak 0) a9)) (a6 (dG (bq (ou hu) cn (EV.o (aw bV (ak 0) a9)) a9) (a6 (bR (hV rfl T.n_range (ao 1)) (aH 4 ba.nd) (a6 (dH 2 (aw bV (ak 3) a9)) (ab (ar 3 ba.nd (aw C6 (ak 3) a9))))) (ab (SV.frz 2 (aB (ao 2))))) aW) (a6 (ar 3 ba.nd (aw bV (ak 3) a9)) (a6 (bR (hV rfl T.n_range (aw fw (ak 1) a9)) (aH 4 ba.nd) (a6 (ar 3 ba.nd (aw bV (EV.o (aw zp (EV.o (aw fw (EV.o (aw fw (ak 3) (ak 4))) a9)) a9)) a9)) (ab (dH 2 (aw bV (EV.o (aw zp (ak 3) a9)) a9))))) (ab (aB (l0 (yr 2) (cM aO) ft))))))))
abbrev iH:Stmt:=top 41
theorem bc:FnScope ["_law_cell","_law_letters","_law_some","_law_size","_law_at","_law_names_here","_law_turn","_law_name","_law_k"] ["_law_cell"] (aa iH):=fsc
theorem gK (T:Txt w K mg) (hs:Hs K mg "_law_names" iH) (bU:@PF (tw w) P w K mg base 1 "_law_numbers" aV):@PF (tw w) P w K mg base 2 "_law_names" gi:=
 letI:TW:=tw w
 ic (g:=iN) hs bc fun _ _ _ _ _ _ _ hr=>have hu:=hr.units;(a6 (ar 1 bc.nd aL) (a6 (ar 2 bc.nd (aj bU hr (a5 (ao 0) (a5 aO ae)))) (a6 (ar 3 bc.nd (aw fw a9 (EV.o (aw bV (EV.o (af (ixP hu) (ak 2) a9)) a9)))) (a6 (ar 4 bc.nd (aw bV (EV.o (af (ixP hu) (ak 2) a9)) (ak 3))) (a6 (dW 5 bc.nd (fg ae)) (a6 (bR (hV rfl T.n_range aO) (aH 6 bc.nd) (a6 (ar 7 bc.nd aL) (a6 (bR (hV rfl T.n_range (ao 3)) (aH 8 bc.nd) (ab (ar 7 bc.nd (aw fw (ak 7) (EV.o (af (ixP hu) (ak 1) (EV.o (aw bV (EV.o (aw fw (EV.o (af (ixP hu) (ak 2) (ak 8))) (EV.o (aw zp (EV.o (aw zp a9 (ak 6))) (EV.o (D5 cInt rfl T.n_int rfl (EV.o (md (ou hu) (ak 8) (ak 4))))))))) a9)))))))) (ab (dH 5 (ao 7)))))) (ab (SV.frz 5 (aB (ao 5))))))))))
abbrev fV:Stmt:=top 39
theorem mE:FnScope ["_law_script","_law_k"] ["_law_script","_law_k"] (aa fV):=fsc
theorem bD (T:Txt w K mg) (hs:Hs K mg "_law_cell_at" fV):@PF (tw w) P w K mg base 1 "_law_cell_at" aN:=
 letI:TW:=tw w
 ic (g:=dZ) hs mE fun _ _ _ _ _ _ _ hr=>have hu:=hr.units;(a6 (dG (bq Ih rf (ak 1) (EV.o (kE xN rfl T.n_len rfl (ak 0)))) (ab (aB (af (ixP hu) (ak 0) (ak 1)))) aW) (ab (aB aO)))
abbrev iI:Stmt:=top 42
theorem aE:FnScope ["_law_script","_law_names_here","_law_some","_law_more","_law_keys","_law_k","_law_key","_law_waits","_law_menu","_law_words","_law_wrong","_law_room","_law_span","_law_rooms","_law_letters"] ["_law_script"] (aa iI):=fsc
theorem gL (T:Txt w K mg) (hs:Hs K mg "_law_house" iI) (gK:@PF (tw w) P w K mg base 2 "_law_names" gi) (bD:@PF (tw w) P w K mg base 1 "_law_cell_at" aN) (bU:@PF (tw w) P w K mg base 1 "_law_numbers" aV):@PF (tw w) P w K mg base 3 "_law_house" gj:=
 letI:TW:=tw w
 ic (g:=iO) hs aE fun _ _ _ _ _ _ _ hr=>have hu:=hr.units;(a6 (ar 1 aE.nd (aj gK hr (a5 (aj bD hr (a5 (ao 0) (a5 aO ae))) ae))) (a6 (ar 2 aE.nd (aj bU hr (a5 (aj bD hr (a5 (ao 0) (a5 aO ae))) (a5 aO ae)))) (a6 (ar 3 aE.nd (aj bU hr (a5 (aj bD hr (a5 (ao 0) (a5 aO ae))) (a5 aO ae)))) (a6 (dW 4 aE.nd (fg ae)) (a6 (bR (oF rfl T.n_enumerate aL) (iu rfl (aT (aH 5 aE.nd) (aT (aH 6 aE.nd) fq))) (ab (dG (bq (ou hu) cn (EV.o (aw bV (EV.o (af (ixP hu) (ak 2) (ak 5))) a9)) a9) (ab (dH 4 (aR (a5 (ao 6) (a5 (af (ixP hu) (EV.o (aw fw (ak 1) (EN.o (fg (a5 aL ae))))) (EV.o (aw bV (EV.o (af (ixP hu) (ak 2) (EV.o (aw fw (ak 5) a9)))) a9))) ae))))) aW))) (a6 (ar 7 aE.nd (aR (a5 (aw fw a9 (EV.o (aw bV (EV.o (af (ixP hu) (ak 2) a9)) a9))) (a5 (af (ixP hu) (ak 1) (EV.o (aw bV (EV.o (af (ixP hu) (ak 2) a9)) a9))) ae)))) (a6 (ar 8 aE.nd (aR (a5 aL (a5 aL (a5 (D5 Bc rfl T.n_tuple rfl (yr 4)) (a5 (aR (a5 (aw fw a9 (EV.o (aw bV (EV.o (af (ixP hu) (ak 2) a9)) a9))) (a5 (af (ixP hu) (ak 1) (EV.o (aw bV (EV.o (af (ixP hu) (ak 2) a9)) a9))) ae))) (a5 (ao 7) ae))))))) (a6 (dG (bq (ou hu) cn (EV.o (aw bV (EV.o (af (ixP hu) (ak 2) a9)) a9)) a9) (a6 (ar 9 aE.nd (qe (EV.o (aR (a5 (aR (a5 aL (a5 (af (ixP hu) (ak 1) (EV.o (aw bV (EV.o (af (ixP hu) (ak 2) a9)) a9))) ae))) (a5 (aR (a5 aL (a5 (af (ixP hu) (ak 1) (EV.o (aw bV (EV.o (af (ixP hu) (ak 2) a9)) a9))) ae))) ae)))) ft (cM (aw fw a9 (EV.o (aw bV (EV.o (af (ixP hu) (ak 2) a9)) a9)))))) (ab (ar 8 aE.nd (aR (a5 aL (a5 aL (a5 (ao 9) (a5 (aR (a5 aO (a5 (af (ixP hu) (ak 1) (EV.o (aw bV (EV.o (af (ixP hu) (ak 2) a9)) a9))) ae))) (a5 (aR (a5 aO (a5 (af (ixP hu) (ak 1) (EV.o (aw bV (EV.o (af (ixP hu) (ak 2) a9)) a9))) ae))) ae))))))))) aW) (a6 (ar 9 aE.nd (qe (EV.o (aR (a5 (aR (a5 aL (a5 (af (ixP hu) (ak 1) (EV.o (aw bV (EV.o (af (ixP hu) (ak 3) a9)) a9))) ae))) (a5 (aR (a5 aL (a5 (af (ixP hu) (ak 1) (EV.o (aw bV (EV.o (af (ixP hu) (ak 3) a9)) a9))) ae))) ae)))) ft (cM (aw fw a9 (EV.o (aw bV (EV.o (af (ixP hu) (ak 3) a9)) a9)))))) (a6 (ar 10 aE.nd (aR (a5 (aw fw a9 (EV.o (aw bV (EV.o (af (ixP hu) (ak 3) a9)) a9))) (a5 (af (ixP hu) (ak 1) (EV.o (aw bV (EV.o (af (ixP hu) (ak 3) a9)) a9))) ae)))) (a6 (ar 11 aE.nd (aR (a5 aL (a5 (af (ixP hu) (EN.o (fg (a5 aL (a5 aL ae)))) (EV.o (aw bV (EV.o (af (ixP hu) (ak 3) a9)) a9))) (a5 (ao 9) (a5 (ao 10) (a5 (aR (a5 aO (a5 (af (ixP hu) (ak 1) (EV.o (aw bV (EV.o (af (ixP hu) (ak 3) a9)) a9))) ae))) ae))))))) (a6 (ar 12 aE.nd (aR (a5 (aw bV (EV.o (af (ixP hu) (ak 3) a9)) a9) (a5 aO (a5 (af (ixP hu) (ak 1) (EV.o (af (ixP hu) (EN.o (fg (a5 aO (a5 aO (a5 aO ae))))) (EV.o (aw bV (EV.o (af (ixP hu) (ak 3) a9)) a9))))) ae))))) (a6 (dW 13 aE.nd (xk (kc (af (ixP hu) (ak 1) a9) (ao 8) (kc (af (ixP hu) (ak 1) a9) (ao 11) (kc (af (ixP hu) (ak 1) a9) (aR (a5 aL (a5 (aR (a5 (ao 12) ae)) (a5 (af (ixP hu) (ak 1) (EV.o (af (ixP hu) (EN.o (fg (a5 aO (a5 aO (a5 aO ae))))) (EV.o (aw bV (EV.o (af (ixP hu) (ak 3) a9)) a9))))) ae)))) B8))))) (a6 (lg 13 hu (af (ixP hu) (ak 1) a9) (aR (a5 aL (a5 aL ae)))) (a6 (lg 13 hu (af (ixP hu) (ak 1) a9) (aR (a5 aL (a5 (af (ixP hu) (EN.o (fg (a5 aL (a5 aL ae)))) (EV.o (aw bV (EV.o (af (ixP hu) (ak 3) a9)) a9))) ae)))) (a6 (lg 13 hu (af (ixP hu) (ak 1) a9) (aR (a5 aL (a5 (af (ixP hu) (EN.o (fg (a5 aL (a5 aL ae)))) (EV.o (aw bV (EV.o (af (ixP hu) (ak 3) a9)) a9))) ae)))) (a6 (ar 14 aE.nd (EN.v (fg (a5 (aR (a5 aL (a5 aL ae))) (a5 (aR (a5 aL (a5 aL ae))) (a5 (aR (a5 aL (a5 aL ae))) (a5 (aR (a5 aL (a5 aL ae))) ae))))))) (ab (SV.frz 13 (aB (EN.v (xk (kc aL (af (ixP hu) (ak 1) (EV.o (aw bV (EV.o (af (ixP hu) (ak 3) a9)) a9))) (kc aL (ao 14) (kc aL (ao 13) B8)))))))))))))))))))))))))
abbrev nZ:Stmt:=top 1
theorem je:FnScope ["room","hour","since","till","name"] ["room","hour"] (aa nZ):=fsc
theorem lF (T:Txt w K mg) (hs:Hs K mg "handed" nZ):@PF (tw w) P w K mg base 1 "handed" kZ:=
 letI:TW:=tw w
 ic (g:=kX) hs je fun _ _ _ _ _ _ _ hr=>have hu:=hr.units;(a6 (bR (cK (af (ixP hu) (ak 0) a9)) (iu rfl (aT (aH 2 je.nd) (aT (aH 3 je.nd) (aT (aH 4 je.nd) fq)))) (ab (dG (t9 Ii Ih rh rf (ak 2) (ak 1) (ak 3)) (ab (aB (ao 4))) aW))) (ab (aB (af (ixP hu) (ak 0) a9))))
abbrev ly:Stmt:=top 2
theorem jI:FnScope ["H","hour","name","come"] ["H","hour","name"] (aa ly):=fsc
theorem jQ (T:Txt w K mg) (hs:Hs K mg "come_to" ly) (lF:@PF (tw w) P w K mg base 1 "handed" kZ):@PF (tw w) P w K mg base 2 "come_to" jq:=
 letI:TW:=tw w
 ic (g:=lZ) hs jI fun _ _ _ _ _ _ _ hr=>have hu:=hr.units;(a6 (ar 3 jI.nd (ao 2)) (a6 (kH 300 (bq (ou hu) cn (EV.o (af (ixP hu) (EV.o (af (ixP hu) (EV.o (af (ixP hu) (ak 0) dm)) (ak 3))) a9)) dm) (ab (ar 3 jI.nd (aj lF hr (a5 (af (ixP hu) (EV.o (af (ixP hu) (ak 0) dm)) (ak 3)) (a5 (ao 1) ae)))))) (ab (aB (ao 3)))))
abbrev lD:Stmt:=top 14
theorem tY:FnScope ["H","hour","name","back"] ["H","hour","name","back"] (aa lD):=fsc
theorem c6 (T:Txt w K mg) (hs:Hs K mg "arrival" lD) (jQ:@PF (tw w) P w K mg base 2 "come_to" jq):@PF (tw w) P w K mg base 3 "arrival" bT:=
 letI:TW:=tw w
 ic (g:=m6) hs tY fun _ _ _ _ _ _ _ hr=>have hu:=hr.units;(ab (aB (aR (a5 (aj jQ hr (a5 (ao 0) (a5 (ao 1) (a5 (ao 2) ae)))) (a5 (ao 3) (a5 aO (a5 aO (a5 aL ae))))))))
abbrev qL:Stmt:=top 13
theorem yQ:FnScope ["H","hour"] ["H","hour"] (aa qL):=fsc
theorem oh (T:Txt w K mg) (hs:Hs K mg "begin" qL) (c6:@PF (tw w) P w K mg base 3 "arrival" bT):@PF (tw w) P w K mg base 4 "begin" gk:=
 letI:TW:=tw w
 ic (g:=rj) hs yQ fun _ _ _ _ _ _ _ hr=>have hu:=hr.units;(ab (aB (aj c6 hr (a5 (ao 0) (a5 (ao 1) (a5 (af (ixP hu) (ak 0) dm) (a5 aL ae)))))))
abbrev fu:Stmt:=top 21
theorem eG:FnScope ["H","hour","state","bound","wrong"] ["H","hour","state"] (aa fu):=fsc
theorem cV (T:Txt w K mg) (hs:Hs K mg "by_wrong_key" fu) (c6:@PF (tw w) P w K mg base 3 "arrival" bT):@PF (tw w) P w K mg base 4 "by_wrong_key" bG:=
 letI:TW:=tw w
 ic (g:=dA) hs eG fun _ _ _ _ _ _ _ hr=>have hu:=hr.units;(a6 (ar 3 eG.nd (af (ixP hu) (EV.o (af (ixP hu) (EV.o (af (ixP hu) (ak 0) dm)) (EV.o (af (ixP hu) (ak 2) a9)))) a9)) (a6 (ar 4 eG.nd (aw fw (EV.o (af (ixP hu) (ak 2) a9)) a9)) (a6 (dG (bq (ou hu) cn (ak 4) (EV.o (af (ixP hu) (ak 3) a9))) (ab (aB (aj c6 hr (a5 (ao 0) (a5 (ao 1) (a5 (af (ixP hu) (ak 3) a9) (a5 (af (ixP hu) (ak 2) a9) ae))))))) aW) (ab (aB (aR (a5 (af (ixP hu) (ak 2) a9) (a5 (af (ixP hu) (ak 2) a9) (a5 (ao 4) (a5 (af (ixP hu) (ak 2) a9) (a5 aL ae)))))))))))
abbrev o4:Stmt:=top 20
theorem lr:FnScope ["H","hour","ways","state","key","typed","target"] ["H","hour","ways","state","key"] (aa o4):=fsc
theorem lG (T:Txt w K mg) (hs:Hs K mg "by_key" o4) (cV:@PF (tw w) P w K mg base 4 "by_wrong_key" bG) (c6:@PF (tw w) P w K mg base 3 "arrival" bT):@PF (tw w) P w K mg base 5 "by_key" e9:=
 letI:TW:=tw w
 ic (g:=gg) hs lr fun _ _ _ _ _ _ _ hr=>have hu:=hr.units;(a6 (ar 5 lr.nd (aw fw (EV.o (af (ixP hu) (ak 3) a9)) (ak 4))) (a6 (dG (bq (C5 hu) uo (ak 5) (ak 2)) (ab (aB (aj cV hr (a5 (ao 0) (a5 (ao 1) (a5 (ao 3) ae)))))) aW) (a6 (ar 6 lr.nd (Gb (bq (ou hu) cn (EV.o (af (ixP hu) (ak 2) (ak 5))) dm) (af (ixP hu) (ak 3) a9) (af (ixP hu) (ak 2) (ak 5)))) (a6 (dG (bq zr oz (ak 6) (EV.o ju)) (ab (aB (aR (a5 (af (ixP hu) (ak 3) a9) (a5 (af (ixP hu) (ak 3) a9) (a5 (af (ixP hu) (ak 3) a9) (a5 (af (ixP hu) (ak 3) a9) (a5 (ao 5) ae)))))))) aW) (a6 (dG (bq (ou hu) cn (ak 6) dm) (ab (aB (aj cV hr (a5 (ao 0) (a5 (ao 1) (a5 (ao 3) ae)))))) aW) (ab (aB (aj c6 hr (a5 (ao 0) (a5 (ao 1) (a5 (ao 6) (a5 (af (ixP hu) (ak 3) a9) ae))))))))))))
abbrev lC:Stmt:=top 22
theorem jK:FnScope ["H","hour","state","bound","waits"] ["H","hour","state"] (aa lC):=fsc
theorem jT (T:Txt w K mg) (hs:Hs K mg "by_wait" lC) (c6:@PF (tw w) P w K mg base 3 "arrival" bT):@PF (tw w) P w K mg base 4 "by_wait" jt:=
 letI:TW:=tw w
 ic (g:=jl) hs jK fun _ _ _ _ _ _ _ hr=>have hu:=hr.units;(a6 (ar 3 jK.nd (af (ixP hu) (EV.o (af (ixP hu) (EV.o (af (ixP hu) (ak 0) dm)) (EV.o (af (ixP hu) (ak 2) a9)))) a9)) (a6 (ar 4 jK.nd (aw fw (EV.o (af (ixP hu) (ak 2) a9)) a9)) (a6 (dG (bq (ou hu) cn (ak 4) (EV.o (af (ixP hu) (ak 3) a9))) (ab (aB (aj c6 hr (a5 (ao 0) (a5 (ao 1) (a5 (af (ixP hu) (ak 3) a9) (a5 (af (ixP hu) (ak 2) a9) ae))))))) aW) (ab (aB (aR (a5 (af (ixP hu) (ak 2) a9) (a5 (af (ixP hu) (ak 2) a9) (a5 (af (ixP hu) (ak 2) a9) (a5 (ao 4) (a5 aL ae)))))))))))
abbrev o3:Stmt:=top 19
theorem pd:FnScope ["H","hour","ways","state","sign","kind"] ["H","hour","ways","state","sign"] (aa o3):=fsc
theorem cU (T:Txt w K mg) (hs:Hs K mg "follow" o3) (jT:@PF (tw w) P w K mg base 4 "by_wait" jt) (lG:@PF (tw w) P w K mg base 5 "by_key" e9):@PF (tw w) P w K mg base 6 "follow" bX:=
 letI:TW:=tw w
 ic (g:=eZ) hs pd fun _ _ _ _ _ _ _ hr=>have hu:=hr.units;(a6 (ar 5 pd.nd (af (ixP hu) (EV.o (af (ixP hu) (EV.o (af (ixP hu) (ak 0) dm)) (EV.o (af (ixP hu) (ak 3) a9)))) a9)) (a6 (dG (EW.et (uz (bq (ou hu) cn (ak 5) dm) (qd (bq (ou hu) cn (ak 5) dm)))) (ab (aB (ao 3))) aW) (a6 (dG (bq (ou hu) cn (ak 4) (EV.o (ma rfl T.c_WAIT))) (ab (aB (aj jT hr (a5 (ao 0) (a5 (ao 1) (a5 (ao 3) ae)))))) aW) (ab (aB (aj lG hr (a5 (ao 0) (a5 (ao 1) (a5 (ao 2) (a5 (ao 3) (a5 (ao 4) ae)))))))))))
theorem oy (T:Txt w K mg) (cU:@PF (tw w) P w K mg base 6 "follow" bX):@LamB (tw w) P w K mg base 6 bN ["state","sign"] ik:=
 letI:TW:=tw w
 ⟨.of rfl rfl rfl (by decide +kernel) (by decide +kernel) (by decide +kernel) (by decide +kernel) (by decide +kernel),fun _ _ _ _ us h=>match us,h with | [_,_],_=>rfl,fun f c cl A outer s H hr=>by
  have hu:=hr.units;exact(aj cU hr (a5 (ao 4) (a5 (ao 3) (a5 (af (ixP hu) (ak 2) (EV.o (af (ixP hu) (ak 0) a9))) (a5 (ao 0) (a5 (ao 1) ae))))))⟩
theorem ox (T:Txt w K mg):@LamB (tw w) P w K mg base 6 bx ["state"] nJ:=
 letI:TW:=tw w
 ⟨.of rfl rfl rfl (by decide +kernel) (by decide +kernel) (by decide +kernel) (by decide +kernel) (by decide +kernel),fun _ _ _ _ us h=>match us,h with | [_],_=>rfl,fun f c cl A outer s H hr=>by
  have hu:=hr.units;exact k8⟩
theorem Kv (T:Txt w K mg) (cU:@PF (tw w) P w K mg base 6 "follow" bX):@Je (tw w) P w K mg base 6 appL:=by
 letI:TW:=tw w
 intro L qs cs p e;unfold appL at e;split at e
 ·rename_i hL;subst hL;obtain⟨h1,h2⟩:=wq e;exact⟨_,_,oy T cU,h1,h2⟩
 split at e
 ·rename_i hL;subst hL;obtain⟨h1,h2⟩:=wq e;exact⟨_,_,ox T,h1,h2⟩
 cases e
abbrev cQ:Stmt:=top 8
theorem bP:FnScope ["codes","counts","code","size"] ["codes"] (aa cQ):=fsc
theorem cH (T:Txt w K mg) (hs:Hs K mg "beginning_counts" cQ):@PF (tw w) P w K mg base 1 "beginning_counts" bB:=
 letI:TW:=tw w
 ic (g:=cX) hs bP fun _ _ _ _ _ _ _ hr=>have hu:=hr.units;(a6 (dW 1 bP.nd mh) (a6 (bR (cK (ao 0)) (aH 2 bP.nd) (ab (bR (mi rfl T.n_range aO (aw fw (EV.o (kE xN rfl T.n_len rfl (ak 2))) a9)) (aH 3 bP.nd) (ab (lg 1 hu (fK (ak 2) ft (cM (ao 3))) (aw fw (EV.o (D9 (yr 1) (fK (ak 2) ft (cM (ao 3))) aO)) a9)))))) (ab (SV.frz 1 (aB (ao 1))))))
abbrev nY:Stmt:=top 6
theorem lq:FnScope ["letters","letter","key","held"] ["letters","letter"] (aa nY):=fsc
theorem lE (T:Txt w K mg) (hs:Hs K mg "key_of" nY):@PF (tw w) P w K mg base 1 "key_of" kY:=
 letI:TW:=tw w
 ic (g:=kW) hs lq fun _ _ _ _ _ _ _ hr=>have hu:=hr.units;(a6 (bR (cK (ao 0)) (iu rfl (aT (aH 2 lq.nd) (aT (aH 3 lq.nd) fq))) (ab (dG (bq (JB hu) wI (ak 1) (ak 3)) (ab (aB (ao 2))) aW))) (ab (aB ju)))
abbrev lA:Stmt:=top 5
theorem jJ:FnScope ["letters","word","keys"] ["letters","word"] (aa lA):=fsc
theorem jR (T:Txt w K mg) (hs:Hs K mg "code_of" lA) (lE:@PF (tw w) P w K mg base 1 "key_of" kY):@PF (tw w) P w K mg base 2 "code_of" gZ:=
 letI:TW:=tw w
 ic (g:=m4) hs jJ fun _ _ _ _ _ _ _ hr=>have hu:=hr.units;(a6 (nQ false 2 jJ.nd (N':=["letter","letters"]) (cok jJ) (cK (ao 1)) (fun _ _ _ _ _=>(rS 0)) (fun _ _ _ _ _=>(aj lE hr (a5 (ao 1) (a5 (ao 0) ae))))) (ab (aB (Gb (bq (JB hu) wI (EV.o ju) (ak 2)) ju (D6 Ep Fn aL (ak 2))))))
abbrev eI:Stmt:=top 9
theorem gs:FnScope ["code","counts","size"] ["code","counts"] (aa eI):=fsc
theorem dQ (T:Txt w K mg) (hs:Hs K mg "own_beginning" eI):@PF (tw w) P w K mg base 1 "own_beginning" cY:=
 letI:TW:=tw w
 ic (g:=cW) hs gs fun _ _ _ _ _ _ _ hr=>have hu:=hr.units;(a6 (bR (mi rfl T.n_range aO (kE xN rfl T.n_len rfl (ak 0))) (aH 2 gs.nd) (ab (dG (bq (ou hu) cn (EV.o (af (ixP hu) (ak 1) (EV.o (fK (ak 0) ft (cM (ao 2)))))) a9) (ab (aB (fK (ak 0) ft (cM (ao 2))))) aW))) (ab (aB (ao 0))))
abbrev gI:Stmt:=top 7
theorem cO:FnScope ["letters","words","codes","counts"] ["letters","words"] (aa gI):=fsc
theorem g7 (T:Txt w K mg) (hs:Hs K mg "beginnings" gI) (jR:@PF (tw w) P w K mg base 2 "code_of" gZ) (cH:@PF (tw w) P w K mg base 1 "beginning_counts" bB) (dQ:@PF (tw w) P w K mg base 1 "own_beginning" cY):@PF (tw w) P w K mg base 3 "beginnings" dP:=
 letI:TW:=tw w
 ic (g:=gY) hs cO fun _ _ _ _ _ _ _ hr=>have hu:=hr.units;(a6 (nQ false 2 cO.nd (N':=["word","letters"]) (cok cO) (cK (ao 1)) (fun _ _ _ _ _=>(rS 0)) (fun _ _ _ _ _=>(aw fw (EV.o (aj jR hr (a5 (ao 1) (a5 (ao 0) ae)))) (EV.o (ma rfl T.c_CODE_END))))) (a6 (ar 3 cO.nd (aj cH hr (a5 (ao 2) ae))) (ab (aB (EN.v (iR (N':=["word","code","counts"]) (cok cO) (xl rfl T.n_zip (ao 1) (ao 2)) (fun _ _ _ _ _=>(va rfl (ia (rS 0) (ia (rS 1) qH)))) (fun _ _ _ _ _=>(aR (a5 (ao 0) (a5 (aj dQ hr (a5 (ao 1) (a5 (ao 2) ae))) ae))))))))))
abbrev gC:Stmt:=top 18
theorem cN:FnScope ["letters","names","ways","word","beginning","size"] ["letters","names"] (aa gC):=fsc
theorem fW (T:Txt w K mg) (hs:Hs K mg "names_ways" gC) (g7:@PF (tw w) P w K mg base 3 "beginnings" dP):@PF (tw w) P w K mg base 4 "names_ways" f6:=
 letI:TW:=tw w
 ic (g:=gT) hs cN fun _ _ _ _ _ _ _ hr=>have hu:=hr.units;(a6 (dW 2 cN.nd mh) (a6 (bR (cK (aj g7 hr (a5 (ao 0) (a5 (EN.v (Dd Gs rfl T.n_list rfl (ak 1))) ae)))) (iu rfl (aT (aH 3 cN.nd) (aT (aH 4 cN.nd) fq))) (a6 (bR (mi rfl T.n_range aO (kE xN rfl T.n_len rfl (ak 4))) (aH 5 cN.nd) (ab (lg 2 hu (fK (ak 4) ft (cM (ao 5))) ju))) (ab (lg 2 hu (ao 4) (af (ixP hu) (ak 1) (ak 3)))))) (ab (SV.frz 2 (aB (ao 2))))))
abbrev iG:Stmt:=top 17
theorem kj:FnScope ["H","name","room"] ["H","name"] (aa iG):=fsc
theorem dJ (T:Txt w K mg) (hs:Hs K mg "room_ways" iG) (fW:@PF (tw w) P w K mg base 4 "names_ways" f6):@PF (tw w) P w K mg base 5 "room_ways" aD:=
 letI:TW:=tw w
 ic (g:=du) hs kj fun _ _ _ _ _ _ _ hr=>have hu:=hr.units;(a6 (ar 2 kj.nd (af (ixP hu) (EV.o (af (ixP hu) (ak 0) dm)) (ak 1))) (a6 (dG (bq (ou hu) cn (EV.o (af (ixP hu) (ak 2) a9)) dm) (ab (aB (EN.v (Dd Bd rfl T.n_dict rfl (EV.o (af (ixP hu) (ak 2) a9)))))) aW) (a6 (dG (bq (ou hu) cn (EV.o (af (ixP hu) (ak 2) a9)) dm) (ab (aB (aj fW hr (a5 (af (ixP hu) (ak 0) dm) (a5 (EN.v (Dd Bd rfl T.n_dict rfl (EV.o (af (ixP hu) (ak 2) a9)))) ae))))) aW) (ab (aB (EN.v mh))))))
abbrev gG:Stmt:=top 16
theorem fS:FnScope ["H","ways","name"] ["H"] (aa gG):=fsc
theorem cT (T:Txt w K mg) (hs:Hs K mg "house_ways" gG) (dJ:@PF (tw w) P w K mg base 5 "room_ways" aD):@PF (tw w) P w K mg base 6 "house_ways" bO:=
 letI:TW:=tw w
 ic (g:=gW) hs fS fun _ _ _ _ _ _ _ hr=>have hu:=hr.units;(a6 (dW 1 fS.nd mh) (a6 (bR (cK (af (ixP hu) (ak 0) dm)) (aH 2 fS.nd) (ab (lg 1 hu (ao 2) (aj dJ hr (a5 (ao 0) (a5 (ao 2) ae)))))) (ab (SV.frz 1 (aB (ao 1))))))
abbrev gH:Stmt:=top 28
theorem bA:FnScope ["start","lead","is_last","known","found","done","near","sign","thing"] ["start","lead","is_last"] (aa gH):=fsc
theorem fZ (T:Txt w K mg) (hs:Hs K mg "first_rows" gH) (LT:@Je (tw w) P w K mg base 6 appL):@PFN (tw w) P w K mg base 8 "first_rows" dO:=
 letI:TW:=tw w
 EK (g:=gX) hs bA fun _ _ _ _ _ _ _ hr=>have hu:=hr.units;(ja (pC _ _) (dW 3 bA.nd (zU hu (ao 0) k8)) (ja (pC _ _) (dW 4 bA.nd (fg (a5 (aR (a5 (ao 0) (a5 aL ae))) ae))) (ja (jd _ _) (ar 5 bA.nd aO) (ja (yv (gB (jd _ _) (gB (xR _ _) (wZ (gB (jd _ _) (sV (gB (u9 _ _ _) (gB (xT _ _) (sV xO nj))) nj)))))) (kH 20000 (EW.et (B4 (bq Ih rf (ak 5) (EV.o (kE xN rfl T.n_len rfl (yr 4)))) (xg (nH (ff (EV.o (oD 2 LT hr (a5 (af (ixP hu) (EV.o (af (ixP hu) (yr 4) (EV.o (nG aO)))) a9) ae)))))))) (a6 (ar 6 bA.nd (af (ixP hu) (yr 4) (ak 5))) (a6 (Au 5 bA.nd aO) (ab (bR (cK (ma rfl T.c_SIGNS)) (aH 7 bA.nd) (a6 (ar 8 bA.nd (oD 1 LT hr (a5 (af (ixP hu) (ak 6) a9) (a5 (ao 7) ae)))) (ab (dG (bq (zo hu) rd (ak 8) (yr 3)) (a6 (qI 3 hu (ao 8) k8) (a6 (dH 4 (aR (a5 (ao 8) (a5 (aw fw (EV.o (af (ixP hu) (ak 6) a9)) (ak 7)) ae)))) (ab (dG (ff (EV.o (oD 2 LT hr (a5 (ao 8) ae)))) (ab yN) aW)))) aW)))))))) (yL 4)))))
abbrev eW:Stmt:=top 29
theorem pb:FnScope ["H","hour","ways"] ["H","hour"] (aa eW):=fsc
theorem rA:∀y∈bN.scope.names,y.2=.free->(aa eW).names.lookup y.1=some .cell:=by decide +kernel
theorem rz:∀y∈bx.scope.names,y.2=.free->(aa eW).names.lookup y.1=some .cell:=by decide +kernel
theorem eL {f:Addr} {fd:Mx} (T:Txt w K mg) (F:Fun K "places" "places" eW f fd) (hm:mg "places"=some (.ref f)) (hb:Binds K fd ["H","hour"] []) {cP:Addr} (hcode:fd.code=.ref cP) (hhd:P0 K cP PT=true) (hKb:K.In base) (hbn:∃bm o,mg "__builtins__"=some (.ref bm)/\bm≠Mc/\bm≠mainGlobals/\base.get? bm=some o/\o.cls=.type "module"/\o.dict=some Mc/\o.data=.plain) (cT:@PF (tw w) P w K mg base 6 "house_ways" bO) (fZ:@PFN (tw w) P w K mg base 8 "first_rows" dO) (oh:@PF (tw w) P w K mg base 4 "begin" gk):@PFN (tw w) P w K mg base 9 "places" cG:=
 letI:TW:=tw w
 zg F pb hm hb (g:=oC) (hr:=(zR _ _ _ (zS _))) fun cdv hcdv A outer s H E hr=>by
  have hu:=hr.units;exact(ja (jd _ _) (ar 2 pb.nd (aj cT hr (a5 (ao 0) ae))) (Br (zV fZ hr (Gh (aj oh hr (a5 (ao 0) (a5 (ao 1) ae))) (B7 (L:=bN) (idx:=[2,1,0]) (lp:=AS ⟨0,0,0,0⟩ mN) (c:=cP) (P:=PT) ⟨rfl,rfl,hcdv.trans hcode,Ph hKb hhd,Li.mpr rfl,hbn,rfl,rA,rfl,by decide +kernel,rfl⟩ (B7 (L:=bx) (idx:=[]) (lp:=AS ⟨0,0,0,0⟩ mM) (c:=cP) (P:=PT) ⟨rfl,rfl,hcdv.trans hcode,Ph hKb hhd,Li.mpr rfl,hbn,rfl,rz,rfl,by decide +kernel,rfl⟩ Gi))))))
abbrev jL:Stmt:=top 35
theorem fQ:FnScope ["marks","numbers","mark"] ["marks"] (aa jL):=fsc
theorem eM (T:Txt w K mg) (hs:Hs K mg "numbered" jL):@PF (tw w) P w K mg base 1 "numbered" cJ:=
 letI:TW:=tw w
 ic (g:=jZ) hs fQ fun _ _ _ _ _ _ _ hr=>have hu:=hr.units;(a6 (dW 1 fQ.nd rE) (a6 (bR (cK (ao 0)) (aH 2 fQ.nd) (ab (Bs 1 hu (ao 2) (kE J5 rfl T.n_len rfl (yr 1))))) (ab (SV.frz 1 (aB (EN.v (iR (N':=["mark","numbers"]) (cok fQ) (cK (ao 0)) (fun _ _ _ _ _=>(rS 0)) (fun _ _ _ _ _=>(af (ixT hu) (ak 1) (ak 0))))))))))
abbrev eK:Stmt:=top 34
theorem bS:FnScope ["numbers","nexts","marks","number","following"] ["numbers","nexts"] (aa eK):=fsc
theorem cF (T:Txt w K mg) (hs:Hs K mg "finer_classes" eK) (eM:@PF (tw w) P w K mg base 1 "numbered" cJ):@PF (tw w) P w K mg base 2 "finer_classes" bj:=
 letI:TW:=tw w
 ic (g:=eQ) hs bS fun _ _ _ _ _ _ _ hr=>have hu:=hr.units;(a6 (dW 2 bS.nd (fg ae)) (a6 (bR (xl rfl T.n_zip (ao 0) (ao 1)) (iu rfl (aT (aH 3 bS.nd) (aT (aH 4 bS.nd) fq))) (ab (dH 2 (aR (a5 (ao 3) (a5 (D5 Bc rfl T.n_tuple rfl (EN.o (iR (N':=["place","numbers"]) (cok bS) (cK (ao 4)) (fun _ _ _ _ _=>(rS 0)) (fun _ _ _ _ _=>(af (ixP hu) (ak 1) (ak 0)))))) ae)))))) (ab (SV.frz 2 (aB (aj eM hr (a5 (ao 2) ae)))))))
abbrev qK:Stmt:=top 23
theorem rX:FnScope ["H","state","room"] ["H","state"] (aa qK):=fsc
theorem cE (T:Txt w K mg) (hs:Hs K mg "heard" qK):@PF (tw w) P w K mg base 1 "heard" cI:=
 letI:TW:=tw w
 ic (g:=k0) hs rX fun _ _ _ _ _ _ _ hr=>have hu:=hr.units;(a6 (ar 2 rX.nd (af (ixP hu) (EV.o (af (ixP hu) (ak 0) dm)) (EV.o (af (ixP hu) (ak 1) a9)))) (ab (aB (aR (a5 (af (ixP hu) (EV.o (ma rfl T.c_HEARD)) (EV.o (af (ixP hu) (ak 2) a9))) (a5 (af (ixP hu) (ak 2) a9) ae))))))
abbrev iJ:Stmt:=top 33
theorem dI:FnScope ["H","found","nexts","told","finer"] ["H","found","nexts"] (aa iJ):=fsc
theorem dM (T:Txt w K mg) (hs:Hs K mg "classings" iJ) (eM:@PF (tw w) P w K mg base 1 "numbered" cJ) (cE:@PF (tw w) P w K mg base 1 "heard" cI) (cF:@PF (tw w) P w K mg base 2 "finer_classes" bj):@PF (tw w) P w K mg base 3 "classings" bF:=
 letI:TW:=tw w
 ic (g:=iP) hs dI fun _ _ _ _ _ _ _ hr=>have hu:=hr.units;(a6 (dW 3 dI.nd (fg (a5 (aj eM hr (a5 (EN.v (iR (N':=["state","row","H"]) (cok dI) (cK (ao 1)) (fun _ _ _ _ _=>(va rfl (ia (rS 0) (ia (rS 1) qH)))) (fun _ _ _ _ _=>(aj cE hr (a5 (ao 2) (a5 (ao 0) ae)))))) ae)) ae))) (a6 (ar 4 dI.nd (aj cF hr (a5 (af (ixP hu) (yr 3) (EV.o (nG aO))) (a5 (ao 2) ae)))) (a6 (kH 20000 (bq (AK hu) jY (ak 4) (EV.o (af (ixP hu) (yr 3) (EV.o (nG aO))))) (a6 (dH 3 (ao 4)) (ab (ar 4 dI.nd (aj cF hr (a5 (ao 4) (a5 (ao 2) ae))))))) (ab (SV.frz 3 (aB (ao 3)))))))
abbrev fT:Stmt:=top 30
theorem aU:FnScope ["H","hour","found","ways","numbers","number","place","nexts","state","row"] ["H","hour","found"] (aa fT):=fsc
theorem cy (T:Txt w K mg) (hs:Hs K mg "next_places" fT) (cT:@PF (tw w) P w K mg base 6 "house_ways" bO) (cU:@PF (tw w) P w K mg base 6 "follow" bX):@PF (tw w) P w K mg base 7 "next_places" bQ:=
 letI:TW:=tw w
 ic (g:=gf) hs aU fun _ _ _ _ _ _ _ hr=>have hu:=hr.units;(a6 (ar 3 aU.nd (aj cT hr (a5 (ao 0) ae))) (a6 (dW 4 aU.nd rE) (a6 (bR (oF rfl T.n_enumerate (ao 2)) (iu rfl (aT (aH 5 aU.nd) (aT (aH 6 aU.nd) fq))) (ab (qI 4 hu (af (ixP hu) (ak 6) a9) (ao 5)))) (a6 (dW 7 aU.nd (fg ae)) (a6 (bR (cK (ao 2)) (iu rfl (aT (aH 8 aU.nd) (aT (aH 9 aU.nd) fq))) (ab (SV.frz 4 (dH 7 (EN.v (iR (N':=["sign","numbers","H","hour","state","ways"]) (cok aU) (cK (ma rfl T.c_SIGNS)) (fun _ _ _ _ _=>(rS 0)) (fun _ _ _ _ _=>(af (ixT hu) (ak 1) (EV.o (aj cU hr (a5 (ao 2) (a5 (ao 3) (a5 (af (ixP hu) (ak 5) (EV.o (af (ixP hu) (ak 4) a9))) (a5 (ao 4) (a5 (ao 0) ae))))))))))))))) (ab (SV.frz 7 (aB (ao 7)))))))))
abbrev lB:Stmt:=top 32
theorem mT:FnScope ["H","hour","found"] ["H","hour"] (aa lB):=fsc
theorem jS (T:Txt w K mg) (hs:Hs K mg "classes" lB) (eL:@PFN (tw w) P w K mg base 9 "places" cG) (dM:@PF (tw w) P w K mg base 3 "classings" bF) (cy:@PF (tw w) P w K mg base 7 "next_places" bQ):@PF (tw w) P w K mg base 10 "classes" jr:=
 letI:TW:=tw w
 ic (g:=m5) hs mT fun _ _ _ _ _ _ _ hr=>have hu:=hr.units;(a6 (ar 2 mT.nd (EN.v (rF eL hr (a5 (ao 0) (a5 (ao 1) ae))))) (ab (aB (af (ixP hu) (EV.o (aj dM hr (a5 (ao 0) (a5 (ao 2) (a5 (aj cy hr (a5 (ao 0) (a5 (ao 1) (a5 (ao 2) ae)))) ae))))) (EV.o (nG aO))))))
abbrev eJ:Stmt:=top 37
theorem aG:FnScope ["told","nexts","one","other","row","here","there","numbers","parted","place"] ["told","nexts","one","other"] (aa eJ):=fsc
theorem dR (T:Txt w K mg) (hs:Hs K mg "first_parting" eJ):@PF (tw w) P w K mg base 1 "first_parting" cZ:=
 letI:TW:=tw w
 ic (g:=eO) hs aG fun _ _ _ _ _ _ _ hr=>have hu:=hr.units;(a6 (ar 4 aG.nd aL) (a6 (ar 5 aG.nd (ao 2)) (a6 (ar 6 aG.nd (ao 3)) (a6 (bR (De rfl T.n_reversed (ao 0)) (aH 7 aG.nd) (a6 (nQ false 8 aG.nd (N':=["near","far","numbers"]) (cok aG) (xl rfl T.n_zip (af (ixP hu) (ak 1) (ak 5)) (af (ixP hu) (ak 1) (ak 6))) (fun _ _ _ _ _=>(va rfl (ia (rS 0) (ia (rS 1) qH)))) (fun _ _ _ _ _=>(md (AK hu) (EV.o (af (ixP hu) (ak 2) (ak 0))) (EV.o (af (ixP hu) (ak 2) (ak 1)))))) (a6 (ar 9 aG.nd (D7 (ak 8) (EV.o k8))) (a6 (Bt 4 aG.nd (af (ixP hu) (EV.o (ma rfl T.c_SIGNS)) (ak 9))) (a6 (ar 5 aG.nd (af (ixP hu) (EV.o (af (ixP hu) (ak 1) (ak 5))) (ak 9))) (ab (ar 6 aG.nd (af (ixP hu) (EV.o (af (ixP hu) (ak 1) (ak 6))) (ak 9))))))))) (ab (aB (ao 4)))))))
abbrev lu:Stmt:=top 36
theorem eC:FnScope ["H","hour","one","other","found","nexts","told","size"] ["H","hour","one","other"] (aa lu):=fsc
theorem jN (T:Txt w K mg) (hs:Hs K mg "parting" lu) (eL:@PFN (tw w) P w K mg base 9 "places" cG) (cy:@PF (tw w) P w K mg base 7 "next_places" bQ) (dM:@PF (tw w) P w K mg base 3 "classings" bF) (dR:@PF (tw w) P w K mg base 1 "first_parting" cZ):@PF (tw w) P w K mg base 10 "parting" fJ:=
 letI:TW:=tw w
 ic (g:=jk) hs eC fun _ _ _ _ _ _ _ hr=>have hu:=hr.units;(a6 (ar 4 eC.nd (EN.v (rF eL hr (a5 (ao 0) (a5 (ao 1) ae))))) (a6 (ar 5 eC.nd (aj cy hr (a5 (ao 0) (a5 (ao 1) (a5 (ao 4) ae))))) (a6 (ar 6 eC.nd (aj dM hr (a5 (ao 0) (a5 (ao 4) (a5 (ao 5) ae))))) (a6 (dG (bq (ou hu) cn (EV.o (af (ixP hu) (EV.o (af (ixP hu) (ak 6) (EV.o (nG aO)))) (ak 2))) (EV.o (af (ixP hu) (EV.o (af (ixP hu) (ak 6) (EV.o (nG aO)))) (ak 3)))) (ab (aB ju)) aW) (a6 (ar 7 eC.nd aO) (a6 (kH 20000 (bq (ou hu) cn (EV.o (af (ixP hu) (EV.o (af (ixP hu) (ak 6) (ak 7))) (ak 2))) (EV.o (af (ixP hu) (EV.o (af (ixP hu) (ak 6) (ak 7))) (ak 3)))) (ab (Au 7 eC.nd aO))) (ab (aB (aj dR hr (a5 (l0 (ak 6) ft (cM (ao 7))) (a5 (ao 5) (a5 (ao 2) (a5 (ao 3) ae)))))))))))))
abbrev vf:Stmt:=top 15
theorem BA:FnScope ["H","hour","state","sign"] ["H","hour","state","sign"] (aa vf):=fsc
theorem gJ (T:Txt w K mg) (hs:Hs K mg "step" vf) (cU:@PF (tw w) P w K mg base 6 "follow" bX) (dJ:@PF (tw w) P w K mg base 5 "room_ways" aD):@PF (tw w) P w K mg base 7 "step" iC:=
 letI:TW:=tw w
 ic (g:=wQ) hs BA fun _ _ _ _ _ _ _ hr=>have hu:=hr.units;(ab (aB (aj cU hr (a5 (ao 0) (a5 (ao 1) (a5 (aj dJ hr (a5 (ao 0) (a5 (af (ixP hu) (ak 2) a9) ae))) (a5 (ao 2) (a5 (ao 3) ae))))))))
abbrev gE:Stmt:=top 44
theorem aQ:FnScope ["_law_house_here","_law_hour","_law_found","_law_told","_law_numbers_here","_law_k","_law_place","_law_marks","_law_state","_law_row","_law_after","_law_mark"] ["_law_house_here","_law_hour","_law_found","_law_told"] (aa gE):=fsc
theorem fY (T:Txt w K mg) (hs:Hs K mg "_law_closed" gE) (gJ:@PF (tw w) P w K mg base 7 "step" iC) (cE:@PF (tw w) P w K mg base 1 "heard" cI):@PF (tw w) P w K mg base 8 "_law_closed" f9:=
 letI:TW:=tw w
 ic (g:=gU) hs aQ fun _ _ _ _ _ _ _ hr=>have hu:=hr.units;(a6 (dW 4 aQ.nd rE) (a6 (bR (oF rfl T.n_enumerate (ao 2)) (iu rfl (aT (aH 5 aQ.nd) (aT (aH 6 aQ.nd) fq))) (ab (qI 4 hu (af (ixP hu) (ak 6) a9) (af (ixP hu) (ak 3) (ak 5))))) (a6 (dW 7 aQ.nd mh) (a6 (bR (oF rfl T.n_enumerate (ao 2)) (iu rfl (aT (aH 5 aQ.nd) (aT (iu rfl (aT (aH 8 aQ.nd) (aT (aH 9 aQ.nd) fq))) fq))) (a6 (SV.frz 4 (nQ false 10 aQ.nd (N':=["_law_sign","_law_numbers_here","_law_house_here","_law_hour","_law_state"]) (cok aQ) (cK aL) (fun _ _ _ _ _=>(rS 0)) (fun _ _ _ _ _=>(af (ixT hu) (ak 1) (EV.o (aj gJ hr (a5 (ao 2) (a5 (ao 3) (a5 (ao 4) (a5 (ao 0) ae)))))))))) (a6 (ar 11 aQ.nd (aR (a5 (aj cE hr (a5 (ao 0) (a5 (ao 8) ae))) (a5 (ao 10) ae)))) (ab (yM 7 hu (af (ixP hu) (ak 3) (ak 5)) (ao 11) (ak 11) (ab (aB k8))))))) (ab (aB k8))))))
abbrev gF:Stmt:=top 43
theorem fR:FnScope ["_law_house_here","_law_hour","_law_state","_law_row","_law_sign"] ["_law_house_here","_law_hour","_law_state","_law_row"] (aa gF):=fsc
theorem dX (T:Txt w K mg) (hs:Hs K mg "_law_behind" gF) (gJ:@PF (tw w) P w K mg base 7 "step" iC) (cE:@PF (tw w) P w K mg base 1 "heard" cI):@PF (tw w) P w K mg base 8 "_law_behind" dN:=
 letI:TW:=tw w
 ic (g:=gV) hs fR fun _ _ _ _ _ _ _ hr=>have hu:=hr.units;(a6 (bR (cK (ao 3)) (aH 4 fR.nd) (ab (ar 2 fR.nd (aj gJ hr (a5 (ao 0) (a5 (ao 1) (a5 (ao 2) (a5 (ao 4) ae)))))))) (ab (aB (aj cE hr (a5 (ao 0) (a5 (ao 2) ae))))))
abbrev vg:Stmt:=top 27
theorem ve:FnScope ["row"] ["row"] (aa vg):=fsc
theorem og (T:Txt w K mg) (hs:Hs K mg "rank" vg):@PF (tw w) P w K mg base 1 "rank" qb:=
 letI:TW:=tw w
 ic (g:=wR) hs ve fun _ _ _ _ _ _ _ hr=>have hu:=hr.units;(ab (aB (aR (a5 (kE xN rfl T.n_len rfl (ak 0)) (a5 (EN.v (iR (N':=["sign"]) (cok ve) (cK (ao 0)) (fun _ _ _ _ _=>(rS 0)) (fun _ _ _ _ _=>(D6 Es Fo (ma rfl T.c_SIGNS) (ak 0))))) ae)))))
abbrev lx:Stmt:=top 26
theorem tX:FnScope ["one","other"] ["one","other"] (aa lx):=fsc
theorem jO (T:Txt w K mg) (hs:Hs K mg "earlier" lx) (og:@PF (tw w) P w K mg base 1 "rank" qb):@PF (tw w) P w K mg base 2 "earlier" jo:=
 letI:TW:=tw w
 ic (g:=lY) hs tX fun _ _ _ _ _ _ _ hr=>have hu:=hr.units;(ab (aB (md (Ig hu) (EV.o (aj og hr (a5 (ao 0) ae))) (EV.o (aj og hr (a5 (ao 1) ae))))))
abbrev gD:Stmt:=top 45
theorem c5:FnScope ["_law_house_here","_law_hour","_law_one","_law_other","_law_row","_law_parts","_law_here","_law_there","_law_k"] ["_law_house_here","_law_hour","_law_one","_law_other","_law_row","_law_parts"] (aa gD):=fsc
theorem fX (T:Txt w K mg) (hs:Hs K mg "_law_parted" gD) (jO:@PF (tw w) P w K mg base 2 "earlier" jo) (cE:@PF (tw w) P w K mg base 1 "heard" cI) (gJ:@PF (tw w) P w K mg base 7 "step" iC) (dX:@PF (tw w) P w K mg base 8 "_law_behind" dN):@PF (tw w) P w K mg base 9 "_law_parted" f7:=
 letI:TW:=tw w
 ic (g:=eY) hs c5 fun _ _ _ _ _ _ _ hr=>have hu:=hr.units;(a6 (ar 6 c5.nd (ao 2)) (a6 (ar 7 c5.nd (ao 3)) (a6 (bR (hV rfl T.n_range (kE xN rfl T.n_len rfl (ak 4))) (aH 8 c5.nd) (a6 (dG (EW.et (B4 (EW.et (uz (bq zr oz (ak 5) (EV.o ju)) (qd (ff (EV.o (aj jO hr (a5 (fK (ak 4) ft (cM (ao 8))) (a5 (ao 5) ae)))))))) (xg (bq (AK hu) jY (EV.o (aj cE hr (a5 (ao 0) (a5 (ao 6) ae)))) (EV.o (aj cE hr (a5 (ao 0) (a5 (ao 7) ae)))))))) (ab (aB k8)) aW) (a6 (ar 6 c5.nd (aj gJ hr (a5 (ao 0) (a5 (ao 1) (a5 (ao 6) (a5 (af (ixP hu) (ak 4) (ak 8)) ae)))))) (ab (ar 7 c5.nd (aj gJ hr (a5 (ao 0) (a5 (ao 1) (a5 (ao 7) (a5 (af (ixP hu) (ak 4) (ak 8)) ae)))))))))) (a6 (dG (bq zr oz (ak 5) (EV.o ju)) (ab (aB (md (ou hu) (EV.o (aj cE hr (a5 (ao 0) (a5 (ao 6) ae)))) (EV.o (aj cE hr (a5 (ao 0) (a5 (ao 7) ae))))))) aW) (ab (aB (md (AK hu) (EV.o (aj dX hr (a5 (ao 0) (a5 (ao 1) (a5 (ao 2) (a5 (ao 5) ae)))))) (EV.o (aj dX hr (a5 (ao 0) (a5 (ao 1) (a5 (ao 3) (a5 (ao 5) ae)))))))))))))
abbrev nX:Stmt:=top 46
theorem eV:FnScope ["_law_script","_law_house_here","_law_hour","_law_found","_law_told","_law_most","_law_number","_law_row","_law_cell","_law_one","_law_other","_law_parts"] ["_law_script"] (aa nX):=fsc
theorem F9 {f:Addr} {fd:Mx} (T:Txt w K mg) (F:Fun K "law" "law" nX f fd) (gL:@PF (tw w) P w K mg base 3 "_law_house" gj) (bD:@PF (tw w) P w K mg base 1 "_law_cell_at" aN) (eL:@PFN (tw w) P w K mg base 9 "places" cG) (jS:@PF (tw w) P w K mg base 10 "classes" jr) (fY:@PF (tw w) P w K mg base 8 "_law_closed" f9) (jN:@PF (tw w) P w K mg base 10 "parting" fJ) (fX:@PF (tw w) P w K mg base 9 "_law_parted" f7):FnOk P w K mg base CX0 11 f fd ["_law_script"] (@spP (tw w) K 1 xf):=
 letI:TW:=(tw w)
 have main:FnOk P w K mg base CX0 (10+1) f fd ["_law_script"] (spP K 1 (eD 1 12 zN)):=by
  refine Ij (N:=["_law_script","_law_house_here","_law_hour","_law_found","_law_told","_law_most","_law_number","_law_row","_law_cell","_law_one","_law_other","_law_parts"]) (ps:=["_law_script"]) (k:=10) (g:=zN) F eV ?_;intro cdv A outer s H E hr;have hu:=hr.units;exact(a6 (ar 1 eV.nd (aj gL hr (a5 (ao 0) ae))) (a6 (ar 2 eV.nd (aw bV (EV.o (aj bD hr (a5 (ao 0) (a5 aO ae)))) a9)) (a6 (ar 3 eV.nd (EN.v (rF eL hr (a5 (ao 1) (a5 (ao 2) ae))))) (a6 (ar 4 eV.nd (aj jS hr (a5 (ao 1) (a5 (ao 2) ae)))) (a6 (dG (EW.et (uz (nH (ff (EV.o (xh zJ rfl T.n_isinstance rfl T.n_list (by decide +kernel) (ak 4))))) (qd (bq (AK hu) jY (EV.o (kE xN rfl T.n_len rfl (ak 4))) (EV.o (kE xN rfl T.n_len rfl (ak 3))))))) (ab (aB k8)) aW) (a6 (ar 5 eV.nd aO) (a6 (bR (cK (ao 4)) (aH 6 eV.nd) (a6 (dG (EW.et (uz (nH (ff (EV.o (xh CG rfl T.n_isinstance rfl T.n_int (by decide +kernel) (ak 6))))) (uz (ff (EV.o (xh zK rfl T.n_isinstance rfl T.n_bool (by decide +kernel) (ak 6)))) (qd (nH (t9 Ii Ii rh rh a9 (ak 6) (ak 5))))))) (ab (aB k8)) aW) (ab (ar 5 eV.nd (Ga rfl T.n_max (ao 5) (aw fw (ak 6) a9)))))) (a6 (dG (EW.et (uz (bq (AK hu) jY (EV.o (af (ixP hu) (ak 4) a9)) a9) (qd (nH (ff (EV.o (aj fY hr (a5 (ao 1) (a5 (ao 2) (a5 (ao 3) (a5 (ao 4) ae))))))))))) (ab (aB k8)) aW) (a6 (ar 7 eV.nd (D6 Ep Fn aL (EN.o (iR (N':=["_law_cell"]) (cok eV) (cK (l0 (ak 0) (cM aO) (cM aO))) (fun _ _ _ _ _=>(rS 0)) (fun _ _ _ _ _=>(af (ixP hu) dm (EV.o (aw bV (ak 0) a9)))))))) (a6 (bR (cK (l0 (ak 0) (cM aO) (cM aO))) (aH 8 eV.nd) (a6 (ar 9 eV.nd (aw bV (ak 8) (EV.o (kE xN rfl T.n_len rfl (ak 3))))) (a6 (ar 10 eV.nd (aw bV (EV.o (aw C6 (ak 8) a9)) (EV.o (kE xN rfl T.n_len rfl (ak 3))))) (a6 (ar 11 eV.nd (aj jN hr (a5 (ao 1) (a5 (ao 2) (a5 (ao 9) (a5 (ao 10) ae)))))) (a6 (dG (bq (AK hu) jY (EV.o (md zr (ak 11) (EV.o ju))) (EV.o (md (ou hu) (EV.o (af (ixP hu) (ak 4) (ak 9))) (EV.o (af (ixP hu) (ak 4) (ak 10)))))) (ab (aB k8)) aW) (ab (dG (nH (ff (EV.o (aj fX hr (a5 (ao 1) (a5 (ao 2) (a5 (af (ixP hu) (EV.o (af (ixP hu) (ak 3) (ak 9))) a9) (a5 (af (ixP hu) (EV.o (af (ixP hu) (ak 3) (ak 10))) a9) (a5 (ao 7) (a5 (ao 11) ae)))))))))) (ab (aB k8)) aW))))))) (ab (aB k8))))))))))))
 main
end K42
namespace K42
open PySem PySem.Spec PyProof.Rows L2 PU
seal EV EO EN EA ET EW SV SVs TGt Dz TCt DA EI ETs ED EOI EL
theorem all_mk {l:QF} {w:Lx} {K:LA} {h:Heap} {mg:Str->Option LB} {fa:Addr} (X:K.In h) (G:h.Ns mainGlobals mg) (hfa:mg "law"=some (.ref fa))
  {f21 f36:Addr} {od21 an21 od36 an36:Option Addr} {sl21 sl36:Array (Option LB)} {oc21 kV21 dc21 pm21 cd21 ct21 oc36 kV36 dc36 pm36 cd36 ct36:LB}
  (h0:Has K "_law_numbers" fU)
  (h1:Has K "_law_names" iH)
  (h2:Has K "_law_cell_at" fV)
  (h3:Has K "_law_house" iI)
  (h4:Has K "handed" nZ)
  (h5:Has K "come_to" ly)
  (h6:Has K "arrival" lD)
  (h7:Has K "begin" qL)
  (h8:Has K "by_wrong_key" fu)
  (h9:Has K "by_key" o4)
  (h10:Has K "by_wait" lC)
  (h11:Has K "follow" o3)
  (h12:Has K "beginning_counts" cQ)
  (h13:Has K "key_of" nY)
  (h14:Has K "code_of" lA)
  (h15:Has K "own_beginning" eI)
  (h16:Has K "beginnings" gI)
  (h17:Has K "names_ways" gC)
  (h18:Has K "room_ways" iG)
  (h19:Has K "house_ways" gG)
  (h20:Has K "first_rows" gH)
  (a21:MM K mainGlobals "places"=some (some (.ref f21))) (l21:K.lookup f21=some ⟨oc21,od21,.func (Mn "places" "places" (eR eW) (bH eW) (aa eW) .none kV21 dc21 pm21 an21 cd21 ct21),sl21⟩) (c21:Nr K cd21 "places"=true) (k21:N5 K (.ref f21)=true)
  (h22:Has K "numbered" jL)
  (h23:Has K "finer_classes" eK)
  (h24:Has K "heard" qK)
  (h25:Has K "classings" iJ)
  (h26:Has K "next_places" fT)
  (h27:Has K "classes" lB)
  (h28:Has K "first_parting" eJ)
  (h29:Has K "parting" lu)
  (h30:Has K "step" vf)
  (h31:Has K "_law_closed" gE)
  (h32:Has K "_law_behind" gF)
  (h33:Has K "rank" vg)
  (h34:Has K "earlier" lx)
  (h35:Has K "_law_parted" gD)
  (a36:MM K mainGlobals "law"=some (some (.ref f36))) (l36:K.lookup f36=some ⟨oc36,od36,.func (Mn "law" "law" (eR nX) (bH nX) (aa nX) .none kV36 dc36 pm36 an36 cd36 ct36),sl36⟩) (c36:Nr K cd36 "law"=true) (k36:N5 K (.ref f36)=true)
  {cP:Addr} (hcode:cd21=.ref cP) (hhd:P0 K cP PT=true)
  (z_bool:MM K mainGlobals "bool"=some none)
  (z_dict:MM K mainGlobals "dict"=some none)
  (z_enumerate:MM K mainGlobals "enumerate"=some none)
  (z_int:MM K mainGlobals "int"=some none)
  (z_isinstance:MM K mainGlobals "isinstance"=some none)
  (z_len:MM K mainGlobals "len"=some none)
  (z_list:MM K mainGlobals "list"=some none)
  (z_max:MM K mainGlobals "max"=some none)
  (z_range:MM K mainGlobals "range"=some none)
  (z_reversed:MM K mainGlobals "reversed"=some none)
  (z_tuple:MM K mainGlobals "tuple"=some none)
  (z_zip:MM K mainGlobals "zip"=some none)
  (c_CODE_END:@Con (tw w) K mg "CODE_END" c_CODE_END)
  (c_HEARD:@Con (tw w) K mg "HEARD" c_HEARD)
  (c_SIGNS:@Con (tw w) K mg "SIGNS" c_SIGNS)
  (c_WAIT:@Con (tw w) K mg "WAIT" c_WAIT)
  : ∃fd:Mx,(∀(s:LF) (v:LB),RC s fd ⟨[v],[]⟩ [("_law_script",v)])/\∀base:Heap,K.In base->base.Ns mainGlobals mg->(∃bm o,mg "__builtins__"=some (.ref bm)/\bm≠Mc/\bm≠mainGlobals/\base.get? bm=some o/\o.cls=.type "module"/\o.dict=some Mc/\o.data=.plain)->FnOk l.prog w K mg base CX0 11 fa fd ["_law_script"] (@spP (tw w) K 1 xf):=by
 have e:=hfa.symm.trans (Ow X G a36);cases e;have T:Txt w K mg:=⟨ML X G z_bool,ML X G z_dict,ML X G z_enumerate,ML X G z_int,ML X G z_isinstance,ML X G z_len,ML X G z_list,ML X G z_max,ML X G z_range,ML X G z_reversed,ML X G z_tuple,ML X G z_zip,c_CODE_END,c_HEARD,c_SIGNS,c_WAIT⟩;have F21:=wW (st:=eW) l21 c21 k21;have b21:=F21.binds (ps:=["H","hour"]) fun _ _ _ _ _ _ us hl=>match us,hl with | [_,_],_=>rfl
 have F36:=wW (st:=nX) l36 c36 k36;refine⟨Mn "law" "law" (eR nX) (bH nX) (aa nX) .none kV36 dc36 pm36 an36 cd36 ct36,fun s v=>.of_eq rfl,fun base hKb _ hbn=>?_⟩;have p_law_numbers:=bU (P:=l.prog) (base:=base) T (h0.fn X G);have p_law_names:=gK (P:=l.prog) (base:=base) T (h1.fn X G) p_law_numbers;have p_law_cell_at:=bD (P:=l.prog) (base:=base) T (h2.fn X G);have p_law_house:=gL (P:=l.prog) (base:=base) T (h3.fn X G) p_law_names p_law_cell_at p_law_numbers;have p_handed:=lF (P:=l.prog) (base:=base) T (h4.fn X G);have p_come_to:=jQ (P:=l.prog) (base:=base) T (h5.fn X G) p_handed;have p_arrival:=c6 (P:=l.prog) (base:=base) T (h6.fn X G) p_come_to;have p_begin:=oh (P:=l.prog) (base:=base) T (h7.fn X G) p_arrival;have p_by_wrong_key:=cV (P:=l.prog) (base:=base) T (h8.fn X G) p_arrival;have p_by_key:=lG (P:=l.prog) (base:=base) T (h9.fn X G) p_by_wrong_key p_arrival;have p_by_wait:=jT (P:=l.prog) (base:=base) T (h10.fn X G) p_arrival;have p_follow:=cU (P:=l.prog) (base:=base) T (h11.fn X G) p_by_wait p_by_key;have LT:=Kv (P:=l.prog) (base:=base) T p_follow;have p_beginning_counts:=cH (P:=l.prog) (base:=base) T (h12.fn X G);have p_key_of:=lE (P:=l.prog) (base:=base) T (h13.fn X G);have p_code_of:=jR (P:=l.prog) (base:=base) T (h14.fn X G) p_key_of;have p_own_beginning:=dQ (P:=l.prog) (base:=base) T (h15.fn X G);have p_beginnings:=g7 (P:=l.prog) (base:=base) T (h16.fn X G) p_code_of p_beginning_counts p_own_beginning;have p_names_ways:=fW (P:=l.prog) (base:=base) T (h17.fn X G) p_beginnings;have p_room_ways:=dJ (P:=l.prog) (base:=base) T (h18.fn X G) p_names_ways;have p_house_ways:=cT (P:=l.prog) (base:=base) T (h19.fn X G) p_room_ways;have p_first_rows:=fZ (P:=l.prog) (base:=base) T (h20.fn X G) LT;have p_places:=eL (P:=l.prog) (base:=base) T F21 (Ow X G a21) b21 hcode hhd hKb hbn p_house_ways p_first_rows p_begin;have p_numbered:=eM (P:=l.prog) (base:=base) T (h22.fn X G);have p_finer_classes:=cF (P:=l.prog) (base:=base) T (h23.fn X G) p_numbered;have p_heard:=cE (P:=l.prog) (base:=base) T (h24.fn X G);have p_classings:=dM (P:=l.prog) (base:=base) T (h25.fn X G) p_numbered p_heard p_finer_classes;have p_next_places:=cy (P:=l.prog) (base:=base) T (h26.fn X G) p_house_ways p_follow;have p_classes:=jS (P:=l.prog) (base:=base) T (h27.fn X G) p_places p_classings p_next_places;have p_first_parting:=dR (P:=l.prog) (base:=base) T (h28.fn X G);have p_parting:=jN (P:=l.prog) (base:=base) T (h29.fn X G) p_places p_next_places p_classings p_first_parting;have p_step:=gJ (P:=l.prog) (base:=base) T (h30.fn X G) p_follow p_room_ways;have p_law_closed:=fY (P:=l.prog) (base:=base) T (h31.fn X G) p_step p_heard;have p_law_behind:=dX (P:=l.prog) (base:=base) T (h32.fn X G) p_step p_heard;have p_rank:=og (P:=l.prog) (base:=base) T (h33.fn X G);have p_earlier:=jO (P:=l.prog) (base:=base) T (h34.fn X G) p_rank;have p_law_parted:=fX (P:=l.prog) (base:=base) T (h35.fn X G) p_earlier p_heard p_step p_law_behind;exact F9 T F36 p_law_house p_law_cell_at p_places p_classes p_law_closed p_parting p_law_parted
theorem walk{l:QF}{q:Ll}{loose:List Str}{XP:(Str->Option LB)->Heap->Prop}{YP:Lx->Heap->Prop}{d:DefRec}{K:Params->LA}(hn:l.most=some 63)(hdf:d.params.defaults=[])
  (hY:∀(w:Lx)(h:Heap),YP w h->(K w.params).In h) (hT:∀(w:Lx)(h:Heap),YP w h->∀P∈[PT],h.get? P=some (OG #[])) (hC:∀(w:Lx),∀P∈[PT],∃c,P0 (K w.params) c P=true) (hL:∀(w:Lx),∀P∈[PT],(K w.params).lookup P=none)
  (F:∀(w:Lx)(mg:Str->Option LB)(fa:Addr)(h:Heap),(K w.params).In h->h.Ns mainGlobals mg->mg d.name=some (.ref fa)->
   ∃fd:Mx,(∀(s:LF) (u:LB),RC s fd ⟨[u],[]⟩ [("_law_script",u)])/\∀base:Heap,(K w.params).In base->base.Ns mainGlobals mg->(∃bm o,mg "__builtins__"=some (.ref bm)/\bm≠Mc/\bm≠mainGlobals/\base.get? bm=some o/\o.cls=.type "module"/\o.dict=some Mc/\o.data=.plain)->FnOk l.prog w (K w.params) mg base CX0 11 fa fd ["_law_script"] (@spP (tw w) (K w.params) 1 xf)) :
  PySem.W.WalkO q loose XP YP l.row.toRowW d [] (fun f vs=>SA f vs):=
 L2.walk_ofT (n:=63) (k:=11) (x:="_law_script") (CX:=fun _=>CX0) (sp:=fun w=>@spP (tw w) (K w.params) 1 xf) hn (by decide) hdf ⟨rfl,by decide,by decide⟩ [PT] hY hT hC hL F
  (fun w _ a ns hl hT hS=>letI:TW:=tw w;⟨rfl,Hy (ts:=[PT]) rfl hT,_,_,tW hS,zC ns,fun v _ _ r=>r⟩) fun _ _ _ _ _ z=>z
end K42
def PySem.W.Fast.tw1527720636461685718:Nat:=0
def PySem.W.Fast.tw6323922667136222794:Nat:=0
def PySem.W.Fast.tw16830610750726330491:Nat:=0
def PySem.W.Fast.tw10730955349474682895:Nat:=0
def PySem.W.Fast.tw6024242172009242890:Nat:=0
def PySem.W.Fast.tw6840106205504031061:Nat:=0
def PySem.W.Fast.tw10556084375877423095:Nat:=0
def PySem.W.Fast.tw13390801676094634120:Nat:=0
def PySem.W.Fast.tw1891464777806301253:Nat:=0
def PySem.W.Fast.tw8834224626339298815:Nat:=0
def PySem.W.Fast.tw16094652618401165335:Nat:=0
def PySem.W.Fast.tw13619401377590629257:Nat:=0
def PySem.W.Fast.tw14970895037906366572:Nat:=0
def PySem.W.Fast.tw16133963734321573232:Nat:=0
def PySem.W.Fast.tw10202794788593429057:Nat:=0
def PySem.W.Fast.tw9424042422002386284:Nat:=0
def PySem.W.Fast.tw6312331224897723861:Nat:=0
def PySem.W.Fast.tw3594114434706800738:Nat:=0
def PySem.W.Fast.tw12053825440941300144:Nat:=0
def PySem.W.Fast.tw5893480668262451074:Nat:=0
def PySem.W.Fast.tw5893691141760629987:Nat:=0
def PySem.W.Fast.tw16417464365209647090:Nat:=0
def PySem.W.Fast.tw1210943893241508587:Nat:=0
def PySem.W.Fast.tw4551050813746480793:Nat:=0
def PySem.W.Fast.tw14547455368088443610:Nat:=0
def PySem.W.Fast.tw4041829978297376905:Nat:=0
def PySem.W.Fast.tw16874603033227316575:Nat:=0
def PySem.W.Fast.tw7329480322461665253:Nat:=0
def PySem.W.Fast.tw2591330187907426994:Nat:=0
def PySem.W.Fast.tw6942546501825759372:Nat:=0
def PySem.W.Fast.tw12246180233550250339:Nat:=0
def PySem.W.Fast.tw14537141796515557877:Nat:=0
def PySem.W.Fast.tw16549785024110656333:Nat:=0
def PySem.W.Fast.tw12925565580702508427:Nat:=0
def PySem.W.Fast.tw9769522434548451212:Nat:=0
def PySem.W.Fast.tw8218335112563048159:Nat:=0
def PySem.W.Fast.tw4339402600562799827:Nat:=0
def PySem.W.Fast.tw2062768647086833607:Nat:=0
def PySem.W.Fast.tw8974673134865698825:Nat:=0
def PySem.W.Fast.tw2099527929787337565:Nat:=0
def PySem.W.Fast.tw8812926678848349636:Nat:=0
def PySem.W.Fast.tw4204859995554565169:Nat:=0
def PySem.W.Fast.tw10024712628095126302:Nat:=0
def PySem.W.Fast.tw15778481459144548030:Nat:=0
def PySem.W.Fast.tw14831219089468971384:Nat:=0
def PySem.W.Fast.tw14793290961960843822:Nat:=0
def PySem.W.Fast.tw9722809789635832346:Nat:=0
def PySem.W.Fast.tw9943561930572690662:Nat:=0
def PySem.W.Fast.tw12207829028198012003:Nat:=0
def PySem.W.Fast.tw1288145877799163490:Nat:=0
def PySem.W.Fast.tw12609958702710749218:Nat:=0
def PySem.W.Fast.tw5085494808351415137:Nat:=0
def PySem.W.Fast.tw2271350451973178219:Nat:=0
def PySem.W.Fast.tw14875743156256140360:Nat:=0
def PySem.W.Fast.tw7034485952456906690:Nat:=0
def PySem.W.Fast.tw13320842959526453821:Nat:=0
def PySem.W.Fast.tw8266281835489255956:Nat:=0
def PySem.W.Fast.tw9924558961778839584:Nat:=0
def PySem.W.Fast.tw16079260231763327787:Nat:=0
def PySem.W.Fast.tw1712520261168016560:Nat:=0
def PySem.W.Fast.tw12581429137932468669:Nat:=0
def PySem.W.Fast.tw4491762175695903437:Nat:=0
def PySem.W.Fast.tw15540324551405913375:Nat:=0
def PySem.W.Fast.tw15756250508912193501:Nat:=0
def PySem.W.Fast.tw16685968351763950598:Nat:=0
def PySem.W.Fast.tw17004541471806129330:Nat:=0
def PySem.W.Fast.tw7968548991879848996:Nat:=0
def PySem.W.Fast.tw8897820847522184550:Nat:=0
def PySem.W.Fast.tw6960904634403605829:Nat:=0
def PySem.W.Fast.tw10431548462884317387:Nat:=0
def PySem.W.Fast.tw13864122331353233738:Nat:=0
def PySem.W.Fast.tw10232140796612278051:Nat:=0
def PySem.W.Fast.tw13194437771541153518:Nat:=0
def PySem.W.Fast.tw11993578364174592820:Nat:=0
def PySem.W.Fast.tw6158570872217029847:Nat:=0
def PySem.W.Fast.tw13733869182302315165:Nat:=0
def PySem.W.Fast.tw23275127200579147:Nat:=0
def PySem.W.Fast.tw9899663165102131123:Nat:=0
def PySem.W.Fast.tw12222974317170891682:Nat:=0
def PySem.W.Fast.tw17921048418508467492:Nat:=0
def PySem.W.Fast.tw9733074605611728490:Nat:=0
def PySem.W.Fast.tw6352621868114963445:Nat:=0
def PySem.W.Fast.tw5545722221011842672:Nat:=0
def PySem.W.Fast.tw18003579039573640038:Nat:=0
def PySem.W.Fast.tw6246785405820238902:Nat:=0
def PySem.W.Fast.tw11469586283037030749:Nat:=0
def PySem.W.Fast.tw6591675544350287222:Nat:=0
def PySem.W.Fast.tw8713939952103527623:Nat:=0
def PySem.W.Fast.tw3041230236497061011:Nat:=0
def PySem.W.Fast.tw15110620678773654333:Nat:=0
def PySem.W.Fast.tw661095024608170059:Nat:=0
def PySem.W.Fast.tw9641055696144590708:Nat:=0
open PySem PySem.W PyProof.Rows
set_option maxRecDepth 100000 in
set_option maxHeartbeats 0 in
theorem PySem.Challenge.cw_menutree_k42_whole_classes_holds : PySem.Challenge.rw_menutree_k42_whole_classes.Holds := by
 w_on;o_law;km_head;(case hw=>w_witness2)
 k_fill
 refine K42.walk (l:=PySem.Challenge.rw_menutree_k42_whole_classes) rfl rfl (fun w h Y=>PySem.W.km_in_of Y) (fun w h Y=>PySem.W.km_tabs_of Y) ?C ?L ?F
 case F=>
  intro w mg fa h KX G hmg;refine' K42.all_mk KX G hmg ?h0 ?h1 ?h2 ?h3 ?h4 ?h5 ?h6 ?h7 ?h8 ?h9 ?h10 ?h11 ?h12 ?h13 ?h14 ?h15 ?h16 ?h17 ?h18 ?h19 ?h20 ?a21 ?l21 ?c21 ?k21 ?h22 ?h23 ?h24 ?h25 ?h26 ?h27 ?h28 ?h29 ?h30 ?h31 ?h32 ?h33 ?h34 ?h35 ?a36 ?l36 ?c36 ?k36 ?hcode ?hhd ?z_bool ?z_dict ?z_enumerate ?z_int ?z_isinstance ?z_len ?z_list ?z_max ?z_range ?z_reversed ?z_tuple ?z_zip ?q_CODE_END ?q_HEARD ?q_SIGNS ?q_WAIT
  (case h0 | h1 | h2 | h3 | h4 | h5 | h6 | h7 | h8 | h9 | h10 | h11 | h12 | h13 | h14 | h15 | h16 | h17 | h18 | h19 | h20 | h22 | h23 | h24 | h25 | h26 | h27 | h28 | h29 | h30 | h31 | h32 | h33 | h34 | h35=>(refine' PU.Has.of ?n1 ?n2 ?n3 ?n4;(case n1=>k_is);(case n2=>k_is);(case n3=>k_is);(case n4=>k_is)))
  (case a21=>k_is)
  (case l21=>k_is)
  (case c21=>k_is)
  (case k21=>k_is)
  (case a36=>k_is)
  (case l36=>k_is)
  (case c36=>k_is)
  (case k36=>k_is)
  (case hcode=>exact rfl)
  (case hhd=>exact rfl)
  (case z_bool=>k_is)
  (case z_dict=>k_is)
  (case z_enumerate=>k_is)
  (case z_int=>k_is)
  (case z_isinstance=>k_is)
  (case z_len=>k_is)
  (case z_list=>k_is)
  (case z_max=>k_is)
  (case z_range=>k_is)
  (case z_reversed=>k_is)
  (case z_tuple=>k_is)
  (case z_zip=>k_is)
  (case q_CODE_END=>(refine' PU.con_str KX G ?n1;(case n1=>k_is)))
  (case q_HEARD=>(refine' PU.con_dct [(LS "menu",_,_),(LS "names",_,_),(LS "hand",_,_),(LS "end",_,_)] (xs:=[.str (LS "asked"),.str (LS "asked"),.str (LS "hand"),.str (LS "end")]) KX G ?n1 ?n2 ?n3 ?n4 ?n5 ?n6 ?n7 ?n8;(case n1=>k_is);(case n2=>k_is);(case n3=>exact rfl);(case n4=>decide);(case n5=>decide +kernel);(case n6=>show 4<=sizeLine;decide);(case n7=>exact .cons ⟨_,rfl⟩ (.cons ⟨_,rfl⟩ (.cons ⟨_,rfl⟩ (.cons ⟨_,rfl⟩ (.nil)))));(case n8=>intro H;exact⟨_,_,rfl,rfl,_,_,rfl,rfl,_,_,rfl,rfl,_,_,rfl,rfl,rfl⟩)))
  (case q_SIGNS=>(refine' PU.con_str KX G ?n1;(case n1=>k_is)))
  (case q_WAIT=>(refine' PU.con_str KX G ?n1;(case n1=>k_is)))
 case C=>
  intro w P hP;cases Li.mp hP;exact⟨162,rfl⟩
 case L=>
  intro w P hP;cases Li.mp hP;exact rfl
