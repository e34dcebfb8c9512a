import PyProof.Rows.All
import Wide.All
import OpenK.AllK
import Wide.FinOn
import Lean
import PyProof.EqAt
import PyProof.EqKinds
import PyProof.TupleCall
import PyProof.StrLawsIdx
import PyProof.StrBlockH
import PyProof.EnumStmt
import PyProof.ListNew
import PyProof.AutoListH
import PyProof.TupleIter
import PyProof.ZipIter
import PyProof.Rows.ZipGen
import KE.KDictOf
import PyProof.ListIndex
import PyProof.AttrMissHeap
import PyProof.NeKinds
import KE.KLam
import KE.KNestM
import KE.KDictLaws
import PyProof.StrLawsIn
import PySem.Challenge.RW_menutree_k38_whole_two_houses
set_option Elab.async false
set_option linter.all false
set_option maxRecDepth 100000
set_option maxHeartbeats 16000000
open Array renaming forIn_toList->Rb,getElem?_eq_getElem->Mb,getElem?_toList->Qm,length_toList->Lp,toList_append->RJ
open Bool renaming and_eq_true->Lm,and_false->Ox,and_true->PL,eq_iff_iff->Mv,false_and->QE,false_eq_true->LV,false_ne_true->KW,not_eq_true->NB,not_true->QX,or_eq_true->Q6,true_and->QW
open Classical renaming em->QC
open Eq renaming refl->LP
open False renaming elim->KJ
open ForInStep renaming yield->MW
open Function renaming comp->Mp,comp_def->OE
open Int renaming emod_lt_of_pos->Pc,emod_nonneg->QB,eq_ofNat_of_zero_le->Ql,zero_add->Pl
open LawfulBEq renaming eq_of_beq->NT
open List renaming Sublist->ME,all_cons->Mi,all_eq_true->Nq,all_map->Qk,any_cons->M4,any_eq_true->Px,any_map->NA,append_assoc->N1,append_nil->Ly,cons_append->N9,count_append->S5,count_eq_zero->PY,dropLast_concat_getLast->O6,drop_eq_getElem_cons->LH,drop_length->OZ,drop_of_length_le->MK,eq_nil_of_length_eq_zero->Lu,filterMap_cons->NC,filter_cons_of_neg->OY,filter_cons_of_pos->OX,find?_cons->MH,find?_cons_of_neg->Ng,find?_cons_of_pos->Qj,find?_eq_none->Rn,find?_some->Q5,flatMap_cons->ON,foldl_append->Rz,foldl_cons->Om,getD_cons_succ->O9,getD_cons_zero->O8,getD_eq_getElem?_getD->MU,getElem?_append_left->L5,getElem?_append_right->LJ,getElem?_cons_succ->LB,getElem?_cons_zero->Lg,getElem?_eq_getElem->LY,getElem?_eq_none->Os,getElem?_eq_some_iff->KN,getElem?_map->L3,getElem?_of_mem->O1,getElem?_range->O7,getElem?_replicate->Ll,getElem?_set->Nf,getElem?_set_ne->O0,getElem?_set_self->Of,getElem?_zipWith->Oq,getElem?_zip_eq_some->QO,getElem_inj->Pw,getElem_mem->N8,getElem_of_mem->Mn,getElem_toArray->Ow,getLast?_eq_none_iff->QN,head?->PQ,length->Lz,length_append->L0,length_cons->LK,length_drop->OW,length_eq_zero_iff->OV,length_map->KH,length_nil->Mg,length_replicate->Mx,length_set->Ol,length_singleton->Lv,length_take->Mo,lookup->RH,lookup_cons->Lc,map->Pf,map_append->L8,map_congr_left->Mm,map_cons->KG,map_drop->QV,map_fst_zip->Pv,map_map->L7,map_nil->Mh,map_singleton->Rm,map_snd_zip->Pu,map_take->QU,mem_append->LW,mem_append_left->N5,mem_append_right->Ld,mem_cons->L4,mem_cons_of_mem->LG,mem_cons_self->LO,mem_filter->M8,mem_filterMap->Rl,mem_flatMap->N7,mem_iff_getElem?->Np,mem_map->KU,mem_map_of_mem->Ra,mem_of_find?_eq_some->Md,mem_of_getElem?->LF,mem_of_getLast?->RE,mem_of_mem_drop->RC,mem_range->MS,mem_replicate->PN,mem_singleton->Ky,nil_append->O5,nodup_append->M6,nodup_cons->Le,not_mem_nil->MC,of_mem_zip->O4,pairwise_append->Nz,pairwise_iff_getElem->QM,pairwise_lt_range->Qi,pairwise_map->Ry,prefix_iff_eq_take->Na,prefix_of_prefix_length_le->Pk,prefix_refl->OU,range->KM,range'->RB,range'_succ->Pr,range_succ->Oj,range_succ_eq_map->MJ,replicate->La,size_toArray->LD,tail->Pq,take_of_length_le->Qh,take_prefix->N6,zipWith_cons_cons->MI
open List.IsPrefix renaming length_le->M9,trans->OS
open List.Pairwise renaming imp_of_mem->Pb
open List.Sublist renaming refl->O3,trans->Og
open List.cons renaming injEq->MV
open Nat renaming add_assoc->Ny,add_sub_cancel_left->Qg,le_add_right->Ob,le_of_eq->Qz,le_of_lt->Pj,le_refl->L9,le_succ->RZ,le_trans->Lk,lt_irrefl->Lx,lt_of_le_of_lt->NZ,lt_of_lt_of_le->KY,lt_of_succ_lt_succ->Qy,lt_or_ge->Lr,lt_succ_of_lt->OP,mul_le_mul->QL,ne_of_gt->Mt,ne_of_lt->LQ,not_lt->QK,not_lt_zero->Mw,zero_le->MQ
open Ne renaming symm->N3
open Option renaming bind_eq_some_iff->Kx,bind_some->Pe,getD_none->Rj,isSome_iff_exists->QD,isSome_map->OI,map_eq_some_iff->KQ,map_some->Oa
open Option.some renaming inj->Lh,injEq->NH
open Or renaming inl->PD,inr->Oo
open Prod renaming ext->Pd
open PyProof.Rows renaming AllBare->P7,IntsAre->Rx,callWith_type1->MF,envOfC->Nw,slot_tuple_getitem->NJ,subscriptTail_builtinR->Rw
open PySem renaming Around->LR,BindsTo->Qe,Builtin->Nv,Env->Pn,IsPart->QJ,IsTupleKey->Q0,Meets->Qv,NameKind->Ms,Paired->Qu,PassesOwn->Ri,Pos->Ma,Program->L6,Shared->KC,Value->KB,World->LI,assign->PZ,assignEach->Me,atKey->Qr,attributeBase->Pm,backTo->Nh,behindInMarks->OA,binaryOp->Mr,bindArgs->Q9,bindC->Rh,bindL->Rg,bootBuiltins->MY,builtinsNs->Lw,call->RU,callerA->Q8,cellOf->Qq,codeAmong->Nj,codeAny->Oe,codeAny_builtin->Mk,codeAny_mono->OJ,compareOp->LZ,concat_meets->Rr,eqIsQuiet->QH,eval->M7,foldedSetIterable->Nt,getItem->Qc,letOwnedTupleGo->PC,mem_of_lookup->Lb,model->LU,noFill_tuple_add->QG,plainId_quiet->Nb,post_val_or_str->PB,qualnameIn->Oz,rawInt->NU,richCompare->OC,richCompare_meets_room->MX,seq_tuple_add->RL,sizeLine_eq->Li,sliceBounds->OB,starEach->LA,storeName->Rf,stored->Qp,strIterType->ND,swapsWith->NQ,sysModules->Lo,valueAt->MG,wpAny->LC,wpAny_Assign_Subscript->Rq,wpAny_Call_Name_kw->My,wpAny_Call_method_late->Rp,wpAny_bind->KF,wpAny_call->Qo,wpAny_callSpecial?_slot->Re,wpAny_call_entry->Ot,wpAny_comprehension_free->Oi,wpAny_dictEntries->Od,wpAny_execs_nil->P9,wpAny_forIn_list->NO,wpAny_getItem_str_slice->Ni,wpAny_holding->N4,wpAny_isInstance->QF,wpAny_loadPart'->Kz,wpAny_mono->MO,wpAny_newObj_type->Nr,wpAny_passesOwn->N2,wpAny_pure->KO,wpAny_pyIter_enum->Oc,wpAny_pyNext_tuple_end->Ro,wpAny_pyNext_tuple_item->Rc,wpAny_rule->Qn,wpAny_specialOf->P8,wpAny_standAt->RK,wpAny_truthy_bool->Ml,wpAny_typeOf->Oy,wpAny_updateSeq->QY
open PySem.Around renaming frames_deeper->Qf,under_plainId->Mc
open PySem.AutoSeq1 renaming sub_list_list->OO,sub_tuple_tuple->OF
open PySem.Builtin.Dict renaming dictSlotArgs->Pa,samePairs->Pp,updateFrom->Pi
open PySem.Builtin.List renaming listExtendWith->Nk,listItems->Po
open PySem.Builtin.Slice renaming sliceAdjust->Nu,sliceApplied->PK,slicePlaces->Mu
open PySem.Builtin.Str renaming occurrences->MA,strSliceIndices->Nn
open PySem.Builtin.Tuple renaming tupleCompareSizes->NG,tupleExact->N0,tupleHashOf->M0,tupleItemsOf->PJ
open PySem.Calls renaming Name_function_global->QA,callWith_builtin->Qb,evalArgs_plain->Qx
open PySem.Challenge renaming pw_menutree_k38_whole_two_houses->Lf
open PySem.Data renaming cell->P6,fields->Q1
open PySem.F renaming args_tuple_add_2->OH,entry_tuple_add->OM,slot_dict_eq->Qa,slot_dict_get->QT,slot_dict_getitem->Q4,slot_list_append->Qw,slot_list_setitem->Q3,slot_tuple_add->OR,slot_tuple_getattribute->OQ,slot_tuple_hash->OT
open PySem.Heap renaming ExtBut->RA,SameBut->Nd,get?_none_of_le->R9,get?_push_of_some->KL,get?_push_size->LM,get?_update_other->Nc,get?_update_self->On,lt_size->KZ
open PySem.Heap.DictOf renaming new->Qd
open PySem.IsTupleKey renaming inj->R8
open PySem.NameKind renaming cell->Ov,free->Lj
open PySem.Obj renaming mapSeq->MD
open PySem.P renaming add_list->RX
open PySem.Paired renaming length->Ln
open PySem.PassesOwn renaming never->R7
open PySem.SeqAt renaming EqAt->NR
open PySem.SeqAt.EqAt renaming int_str->QS,of_refs->QR,same->PM,str_int->QP
open PySem.SeqAt.RcAt renaming tuples->QZ
open PySem.Str renaming join->P5,ofString->KI
open PySem.Txt renaming slice->M3,slice_le->O2
open PySem.Value renaming bool->Nm,int->Rv,none->OD,notImplemented->Mf,ref->M5,str->Ru,type->Nl
open PySem.W renaming CodeHd->Pz,Frag->KA,OpenLaw->Pg,callWith_F->Qt,callWith_K->Qs,cellsFrom_some->QI,codeHdIn->OL,codeHd_of_K->Ou,codeIn->Mz,envX->NY,findIn->Rt,fnMade->Py,fnOf->M1,keepIn->MP,kia_one->MZ,kitx_dict->R6,methodObj->PH,mg_none_of->Ls,mg_of->OG,nsIn->Lq,tabObj->Mj
open PySem.WalksT renaming enumerateD->RV
open Sum renaming inl->Oh,inr->ML
open Sum.inr renaming inj->NI,injEq->Q7
open True renaming intro->Mq
section
namespace L2
open PySem PySem.Spec PyProof.Rows
abbrev Key:=Sum Int Str
def qx:Key->KB->Bool
 | .inl k,v=>Value.isInt k v
 | .inr x,v=>Value.isStrOf x v
def JS(w:LI):Key->Int
 | .inl k=>hashInt k
 | .inr x=>hashStr w x
theorem bj:∀{k:Key}{v:KB},qx k v=true->(∃i t,k=Oh i/\v=Rv i t)\/(∃x t,k=ML x/\v=Ru x t)
 | .inl i,v,h=>by
  obtain⟨t,e⟩:=Value.isInt_shape (k:=i) (v:=v) h;exact .inl ⟨i,t,rfl,e⟩
 | .inr x,v,h=>by
  obtain⟨t,e⟩:=Value.isStrOf_shape (x:=x) (v:=v) h;exact .inr ⟨x,t,rfl,e⟩
theorem vM(i:Int)(t:Tok):qx (.inl i) (.int i t)=true:=by simp[qx,Value.isInt]
theorem vL(x:Str)(t:Tok):qx (.inr x) (.str x t)=true:=by simp[qx,Value.isStrOf]
theorem EJ(a b:Int):decide ((Oh a:Key)=Oh b)=(a == b):=by
 by_cases e:a=b
 ·subst e;simp
 ·have h:¬ (Oh a:Key)=Oh b:=fun q=>e (Sum.inl.inj q)
  rw[decide_eq_false h];exact(beq_eq_false_iff_ne.mpr e).symm
theorem EF(a b:Str):decide ((ML a:Key)=ML b)=decide (a=b):=by
 by_cases e:a=b
 ·subst e;simp
 ·have h:¬ (ML a:Key)=ML b:=fun q=>e (NI q)
  rw[decide_eq_false h,decide_eq_false e]
theorem EH(a:Int)(b:Str):decide ((Oh a:Key)=ML b)=false:=decide_eq_false (fun q=>nomatch q)
theorem EG(a:Str)(b:Int):decide ((ML a:Key)=Oh b)=false:=decide_eq_false (fun q=>nomatch q)
def aB(prog:L6)(w:LI):PySem.KeyKind prog w Key where
 is:=qx
 hash:=JS w
 inj:=fun v a b ha hb=>by
  rcases bj ha with⟨i,t,rfl,rfl⟩|⟨x,t,rfl,rfl⟩
  ·rcases bj hb with⟨j,u,rfl,e⟩|⟨y,u,rfl,e⟩
   ·injection e with e1 _;rw[e1]
   ·exact nomatch e
  ·rcases bj hb with⟨j,u,rfl,e⟩|⟨y,u,rfl,e⟩
   ·exact nomatch e
   ·injection e with e1 _;rw[e1]
 byValue:=fun k v h=>by
  rcases bj h with⟨i,t,rfl,rfl⟩|⟨x,t,rfl,rfl⟩ <;> rfl
 pyHash:=fun hv h=>by
  rcases bj hv with⟨i,t,rfl,rfl⟩|⟨x,t,rfl,rfl⟩
  ·exact wpAny_pyHash_int h
  ·exact wpAny_pyHash_str h
 eqBool:=fun hu hv h=>by
  rcases bj hu with⟨i,t,rfl,rfl⟩|⟨x,t,rfl,rfl⟩
  ·rcases bj hv with⟨j,u,rfl,rfl⟩|⟨y,u,rfl,rfl⟩
   ·rw[EJ] at h;exact wpAny_eqBool_int h
   ·rw[EH] at h;exact QS i t y u _ _ _ _ h
  ·rcases bj hv with⟨j,u,rfl,rfl⟩|⟨y,u,rfl,rfl⟩
   ·rw[EG] at h;exact QP x t j u _ _ _ _ h
   ·rw[EF] at h;exact wpAny_eqBool_str h
 «strs»:=fun k x t v h=>by
  rcases bj h with⟨i,u,rfl,e⟩|⟨y,u,rfl,e⟩
  ·exact nomatch e
  ·injection e with e1 _
   subst e1;cases v <;> rfl
theorem qo(prog:L6)(w:LI)(i:Int)(t:Tok):(aB prog w).is (.inl i) (.int i t)=true:=vM i t
theorem g8(prog:L6)(w:LI)(x:Str)(t:Tok):(aB prog w).is (.inr x) (.str x t)=true:=vL x t
abbrev cV:=List (Key ⊕ List Key)
section
variable{prog : L6}{w : LI}{K : Type}[DecidableEq K](knd : KeyKind prog w K)
inductive NItems (h:Heap):List (K ⊕ List K)->List KB->Prop
 | nil:NItems h [] []
 | sc {k:K} {v:KB} {ks:List (K ⊕ List K)} {vs:List KB}:knd.is k v=true->NItems h ks vs->NItems h (.inl k::ks) (v::vs)
 | tp {k:List K} {b:Addr} {ks:List (K ⊕ List K)} {vs:List KB}:Q0 knd h k b->NItems h ks vs->NItems h (.inr k::ks) (.ref b::vs)
def bJ (h:Heap) (ks:List (K ⊕ List K)) (a:Addr):Prop:=∃o items n,h.get? a=some o/\o.cls=.type "tuple"/\o.data=.seq items n/\NItems knd h ks items.toList
variable{knd}
theorem rK{h:Heap}{k:K}{b:Addr}(h1:knd.is k (.ref b)=true):False:=by
 have:=knd.byValue _ _ h1;simp[carriedByValue] at this
theorem NItems.inj{h:Heap}{x y:List (K ⊕ List K)}{vs:List KB}(hx:NItems knd h x vs)(hy:NItems knd h y vs):x=y:=by
 induction hx generalizing y with
 | nil=>cases hy;rfl
 | sc h1 _ ih=>
  cases hy with
  | sc h2 t2=>rw[knd.inj _ _ _ h1 h2,ih t2]
  | tp h2 t2=>exact(rK (h:=h) h1).elim
 | tp h1 _ ih=>
  cases hy with
  | sc h2 t2=>exact(rK (h:=h) h2).elim
  | tp h2 t2=>rw[R8 h1 h2,ih t2]
theorem bJ.typeIs {s:KC} {ks:List (K ⊕ List K)} {a:Addr} (x:bJ knd s.heap ks a):s.TypeIs (.ref a) "tuple":=let ⟨o,_,_,ho,hc,_⟩:=x;⟨o,ho,hc⟩
theorem bJ.inj{h:Heap}{a:Addr}{x y:List (K ⊕ List K)}(hx:bJ knd h x a)(hy:bJ knd h y a):x=y:=by
 obtain⟨o,items,n,ho,_,hd,hi⟩:=hx;obtain⟨o',items',n',ho',_,hd',hi'⟩:=hy;obtain rfl:o=o':=Lh (ho.symm.trans ho');rw[hd] at hd';injection hd' with h1 _;subst h1;exact hi.inj hi'
theorem NItems.keeps{h h':Heap}{ks:List (K ⊕ List K)}{vs:List KB}{d:Addr}{o:Obj}{es ep}(x:NItems knd h ks vs)(ho:h.get? d=some o)(hd:o.data=.dict es ep)(hs:Nd d h h'):NItems knd h' ks vs:=by
 induction x with
 | nil=>exact .nil
 | sc h1 _ ih=>exact .sc h1 ih
 | tp h1 _ ih=>exact .tp (h1.keeps ho hd hs) ih
theorem bJ.keeps{h h':Heap}{ks:List (K ⊕ List K)}{a d:Addr}{o:Obj}{es ep}(x:bJ knd h ks a)(ho:h.get? d=some o)(hd:o.data=.dict es ep)(hs:Nd d h h'):bJ knd h' ks a:=by
 obtain⟨o',items,n,ho',hc,hd',hi⟩:=x
 have hne:a≠d:=by
  rintro rfl;obtain rfl:o'=o:=Lh (ho'.symm.trans ho);rw[hd] at hd';exact nomatch hd'
 exact⟨o',items,n,(hs.2 a hne).trans ho',hc,hd',hi.keeps ho hd hs⟩
def mL(knd:KeyKind prog w K):K ⊕ List K->Int
 | .inl k=>knd.hash k
 | .inr ks=>tupleKeyHash knd ks
def qk:K ⊕ List K->Nat
 | .inl _=>1
 | .inr ks=>ks.length+1
def oe(knd:KeyKind prog w K)(ks:List (K ⊕ List K)):Int:=reduceHash (M0 (ks.map (mL knd)))
variable{A : LR}{E : KB → KC → Prop}{s : KC}
theorem qf{ks:List (K ⊕ List K)}{a:Addr}{Q:Int->KC->Prop}(hu:A.units+8<cLine)(hk:bJ knd s.heap ks a)(h:Q (oe knd ks) { s with toks:=s.toks+((ks.map qk).sum+1) }) :
  LC (LU prog w) A (pyHash (.ref a)) Q E s:=by
 have hT:=hk.typeIs;obtain⟨o,items,n,ho,_,hd,hi⟩:=hk;unfold pyHash
 first | unfold pyHashByItsType | skip
 first | refine KF (wpAny_cRoomFor_or (.inr (show A.units<cLine by omega)) ?_) | skip
 refine KF (P8 hT OT.lookup ?_);show LC _ _ (if (some (Value.builtin "tuple.__hash__") == some OD)=true then _ else _) Q E s;rw[if_neg (by rw[beq_builtin_none];exact KW)];refine KF (P8 hT OT.lookup ?_);show LC _ _ (callSpecialIfBoundUnlessNone? (.ref a) "__hash__" _ >>= _) Q E s;refine KF (wpAny_callSpecialIfBoundUnlessNone?_slot hT OT (Ot OT hT F.entry_tuple_hash ?_ (F.args_tuple_hash_1 _)));show LC _ _ (PJ (.ref a) >>= _) _ _ s;refine KF (wpAny_tupleItemsOf ho hd ?_);refine KF ?_;rw[← Rb]
 refine NO _
  (fun rest (b:Array Int) s'=>∃done left,ks=done++left/\NItems knd s.heap left rest/\b.toList=done.map (mL knd)/\s'={ s with toks:=s.toks+(done.map qk).sum })
  _ ?_ ?_ _ _ ⟨[],ks,rfl,hi,rfl,rfl⟩
 ·rintro x rest b s' ⟨done,left,rfl,hl,hb,rfl⟩
  cases hl with
  | @sc k _ ks' _ h1 hl'=>
   refine KF (knd.pyHash h1 ?_)
   first
    | exact KO ⟨done++[.inl k],ks',by simp,hl',by simp[hb,mL],by simp[Ny,qk]⟩
    | exact KF (KO (KO ⟨done++[.inl k],ks',by simp,hl',by simp[hb,mL],by simp[Ny,qk]⟩))
  | @tp k b' ks' _ h1 hl'=>
   refine KF (wpAny_pyHash_tuple (knd:=knd) (ks:=k) (show A.units+1<cLine by omega) h1 ?_)
   first
    | exact KO ⟨done++[.inr k],ks',by simp,hl',by simp[hb,mL],by simp[Ny,qk]⟩
    | exact KF (KO (KO ⟨done++[.inr k],ks',by simp,hl',by simp[hb,mL],by simp[Ny,qk]⟩))
 ·rintro b s' ⟨done,left,rfl,hl,hb,rfl⟩
  cases hl;rw[Ly] at h;show LC _ _ (retInt (M0 b.toList)) _ _ _;rw[hb];refine wpAny_ret_mkInt ?_;show LC _ _ (if (decide (-(2:Int) ^ 63<=M0 (done.map (mL knd))) && decide (M0 (done.map (mL knd))<2 ^ 63))=true then _ else _) Q E _;unfold oe reduceHash at h
  by_cases hr:(decide (-(2:Int) ^ 63<=M0 (done.map (mL knd))) && decide (M0 (done.map (mL knd))<2 ^ 63))=true
  ·rw[if_pos hr]
   rw[if_pos hr] at h;exact KO (by simpa [Ny] using h)
  ·rw[if_neg hr]
   rw[if_neg hr] at h;exact KF (Qn (KO (by simpa [Ny] using h)))
end
theorem qH{α:Type}[DecidableEq α]:∀k j:List α,((KM (min k.length j.length)).all (fun i=>decide (k[i]?=j[i]?)) && k.length == j.length)=decide (k=j)
 | [],[]=>by simp
 | [],_::_=>by simp
 | _::_,[]=>by simp
 | x::k,y::j=>by
  have ih:=qH k j;have hm:min (x::k).length (y::j).length=min k.length j.length+1:=by simp only[LK];omega
  rw[hm,MJ,Mi,Qk];have hs:((fun i=>decide ((x::k)[i]?=(y::j)[i]?)) ∘ Nat.succ)=fun i=>decide (k[i]?=j[i]?):=by funext i;simp
  rw[hs,LK,LK];have h0:decide ((x::k)[0]?=(y::j)[0]?)=decide (x=y):=by simp
  rw[h0];have e2:(k.length+1 == j.length+1)=(k.length == j.length):=by simp
  rw[e2,Bool.and_assoc,ih,Mv];simp
theorem Ao{P P':L6}{w w':LI}{A:LR}{s:KC}{k j:Key}{v u:KB}(h1:(aB P w).is k v=true)(h2:(aB P' w').is j u=true):NR A s v u (decide (k=j)):=fun prog ww E Q q=>(aB prog ww).eqBool (a:=k) (b:=j) h1 h2 q
theorem nF{P:L6}{w:LI}{A:LR}{s:KC}:∀{k j:List Key}{vs us:List KB},ItemsAre (aB P w) k vs->ItemsAre (aB P w) j us->∀(i:Nat)(h1:i<vs.length)(h2:i<us.length),NR A s vs[i] us[i] (decide (k[i]?=j[i]?))
 | _,_,_,_,.nil,_,i,h1,_=>absurd h1 (Mw _)
 | _,_,_,_,.cons _ _,.nil,i,_,h2=>absurd h2 (Mw _)
 | _,_,_,_,.cons (k:=k) a1 t1,.cons (k:=j) a2 t2,0,_,_=>by
  rw[Lg,Lg,show decide (some k=some j)=decide (k=j) by simp];exact Ao a1 a2
 | _,_,_,_,.cons a1 t1,.cons a2 t2,i+1,h1,h2=>by
  rw[LB,LB];exact nF t1 t2 i (by simpa using h1) (by simpa using h2)
theorem Cf{P:L6}{w:LI}{A:LR}{s:KC}{k j:List Key}{a b:Addr}(hu:A.units+1<cLine)(h1:Q0 (aB P w) s.heap k a)(h2:Q0 (aB P w) s.heap j b):NR A s (.ref a) (.ref b) (decide (k=j)):=by
 by_cases e:a=b
 ·subst e
  rw[R8 h1 h2,decide_eq_true rfl];exact PM _
 ·obtain⟨o1,i1,n1,g1,c1,d1,m1⟩:=h1
  obtain⟨o2,i2,n2,g2,c2,d2,m2⟩:=h2;have l1:=m1.length;have l2:=m2.length;have z:=qH k j;rw[l1,l2,Lp,Lp] at z;rw[← z];refine QR (fun q=>e q) (QZ ⟨o1,g1,c1,n1,d1⟩ ⟨o2,g2,c2,n2,d2⟩ (by omega) fun i h1 h2=>?_);have:=nF (A:=A.in1) (s:=s) m1 m2 i (by simpa using h1) (by simpa using h2);simpa using this
theorem Ae{P:L6}{w:LI}{A:LR}{s:KC}{k:Key}{j:List Key}{v:KB}{b:Addr}(hu:A.units<cLine)(h1:(aB P w).is k v=true)(h2:Q0 (aB P w) s.heap j b):NR A s v (.ref b) false/\NR A s (.ref b) v false:=by
 obtain⟨o2,i2,n2,g2,c2,d2,m2⟩:=h2;have pl:s.heap.IsTuple b i2:=⟨o2,g2,c2,n2,d2⟩;rcases bj h1 with⟨i,t,rfl,rfl⟩|⟨x,t,rfl,rfl⟩
 ·exact⟨SeqAt.EqAt.int_tuple i t pl hu,SeqAt.EqAt.tuple_int i t pl hu⟩
 ·exact⟨SeqAt.EqAt.str_tuple x t pl hu,SeqAt.EqAt.tuple_str x t pl hu⟩
theorem tB{P:L6}{w:LI}{A:LR}{s:KC}(hu:A.units+1<cLine):∀{k j:List (Key ⊕ List Key)}{vs us:List KB},NItems (aB P w) s.heap k vs->NItems (aB P w) s.heap j us->∀(i:Nat)(h1:i<vs.length)(h2:i<us.length),NR A s vs[i] us[i] (decide (k[i]?=j[i]?)):=by
 intro k j vs us h1
 induction h1 generalizing j us with
 | nil=>intro _ i h;exact absurd h (Mw _)
 | @sc k v ks vs a1 t1 ih=>
  intro h2 i l1 l2;cases h2 with
  | nil=>exact absurd l2 (Mw _)
  | @sc j u js us a2 t2=>
   cases i with
   | zero=>
    rw[Lg,Lg,show decide (some (Oh k:Key ⊕ List Key)=some (.inl j))=decide (k=j) by simp];exact Ao a1 a2
   | succ i=>rw[LB,LB];exact ih t2 i (by simpa using l1) (by simpa using l2)
  | @tp j b js us a2 t2=>
   cases i with
   | zero=>
    rw[Lg,Lg,show decide (some (Oh k:Key ⊕ List Key)=some (.inr j))=false by simp];exact(Ae (by omega) a1 a2).1
   | succ i=>rw[LB,LB];exact ih t2 i (by simpa using l1) (by simpa using l2)
 | @tp k b ks vs a1 t1 ih=>
  intro h2 i l1 l2;cases h2 with
  | nil=>exact absurd l2 (Mw _)
  | @sc j u js us a2 t2=>
   cases i with
   | zero=>
    rw[Lg,Lg,show decide (some (ML k:Key ⊕ List Key)=some (.inl j))=false by simp];exact(Ae (by omega) a2 a1).2
   | succ i=>rw[LB,LB];exact ih t2 i (by simpa using l1) (by simpa using l2)
  | @tp j c js us a2 t2=>
   cases i with
   | zero=>
    rw[Lg,Lg,show decide (some (ML k:Key ⊕ List Key)=some (.inr j))=decide (k=j) by simp];exact Cf hu a1 a2
   | succ i=>rw[LB,LB];exact ih t2 i (by simpa using l1) (by simpa using l2)
theorem NItems.length{P:L6}{w:LI}{h:Heap}{k:List (Key ⊕ List Key)}{vs:List KB}(x:NItems (aB P w) h k vs):k.length=vs.length:=by
 induction x with
 | nil=>rfl
 | sc _ _ ih=>simp[ih]
 | tp _ _ ih=>simp[ih]
theorem BQ{P:L6}{w:LI}{A:LR}{s:KC}{k j:List (Key ⊕ List Key)}{a b:Addr}(hu:A.units+8<cLine)(h1:bJ (aB P w) s.heap k a)(h2:bJ (aB P w) s.heap j b):NR A s (.ref a) (.ref b) (decide (k=j)):=by
 by_cases e:a=b
 ·subst e
  rw[bJ.inj h1 h2,decide_eq_true rfl];exact PM _
 ·obtain⟨o1,i1,n1,g1,c1,d1,m1⟩:=h1
  obtain⟨o2,i2,n2,g2,c2,d2,m2⟩:=h2;have l1:=m1.length;have l2:=m2.length;have z:=qH k j;rw[l1,l2,Lp,Lp] at z;rw[← z];refine QR (fun q=>e q) (QZ ⟨o1,g1,c1,n1,d1⟩ ⟨o2,g2,c2,n2,d2⟩ (by omega) fun i h1 h2=>?_);have:=tB (A:=A.in1) (s:=s) (show A.units+1+1<cLine by omega) m1 m2 i (by simpa using h1) (by simpa using h2);simpa using this
section
variable{prog : L6}{w : LI}{A : LR}{E : KB → KC → Prop}{s : KC}
theorem oW{n:Nat}{a:Addr}{items:Array KB}{Q:Bool->KC->Prop}(ht:s.heap.IsTuple a items)(hq:∀v∈items.toList,∀(Q':Bool->KC->Prop),Q' true s->LC (LU prog w) A (QH n v) Q' E s)(h:Q true s):LC (LU prog w) A (QH (n+1) (.ref a)) Q E s:=by
 have hT:=ht.typeIs;obtain⟨o,ho,hc,m,hd⟩:=ht;unfold QH;refine KF (P8 hT F.slot_tuple_eq.lookup ?_);show LC _ _ (isInstance (.ref a) (.type "tuple") >>= _) _ _ s;refine KF (QF hT isSubtype_tuple_tuple ?_);simp only[QX,LV,if_false];refine KF (wpAny_seqItems ho hd ?_);refine KF ?_;show LC _ _ (forIn items _ _) _ _ s;rw[← Rb];refine NO _ (fun rest r s'=>r.1=none/\s'=s/\∀v∈rest,v∈items.toList) _ ?_ ?_ _ _ ⟨rfl,rfl,fun v h=>h⟩
 ·rintro v rest r s' ⟨hr,rfl,hall⟩
  refine KF (hq v (hall v LO) _ ?_);simp only[QX,LV,if_false];exact KO ⟨rfl,rfl,fun u hu'=>hall u (LG _ hu')⟩
 ·rintro⟨r1,r2⟩ s' ⟨hr,rfl,_⟩
  simp only at hr;subst hr;exact KO h
theorem NItems.quiet{n:Nat}{k:List (Key ⊕ List Key)}{vs:List KB}(x:NItems (aB prog w) s.heap k vs):∀v∈vs,∀(Q':Bool->KC->Prop),Q' true s->LC (LU prog w) A (QH (n+1) v) Q' E s:=by
 induction x with
 | nil=>intro v h;cases h
 | sc h1 _ ih=>
  intro v hv Q' hQ;rcases L4.mp hv with rfl | hv
  ·rw[eqIsQuiet_byValue _ ((aB prog w).byValue _ _ h1)]
   exact KO hQ
  ·exact ih v hv Q' hQ
 | tp h1 _ ih=>
  intro v hv Q' hQ;rcases L4.mp hv with rfl | hv
  ·obtain⟨o,items,m,ho,hc,hd,hi⟩:=h1
   refine oW ⟨o,ho,hc,m,hd⟩ (fun u hu Q2 h2=>?_) hQ;rw[eqIsQuiet_byValue _ (hi.byValue u hu)];exact KO h2
  ·exact ih v hv Q' hQ
theorem t8{k:List (Key ⊕ List Key)}{a:Addr}{Q:Bool->KC->Prop}(hk:bJ (aB prog w) s.heap k a)(h:Q true s):LC (LU prog w) A (QH 8 (.ref a)) Q E s:=by
 obtain⟨o,items,m,ho,hc,hd,hi⟩:=hk;exact oW ⟨o,ho,hc,m,hd⟩ hi.quiet h
end
def i7(prog:L6)(w:LI):HeapKind prog w (List (Key ⊕ List Key)) where
 is:=bJ (aB prog w)
 hash:=oe (aB prog w)
 draws:=fun ks=>(ks.map qk).sum+1
 room:=fun A=>A.units+8<cLine
 inj:=fun hx hy=>hx.inj hy
 keeps:=fun x ho hd hs=>x.keeps ho hd hs
 pyHash:=fun hu hk h=>qf hu hk h
 eqBool:=fun hu hx hy h=>BQ hu hx hy _ _ _ _ h
 quiet:=fun hk h=>t8 hk h
end L2
namespace L2
open PySem PySem.Spec PyProof.Rows
inductive V where
 | non | bl (b:Bool) | int (i:Int) | str (x:Str) | byt (b:Array UInt8) | flt (b:UInt64) | ref (a:Addr) | ty (n:String)
 deriving DecidableEq
def RelV:V->KB->Prop
 | .non,u=>u=OD
 | .bl b,u=>u=Nm b
 | .int i,u=>∃t,u=Rv i t
 | .str x,u=>∃t,u=Ru x t
 | .byt b,u=>∃t,u=Value.bytes b t
 | .flt b,u=>∃t,u=Value.float b t
 | .ref a,u=>u=M5 a
 | .ty n,u=>u=Nl n
abbrev Vals:List V->List KB->Prop:=Qu RelV
theorem Vals.length{xs:List V}{us:List KB}(r:Vals xs us):xs.length=us.length:=Ln r
theorem Vals.get:∀{xs:List V}{us:List KB}{i:Nat}{x:V},Vals xs us->xs[i]?=some x->∃u,us[i]?=some u/\RelV x u
 | _,_,_,_,.nil,e=>by simp at e
 | _,_,0,_,.cons r _,e=>by simp at e;subst e;exact⟨_,rfl,r⟩
 | _,_,i+1,x,.cons _ t,e=>by
  obtain⟨u,h1,h2⟩:=Vals.get (i:=i) (x:=x) t (by simpa using e);exact⟨u,by simpa using h1,h2⟩
theorem Vals.append:∀{xs ys:List V}{us ws:List KB},Vals xs us->Vals ys ws->Vals (xs++ys) (us++ws)
 | _,_,_,_,.nil,s=>s
 | _,_,_,_,.cons r t,s=>.cons r (Vals.append t s)
theorem Vals.take:∀{xs:List V}{us:List KB}(n:Nat),Vals xs us->Vals (xs.take n) (us.take n)
 | _,_,0,_=>.nil
 | _,_,_+1,.nil=>.nil
 | _,_,n+1,.cons r t=>.cons r (Vals.take n t)
theorem Vals.drop:∀{xs:List V}{us:List KB}(n:Nat),Vals xs us->Vals (xs.drop n) (us.drop n)
 | _,_,0,r=>r
 | _,_,_+1,.nil=>.nil
 | _,_,n+1,.cons _ t=>Vals.drop n t
def qO:Option V->Option KB->Prop
 | some v,some u=>RelV v u
 | none,none=>True
 | _,_=>False
def KV{κ:Type}:List (κ×V)->List (κ×KB)->Prop:=Qu fun (p:κ×V) (q:κ×KB)=>p.1=q.1/\RelV p.2 q.2
def kV:Key->V
 | .inl i=>.int i
 | .inr x=>.str x
inductive HO where
  | lst (xs:List V)
  | tup (xs:List V)
  | dK (kvs:List (Key×V)) | dT (kvs:List (cV×V))
  | set (S:Int->Bool) (n:Nat)
  | ins (C dx:Addr) (fs:List (Str×V))
  | own (x:Addr)
  | xd (fs:List (Str×V))
  | met (f x:Addr)
  | rng (lo hi:Int)
  | frz (o:Obj) (u:HO)
  | tbl (ps:Array KB)
  | ext (φ:Heap->Prop)
abbrev Hp:=Addr->Option HO
def upd(H:Hp)(a:Addr)(o:HO):Hp:=fun b=>if b=a then some o else H b
theorem aF{H:Hp}{a:Addr}{o:HO}:upd H a o a=some o:=by unfold upd;rw[if_pos rfl]
theorem aL{H:Hp}{a b:Addr}{o:HO}(h:b≠a):upd H a o b=H b:=by unfold upd;rw[if_neg h]
theorem Es{H:Hp}{a b:Addr}{o u:HO}(h:H a=some o)(h':H b=some u)(d:o≠u):a≠b:=by
 intro e;subst e;rw[h] at h';exact d (Lh h')
theorem bB{H:Hp}{a b:Addr}{o:HO}(h:H a=some o)(h':H b=none):a≠b:=by
 intro e;subst e;rw[h] at h';cases h'
def zx (h:Heap) (a:Addr) (items:Array KB):Prop:=∃o,h.get? a=some o/\o.cls=.type "tuple"/\(∃n,o.data=.seq items n)/\((∀v∈items.toList,∃b,v=M5 b)->o.dict=none)
theorem zx.up{h:Heap}{a:Addr}{items:Array KB}(x:zx h a items):IsTup h a items:=by
 obtain⟨o,e,c,d,_⟩:=x;exact⟨o,e,c,d⟩
theorem zx.new (h:Heap) (items:Array KB):zx (h.push { cls:=.type "tuple",data:=.seq items }) h.objs.size items:=⟨_,LM _ rfl,rfl,⟨_,rfl⟩,fun _=>rfl⟩
def NV(H:Hp):cV->List V->Prop
 | [],vs=>vs=[]
 | .inl k::ks,vs=>∃r,vs=kV k::r/\NV H ks r
 | .inr l::ks,vs=>∃c r,vs=.ref c::r/\H c=some (.tup (l.map kV))/\NV H ks r
def fO(H:Hp)(b:Addr)(k:cV):Prop:=∃vs,H b=some (.tup vs)/\NV H k vs
theorem NV.keeps{H H':Hp}(ht:∀b ys,H b=some (.tup ys)->H' b=some (.tup ys)):∀{k:cV}{vs:List V},NV H k vs->NV H' k vs
 | [],_,h=>h
 | .inl _::_,_,⟨r,e,t⟩=>⟨r,e,NV.keeps ht t⟩
 | .inr _::_,_,⟨c,r,e,hc,t⟩=>⟨c,r,e,ht _ _ hc,NV.keeps ht t⟩
theorem fO.keeps{H H':Hp}{b:Addr}{k:cV}(x:fO H b k)(ht:∀b ys,H b=some (.tup ys)->H' b=some (.tup ys)):fO H' b k:=let ⟨vs,e,t⟩:=x;⟨vs,ht _ _ e,t.keeps ht⟩
section
variable(P : L6)(w : LI)
def dW(H:Hp)(h:Heap)(a:Addr):HO->Prop
 | .lst xs=>xs.length<=sizeLine/\∃(its:List KB) (n:Nat),Vals xs its/\h.get? a=some { cls:=.type "list",data:=.seq its.toArray n }
 | .tup xs=>xs.length<=sizeLine/\∃its:List KB,Vals xs its/\zx h a its.toArray
 | .dK kvs=>kvs.length<=sizeLine/\(a == Lo)=false/\∃vs,KV kvs vs/\h.DictOf (aB P w) a vs
 | .dT kvs=>kvs.length<=sizeLine/\(a == Lo)=false/\∃xs:List (cV×Addr×KB),
   Qu (fun (p:cV×V) (q:cV×Addr×KB)=>p.1=q.1/\fO H q.2.1 p.1/\RelV p.2 q.2.2) kvs xs/\
   ∃o es ep,h.get? a=some o/\o.ExactDict/\o.data=.dict es ep/\es.toList=xs.map (entryOfKey (i7 P w))/\(xs.map (·.1)).Nodup
 | .set S n=>h.SetOf (intKind P w) a S n
 | .ins C dx fs=>H dx=some (.own a)/\fs.length<=1000/\dx≠a/\h.get? a=some (PySem.W.instObj C dx)/\
   ∃mA,h.Ns1 dx mA/\(∀f,qO (fs.lookup f) (mA f))/\PySem.Within mA (fs.map (·.1))
 | .own _=>∃o,h.get? a=some o
 | .xd fs=>∃mA,h.Ns1 a mA/\∀f,qO (fs.lookup f) (mA f)
 | .rng lo hi=>∃t u v,h.get? a=some { cls:=.type "range",data:=.fields #[.int lo t,.int hi u,.int 1 v] }
 | .frz o u=>h.get? a=some o/\dW H h a u
 | .tbl ps=>h.get? a=some { cls:=.none,data:=.fields ps }
 | .met f x=>h.get? a=some (PH (.ref f) (.ref x))
 | .ext φ=>φ h/\(∃o,h.get? a=some o)/\∀h1 h2:Heap,φ h1->(∀o,h1.get? a=some o->h2.get? a=some o)->φ h2
def HOk(H:Hp)(h:Heap):Prop:=∀a o,H a=some o->dW P w H h a o
end
section
variable{P : L6}{w : LI}{H H' : Hp}{h h' : Heap}{a : Addr}{o : HO}
theorem dW.lt(x:dW P w H h a o):a<h.objs.size:=by
 cases o with
 | lst xs=>obtain⟨_,_,_,_,e⟩:=x;exact KZ e
 | tup xs=>obtain⟨_,_,_,p⟩:=x;exact p.up.lt
 | dK kvs=>obtain⟨_,_,_,_,o,_,_,e,_⟩:=x;exact KZ e
 | dT kvs=>obtain⟨_,_,_,_,o,_,_,e,_⟩:=x;exact KZ e
 | set S n=>obtain⟨o,_,_,_,e,_⟩:=x;exact KZ e
 | ins C dx fs=>obtain⟨_,_,_,e,_⟩:=x;exact KZ e
 | own y=>obtain⟨_,e⟩:=x;exact KZ e
 | xd fs=>obtain⟨_,⟨_,_,_,e,_⟩,_⟩:=x;exact KZ e
 | rng lo hi=>obtain⟨_,_,_,e⟩:=x;exact KZ e
 | frz ob u=>obtain⟨e,_⟩:=x;exact KZ e
 | tbl ps=>exact KZ (show h.get? a=some _ from x)
 | met f y=>exact KZ (show h.get? a=some _ from x)
 | ext φ=>obtain⟨_,⟨_,e⟩,_⟩:=x;exact KZ e
theorem Paired.mapP{α β:Type}{F G:α->β->Prop}:∀{l₁:List α}{l₂:List β},Qu F l₁ l₂->(∀a b,F a b->G a b)->Qu G l₁ l₂
 | _,_,.nil,_=>.nil
 | _,_,.cons r t,f=>.cons (f _ _ r) (Paired.mapP t f)
theorem dW.stay(x:dW P w H h a o)(k:∀b u,(b=a\/H b=some (.own a))->h.get? b=some u->h'.get? b=some u)
  (ho:∀b,H b=some (.own a)->H' b=some (.own a)) (ht:∀b xs,H b=some (.tup xs)->H' b=some (.tup xs)):dW P w H' h' a o:=by
 induction o with
 | lst xs=>obtain⟨z,its,n,r,e⟩:=x;exact⟨z,its,n,r,k _ _ (.inl rfl) e⟩
 | tup xs=>obtain⟨z,its,r,ob,e,c⟩:=x;exact⟨z,its,r,ob,k _ _ (.inl rfl) e,c⟩
 | dK kvs=>obtain⟨z,y,vs,r,ob,es,ep,e,c⟩:=x;exact⟨z,y,vs,r,ob,es,ep,k _ _ (.inl rfl) e,c⟩
 | dT kvs=>
  obtain⟨z,y,xs,r,ob,es,ep,e,c⟩:=x;exact⟨z,y,xs,Paired.mapP r fun p q z=>⟨z.1,z.2.1.keeps ht,z.2.2⟩,ob,es,ep,k _ _ (.inl rfl) e,c⟩
 | set S n=>obtain⟨ob,es,ep,t,e,c⟩:=x;exact⟨ob,es,ep,t,k _ _ (.inl rfl) e,c⟩
 | ins C dx fs=>
  obtain⟨d,z,ne,e,mA,⟨od,es,ep,e2,c⟩,r⟩:=x;exact⟨ho _ d,z,ne,k _ _ (.inl rfl) e,mA,⟨od,es,ep,k _ _ (.inr d) e2,c⟩,r⟩
 | own y=>obtain⟨ob,e⟩:=x;exact⟨ob,k _ _ (.inl rfl) e⟩
 | xd fs=>obtain⟨mA,⟨od,es,ep,e,c⟩,r⟩:=x;exact⟨mA,⟨od,es,ep,k _ _ (.inl rfl) e,c⟩,r⟩
 | rng lo hi=>obtain⟨t,u,v,e⟩:=x;exact⟨t,u,v,k _ _ (.inl rfl) e⟩
 | frz ob u ih=>obtain⟨e,q⟩:=x;exact⟨k _ _ (.inl rfl) e,ih q⟩
 | tbl ps=>
  have e:h.get? a=some { cls:=.none,data:=.fields ps }:=x;show h'.get? a=some { cls:=.none,data:=.fields ps };exact k a _ (.inl rfl) e
 | met f y=>
  have e:h.get? a=some (PH (.ref f) (.ref y)):=x;show h'.get? a=some (PH (.ref f) (.ref y));exact k a _ (.inl rfl) e
 | ext φ=>obtain⟨p,⟨o,e⟩,st⟩:=x;exact⟨st _ _ p fun o q=>k _ _ (.inl rfl) q,⟨o,k _ _ (.inl rfl) e⟩,st⟩
theorem HOk.lt(x:HOk P w H h)(e:H a=some o):a<h.objs.size:=(x a o e).lt
theorem HOk.fresh(x:HOk P w H h)(e:h.objs.size<=a):H a=none:=by
 cases q:H a with
 | none=>rfl
 | some u=>exact absurd (KY (x.lt q) e) (Lx _)
theorem HOk.kept(x:HOk P w H h)(k:∀b u,h.get? b=some u->h'.get? b=some u):HOk P w H h':=fun a o e=>
 (x a o e).stay (fun b u _ q=>k b u q) (fun _ q=>q) fun _ _ q=>q
theorem HOk.laid(x:HOk P w H h)(k:∀b u,h.get? b=some u->h'.get? b=some u)(hp:h.objs.size<=a)(new:dW P w (upd H a o) h' a o):HOk P w (upd H a o) h':=fun b u e=>by
 have hn:=x.fresh hp
 by_cases hb:b=a
 ·subst hb;rw[aF] at e;cases e;exact new
 ·rw[aL hb] at e
  exact(x b u e).stay (fun c v _ q=>k c v q) (fun c q=>by rw[aL (bB q hn)];exact q) fun c xs q=>by rw[aL (bB q hn)];exact q
end
def Rd(H:Hp)(a:Addr)(u:HO):Prop:=H a=some u\/∃o,H a=some (.frz o u)
theorem Rd.ok{P:L6}{w:LI}{H:Hp}{h:Heap}{a:Addr}{u:HO}(r:Rd H a u)(x:HOk P w H h):dW P w H h a u:=by
 rcases r with r | ⟨o,r⟩
 ·exact x a u r
 ·obtain⟨_,q⟩:=x a _ r
  exact q
def Mut:Option HO->Prop
 | some (.lst _)=>True
 | some (.dK _)=>True
 | some (.dT _)=>True
 | some (.set _ _)=>True
 | some (.ins _ _ _)=>True
 | some (.ext _)=>True
 | _=>False
section
variable{P : L6}{w : LI}{H : Hp}{h h' : Heap}{x e : Addr}{o' : HO}
theorem HOk.write(ok:HOk P w H h)(mu:Mut (H x))(he:e=x\/H e=some (.own x))(k:∀b u,b≠e->h.get? b=some u->h'.get? b=some u)(heo:∃u,h'.get? e=some u)
  (new:dW P w (upd H x o') h' x o'):HOk P w (upd H x o') h':=fun b u q=>by
 have nown:∀c y,H c=some (.own y)->c≠x:=fun c y r z=>by subst z;rw[r] at mu;exact mu
 have ntup:∀c xs,H c=some (.tup xs)->c≠x:=fun c xs r z=>by subst z;rw[r] at mu;exact mu
 by_cases hb:b=x
 ·subst hb;rw[aF] at q;cases q;exact new
 ·rw[aL hb] at q
  by_cases hbe:b=e
  ·have q':H b=some (.own x):=by
    rcases he with z | z
    ·exact absurd (hbe.trans z) hb
    ·rw[hbe];exact z
   rw[q] at q';cases q';obtain⟨v,hv⟩:=heo;exact⟨v,by rw[hbe];exact hv⟩
  ·refine(ok b u q).stay (fun c v hc r=>k c v ?_ r) (fun c r=>by rw[aL (nown c b r)];exact r) fun c xs r=>by rw[aL (ntup c xs r)];exact r
   rcases hc with rfl | hc
   ·exact hbe
   ·rintro rfl
    rcases he with z | z
    ·exact nown c b hc z
    ·rw[hc] at z;cases z;exact hb rfl
end
structure Un(fs ex:List Addr)(H H':Hp)(h h':Heap):Prop where
 keep:∀b o,h.get? b=some o->H b=none->b ∉ fs->b ∉ ex->h'.get? b=some o
 slot:∀b o,h.get? b=some o->H b=none->b∈fs->b ∉ ex->∃sl,h'.get? b=some { o with slots:=sl }
 free:∀b o,h.get? b=some o->H b=none->b ∉ ex->H' b=none
 there:∀b o,h.get? b=some o->b ∉ ex->∃o',h'.get? b=some o'
 tups:∀b xs,H b=some (.tup xs)->H' b=some (.tup xs)
 frzs:∀b o u,H b=some (.frz o u)->H' b=some (.frz o u)
 tbls:∀b ps,H b=some (.tbl ps)->∃more,H' b=some (.tbl (ps++more))
section
variable{fs fs' ex ex' : List Addr}{H H1 H2 : Hp}{h h1 h2 h' : Heap}{a x e : Addr}{o : HO}
theorem Un.any(u:Un fs ex H H1 h h1){b:Addr}{ob:Obj}(q:h.get? b=some ob)(n:H b=none)(hx:b ∉ ex):∃sl,h1.get? b=some { ob with slots:=sl }:=by
 by_cases hb:b∈fs
 ·exact u.slot b ob q n hb hx
 ·exact⟨ob.slots,u.keep b ob q n hb hx⟩
theorem Un.kept(k:∀b u,h.get? b=some u->h'.get? b=some u):Un fs ex H H h h':=
 ⟨fun b ob q _ _ _=>k b ob q,fun b ob q _ _ _=>⟨ob.slots,k b ob q⟩,fun _ _ _ n _=>n,fun b ob q _=>⟨ob,k b ob q⟩,fun _ _ q=>q,fun _ _ _ q=>q,fun _ ps q=>⟨#[],by rw[q];simp⟩⟩
theorem Un.refl:Un fs ex H H h h:=Un.kept fun _ _ q=>q
theorem Un.laid(k:∀b u,h.get? b=some u->h'.get? b=some u)(hp:h.objs.size<=a)(hn:H a=none):Un fs ex H (upd H a o) h h' where
 keep:=fun b u q _ _ _=>k b u q
 slot:=fun b u q _ _ _=>⟨u.slots,k b u q⟩
 free:=fun b u q n _=>by rw[aL (LQ (KY (KZ q) hp))];exact n
 there:=fun b u q _=>⟨u,k b u q⟩
 tups:=fun b xs q=>by rw[aL (bB q hn)];exact q
 frzs:=fun b u xs q=>by rw[aL (bB q hn)];exact q
 tbls:=fun b ps q=>⟨#[],by rw[aL (bB q hn),q];simp⟩
theorem Un.write(mu:Mut (H x))(he:e=x\/H e=some (.own x))(k:∀b u,b≠e->h.get? b=some u->h'.get? b=some u)(heo:∃u,h'.get? e=some u):Un fs ex H (upd H x o) h h':=by
 have hx:∀b,H b=none->b≠x:=fun b n z=>by subst z;rw[n] at mu;exact mu
 have hb:∀b,H b=none->b≠e:=fun b n z=>by
  subst z;rcases he with r | r
  ·exact hx b n r
  ·rw[n] at r;cases r
 have hm:∀b u,H b=some u->¬ Mut (some u)->b≠x:=fun b u q nm z=>by subst z;rw[q] at mu;exact nm mu
 refine⟨fun b u q n _ _=>k b u (hb b n) q,fun b u q n _ _=>⟨u.slots,k b u (hb b n) q⟩,fun b u q n _=>by rw[aL (hx b n)];exact n,fun b u q _=>?_,
  fun b xs q=>by rw[aL (hm b _ q fun z=>z)];exact q,fun b u xs q=>by rw[aL (hm b _ q fun z=>z)];exact q,fun b ps q=>⟨#[],by rw[aL (hm b _ q fun z=>z),q];simp⟩⟩
 by_cases hbe:b=e
 ·subst hbe;exact heo
 ·exact⟨u,k b u hbe q⟩
end
def trk(h:Heap)(H:Hp):List Addr:=(KM h.objs.size).filter fun a=>(H a).isSome
def yN(h:Heap)(H:Hp):Heap:=PySem.W.hideAll h (trk h H)
theorem vU(h:Heap)(H:Hp):(yN h H).objs.size=h.objs.size:=PySem.W.hideAll_size _ _
theorem yM{h:Heap}{H:Hp}{b:Addr}{o:Obj}(e:h.get? b=some o)(n:H b=none):(yN h H).get? b=some o:=
 PySem.W.hideAll_get _ e fun hm=>by
  have q:(H b).isSome=true:=(M8.mp hm).2;rw[n] at q;simp at q
theorem BI{h:Heap}{H:Hp}{b:Addr}{o:Obj}(e:(yN h H).get? b=some o):h.get? b=some o/\H b=none:=by
 have e':h.get? b=some o:=PySem.W.of_hideAll (trk h H) e;refine⟨e',?_⟩;cases q:H b with
 | none=>rfl
 | some x=>
  have hm:b∈trk h H:=M8.mpr ⟨MS.mpr (KZ e'),by simp[q]⟩;have z:(yN h H).get? b=none:=PySem.W.hideAll_none (trk h H) hm;rw[z] at e;cases e
def CG(g h:Heap)(L:Addr):List (Addr×Obj):=(KM h.objs.size).filterMap fun a=>if a=L\/(g.get? a).isSome=true then none else (h.get? a).map fun o=>(a,o)
def rest(g h:Heap)(L d:Addr):List (Addr×Obj):=(CG g h L).filter fun p=>decide (p.1≠d)
end L2
namespace L2
open PySem PySem.Spec PyProof.Rows
structure Mod(K:KA)(mg:Str->Option KB)(base:Heap):Prop where
 kin:K.In base
 glob:base.Ns mainGlobals mg
 blt:∃mb,base.Ns Lw mb/\∀x:Str,x≠"__name__"->mb x=MY x
 nolimit:base.NoLimit
structure Cx where
 prog:L6
 w:LI
 K:KA
 mg:Str->Option KB
 base:Heap
 A:LR
 N:List Str
 s₀:KC
 H₀:Hp
 env:Pn
 outer:List Pn
 stack:List Pn
 ex:List Addr
 fn:Str->Bool
 calm:Bool
 pn:List (Addr×Obj)
 xe:KB->KC->Prop
def frs(l:List Pn):List Addr:=l.filterMap (·.frame)
abbrev Cx.fs(X:Cx):List Addr:=frs X.outer
def Vis(sc:Scope)(x:Str):Prop:=sc.names.lookup x=some .local\/sc.names.lookup x=some .cell\/sc.names.lookup x=some .free
def Loc(sc:Scope)(x:Str):Prop:=sc.names.lookup x=some .local\/sc.names.lookup x=some .cell
def Look(env:Pn)(h:Heap)(m:Str->Option KB)(x:Str)(u:KB):Prop:=
 (env.kindOf x=some .local/\m x=some u)\/((env.kindOf x=some .cell\/env.kindOf x=some .free)/\∃c,env.cells.lookup x=some c/\h.IsCell c (some u))
structure Cx.Ok(X:Cx):Prop where
 mod:Mod X.K X.mg X.base
 kind:X.env.scope.kind=.function
 glob:X.env.globals=mainGlobals
 blt:X.env.builtins=Lw
 above:X.s₀.heap.objs.size<=X.env.locals
 inj:∀x y c,X.env.cells.lookup x=some c->X.env.cells.lookup y=some c->x=y
 has:∀x,(X.env.kindOf x=some .cell\/X.env.kindOf x=some .free)->∃c,X.env.cells.lookup x=some c
 cab:∀x c,X.fn x=true->X.env.cells.lookup x=some c->X.s₀.heap.objs.size<=c
 hd:X.calm=true->X.A.handled=none
 frames:X.A.frames=some X.stack
 stk:X.stack=X.outer\/(X.stack=X.env::X.outer/\X.env.frame=some X.env.locals)
 exf:∀b∈X.ex,b≠X.env.locals/\∀x c,X.env.cells.lookup x=some c->c≠b
 bs:∀b o,X.base.get? b=some o->X.s₀.heap.get? b=some o/\X.H₀ b=none
 bsz:X.base.objs.size<=X.s₀.heap.objs.size
 noex:∀b o,X.base.get? b=some o->b ∉ X.ex
 exfs:∀b∈X.ex,b ∉ X.fs
 funs:X.s₀.heap.FunFrames X.base X.outer
 frf:∀b∈X.fs,X.H₀ b=none
structure Inv(X:Cx)(pins:List (Addr×Obj))(σ:List (Option V))(H:Hp)(s:KC):Prop where
 ok:X.Ok
 os:s.os=X.s₀.os
 bare:P7 s.gens
 base:Un X.fs X.ex X.H₀ H X.s₀.heap s.heap
 loc:∃m,s.heap.Ns X.env.locals m/\∀(i:Nat)(x:Str)(v:V),X.N[i]?=some x->σ[i]?=some (some v)->Vis X.env.scope x->∃u,RelV v u/\Look X.env s.heap m x u
 cell:∀x c,X.env.cells.lookup x=some c->∃v,s.heap.IsCell c v
 free:H X.env.locals=none
 freeC:∀x c,X.env.cells.lookup x=some c->H c=none
 pin:∀p∈X.pn++pins,s.heap.get? p.1=some p.2/\H p.1=none/\p.1≠X.env.locals/\p.1 ∉ X.fs/\∀v,p.2.data≠.cell v
 hok:HOk X.prog X.w H s.heap
 len:σ.length=X.N.length
section
variable{X : Cx}{pins : List (Addr×Obj)}{σ : List (Option V)}{H H' : Hp}{s : KC}{h' : Heap}
theorem Cx.Ok.nofr(ok:X.Ok){b:Addr}{o:Obj}(e:X.base.get? b=some o):b ∉ X.fs:=fun hb=>by
 have:=(ok.funs.mem hb).1;rw[e] at this;cases this
theorem Inv.bs(I:Inv X pins σ H s):∀b o,X.base.get? b=some o->s.heap.get? b=some o/\H b=none:=fun b o e=>
 ⟨I.base.keep b o (I.ok.bs b o e).1 (I.ok.bs b o e).2 (I.ok.nofr e) (I.ok.noex b o e),I.base.free b o (I.ok.bs b o e).1 (I.ok.bs b o e).2 (I.ok.noex b o e)⟩
theorem Inv.bk(I:Inv X pins σ H s):∀b o,X.base.get? b=some o->s.heap.get? b=some o:=fun b o e=>(I.bs b o e).1
theorem Inv.mod(I:Inv X pins σ H s):Mod X.K X.mg X.base:=I.ok.mod
theorem Inv.kIn(I:Inv X pins σ H s):X.K.In s.heap:=I.ok.mod.kin.keeps I.bk
theorem Inv.lt(I:Inv X pins σ H s):X.env.locals<s.heap.objs.size:=let ⟨_,hn,_⟩:=I.loc;hn.lt
theorem Inv.sz(I:Inv X pins σ H s):X.s₀.heap.objs.size<=s.heap.objs.size:=Lk I.ok.above (Pj I.lt)
theorem Inv.nofs(I:Inv X pins σ H s){a:Addr}(h:s.heap.objs.size<=a):a ∉ X.fs:=fun hb=>by
 obtain⟨_,o,ho,_⟩:=I.ok.funs.mem hb;exact absurd (KY (KZ ho) (Lk I.sz h)) (Lx _)
theorem Inv.cne(I:Inv X pins σ H s):∀x c,X.env.cells.lookup x=some c->c≠X.env.locals:=fun x c e z=>by
 obtain⟨v,o,ho,hd⟩:=I.cell x c e;obtain⟨m,⟨o',es,ep,ho',hd',_⟩,_⟩:=I.loc;rw[z,ho'] at ho;cases ho;rw[hd'] at hd;cases hd
theorem Inv.funs(I:Inv X pins σ H s):s.heap.FunFrames X.base X.outer:=by
 have all:∀(l:List Pn),(∀b∈frs l,b∈X.fs)->X.s₀.heap.FunFrames X.base l->s.heap.FunFrames X.base l:=by
  intro l
  induction l with
  | nil=>intro _ _;trivial
  | cons env r ih=>
   intro hs hl;obtain⟨hk,⟨L,o,hf,hn,ho,hd⟩,hr⟩:=hl;have hL:L∈X.fs:=hs L (by unfold frs;rw[NC,hf];exact LO);obtain⟨sl,e⟩:=I.base.slot L o ho (I.ok.frf L hL) hL fun z=>I.ok.exfs L z hL;exact⟨hk,⟨L,_,hf,hn,e,hd⟩,ih (fun b hb=>hs b (by unfold frs;rw[NC,hf];exact LG _ hb)) hr⟩
 exact all X.outer (fun _ hb=>hb) I.ok.funs
theorem Inv.stack(I:Inv X pins σ H s):s.heap.FunFrames X.base X.stack:=by
 rcases I.ok.stk with e | ⟨e,hf⟩
 ·rw[e];exact I.funs
 ·rw[e]
  obtain⟨m,hn,_⟩:=I.loc;refine .cons (by rw[I.ok.kind];decide) hf hn ?_ I.funs;exact R9 (Lk I.ok.bsz I.ok.above)
theorem Inv.stkSub(I:Inv X pins σ H s):∀b∈frs X.stack,b∈X.env.locals::X.fs:=fun b hb=>by
 rcases I.ok.stk with e | ⟨e,hf⟩
 ·rw[e] at hb;exact LG _ hb
 ·rw[e] at hb
  unfold frs at hb;rw[NC,hf] at hb;exact hb
theorem Inv.stkFree(I:Inv X pins σ H s):∀b∈frs X.stack,H b=none:=fun b hb=>by
 rcases L4.mp (I.stkSub b hb) with e | hb
 ·rw[e];exact I.free
 ·obtain⟨_,o,ho,_⟩:=I.ok.funs.mem hb
  exact I.base.free b o ho (I.ok.frf b hb) fun z=>I.ok.exfs b z hb
theorem Inv.step{g':Array GenState}{t':Nat}{d':Drawn}{ch:List Addr}(I:Inv X pins σ H s)
  (hch:∀b∈ch,(b∈X.ex\/X.s₀.heap.objs.size<=b)/\b≠X.env.locals/\(∀x c,X.env.cells.lookup x=some c->c≠b)/\∀p∈X.pn++pins,p.1≠b)
  (keep:∀b o,b≠X.env.locals->b ∉ X.fs->b ∉ ch->s.heap.get? b=some o->H b=none->h'.get? b=some o)
  (slot:∀b o,b≠X.env.locals->b∈X.fs->b ∉ ch->s.heap.get? b=some o->H b=none->∃sl,h'.get? b=some { o with slots:=sl }) (free:∀b o,b ∉ ch->s.heap.get? b=some o->H b=none->H' b=none)
  (there:∀b o,b ∉ ch->s.heap.get? b=some o->∃o',h'.get? b=some o')
  (tups:∀b xs,H b=some (.tup xs)->H' b=some (.tup xs)) (frzs:∀b o u,H b=some (.frz o u)->H' b=some (.frz o u)) (tbls:∀b ps,H b=some (.tbl ps)->∃more,H' b=some (.tbl (ps++more)))
  (ns:∀m,s.heap.Ns X.env.locals m->h'.Ns X.env.locals m) (hok:HOk X.prog X.w H' h') (hg:P7 g') :
  Inv X pins σ H' { s with heap:=h',gens:=g',drawn:=d',toks:=t' }:=by
 have neL:∀b o,X.s₀.heap.get? b=some o->b≠X.env.locals:=fun b o e=>LQ (KY (KZ e) I.ok.above)
 have neC:∀b o,X.s₀.heap.get? b=some o->b ∉ X.ex->b ∉ ch:=fun b o e hx hb=>by
  rcases (hch b hb).1 with z | z
  ·exact hx z
  ·exact absurd (KY (KZ e) z) (Lx _)
 have cellK:∀x c,X.env.cells.lookup x=some c->∀v,s.heap.IsCell c v->h'.IsCell c v:=fun x c e v ⟨o,ho,hd⟩=>by
  have nch:c ∉ ch:=fun z=>(hch c z).2.2.1 x c e rfl
  by_cases hc:c∈X.fs
  ·obtain⟨sl,q⟩:=slot c o (I.cne x c e) hc nch ho (I.freeC x c e)
   exact⟨_,q,hd⟩
  ·exact⟨o,keep c o (I.cne x c e) hc nch ho (I.freeC x c e),hd⟩
 refine⟨I.ok,I.os,hg,⟨fun b o e n hb hx=>?_,fun b o e n hb hx=>?_,fun b o e n hx=>?_,fun b o e hx=>?_,fun b xs e=>tups b xs (I.base.tups b xs e),fun b o xs e=>frzs b o xs (I.base.frzs b o xs e),fun b ps e=>?_⟩,?_,fun x c e=>?_,?_,fun x c e=>?_,fun p hp=>?_,hok,I.len⟩
 ·exact keep b o (neL b o e) hb (neC b o e hx) (I.base.keep b o e n hb hx) (I.base.free b o e n hx)
 ·obtain⟨sl,e1⟩:=I.base.slot b o e n hb hx
  obtain⟨sl',e2⟩:=slot b _ (neL b o e) hb (neC b o e hx) e1 (I.base.free b o e n hx);exact⟨sl',e2⟩
 ·obtain⟨o',e1⟩:=I.base.there b o e hx
  exact free b o' (neC b o e hx) e1 (I.base.free b o e n hx)
 ·obtain⟨o',e1⟩:=I.base.there b o e hx
  exact there b o' (neC b o e hx) e1
 ·obtain⟨m1,e1⟩:=I.base.tbls b ps e
  obtain⟨m2,e2⟩:=tbls b _ e1;exact⟨m1++m2,by rw[e2,Array.append_assoc]⟩
 ·obtain⟨m,hn,hl⟩:=I.loc
  refine⟨m,ns m hn,fun i x v e1 e2 e3=>?_⟩;obtain⟨u,r,l⟩:=hl i x v e1 e2 e3;refine⟨u,r,?_⟩;rcases l with l | ⟨k,c,e,z⟩
  ·exact .inl l
  ·exact .inr ⟨k,c,e,cellK x c e _ z⟩
 ·obtain⟨v,z⟩:=I.cell x c e
  exact⟨v,cellK x c e v z⟩
 ·obtain⟨m,⟨o,_,_,ho,_⟩,_⟩:=I.loc
  exact free _ o (fun z=>(hch _ z).2.1 rfl) ho I.free
 ·obtain⟨v,o,ho,hd⟩:=I.cell x c e
  exact free c o (fun z=>(hch c z).2.2.1 x c e rfl) ho (I.freeC x c e)
 ·obtain⟨e,n,ne,nf,d⟩:=I.pin p hp
  have nch:p.1 ∉ ch:=fun z=>(hch p.1 z).2.2.2 p hp rfl;exact⟨keep p.1 p.2 ne nf nch e n,free p.1 p.2 nch e n,ne,nf,d⟩
theorem Inv.un{t':Nat}(I:Inv X pins σ H s)(u:Un X.fs [] H H' s.heap h')(hok:HOk X.prog X.w H' h'):Inv X pins σ H' { s with heap:=h',toks:=t' }:=by
 obtain⟨m,⟨o,es,ep,ho,r⟩,_⟩:=id I.loc;obtain⟨sl,hL⟩:=u.any ho I.free (by simp)
 exact I.step (g':=s.gens) (d':=s.drawn) (ch:=[]) (fun _ z=>nomatch z) (fun b o _ hb _ e n=>u.keep b o e n hb (by simp)) (fun b o _ hb _ e n=>u.slot b o e n hb (by simp)) (fun b o _ e n=>u.free b o e n (by simp)) (fun b o _ e=>u.there b o e (by simp)) u.tups u.frzs u.tbls (fun m' hm=>by
  obtain⟨o',es',ep',ho',r'⟩:=hm;rw[ho] at ho';cases ho';exact⟨_,es',ep',hL,r'⟩) hok I.bare
theorem Inv.call{g':Array GenState}{t':Nat}{d':Drawn}{ch:List Addr}(I:Inv X pins σ H s)(u:Un (frs X.stack) ch H H' s.heap h')(hok:HOk X.prog X.w H' h')(hg:P7 g')
  (hch:∀b∈ch,(b∈X.ex\/X.s₀.heap.objs.size<=b)/\b≠X.env.locals/\(∀x c,X.env.cells.lookup x=some c->c≠b)/\∀p∈X.pn++pins,p.1≠b) :
  Inv X pins σ H' { s with heap:=h',gens:=g',drawn:=d',toks:=t' }:=by
 obtain⟨m,⟨o,es,ep,ho,r⟩,_⟩:=id I.loc;obtain⟨sl,hL⟩:=u.any ho I.free fun z=>(hch _ z).2.1 rfl
 exact I.step (ch:=ch) hch (fun b o hL hb hc e n=>u.keep b o e n (fun z=>(L4.mp (I.stkSub b z)).elim hL hb) hc) (fun b o _ _ hc e n=>u.any e n hc) (fun b o hc e n=>u.free b o e n hc) (fun b o hc e=>u.there b o e hc) u.tups u.frzs u.tbls (fun m' hm=>by
  obtain⟨o',es',ep',ho',r'⟩:=hm;rw[ho] at ho';cases ho';exact⟨_,es',ep',hL,r'⟩) hok hg
theorem Inv.turned{t':Nat}{it:Addr}(I:Inv X pins σ H s)(k:∀b o,b≠it->s.heap.get? b=some o->h'.get? b=some o)(hn:H it=none)(hL:it≠X.env.locals)
  (h1:it∈X.ex\/X.s₀.heap.objs.size<=it) (h2:∀x c,X.env.cells.lookup x=some c->c≠it) (h3:∀p∈X.pn++pins,p.1≠it):Inv X pins σ H { s with heap:=h',toks:=t' }:=by
 have nit:∀b u,H b=some u->b≠it:=fun b u e z=>by rw[z,hn] at e;cases e
 refine I.step (g':=s.gens) (d':=s.drawn) (ch:=[it]) (fun b hb=>?_) (fun b o _ _ hc e _=>k b o (fun z=>hc (by simp[z])) e) (fun b o _ _ hc e _=>⟨o.slots,k b o (fun z=>hc (by simp[z])) e⟩) (fun _ _ _ _ n=>n)
  (fun b o hc e=>⟨o,k b o (fun z=>hc (by simp[z])) e⟩) (fun _ _ e=>e) (fun _ _ _ e=>e) (fun b ps e=>⟨#[],by rw[e];simp⟩) (fun m hm=>?_) (fun b u e=>?_) I.bare
 ·have e:b=it:=by simpa using hb
  subst e;exact⟨h1,hL,h2,h3⟩
 ·obtain⟨o,es,ep,ho,r⟩:=hm
  exact⟨o,es,ep,k _ o (N3 hL) ho,r⟩
 ·refine(I.hok b u e).stay (fun c v hc q=>k c v ?_ q) (fun _ q=>q) fun _ _ q=>q
  rcases hc with z | z
  ·rw[z];exact nit b u e
  ·exact nit c _ z
theorem Inv.tok(I:Inv X pins σ H s)(t:Nat):Inv X pins σ H { s with toks:=t }:=I.un (h':=s.heap) (t':=t) Un.refl I.hok
theorem Inv.kept{t':Nat}(I:Inv X pins σ H s)(k:∀b u,s.heap.get? b=some u->h'.get? b=some u):Inv X pins σ H { s with heap:=h',toks:=t' }:=I.un (Un.kept k) (I.hok.kept k)
theorem Inv.laid{a:Addr}{o:HO}{t':Nat}(I:Inv X pins σ H s)(k:∀b u,s.heap.get? b=some u->h'.get? b=some u)(hp:s.heap.objs.size<=a)(new:dW X.prog X.w (upd H a o) h' a o) :
  Inv X pins σ (upd H a o) { s with heap:=h',toks:=t' }:=I.un (Un.laid k hp (I.hok.fresh hp)) (I.hok.laid k hp new)
theorem Inv.write{x e:Addr}{o:HO}{t':Nat}(I:Inv X pins σ H s)(mu:Mut (H x))(he:e=x\/H e=some (.own x))(k:∀b u,b≠e->s.heap.get? b=some u->h'.get? b=some u)(heo:∃u,h'.get? e=some u)
  (new:dW X.prog X.w (upd H x o) h' x o):Inv X pins σ (upd H x o) { s with heap:=h',toks:=t' }:=I.un (Un.write mu he k heo) (I.hok.write mu he k heo new)
theorem Inv.pins_of{pins':List (Addr×Obj)}(I:Inv X pins σ H s)(h:∀p∈pins',s.heap.get? p.1=some p.2/\H p.1=none/\p.1≠X.env.locals/\p.1 ∉ X.fs/\∀v,p.2.data≠.cell v):Inv X pins' σ H s:=
 ⟨I.ok,I.os,I.bare,I.base,I.loc,I.cell,I.free,I.freeC,fun p hp=>(LW.mp hp).elim (fun z=>I.pin p (N5 _ z)) (h p),I.hok,I.len⟩
theorem rM{N:List Str}(hN:N.Nodup){i j:Nat}{x:Str}(a:N[i]?=some x)(b:N[j]?=some x):i=j:=by
 obtain⟨h1,e1⟩:=KN.mp a;obtain⟨h2,e2⟩:=KN.mp b;exact(Pw hN).mp (e1.trans e2.symm)
theorem uK{M:Model}{A:LR}{E:KB->KC->Prop}{i:Nat}{x:Str}{v:V}{u:KB}{Q:Unit->KC->Prop}(I:Inv X pins σ H s)(hN:X.N.Nodup)(hi:X.N[i]?=some x)(hx:Loc X.env.scope x)(r:RelV v u)
  (h:∀s',Inv X pins (σ.set i (some v)) H s'->(∃a,Nd a s.heap s'.heap/\(a=X.env.locals\/X.env.cells.lookup x=some a))->Q () s') (hf:X.fn x=true\/X.env.scope.names.lookup x=some .local:=by first | exact .inl rfl | exact .inr rfl | assumption):LC M A (Rf X.env x u) Q E s:=by
 obtain⟨m,hn,hl⟩:=id I.loc;have hcls:(X.env.scope.kind == .class || (X.env.scope.kind == .module && X.env.locals != X.env.globals))=false:=by rw[I.ok.kind];rfl
 have hiσ:i<σ.length:=by rw[I.len];exact(KN.mp hi).1
 have cne:=I.cne
 have tracked:∀{a:Addr}{h':Heap},(∃o,s.heap.get? a=some o/\H a=none)->Nd a s.heap h'->HOk X.prog X.w H h':=fun {a h'} ha hs b ob e=>by
  obtain⟨_,_,hfree⟩:=ha;refine(I.hok b ob e).stay (fun c w' hc q=>(hs.2 c ?_).trans q) (fun _ q=>q) fun _ _ q=>q;rintro rfl;rcases hc with rfl | hc
  ·rw[hfree] at e;cases e
  ·rw[hfree] at hc;cases hc
 rcases hx with hk | hk
 ·refine wpAny_storeName_local hk hn (fun h' hn' hs=>?_) hcls
  obtain⟨oL,_,_,hoL,_⟩:=id hn;refine h _ ⟨I.ok,I.os,I.bare,⟨fun b o e n hb hx=>?_,fun b o e n hb hx=>?_,I.base.free,fun b o e hx=>?_,I.base.tups,I.base.frzs,I.base.tbls⟩,⟨_,hn',fun j y v' e1 e2 e3=>?_⟩,fun y c e=>?_,I.free,I.freeC,fun p hp=>?_,tracked ⟨oL,hoL,I.free⟩ hs,by simpa using I.len⟩ ⟨_,hs,.inl rfl⟩
  ·exact(hs.2 b (LQ (KY (KZ e) I.ok.above))).trans (I.base.keep b o e n hb hx)
  ·obtain⟨sl,e1⟩:=I.base.slot b o e n hb hx
   exact⟨sl,(hs.2 b (LQ (KY (KZ e) I.ok.above))).trans e1⟩
  ·obtain⟨o',e1⟩:=I.base.there b o e hx
   exact⟨o',(hs.2 b (LQ (KY (KZ e) I.ok.above))).trans e1⟩
  ·by_cases hj:j=i
   ·subst hj
    rw[hi] at e1;cases e1;rw[Of hiσ] at e2;cases e2;exact⟨u,r,.inl ⟨hk,by simp⟩⟩
   ·rw[O0 (N3 hj)] at e2
    obtain⟨u',r',q⟩:=hl j y v' e1 e2 e3;refine⟨u',r',?_⟩;rcases q with⟨k,e⟩|⟨k,c,e,z⟩
    ·refine .inl ⟨k,?_⟩
     have:y≠x:=fun e=>hj (rM hN e1 (e▸hi));simp[this,e]
    ·exact .inr ⟨k,c,e,z.sameBut hs (cne y c e)⟩
  ·obtain⟨w',z⟩:=I.cell y c e
   exact⟨w',z.sameBut hs (cne y c e)⟩
  ·obtain⟨e,n,ne,nf,d⟩:=I.pin p hp
   exact⟨(hs.2 p.1 ne).trans e,n,ne,nf,d⟩
 ·have hfn:X.fn x=true:=by
   rcases hf with z | z
   ·exact z
   ·rw[z] at hk;cases hk
  obtain⟨c,hc⟩:=I.ok.has x (.inl hk);obtain⟨w',z⟩:=I.cell x c hc;refine wpAny_storeName_cell I.ok.kind hk hc z (fun h' hc' hs=>?_);obtain⟨oc,hoc,hocd⟩:=id z;refine h { s with heap:=h' } ⟨I.ok,I.os,I.bare,⟨fun b o e n hb hx=>?_,fun b o e n hb hx=>?_,I.base.free,fun b o e hx=>?_,I.base.tups,I.base.frzs,I.base.tbls⟩,⟨m,hn.sameBut hs (N3 (cne x c hc)),fun j y v' e1 e2 e3=>?_⟩,fun y c' e=>?_,I.free,I.freeC,fun p hp=>?_,tracked ⟨oc,hoc,I.freeC x c hc⟩ hs,by simpa using I.len⟩ ⟨c,hs,.inr hc⟩
  ·exact(hs.2 b (LQ (KY (KZ e) (I.ok.cab x c hfn hc)))).trans (I.base.keep b o e n hb hx)
  ·obtain⟨sl,e1⟩:=I.base.slot b o e n hb hx
   exact⟨sl,(hs.2 b (LQ (KY (KZ e) (I.ok.cab x c hfn hc)))).trans e1⟩
  ·obtain⟨o',e1⟩:=I.base.there b o e hx
   exact⟨o',(hs.2 b (LQ (KY (KZ e) (I.ok.cab x c hfn hc)))).trans e1⟩
  ·by_cases hj:j=i
   ·subst hj
    rw[hi] at e1;cases e1;rw[Of hiσ] at e2;cases e2;exact⟨u,r,.inr ⟨.inl hk,c,hc,hc'⟩⟩
   ·rw[O0 (N3 hj)] at e2
    obtain⟨u',r',q⟩:=hl j y v' e1 e2 e3;refine⟨u',r',?_⟩;rcases q with q | ⟨k,c',e,z'⟩
    ·exact .inl q
    ·refine .inr ⟨k,c',e,z'.sameBut hs ?_⟩
     rintro rfl;exact hj (rM hN e1 (I.ok.inj _ _ _ e hc▸hi))
  ·by_cases hcc:c'=c
   ·subst hcc;exact⟨_,hc'⟩
   ·obtain⟨w2,z2⟩:=I.cell y c' e
    exact⟨w2,z2.sameBut hs hcc⟩
  ·obtain⟨e,n,ne,nf,d⟩:=I.pin p hp
   refine⟨(hs.2 p.1 ?_).trans e,n,ne,nf,d⟩;intro q;rw[q,hoc] at e;have q':oc=p.2:=Lh e;exact d w' (by rw[← q'];exact hocd)
theorem kO{M:Model}{A:LR}{E:KB->KC->Prop}{i:Nat}{x:Str}{v:V}{u:KB}{Q:Unit->KC->Prop}(I:Inv X pins σ H s)(hN:X.N.Nodup)(hi:X.N[i]?=some x)(hx:Loc X.env.scope x)(r:RelV v u)
  (h:∀s',Inv X pins (σ.set i (some v)) H s'->Q () s') (hf:X.fn x=true\/X.env.scope.names.lookup x=some .local:=by first | exact .inl rfl | exact .inr rfl | assumption):LC M A (Rf X.env x u) Q E s:=
 uK I hN hi hx r (fun s' I' _=>h s' I') hf
theorem Inv.call'{s':KC}{ch:List Addr}(I:Inv X pins σ H s)(ho:s'.os=s.os)(u:Un (frs X.stack) ch H H' s.heap s'.heap)(hok:HOk X.prog X.w H' s'.heap)(hg:P7 s'.gens)
  (hch:∀b∈ch,(b∈X.ex\/X.s₀.heap.objs.size<=b)/\b≠X.env.locals/\(∀x c,X.env.cells.lookup x=some c->c≠b)/\∀p∈X.pn++pins,p.1≠b):Inv X pins σ H' s':=by
 obtain⟨h',g',d',t',o'⟩:=s';have e:o'=s.os:=ho;subst e;exact I.call (g':=g') (t':=t') (d':=d') u hok hg hch
end
abbrev XK:=KB->Option Addr->Hp->Prop
abbrev St:=List (Option V)
abbrev VK:=V->Hp->Prop
abbrev TE:=St->Hp->VK->Prop
abbrev TT:=St->Hp->(Bool->Hp->Prop)->Prop
abbrev TA:=St->Hp->(List V->Hp->Prop)->Prop
structure Ends where
 nx:St->Hp->Prop
 rt:VK
 bk:St->Hp->Prop:=fun _ _=>False
 ct:St->Hp->Prop:=fun _ _=>False
abbrev TS:=Ends->St->Hp->Prop
def EP(X:Cx)(pins:List (Addr×Obj))(σ:St)(Q:VK)(u:KB)(s':KC):Prop:=∃v H',Inv X pins σ H' s'/\RelV v u/\Q v H'
def TP(X:Cx)(pins:List (Addr×Obj))(σ:St)(Q:Bool->Hp->Prop)(b:Bool)(s':KC):Prop:=∃H',Inv X pins σ H' s'/\Q b H'
def AP(X:Cx)(pins:List (Addr×Obj))(σ:St)(Q:List V->Hp->Prop)(us:List KB)(s':KC):Prop:=∃vs H',Inv X pins σ H' s'/\Vals vs us/\Q vs H'
def SP(X:Cx)(pins:List (Addr×Obj))(D:Ends)(f:Flow)(s':KC):Prop:=
 match f with
 | .next=>∃σ' H',Inv X pins σ' H' s'/\D.nx σ' H'
 | .brk=>∃σ' H',Inv X pins σ' H' s'/\D.bk σ' H'
 | .cont=>∃σ' H',Inv X pins σ' H' s'/\D.ct σ' H'
 | .ret u=>∃v σ' H',Inv X pins σ' H' s'/\RelV v u/\D.rt v H'
def PE(X:Cx)(e:Expr)(t:TE):Prop:=
 ∀(pins:List (Addr×Obj))(s:KC)(σ:St)(H:Hp)(Q:VK),Inv X pins σ H s->t σ H Q->LC (LU X.prog X.w) X.A (M7 e X.env) (EP X pins σ Q) X.xe s
def PT(X:Cx)(e:Expr)(t:TT):Prop:=
 ∀(pins:List (Addr×Obj))(s:KC)(σ:St)(H:Hp)(Q:Bool->Hp->Prop),Inv X pins σ H s->t σ H Q->LC (LU X.prog X.w) X.A (isTrue e X.env (M7 e X.env)) (TP X pins σ Q) X.xe s
def PW(X:Cx)(e:Expr)(t:TT):Prop:=
 ∀(whole:Sem KB)(pins:List (Addr×Obj))(s:KC)(σ:St)(H:Hp)(Q:Bool->Hp->Prop),Inv X pins σ H s->t σ H Q->LC (LU X.prog X.w) X.A (isTrue e X.env whole) (TP X pins σ Q) X.xe s
theorem PW.pt{X:Cx}{e:Expr}{t:TT}(h:PW X e t):PT X e t:=h _
def PA(X:Cx)(es:List Expr)(t:TA):Prop:=
 ∀(pos:Ma)(pins:List (Addr×Obj))(s:KC)(σ:St)(H:Hp)(Q:List V->Hp->Prop),Inv X pins σ H s->t σ H Q->LC (LU X.prog X.w) X.A (spliced (Nh pos (LA es X.env))) (AP X pins σ Q) X.xe s
def PS(X:Cx)(st:Stmt)(t:TS):Prop:=
 ∀(pins:List (Addr×Obj))(s:KC)(σ:St)(H:Hp)(D:Ends),Inv X pins σ H s->t D σ H->LC (LU X.prog X.w) X.A (exec st X.env) (SP X pins D) X.xe s
def PSs(X:Cx)(st:List Stmt)(t:TS):Prop:=
 ∀(pins:List (Addr×Obj))(s:KC)(σ:St)(H:Hp)(D:Ends),Inv X pins σ H s->t D σ H->LC (LU X.prog X.w) X.A (execs st X.env) (SP X pins D) X.xe s
theorem thn{α:Type}{t:Sem α}{Q Q':α->KC->Prop}{M:Model}{A:LR}{E:KB->KC->Prop}{s:KC}(h:LC M A t Q E s)(hQ:∀a s,Q a s->Q' a s):LC M A t Q' E s:=MO h hQ fun _ _ x=>x
end L2
namespace L2
open PySem PySem.Spec PyProof.Rows
section
variable{X : Cx}
def Ju(i:Nat):TE:=fun σ H Q=>∃v,σ[i]?=some (some v)/\Q v H
def tC(v:V):TE:=fun _ H Q=>Q v H
theorem gw {i:Nat} {x:Str} {pos:Ma} (hN:X.N[i]?=some x) (hv:Vis X.env.scope x) (hd:(x == ("__debug__":Str))=false:=by decide) (hcd:(x == ("__classdict__":Str))=false:=by decide):PE X (.Name x pos) (Ju i):=by
 intro pins s σ H Q I h;obtain⟨v,e,h⟩:=h;obtain⟨m,hn,hl⟩:=I.loc;obtain⟨u,r,l⟩:=hl i x v hN e hv;have fin:EP X pins σ Q u s:=⟨v,H,I,r,h⟩;rcases l with⟨hk,hm⟩|⟨hk,c,hc,hcell⟩
 ·exact wpAny_Name (wpAny_loadName_local I.ok.kind hk hn hm fin) hd
 ·rcases hk with hk | hk
  ·exact wpAny_Name (wpAny_loadName_cell I.ok.kind hk hc hcell fin) hd
  ·exact wpAny_Name (wpAny_loadName_free I.ok.kind hk hc hcell fin hcd) hd
theorem E8{i j pos}:PE X (.Constant (.int i) j pos) (tC (.int i)):=fun _ _ _ H _ I h=>wpAny_Constant_int ⟨.int i,H,I.tok _,⟨_,rfl⟩,h⟩
theorem Hl{b j pos}:PE X (.Constant (.bool b) j pos) (tC (.bl b)):=fun _ _ _ H _ I h=>Constant_bool ⟨.bl b,H,I,rfl,h⟩
theorem E6{j pos}:PE X (.Constant .none j pos) (tC .non):=fun _ _ _ H _ I h=>Constant_none ⟨.non,H,I,rfl,h⟩
theorem E3{x j pos}:PE X (.Constant (.str x) j pos) (tC (.str x)):=fun _ _ _ H _ I h=>Calls.Constant_str ⟨.str x,H,I.tok _,⟨_,rfl⟩,h⟩
def Gl(X:Cx)(x:Str):Prop:=X.env.kindOf x=some .globalImplicit
theorem qv{E:KB->KC->Prop}{pins:List (Addr×Obj)}{s:KC}{σ:St}{H:Hp}{x:Str}{u:KB}{pos:Ma}{Q:KB->KC->Prop}(I:Inv X pins σ H s)(hg:Gl X x)(hm:X.mg x=some u)(h:Q u s)
  (hd:(x == ("__debug__":Str))=false:=by decide):LC (LU X.prog X.w) X.A (M7 (.Name x pos) X.env) Q E s:=
 QA I.ok.kind hg (Calls.loadGlobal_global (by rw[I.ok.glob];exact I.mod.glob.keeps I.bk) hm h) hd
theorem lL{E:KB->KC->Prop}{pins:List (Addr×Obj)}{s:KC}{σ:St}{H:Hp}{x:Str}{u:KB}{pos:Ma}{Q:KB->KC->Prop}(I:Inv X pins σ H s)(hg:Gl X x)(hm:X.mg x=none)(hv:MY x=some u)(h:Q u s)
  (hn:x≠"__name__":=by decide) (hd:(x == ("__debug__":Str))=false:=by decide):LC (LU X.prog X.w) X.A (M7 (.Name x pos) X.env) Q E s:=by
 obtain⟨mb,h1,h2⟩:=I.mod.blt;exact QA I.ok.kind hg (Calls.loadGlobal_builtin (by rw[I.ok.glob];exact I.mod.glob.keeps I.bk) hm (by rw[I.ok.blt];exact h1.keeps I.bk) ((h2 x hn).trans hv) h) hd
theorem Bs {x:Str} {v:V} {u:KB} {pos:Ma} (hg:Gl X x) (hm:X.mg x=some u) (r:RelV v u) (hd:(x == ("__debug__":Str))=false:=by decide):PE X (.Name x pos) (tC v):=
 fun _ _ _ H _ I h=>qv I hg hm ⟨v,H,I,r,h⟩ hd
theorem Bw {x:Str} {v:V} {u:KB} {pos:Ma} (hg:Gl X x) (hm:X.mg x=none) (hv:MY x=some u) (r:RelV v u) (hn:x≠"__name__":=by decide) (hd:(x == ("__debug__":Str))=false:=by decide):PE X (.Name x pos) (tC v):=
 fun _ _ _ H _ I h=>lL I hg hm hv ⟨v,H,I,r,h⟩ hn hd
variable{a b : Expr}{ta tb : TE}{pos : Ma}
variable{tA tB' : TT}{rest : List Expr}
def JF(t u:TT):TT:=fun σ H Q=>t σ H fun c H1=>if c=true then u σ H1 Q else Q false H1
def tOr(t u:TT):TT:=fun σ H Q=>t σ H fun c H1=>if c=true then Q true H1 else u σ H1 Q
def JA(t:TT):TT:=fun σ H Q=>t σ H fun c H1=>Q (!c) H1
theorem Bf(ha:PT X a tA):PW X (.BoolOp .And [a] pos) tA:=by
 intro wh pins s σ H Q I h;refine isTrue_and (thn (ha pins s σ H Q I h) fun c s1 e=>?_);cases c with
 | true=>exact isTrue_and_nil e
 | false=>exact e
theorem DR(ha:PT X a tA):PW X (.BoolOp .Or [a] pos) tA:=by
 intro wh pins s σ H Q I h;refine isTrue_or (thn (ha pins s σ H Q I h) fun c s1 e=>?_);cases c with
 | false=>exact isTrue_or_nil e
 | true=>exact e
theorem DS(ha:PT X a tA)(hb:PW X (.BoolOp .And (b::rest) pos) tB'):PW X (.BoolOp .And (a::b::rest) pos) (JF tA tB'):=by
 intro wh pins s σ H Q I h;refine isTrue_and (thn (ha pins s σ H _ I h) fun c s1 ⟨H1,I1,q1⟩=>?_);cases c with
 | true=>exact hb wh pins s1 σ H1 Q I1 q1
 | false=>exact⟨H1,I1,q1⟩
theorem Hf(ha:PT X a tA)(hb:PW X (.BoolOp .Or (b::rest) pos) tB'):PW X (.BoolOp .Or (a::b::rest) pos) (tOr tA tB'):=by
 intro wh pins s σ H Q I h;refine isTrue_or (thn (ha pins s σ H _ I h) fun c s1 ⟨H1,I1,q1⟩=>?_);cases c with
 | true=>exact⟨H1,I1,q1⟩
 | false=>exact hb wh pins s1 σ H1 Q I1 q1
theorem DU(ha:PT X a tA):PT X (.UnaryOp .Not a pos) (JA tA):=by
 intro pins s σ H Q I h;exact isTrue_not (ha pins s σ H (fun c H1=>Q (!c) H1) I h)
def H0(ta tb:TE):TE:=fun σ H Q=>ta σ H fun x H1=>∃c,x=.bl c/\if c=true then tb σ H1 Q else Q (.bl false) H1
theorem E5{op}{t:TE}(h:PE X a t):PE X (.BoolOp op [a] pos) t:=fun pins s σ H Q I hw=>BoolOp_one (h pins s σ H Q I hw)
theorem Ea(ha:PE X a ta)(hb:PE X (.BoolOp .And (b::rest) pos) tb):PE X (.BoolOp .And (a::b::rest) pos) (H0 ta tb):=by
 intro pins s σ H Q I h;refine BoolOp_and (thn (ha pins s σ H _ I h) fun v s1 ⟨x,H1,I1,r1,q1⟩=>?_);obtain⟨c,rfl,q1⟩:=q1;cases r1;refine Ml ?_;cases c with
 | true=>exact hb pins s1 σ H1 Q I1 q1
 | false=>exact⟨.bl false,H1,I1,rfl,q1⟩
def tIf(t:TT)(ta tb:TE):TE:=fun σ H Q=>t σ H fun c H1=>if c=true then ta σ H1 Q else tb σ H1 Q
theorem yq{c:Expr}(hc:PT X c tA)(ha:PE X a ta)(hb:PE X b tb):PE X (.IfExp c a b pos) (tIf tA ta tb):=by
 intro pins s σ H Q I h;refine wpAny_IfExp (thn (hc pins s σ H _ I h) fun d s1 ⟨H1,I1,q1⟩=>?_);cases d with
 | true=>exact ha pins s1 σ H1 Q I1 q1
 | false=>exact hb pins s1 σ H1 Q I1 q1
end
end L2
namespace L2
open PySem PySem.Spec PyProof.Rows
def SqL(K:KA)(H:Hp)(a:Addr)(xs:List V):Prop:=
 Rd H a (.lst xs) ∨
  ∃(o:Obj) (its:Array KB) (n:Nat),K.lookup a=some o/\o.cls=.type "list"/\o.dict=none/\o.data=.seq its n/\its.size<=sizeLine/\Vals xs its.toList
def SqT(K:KA)(H:Hp)(a:Addr)(xs:List V):Prop:=
 Rd H a (.tup xs) ∨
  ∃(o:Obj) (its:Array KB) (n:Nat),K.lookup a=some o/\o.cls=.type "tuple"/\o.data=.seq its n/\its.size<=sizeLine/\Vals xs its.toList/\o.dict=none
def Kh:KB->Option V
 | .none=>some .non
 | .bool b=>some (.bl b)
 | .int i _=>some (.int i)
 | .str x _=>some (.str x)
 | .bytes b _=>some (.byt b)
 | .float b _=>some (.flt b)
 | .ref a=>some (.ref a)
 | .type n=>some (.ty n)
 | _=>none
theorem RelV.abs{x:V}{u:KB}(r:RelV x u):Kh u=some x:=by
 cases x with
 | non=>cases r;rfl
 | bl _=>cases r;rfl
 | int _=>obtain⟨t,rfl⟩:=r;rfl
 | str _=>obtain⟨t,rfl⟩:=r;rfl
 | byt _=>obtain⟨t,rfl⟩:=r;rfl
 | flt _=>obtain⟨t,rfl⟩:=r;rfl
 | ref _=>cases r;rfl
 | ty _=>cases r;rfl
theorem RelV.inj{x y:V}{u:KB}(r:RelV x u)(q:RelV y u):x=y:=Lh (r.abs.symm.trans q.abs)
theorem Vals.inj:∀{xs ys:List V}{us:List KB},Vals xs us->Vals ys us->xs=ys
 | _,_,_,.nil,.nil=>rfl
 | _,_,_,.cons r t,.cons r' t'=>by rw[r.inj r',Vals.inj t t']
section
variable{X : Cx}{pins : List (Addr×Obj)}{σ : St}{H : Hp}{s : KC}{a : Addr}{xs ys : List V}
theorem SqL.of{K:KA}(h:H a=some (.lst xs)):SqL K H a xs:=.inl (.inl h)
theorem Inv.list(I:Inv X pins σ H s)(h:SqL X.K H a xs):∃its:List KB,Vals xs its/\PlainL s.heap a its.toArray/\xs.length<=sizeLine:=by
 rcases h with h | ⟨o,its,n,hk,hc,hd,hs,hz,r⟩
 ·obtain⟨z,its,n,r,e⟩:=h.ok I.hok
  exact⟨its,r,⟨_,n,e,rfl,rfl,rfl⟩,z⟩
 ·refine⟨its.toList,r,⟨o,n,I.kIn a o hk,hc,hd,by simpa using hs⟩,?_⟩
  have e:=r.length;simp only[Lp] at e;omega
theorem Inv.tuple(I:Inv X pins σ H s)(h:SqT X.K H a xs):∃its:List KB,Vals xs its/\IsTup s.heap a its.toArray/\xs.length<=sizeLine:=by
 rcases h with h | ⟨o,its,n,hk,hc,hs,hz,r,hdn⟩
 ·obtain⟨z,its,r,p⟩:=h.ok I.hok
  exact⟨its,r,p.up,z⟩
 ·refine⟨its.toList,r,⟨o,I.kIn a o hk,hc,n,by simpa using hs⟩,?_⟩
  have e:=r.length;simp only[Lp] at e;omega
theorem Inv.tupleX(I:Inv X pins σ H s)(h:SqT X.K H a xs):∃its:List KB,Vals xs its/\zx s.heap a its.toArray/\xs.length<=sizeLine:=by
 rcases h with h | ⟨o,its,n,hk,hc,hs,hz,r,hdn⟩
 ·obtain⟨z,its,r,p⟩:=h.ok I.hok
  exact⟨its,r,p,z⟩
 ·refine⟨its.toList,r,⟨o,I.kIn a o hk,hc,⟨n,by simpa using hs⟩,fun _=>hdn⟩,?_⟩
  have e:=r.length;simp only[Lp] at e;omega
theorem Inv.list_inj(I:Inv X pins σ H s)(h:SqL X.K H a xs)(h':SqL X.K H a ys):xs=ys:=by
 obtain⟨its,r,⟨o,n,e,_,_,d⟩,_⟩:=I.list h;obtain⟨its',r',⟨o',n',e',_,_,d'⟩,_⟩:=I.list h';rw[e] at e';cases e';rw[d] at d';injection d' with d1 _;have:its=its':=by simpa using congrArg Array.toList d1
 subst this;exact r.inj r'
theorem Inv.tuple_inj(I:Inv X pins σ H s)(h:SqT X.K H a xs)(h':SqT X.K H a ys):xs=ys:=by
 obtain⟨its,r,⟨o,e,_,n,d⟩,_⟩:=I.tuple h;obtain⟨its',r',⟨o',e',_,n',d'⟩,_⟩:=I.tuple h';rw[e] at e';cases e';rw[d] at d';injection d' with d1 _;have:its=its':=by simpa using congrArg Array.toList d1
 subst this;exact r.inj r'
end
abbrev Cx.wish(X:Cx)(E:KB->KC->Prop):Cx:={ X with xe:=E }
abbrev Cx.nox(X:Cx):Cx:=X.wish fun _ _=>False
theorem Cx.Ok.wish{X:Cx}(ok:X.Ok)(E:KB->KC->Prop):(X.wish E).Ok:=
 ⟨ok.mod,ok.kind,ok.glob,ok.blt,ok.above,ok.inj,ok.has,ok.cab,ok.hd,ok.frames,ok.stk,ok.exf,ok.bs,ok.bsz,ok.noex,ok.exfs,ok.funs,ok.frf⟩
theorem Cx.Ok.unwish{X:Cx}{E:KB->KC->Prop}(ok:(X.wish E).Ok):X.Ok:=
 ⟨ok.mod,ok.kind,ok.glob,ok.blt,ok.above,ok.inj,ok.has,ok.cab,ok.hd,ok.frames,ok.stk,ok.exf,ok.bs,ok.bsz,ok.noex,ok.exfs,ok.funs,ok.frf⟩
section
variable{X : Cx}{pins : List (Addr×Obj)}{σ : St}{H : Hp}{s : KC}{E : KB → KC → Prop}
theorem Inv.wish(I:Inv X pins σ H s)(E:KB->KC->Prop):Inv (X.wish E) pins σ H s:=⟨I.ok.wish E,I.os,I.bare,I.base,I.loc,I.cell,I.free,I.freeC,I.pin,I.hok,I.len⟩
theorem Inv.unwish(I:Inv (X.wish E) pins σ H s):Inv X pins σ H s:=⟨I.ok.unwish,I.os,I.bare,I.base,I.loc,I.cell,I.free,I.freeC,I.pin,I.hok,I.len⟩
theorem SP.unwish{D:Ends}{f:Flow}{s':KC}(h:SP (X.wish E) pins D f s'):SP X pins D f s':=by
 cases f with
 | next=>obtain⟨σ',H',I,q⟩:=h;exact⟨σ',H',I.unwish,q⟩
 | brk=>obtain⟨σ',H',I,q⟩:=h;exact⟨σ',H',I.unwish,q⟩
 | cont=>obtain⟨σ',H',I,q⟩:=h;exact⟨σ',H',I.unwish,q⟩
 | ret u=>obtain⟨v,σ',H',I,r,q⟩:=h;exact⟨v,σ',H',I.unwish,r,q⟩
theorem PSs.nox{st:List Stmt}{t:TS}(h:PSs X.nox st t):PSs X st t:=fun pins s σ H D I hw=>
 MO (h pins s σ H D (I.wish _) hw) (fun _ _ q=>q.unwish) fun _ _ z=>KJ z
end
section
variable{X : Cx}{st : Stmt}{rest : List Stmt}{t u : TS}{e : Expr}{te : TE}{pos : Ma}
def GV:TS:=fun D σ H=>D.nx σ H
def Jy(t u:TS):TS:=fun D σ H=>t { D with nx:=u D } σ H
theorem uV:PSs X [] GV:=fun _ _ σ H _ I h=>P9 ⟨σ,H,I,h⟩
theorem i5(h1:PS X st t)(h2:PSs X rest u):PSs X (st::rest) (Jy t u):=by
 intro pins s σ H D I h;refine wpAny_execs_cons (thn (h1 pins s σ H { D with nx:=u D } I h) fun f s1 q=>?_);cases f with
 | next=>
  obtain⟨σ',H',I',q⟩:=q;exact h2 pins s1 σ' H' D I' q
 | ret v=>exact q
 | brk=>exact q
 | cont=>exact q
theorem o5(h1:PS X st t):PSs X [st] t:=by
 intro pins s σ H D I h;refine wpAny_execs_cons (thn (h1 pins s σ H D I h) fun f s1 q=>?_);cases f with
 | next=>exact P9 q
 | ret v=>exact q
 | brk=>exact q
 | cont=>exact q
def DC:TS:=fun D σ H=>D.bk σ H
theorem yn:PS X (.Break pos) DC:=fun _ _ σ H _ I h=>wpAny_Break ⟨σ,H,I,h⟩
theorem Inv.quiet{pins:List (Addr×Obj)}{σ:St}{H:Hp}{s:KC}(I:Inv X pins σ H s):interactive X.env=false:=by simp[interactive,I.ok.kind]
def GW(te:TE):TS:=fun D σ H=>te σ H fun _ H1=>D.nx σ H1
theorem Bj(he:PE X e te)(hs:NQ e none pos.line X.env=pure false:=by rfl):PS X (.Expr e pos) (GW te):=by
 intro pins s σ H D I h;exact wpAny_Expr_any (thn (he pins s σ H _ I h) fun v s1 ⟨x,H1,I1,r1,q1⟩=>⟨σ,H1,I1,q1⟩) I.quiet hs
def Jz(te:TE):TS:=fun D σ H=>te σ H D.rt
theorem rj(he:PE X e te):PS X (.Return (some e) pos) (Jz te):=by
 intro pins s σ H D I h;exact wpAny_Return_some (thn (he pins s σ H _ I h) fun v s1 ⟨x,H1,I1,r1,q1⟩=>⟨x,σ,H1,I1,r1,q1⟩)
def JC(c:TT)(t u:TS):TS:=fun D σ H=>c σ H fun b H1=>if b=true then t D σ H1 else u D σ H1
theorem DV{c:Expr}{a b:List Stmt}{tc:TT}(hc:PT X c tc)(ha:PSs X a t)(hb:PSs X b u):PS X (.If c a b pos) (JC tc t u):=by
 intro pins s σ H D I h;refine wpAny_If (thn (hc pins s σ H _ I h) fun d s1 ⟨H1,I1,q1⟩=>?_);cases d with
 | true=>exact ha pins s1 σ H1 D I1 q1
 | false=>exact hb pins s1 σ H1 D I1 q1
end
abbrev TG:=V->St->Hp->(St->Hp->Prop)->Prop
abbrev TGs:=List V->St->Hp->(St->Hp->Prop)->Prop
def PG(X:Cx)(target:Expr)(t:TG):Prop:=
 ∀(pins:List (Addr×Obj))(s:KC)(σ:St)(H:Hp)(v:V)(u:KB)(Q:St->Hp->Prop),Inv X pins σ H s->RelV v u->t v σ H Q->
  LC (LU X.prog X.w) X.A (PZ target X.env u) (fun _ s'=>∃σ' H',Inv X pins σ' H' s'/\Q σ' H') X.xe s
def PGs(X:Cx)(ts:List Expr)(t:TGs):Prop:=
 ∀(pins:List (Addr×Obj))(s:KC)(σ:St)(H:Hp)(vs:List V)(us:List KB)(Q:St->Hp->Prop),Inv X pins σ H s->Vals vs us->t vs σ H Q->
  LC (LU X.prog X.w) X.A (assignInOrder ((Me ts X.env).map (·.2)) us) (fun _ s'=>∃σ' H',Inv X pins σ' H' s'/\Q σ' H') X.xe s
abbrev Kj:=V->V->V->Hp->(Hp->Prop)->Prop
abbrev TIp:=V->V->Hp->VK->Prop
def PIp(X:Cx)(op:Operator)(t:TIp):Prop:=
 ∀(pins:List (Addr×Obj))(s:KC)(σ:St)(H:Hp)(x y:V)(v u:KB)(Q:VK),Inv X pins σ H s->RelV x v->RelV y u->t x y H Q->
  LC (LU X.prog X.w) X.A (inplaceOp op v u) (EP X pins σ Q) X.xe s
section
variable{X : Cx}{pos : Ma}
def yQ(i:Nat):TG:=fun v σ H Q=>Q (σ.set i (some v)) H
theorem o6{i:Nat}{x:Str}(hN:X.N.Nodup)(hi:X.N[i]?=some x)(hx:Loc X.env.scope x)(hf:X.fn x=true\/X.env.scope.names.lookup x=some .local:=by first | exact .inl rfl | exact .inr rfl | assumption):PG X (.Name x pos) (yQ i):=by
 intro pins s σ H v u Q I r h;exact wpAny_assign_Name (kO I hN hi hx r (fun s' I'=>⟨_,H,I',h⟩) hf)
def K7:TGs:=fun vs σ H Q=>vs=[]/\Q σ H
def Ih(t:TG)(u:TGs):TGs:=fun vs σ H Q=>∃v r,vs=v::r/\t v σ H fun σ' H'=>u r σ' H' Q
theorem v8:PGs X [] K7:=by
 intro pins s σ H vs us Q I r h;obtain⟨e,h⟩:=h;subst e;cases r;exact assignInOrder_nil ⟨σ,H,I,h⟩
theorem rB{e:Expr}{es:List Expr}{t:TG}{u:TGs}(h1:PG X e t)(h2:PGs X es u)
  (hs:(Me (e::es) X.env).map (·.2)=PZ e X.env::(Me es X.env).map (·.2):=by rfl):PGs X (e::es) (Ih t u):=by
 intro pins s σ H vs us Q I r h;obtain⟨v,vr,e1,h⟩:=h;subst e1;cases r with
 | cons r rr=>
  rw[hs];refine assignInOrder_cons (thn (h1 pins s σ H _ _ _ I r h) fun _ s1 ⟨σ1,H1,I1,q1⟩=>?_);exact h2 pins s1 σ1 H1 _ _ Q I1 rr q1
def K6(K:KA)(n:Nat)(t:TGs):TG:=fun v σ H Q=>∃a xs,v=.ref a/\SqT K H a xs/\xs.length=n/\t xs σ H Q
theorem zT{es:List Expr}{k:Nat}{t:TGs}{n:Nat}(hc:X.calm=true)(h:PGs X es t)
  (hn:(Me es X.env).length=n:=by rfl) (hst:(Me es X.env).findIdx? (·.1)=none:=by rfl):PG X (.Tuple es k pos) (K6 X.K n t):=by
 intro pins s σ H v u Q I r hw;obtain⟨a,xs,e1,hq,hl,hw⟩:=hw;subst e1;cases r;obtain⟨its,rv,ht,hz⟩:=I.tuple hq;refine assign_Tuple_tuple (I.ok.hd hc) ht (by simp[hn,← hl,rv.length]) hst fun h' hx=>?_;have I1:Inv X pins σ H { s with heap:=h' }:=I.kept (t':=s.toks) fun b o e=>hx b o (LQ (KZ e)) e;exact h pins _ σ H xs _ Q I1 (by simpa using rv) hw
def um(to ti:TE)(t:Kj):TG:=fun v σ H Q=>to σ H fun o H1=>ti σ H1 fun i H2=>t o i v H2 fun H3=>Q σ H3
def GZ(te:TE)(g:TG):TS:=fun D σ H=>te σ H fun x H1=>g x σ H1 D.nx
theorem uW{i:Nat}{x:Str}{e:Expr}{te:TE}{pos':Ma}(hN:X.N.Nodup)(hi:X.N[i]?=some x)(hx:Loc X.env.scope x)(he:PE X e te)(hs:NQ e (some (.Name x pos')) pos.line X.env=pure false:=by rfl)(hf:X.fn x=true\/X.env.scope.names.lookup x=some .local:=by first | exact .inl rfl | exact .inr rfl | assumption) :
  PS X (.Assign [.Name x pos'] e pos) (GZ te (yQ i)):=by
 intro pins s σ H D I h;refine wpAny_Assign_Name (thn (he pins s σ H _ I h) fun v s1 ⟨y,H1,I1,r1,q1⟩=>?_) hs;exact kO I1 hN hi hx r1 (fun s2 I2=>⟨_,H1,I2,q1⟩) hf
def JE(i:Nat)(te:TE)(ti:TIp):TS:=fun D σ H=>∃x,σ[i]?=some (some x)/\te σ H fun y H1=>ti x y H1 fun z H2=>D.nx (σ.set i (some z)) H2
theorem DX{i:Nat}{x:Str}{e:Expr}{te:TE}{op:Operator}{ti:TIp}{pos':Ma}(hN:X.N.Nodup)(hi:X.N[i]?=some x)(hx:Loc X.env.scope x)(he:PE X e te)(ho:PIp X op ti)(hf:X.fn x=true\/X.env.scope.names.lookup x=some .local:=by first | exact .inl rfl | exact .inr rfl | assumption) :
  PS X (.AugAssign (.Name x pos') op e pos) (JE i te ti):=by
 intro pins s σ H D I h;obtain⟨v,e1,h⟩:=h;obtain⟨m,hn,hl⟩:=I.loc;have vis:Vis X.env.scope x:=by rcases hx with k | k;exact .inl k;exact .inr (.inl k)
 obtain⟨u,r,l⟩:=hl i x v hi e1 vis;refine wpAny_AugAssign_Name ?_
 have go:LC (LU X.prog X.w) X.A (M7 e X.env) (fun w s₂=>LC (LU X.prog X.w) X.A (inplaceOp op u w) (fun r s₃=>LC (LU X.prog X.w) X.A (Rf X.env x r) (fun _=>SP X pins D .next) X.xe s₃) X.xe s₂) X.xe s:=by
  refine thn (he pins s σ H _ I h) fun w s1 ⟨y,H1,I1,r1,q1⟩=>?_;refine thn (ho pins s1 σ H1 v y u w _ I1 r r1 q1) fun z s2 ⟨zv,H2,I2,r2,q2⟩=>?_;exact kO I2 hN hi hx r2 (fun s3 I3=>⟨_,H2,I3,q2⟩) hf
 rcases l with⟨hk,hm⟩|⟨hk,c,hc,hcell⟩
 ·exact wpAny_loadName_local I.ok.kind hk hn hm go
 ·rcases hk with hk | hk
  ·exact wpAny_loadName_cell I.ok.kind hk hc hcell go
  ·rcases hx with k | k
   ·have:X.env.scope.names.lookup x=some .free:=hk
    rw[k] at this;cases this
   ·have:X.env.scope.names.lookup x=some .free:=hk
    rw[k] at this;cases this
def ipI(f:Int->Int->Int):TIp:=fun x y H Q=>∃i j,x=.int i/\y=.int j/\Q (.int (f i j)) H
theorem Ff:PIp X .Add (ipI fun i j=>i+j):=by
 intro pins s σ H x y v u Q I r1 r2 h;obtain⟨i,j,e1,e2,q⟩:=h;subst e1;subst e2;obtain⟨t,rfl⟩:=r1;obtain⟨t',rfl⟩:=r2;exact iadd_int ⟨.int _,H,I.tok _,⟨_,rfl⟩,q⟩
end
section
variable{X : Cx}{pos : Ma}
def Dx(c:TT)(tb:TS):TS:=fun D σ H=>∃W:Nat->St->Hp->Prop,(∃m,W m σ H)/\∀m σ H,W m σ H->
 c σ H fun b H1=>if b=true then ∃N:St->Hp->Prop,(∀σ' H',N σ' H'->∃m',m'<m/\W m' σ' H')/\tb { D with nx:=N,ct:=N,bk:=D.nx } σ H1 else D.nx σ H1
theorem yk{c:Expr}{body:List Stmt}{tc:TT}{tb:TS}(hp:Ri (LU X.prog X.w) X.A X.env X.xe)(hc:PT X c tc)(hb:PSs X body tb):PS X (.While c body [] pos) (Dx tc tb):=by
 intro pins s σ H D I h;obtain⟨W,⟨m0,w0⟩,turn⟩:=h;refine wpAny_While (codeAny_whileLoop (fun n s'=>∃σ' H',Inv X pins σ' H' s'/\W n σ' H') ?_ m0 ⟨σ,H,I,w0⟩);rintro n s1 ⟨σ1,H1,I1,w1⟩;refine N2 hp (thn (hc pins s1 σ1 H1 _ I1 (turn n σ1 H1 w1)) fun b s2 ⟨H2,I2,q2⟩=>?_);cases b with
 | true=>
  obtain⟨N,hN,q2⟩:=q2;rw[if_pos rfl];refine N2 hp (thn (hb pins s2 σ1 H2 _ I2 q2) fun f s3 q3=>?_);cases f with
  | next=>
   obtain⟨σ3,H3,I3,n3⟩:=q3;obtain⟨m',hm,w3⟩:=hN σ3 H3 n3;exact⟨m',hm,σ3,H3,I3,w3⟩
  | cont=>
   obtain⟨σ3,H3,I3,n3⟩:=q3;obtain⟨m',hm,w3⟩:=hN σ3 H3 n3;exact⟨m',hm,σ3,H3,I3,w3⟩
  | brk=>exact q3
  | ret v=>exact q3
 | false=>
  rw[if_neg KW];exact P9 ⟨σ1,H2,I2,q2⟩
end
structure It where
 go:Nat->Hp->Prop
 yld:Nat->Hp->V->Hp->Prop
 stop:Nat->Hp->Prop
def sL(X:Cx)(pins:List (Addr×Obj))(H:Hp)(b:Addr):Prop:=
 H b=none/\b≠X.env.locals/\b ∉ X.fs/\(b∈X.ex\/X.s₀.heap.objs.size<=b)/\(∀x c,X.env.cells.lookup x=some c->c≠b)/\∀p∈X.pn++pins,p.1≠b
theorem Inv.fpOk{X:Cx}{pins:List (Addr×Obj)}{σ:St}{H H':Hp}{s:KC}{b:Addr}(I:Inv X pins σ H s)(hb:s.heap.objs.size<=b)(hn:H' b=none):sL X pins H' b:=by
 refine⟨hn,Mt (KY I.lt hb),I.nofs hb,.inr (Lk I.sz hb),fun x c e z=>?_,fun p hp z=>?_⟩
 ·obtain⟨v,q⟩:=I.cell x c e
  exact absurd (KY q.lt (by rw[z];exact hb)) (Lx _)
 ·exact absurd (KY (KZ (I.pin p hp).1) (by rw[z];exact hb)) (Lx _)
structure Turn(P:L6)(w:LI)(K:KA)(tg:Expr)(J:It)(fp:List Addr)(it:Addr)(tn:Nat->Heap->Prop):Prop where
 mem:it∈fp
 obj:∀i h,tn i h->∀b∈fp,∃o,h.get? b=some o/\∀v,o.data≠.cell v
 keep:∀i h h',tn i h->(∀b∈fp,∀o,h.get? b=some o->h'.get? b=some o)->tn i h'
 item:∀(X:Cx),X.prog=P->X.w=w->X.K=K->X.calm=true->∀(i:Nat)(pins:List (Addr×Obj))(s:KC)(σ:St)(H:Hp)(E:KB->KC->Prop),Inv X pins σ H s->(∀b∈fp,sL X pins H b)->tn i s.heap->J.go i H->
  LC (LU P w) X.A (pyNext (.ref it)) (fun r s1=>∃u,r=some u/\
   LC (LU P w) X.A (PC tg (.ref it) u) (fun _ s2=>∃x H',Inv X pins σ H' s2/\RelV x u/\J.yld i H x H'/\tn (i+1) s2.heap/\∀b∈fp,H' b=none) E s1) E s
 done:∀(X:Cx),X.prog=P->X.w=w->X.K=K->X.calm=true->∀(i:Nat)(pins:List (Addr×Obj))(s:KC)(σ:St)(H:Hp)(E:KB->KC->Prop),Inv X pins σ H s->(∀b∈fp,sL X pins H b)->tn i s.heap->J.stop i H->
  LC (LU P w) X.A (pyNext (.ref it)) (fun r s1=>r=none/\Inv X pins σ H s1) E s
 self:∀(A:LR)(i:Nat)(s:KC)(Q:KB->KC->Prop)(E:KB->KC->Prop),tn i s.heap->Q (.ref it) s->LC (LU P w) A (pyIter (.ref it)) Q E s
abbrev TI:=St->Hp->(It->Hp->Prop)->Prop
def PIE(X:Cx)(pins:List (Addr×Obj))(σ:St)(tg:Expr)(R:It->Hp->Prop)(itv:KB)(s2:KC):Prop:=
 ∃(it:Addr)(fp:List Addr)(tn:Nat->Heap->Prop)(J:It)(H':Hp),itv=.ref it/\Inv X pins σ H' s2/\Turn X.prog X.w X.K tg J fp it tn/\tn 0 s2.heap/\(∀b∈fp,sL X pins H' b)/\R J H'
def PI(X:Cx)(tg iter:Expr)(wi:TI):Prop:=
 ∀(pins:List (Addr×Obj))(s:KC)(σ:St)(H:Hp)(R:It->Hp->Prop),Inv X pins σ H s->wi σ H R->
  LC (LU X.prog X.w) X.A (M7 iter X.env) (fun v s1=>LC (LU X.prog X.w) X.A (pyIter v) (PIE X pins σ tg R) X.xe s1) X.xe s
theorem w6{M:Model}{A:LR}{E:KB->KC->Prop}{s:KC}{tg:Expr}{it:Addr}{u:KB}{o:Obj}{n:String}{vs:Array KB}{Q:Unit->KC->Prop}(ho:s.heap.get? it=some o)(hc:o.cls=.type n)(hd:o.data=.fields vs)
    (hn:["enumerate","zip","dict_itemiterator","dict_reverseitemiterator","odict_iterator","itertools.zip_longest","itertools.pairwise"].contains n=false) (hQ:Q () s):LC M A (PC tg (.ref it) u) Q E s:=by
  unfold PC
  cases tg <;> first
    | exact KO hQ
    | (cases u <;> first
        | exact KO hQ
        | (refine KF (wpAny_load ho ?_)
           rw[hc,hd];show LC M A (if (["enumerate","zip","dict_itemiterator","dict_reverseitemiterator","odict_iterator","itertools.zip_longest","itertools.pairwise"].contains n && vs[0]? == some (NU _))=true then _ else _) Q E s;rw[if_neg (by intro h;rw[hn,QE] at h;cases h)];exact KO hQ))
def Itl(K:KA)(a:Addr):It:=
 ⟨fun i H=>∃xs x,SqL K H a xs/\xs[i]?=some x,fun i H x H'=>H'=H/\∀xs,SqL K H a xs->xs[i]?=some x,fun i H=>∃xs,SqL K H a xs/\xs.length<=i⟩
def Itt(K:KA)(a:Addr):It:=
 ⟨fun i H=>∃xs x,SqT K H a xs/\xs[i]?=some x,fun i H x H'=>H'=H/\∀xs,SqT K H a xs->xs[i]?=some x,fun i H=>∃xs,SqT K H a xs/\xs.length<=i⟩
def Itr(lo:Int)(n:Nat):It:=⟨fun i _=>i<n,fun i H x H'=>H'=H/\x=.int (lo+i),fun i _=>n<=i⟩
theorem uB{P:L6}{w:LI}{K:KA}{tg:Expr}(a it:Addr):Turn P w K tg (Itl K a) [it] it (fun i h=>h.IsListIter it a i) where
 mem:=by simp
 obj:=fun i h st b hb=>by
  have e:b=it:=by simpa using hb
  subst e;obtain⟨o,e,c,d⟩:=st;exact⟨o,e,fun v z=>by rw[d] at z;cases z⟩
 keep:=fun i h h' st k=>st.at fun o e=>k it (by simp) o e
 item:=by
  intro X hP hw hK hc i pins s σ H E I hf st hg;subst hP hw hK;obtain⟨xs,x,hq,hx⟩:=hg;obtain⟨its,rv,p,hz⟩:=I.list hq;obtain⟨u,hu,ru⟩:=rv.get hx;obtain⟨f0,f1,f2,f3,f4,f5⟩:=hf it (by simp);refine wpAny_pyNext_list_item st p.isList (x:=u) (by simpa using hu) fun h' st' sb=>?_;have I1:Inv X pins σ H { s with heap:=h' }:=I.turned (t':=s.toks) (fun b o hb e=>(sb.2 b hb).trans e) f0 f1 f3 f4 f5;obtain⟨o,e,c,d⟩:=id st';exact⟨u,rfl,w6 (s:={ s with heap:=h' }) e c d (by decide) ⟨x,H,I1,ru,⟨rfl,fun ys hy=>by rw[I.list_inj hy hq];exact hx⟩,st',fun b hb=>(hf b hb).1⟩⟩
 done:=by
  intro X hP hw hK hc i pins s σ H E I hf st hg;subst hP hw hK;obtain⟨xs,hq,hx⟩:=hg;obtain⟨its,rv,p,hz⟩:=I.list hq;obtain⟨f0,f1,f2,f3,f4,f5⟩:=hf it (by simp);have hl:=rv.length;exact wpAny_pyNext_list_end (I.ok.hd hc) st p.isList (by simp;omega) fun h' eb=>⟨rfl,I.turned (t':=s.toks) (fun b o hb e=>eb b o hb e) f0 f1 f3 f4 f5⟩
 self:=fun _ _ _ _ _ st h=>wpAny_pyIter_listiter st h
theorem sN{P:L6}{w:LI}{K:KA}{tg:Expr}(a it:Addr):Turn P w K tg (Itt K a) [it] it (fun i h=>h.IsTupleIter it a i) where
 mem:=by simp
 obj:=fun i h st b hb=>by
  have e:b=it:=by simpa using hb
  subst e;obtain⟨o,e,c,d⟩:=st;exact⟨o,e,fun v z=>by rw[d] at z;cases z⟩
 keep:=fun i h h' st k=>st.at fun o e=>k it (by simp) o e
 item:=by
  intro X hP hw hK hc i pins s σ H E I hf st hg;subst hP hw hK;obtain⟨xs,x,hq,hx⟩:=hg;obtain⟨its,rv,p,hz⟩:=I.tuple hq;obtain⟨u,hu,ru⟩:=rv.get hx;obtain⟨f0,f1,f2,f3,f4,f5⟩:=hf it (by simp);refine Rc st (show s.heap.IsTuple a its.toArray from p) (x:=u) (by simpa using hu) fun h' st' sb=>?_;have I1:Inv X pins σ H { s with heap:=h' }:=I.turned (t':=s.toks) (fun b o hb e=>(sb.2 b hb).trans e) f0 f1 f3 f4 f5;obtain⟨o,e,c,d⟩:=id st';exact⟨u,rfl,w6 (s:={ s with heap:=h' }) e c d (by decide) ⟨x,H,I1,ru,⟨rfl,fun ys hy=>by rw[I.tuple_inj hy hq];exact hx⟩,st',fun b hb=>(hf b hb).1⟩⟩
 done:=by
  intro X hP hw hK hc i pins s σ H E I hf st hg;subst hP hw hK;obtain⟨xs,hq,hx⟩:=hg;obtain⟨its,rv,p,hz⟩:=I.tuple hq;obtain⟨f0,f1,f2,f3,f4,f5⟩:=hf it (by simp);have hl:=rv.length;exact Ro (I.ok.hd hc) st (show s.heap.IsTuple a its.toArray from p) (by simp;omega) fun h' eb=>⟨rfl,I.turned (t':=s.toks) (fun b o hb e=>eb b o hb e) f0 f1 f3 f4 f5⟩
 self:=fun _ _ _ _ _ st h=>wpAny_pyIter_tupleiter st h
theorem sQ{P:L6}{w:LI}{K:KA}{tg:Expr}(it:Addr)(lo:Int)(n:Nat):Turn P w K tg (Itr lo n) [it] it (fun i h=>IsRangeIter h it (lo+(i:Nat) * 1) ((n:Int)-(i:Nat)) 1) where
 mem:=by simp
 obj:=fun i h st b hb=>by
  have e:b=it:=by simpa using hb
  subst e
  exact⟨_,st,fun v z=>by
   have z':Q1 _=P6 v:=z;cases z'⟩
 keep:=fun i h h' st k=>k it (by simp) _ st
 item:=by
  intro X hP hw hK hc i pins s σ H E I hf st hg;subst hP hw hK;obtain⟨f0,f1,f2,f3,f4,f5⟩:=hf it (by simp);have W:=Walks.range (prog:=X.prog) (w:=X.w) (I.ok.hd hc) it lo 1 n;refine W.item i s _ _ hg st fun v h' tk hv st' kk=>?_;obtain⟨t,rfl⟩:=hv;have I1:Inv X pins σ H { s with heap:=h',toks:=tk }:=I.turned (fun b o hb e=>kk b o (by simpa using hb) e) f0 f1 f3 f4 f5;refine⟨_,rfl,w6 (s:={ s with heap:=h',toks:=tk }) (n:="range_iterator") st' rfl rfl (by decide) ⟨.int (lo+i),H,I1,⟨t,?_⟩,⟨rfl,rfl⟩,st',fun b hb=>(hf b hb).1⟩⟩;rw[Int.mul_one]
 done:=by
  intro X hP hw hK hc i pins s σ H E I hf st hg;subst hP hw hK;obtain⟨f0,f1,f2,f3,f4,f5⟩:=hf it (by simp);exact wpAny_pyNext_range_end (I.ok.hd hc) st (by have:n<=i:=hg;omega) fun h' eb=>⟨rfl,I.turned (t':=s.toks) (fun b o hb e=>eb b o hb e) f0 f1 f3 f4 f5⟩
 self:=fun _ _ _ _ _ st h=>wpAny_pyIter_rangeiter st h
end L2
namespace L2
open PySem PySem.Spec PyProof.Rows
section
variable{X : Cx}{tg : Expr}
theorem r9{pins:List (Addr×Obj)}{σ:St}{H:Hp}{s:KC}{R:It->Hp->Prop}{E:KB->KC->Prop}{lo hi:Int}{t u v:Tok}{tk:Nat}(I:Inv X pins σ H s)(h1:-(2 ^ 62)<=lo)(h2:lo<2 ^ 62)(h3:-(2 ^ 62)<=hi)(h4:hi<2 ^ 62)
  (q:R (Itr lo (hi-lo).toNat) H):LC (LU X.prog X.w) X.A (pyIter (.ref s.heap.objs.size)) (PIE X pins σ tg R) E { s with heap:=s.heap.push { cls:=.type "range",data:=.fields #[.int lo t,.int hi u,.int 1 v] },toks:=tk }:=by
 refine wpAny_pyIter_range (IsRange.new ..) (small_one h1 h2 h3 h4) ?_;have I1:Inv X pins σ H { s with heap:=s.heap.push { cls:=.type "range",data:=.fields #[.int lo t,.int hi u,.int 1 v] },toks:=tk }:=I.kept fun b o e=>KL _ e
 refine⟨(s.heap.push { cls:=.type "range",data:=.fields #[.int lo t,.int hi u,.int 1 v] }).objs.size,[(s.heap.push { cls:=.type "range",data:=.fields #[.int lo t,.int hi u,.int 1 v] }).objs.size],_,_,H,rfl,
  I1.kept (t':=tk) fun b o e=>KL _ e,sQ _ lo (hi-lo).toNat,?_,fun b hb=>?_,q⟩
 ·have e1:lo+((0:Nat):Int) * 1=lo:=by simp
  have e2:(((hi-lo).toNat:Nat):Int)-((0:Nat):Int)=Builtin.Range.rangeSize lo hi 1:=by rw[rangeSize_one];split <;> omega
  show IsRangeIter _ _ (lo+((0:Nat):Int) * 1) ((((hi-lo).toNat:Nat):Int)-((0:Nat):Int)) 1;rw[e1,e2];exact LM _ rfl
 ·have e:b=(s.heap.push { cls:=.type "range",data:=.fields #[.int lo t,.int hi u,.int 1 v] }).objs.size:=by simpa using hb
  subst e;exact I1.fpOk (L9 _) (I1.hok.fresh (L9 _))
def Ie(ta:TA):TI:=fun σ H R=>ta σ H fun vs H1=>∃j:Int,vs=[.int j]/\-(2 ^ 62)<=j/\j<2 ^ 62/\R (Itr 0 j.toNat) H1
def Ic(ta:TA):TI:=fun σ H R=>ta σ H fun vs H1=>∃i j:Int,vs=[.int i,.int j]/\(-(2 ^ 62)<=i/\i<2 ^ 62/\-(2 ^ 62)<=j/\j<2 ^ 62)/\R (Itr i (j-i).toNat) H1
theorem v7 {a:Expr} {ta:TA} {p pos:Ma} (hg:Gl X "range") (hm:X.mg "range"=none) (ha:PA X [a] ta) (hs:LA [a] X.env=[(false,M7 a X.env)]:=by rfl):PI X tg (.Call (.Name "range" p) [a] [] pos) (Ie ta):=by
 intro pins s σ H R I h;refine Call_ (lL I hg hm boot_range (MF (thn (ha pos pins s σ H _ I h) fun us s1 ⟨vs,H1,I1,r1,q1⟩=>?_) hs rfl));obtain⟨j,e,q1,q2,q⟩:=q1;subst e;cases r1 with
 | cons r rr=>
  cases rr;obtain⟨t,rfl⟩:=r;exact call_range_1 (r9 I1 (by omega) (by omega) q1 q2 (by simpa using q))
theorem v5 {a b:Expr} {ta:TA} {p pos:Ma} (hg:Gl X "range") (hm:X.mg "range"=none) (ha:PA X [a,b] ta) (hs:LA [a,b] X.env=[(false,M7 a X.env),(false,M7 b X.env)]:=by rfl) (hs2:LA [b] X.env=[(false,M7 b X.env)]:=by rfl) :
  PI X tg (.Call (.Name "range" p) [a,b] [] pos) (Ic ta):=by
 intro pins s σ H R I h;refine Call_ (lL I hg hm boot_range (MF (thn (ha pos pins s σ H _ I h) fun us s1 ⟨vs,H1,I1,r1,q1⟩=>?_) (by rw[hs,hs2]) (by rw[hs2];rfl)));obtain⟨i,j,e,⟨q1,q2,q3,q4⟩,q⟩:=q1;subst e;cases r1 with
 | cons r rr=>
  cases rr with
  | cons r' rr=>
   cases rr;obtain⟨t,rfl⟩:=r;obtain⟨t',rfl⟩:=r';exact call_range_2 (r9 I1 q1 q2 q3 q4 q)
def JD(wi:TI)(g:TG)(tb:TS):TS:=fun D σ H=>wi σ H fun J H1=>∃W:Nat->Nat->St->Hp->Prop,(∃m,W 0 m σ H1)/\∀i m σ H,W i m σ H->
 (J.stop i H/\D.nx σ H)\/(J.go i H/\∃N:St->Hp->Prop,(∀σ' H',N σ' H'->∃m',m'<m/\W (i+1) m' σ' H')/\∀x H',J.yld i H x H'->g x σ H' fun σ2 H2=>tb { D with nx:=N,ct:=N,bk:=D.nx } σ2 H2)
def mW(fp:List Addr)(h:Heap):List (Addr×Obj):=fp.filterMap fun b=>(h.get? b).map fun o=>(b,o)
theorem ia{fp:List Addr}{h:Heap}{b:Addr}{o:Obj}(hb:b∈fp)(e:h.get? b=some o):(b,o)∈mW fp h:=Rl.mpr ⟨b,hb,by rw[e];rfl⟩
theorem vf{fp:List Addr}{h:Heap}{p:Addr×Obj}(hp:p∈mW fp h):p.1∈fp/\h.get? p.1=some p.2:=by
 obtain⟨b,hb,e⟩:=Rl.mp hp;cases q:h.get? b with
 | none=>rw[q] at e;cases e
 | some o=>
  rw[q] at e;have e':(b,o)=p:=Lh e;subst e';exact⟨hb,q⟩
theorem Inv.pinned{pins:List (Addr×Obj)}{σ:St}{H:Hp}{s:KC}{fp:List Addr}(I:Inv X pins σ H s)(hf:∀b∈fp,sL X pins H b)(ho:∀b∈fp,∃o,s.heap.get? b=some o/\∀v,o.data≠.cell v):Inv X (pins++mW fp s.heap) σ H s:=
 I.pins_of fun p hp=>(LW.mp hp).elim (fun z=>I.pin p (Ld _ z)) fun z=>by
  obtain⟨hb,e⟩:=vf z;obtain⟨f0,f1,f2,_⟩:=hf p.1 hb;obtain⟨o,e',d⟩:=ho p.1 hb;rw[e] at e';cases e';exact⟨e,f0,f1,f2,d⟩
theorem Inv.unpinned{pins pl:List (Addr×Obj)}{σ:St}{H:Hp}{s:KC}(I:Inv X (pins++pl) σ H s):Inv X pins σ H s:=I.pins_of fun p hp=>I.pin p (Ld _ (N5 _ hp))
theorem DW{iter:Expr}{body:List Stmt}{wi:TI}{g:TG}{tb:TS}{pos:Ma}(hp:Ri (LU X.prog X.w) X.A X.env X.xe)(hc:X.calm=true)(hi:PI X tg iter wi)(hg:PG X tg g)(hb:PSs X body tb)
  (hs:∀x,Nt iter X.env x=pure x:=by intro _;rfl):PS X (.For tg iter body [] pos) (JD wi g tb):=by
 intro pins s σ H D I h;refine wpAny_For (thn (hi pins s σ H _ I h) fun v s1 h1=>thn h1 fun itv s2 h2=>?_) hs;obtain⟨it,fp,tn,J,H2,e,I2,T,st2,f2,W,⟨m0,w0⟩,turn⟩:=h2;subst e;have stat:∀{H':Hp},(∀b∈fp,H' b=none)->∀b∈fp,sL X pins H' b:=fun hn b hb=>⟨hn b hb,(f2 b hb).2⟩;refine codeAny_forLoop_any (fun n s'=>∃i σ' H',Inv X pins σ' H' s'/\tn i s'.heap/\(∀b∈fp,H' b=none)/\W i n σ' H') ?_ m0 ⟨0,σ,H2,I2,st2,fun b hb=>(f2 b hb).1,w0⟩;rintro n s3 ⟨i,σ3,H3,I3,st3,fr3,w3⟩;rcases turn i n σ3 H3 w3 with⟨stop,qn⟩|⟨go,N,hN,step⟩
 ·refine N2 hp (thn (T.done X rfl rfl rfl hc i pins s3 σ3 H3 X.xe I3 (stat fr3) st3 stop) fun r s4 ⟨hr,I4⟩=>?_)
  subst hr;exact P9 ⟨σ3,H3,I4,qn⟩
 ·refine N2 hp (thn (T.item X rfl rfl rfl hc i pins s3 σ3 H3 X.xe I3 (stat fr3) st3 go) fun r s4 ⟨u,hr,h4⟩=>?_)
  subst hr;refine N2 hp (thn h4 fun _ s5 ⟨x,H5,I5,r5,y5,st5,fr5⟩=>?_);have I5':=I5.pinned (stat fr5) (T.obj _ _ st5);refine N2 hp (thn (hg _ s5 σ3 H5 x u _ I5' r5 (step x H5 y5)) fun _ s6 ⟨σ6,H6,I6,q6⟩=>?_);refine N2 hp (thn (hb _ s6 σ6 H6 _ I6 q6) fun f s7 q7=>?_)
  have again:∀{σ7:St}{H7:Hp},Inv X (pins++mW fp s5.heap) σ7 H7 s7->N σ7 H7->∃m,m<n/\∃i σ' H',Inv X pins σ' H' s7/\tn i s7.heap/\(∀b∈fp,H' b=none)/\W i m σ' H':=fun {σ7 H7} I7 n7=>by
   obtain⟨m',hm,w7⟩:=hN σ7 H7 n7;refine⟨m',hm,i+1,σ7,H7,I7.unpinned,T.keep _ _ _ st5 fun b hb o e=>(I7.pin (b,o) (Ld _ (Ld _ (ia hb e)))).1,fun b hb=>?_,w7⟩;obtain⟨o,e,d⟩:=T.obj _ _ st5 b hb;exact(I7.pin (b,o) (Ld _ (Ld _ (ia hb e)))).2.1
  cases f with
  | next=>obtain⟨σ7,H7,I7,n7⟩:=q7;exact again I7 n7
  | cont=>obtain⟨σ7,H7,I7,n7⟩:=q7;exact again I7 n7
  | brk=>obtain⟨σ7,H7,I7,q7⟩:=q7;exact⟨σ7,H7,I7.unpinned,q7⟩
  | ret v=>obtain⟨x7,σ7,H7,I7,r7,q7⟩:=q7;exact⟨x7,σ7,H7,I7.unpinned,r7,q7⟩
end
end L2
namespace L2
open PySem PySem.Spec PyProof.Rows
abbrev R2:=V->V->Hp->VK->Prop
def OpR(X:Cx)(f:KB->KB->Sem KB)(r:R2):Prop:=
 ∀(pins:List (Addr×Obj))(s:KC)(σ:St)(H:Hp)(x y:V)(v u:KB)(Q:VK),Inv X pins σ H s->RelV x v->RelV y u->r x y H Q->
  LC (LU X.prog X.w) X.A (f v u) (EP X pins σ Q) X.xe s
def UnR(X:Cx)(f:KB->Sem KB)(r:V->Hp->VK->Prop):Prop:=
 ∀(pins:List (Addr×Obj))(s:KC)(σ:St)(H:Hp)(x:V)(v:KB)(Q:VK),Inv X pins σ H s->RelV x v->r x H Q->
  LC (LU X.prog X.w) X.A (f v) (EP X pins σ Q) X.xe s
def iZ(X:Cx)(f:KB)(r:List V->Hp->VK->Prop):Prop:=
 ∀(pins:List (Addr×Obj))(s:KC)(σ:St)(H:Hp)(xs:List V)(us:List KB)(Q:VK),Inv X pins σ H s->Vals xs us->r xs H Q->
  LC (LU X.prog X.w) X.A (call f us) (EP X pins σ Q) X.xe s
def Jl(X:Cx)(r:V->Hp->(Bool->Hp->Prop)->Prop):Prop:=
 ∀(pins:List (Addr×Obj))(s:KC)(σ:St)(H:Hp)(x:V)(v:KB)(Q:Bool->Hp->Prop),Inv X pins σ H s->RelV x v->r x H Q->
  LC (LU X.prog X.w) X.A (truthy v) (TP X pins σ Q) X.xe s
def tOp(r:R2)(ta tb:TE):TE:=fun σ H Q=>ta σ H fun x H1=>tb σ H1 fun y H2=>r x y H2 Q
def tUn(r:V->Hp->VK->Prop)(ta:TE):TE:=fun σ H Q=>ta σ H fun x H1=>r x H1 Q
def rI(C:Int->Int->Prop)(g:Int->Int->V):R2:=fun x y H Q=>∃i j,x=.int i/\y=.int j/\C i j/\Q (g i j) H
def rI0(g:Int->Int->V):R2:=fun x y H Q=>∃i j,x=.int i/\y=.int j/\Q (g i j) H
def rU(g:Int->V):V->Hp->VK->Prop:=fun x H Q=>∃i,x=.int i/\Q (g i) H
section
variable{X : Cx}{a b c : Expr}{ta tb tc : TE}{pos : Ma}
theorem Iu(ha:PE X a ta)(hb:PE X b tb){pins:List (Addr×Obj)}{s:KC}{σ:St}{H:Hp}{R:V->V->Hp->Prop}(I:Inv X pins σ H s)
  (h:ta σ H fun x H1=>tb σ H1 fun y H2=>R x y H2) {Q:KB->KC->Prop} {f:KB->KB->Sem KB}
  (hf:∀v u s2 x y H2,Inv X pins σ H2 s2->RelV x v->RelV y u->R x y H2->LC (LU X.prog X.w) X.A (f v u) Q X.xe s2) :
  LC (LU X.prog X.w) X.A (M7 a X.env) (fun v s₁=>LC (LU X.prog X.w) X.A (M7 b X.env) (fun u s₂=>LC (LU X.prog X.w) X.A (f v u) Q X.xe s₂) X.xe s₁) X.xe s:=by
 refine thn (ha pins s σ H _ I h) fun v s1 ⟨x,H1,I1,r1,q1⟩=>?_;refine thn (hb pins s1 σ H1 _ I1 q1) fun u s2 ⟨y,H2,I2,r2,q2⟩=>?_;exact hf v u s2 x y H2 I2 r1 r2 q2
theorem E4{op:Operator}{r:R2}(ho:OpR X (Mr op) r)(ha:PE X a ta)(hb:PE X b tb):PE X (.BinOp a op b pos) (tOp r ta tb):=by
 intro pins s σ H Q I h;exact wpAny_BinOp (Iu ha hb I h fun v u s2 x y H2 I2 rx ry q=>ho pins s2 σ H2 x y v u Q I2 rx ry q)
theorem Hj{op:UnaryOp}{r:V->Hp->VK->Prop}(ho:UnR X (unaryOp op) r)(ha:PE X a ta):PE X (.UnaryOp op a pos) (tUn r ta):=by
 intro pins s σ H Q I h;exact UnaryOp_ (thn (ha pins s σ H _ I h) fun v s1 ⟨x,H1,I1,r1,q1⟩=>ho pins s1 σ H1 x v Q I1 r1 q1)
theorem opI{f:KB->KB->Sem KB}{C:Int->Int->Prop}{g:Int->Int->Int}
  (rule:∀(i j:Int)(t u:Tok)(s:KC)(Q:KB->KC->Prop)(E:KB->KC->Prop),C i j->Q (.int (g i j) s.toks) { s with toks:=s.toks+1 }->LC (LU X.prog X.w) X.A (f (.int i t) (.int j u)) Q E s) :
  OpR X f (rI C fun i j=>.int (g i j)):=by
 intro pins s σ H x y v u Q I rx ry h;obtain⟨i,j,rfl,rfl,hc,q⟩:=h;obtain⟨t,rfl⟩:=rx;obtain⟨t',rfl⟩:=ry;exact rule i j t t' s _ _ hc ⟨.int (g i j),H,I.tok _,⟨_,rfl⟩,q⟩
theorem J5{f:KB->KB->Sem KB}{g:Int->Int->Int}
  (rule:∀(i j:Int)(t u:Tok)(s:KC)(Q:KB->KC->Prop)(E:KB->KC->Prop),Q (.int (g i j) s.toks) { s with toks:=s.toks+1 }->LC (LU X.prog X.w) X.A (f (.int i t) (.int j u)) Q E s) :
  OpR X f (rI0 fun i j=>.int (g i j)):=by
 intro pins s σ H x y v u Q I rx ry h;obtain⟨i,j,rfl,rfl,q⟩:=h;obtain⟨t,rfl⟩:=rx;obtain⟨t',rfl⟩:=ry;exact rule i j t t' s _ _ ⟨.int (g i j),H,I.tok _,⟨_,rfl⟩,q⟩
theorem HD{f:KB->KB->Sem KB}{g:Int->Int->Bool}
  (rule:∀(i j:Int)(t u:Tok)(s:KC)(Q:KB->KC->Prop)(E:KB->KC->Prop),Q (.bool (g i j)) s->LC (LU X.prog X.w) X.A (f (.int i t) (.int j u)) Q E s) :
  OpR X f (rI0 fun i j=>.bl (g i j)):=by
 intro pins s σ H x y v u Q I rx ry h;obtain⟨i,j,rfl,rfl,q⟩:=h;obtain⟨t,rfl⟩:=rx;obtain⟨t',rfl⟩:=ry;exact rule i j t t' s _ _ ⟨.bl (g i j),H,I,rfl,q⟩
def Kl(i j:Int):Prop:=0<j/\j<1073741824
def Iz(i j:Int):Prop:=(-(2 ^ 64)<i/\i<2 ^ 64)\/(-(2 ^ 64)<j/\j<2 ^ 64)
theorem Iz.ok{i j:Int}(h:Iz i j):IntMulOk i j:=by
 rcases h with⟨h1,h2⟩|⟨h1,h2⟩
 ·exact .of_left (intBits_le_64 h1 h2)
 ·exact .of_right (intBits_le_64 h1 h2)
theorem Eg:OpR X (Mr .Add) (rI0 fun i j=>.int (i+j)):=J5 fun _ _ _ _ _ _ _ q=>add_int q
theorem Eb:OpR X (Mr .Sub) (rI0 fun i j=>.int (i-j)):=J5 fun _ _ _ _ _ _ _ q=>sub_int q
theorem Ec:OpR X (Mr .Mult) (rI Iz fun i j=>.int (i * j)):=opI fun _ _ _ _ _ _ _ hc q=>mul_int q hc.ok
theorem BC:OpR X (Mr .FloorDiv) (rI Kl fun i j=>.int (i / j)):=opI fun i j _ _ _ _ _ hc q=>by
 have h1:(0:Int)<j:=hc.1;have h2:j<1073741824:=hc.2;exact floordiv_int (by omega) (by rw[Int.fdiv_eq_ediv_of_nonneg i (by omega)];exact q) (.inl (PyProof.noPylong_small (by omega)))
theorem Ee:OpR X (Mr .Mod) (rI (fun _ j=>0<j) fun i j=>.int (i % j)):=opI fun i j _ _ _ _ _ hc q=>by
 have h1:(0:Int)<j:=hc;exact mod_int' (by omega) (by rw[Int.fmod_eq_emod_of_nonneg i (by omega)];exact q)
theorem unI{f:KB->Sem KB}{g:Int->Int}
  (rule:∀(i:Int)(t:Tok)(s:KC)(Q:KB->KC->Prop)(E:KB->KC->Prop),Q (.int (g i) s.toks) { s with toks:=s.toks+1 }->LC (LU X.prog X.w) X.A (f (.int i t)) Q E s) :
  UnR X f (rU fun i=>.int (g i)):=by
 intro pins s σ H x v Q I rx h;obtain⟨i,rfl,q⟩:=h;obtain⟨t,rfl⟩:=rx;exact rule i t s _ _ ⟨.int (g i),H,I.tok _,⟨_,rfl⟩,q⟩
theorem Dt:UnR X (unaryOp .USub) (rU fun i=>.int (-i)):=unI fun _ _ _ _ _ q=>neg_int q
end
def CO:V->V->Bool
 | .non,.non=>true | .non,.int _=>true | .int _,.non=>true | .non,.bl _=>true | .bl _,.non=>true | .non,.str _=>true | .str _,.non=>true
 | .int _,.int _=>true | .bl _,.bl _=>true | .str _,.str _=>true | .byt _,.byt _=>true
 | .int _,.str _=>true | .str _,.int _=>true | .bl _,.str _=>true | .str _,.bl _=>true
 | _,_=>false
def rEq:R2:=fun x y H Q=>CO x y=true/\Q (.bl (decide (x=y))) H
def rNe:R2:=fun x y H Q=>CO x y=true/\Q (.bl (!decide (x=y))) H
theorem wV{i j:Int}:decide (V.int i=V.int j)=(i == j):=by
 rw[Mv];simp
theorem AA{i j:Bool}:decide (V.bl i=V.bl j)=(i == j):=by
 rw[Mv];simp
theorem wU{i j:Str}:decide (V.str i=V.str j)=(i == j):=by
 rw[Mv];simp
theorem wW{i j:Array UInt8}:decide (V.byt i=V.byt j)=(i.toList == j.toList):=by
 rw[Mv];cases i;cases j;simp
section
variable{X : Cx}{a b c : Expr}{ta tb tc : TE}{pos : Ma}
theorem bh{pins:List (Addr×Obj)}{σ:St}{H:Hp}{s:KC}{Q:VK}{k k':Bool}(I:Inv X pins σ H s)(q:Q (.bl k) H)(e:k=k'):EP X pins σ Q (.bool k') s:=by
 subst e;exact⟨.bl k,H,I,rfl,q⟩
theorem Hw:OpR X (LZ .Eq) rEq:=by
 intro pins s σ H x y v u Q I rx ry h;obtain⟨hs,q⟩:=h;cases x with
 | non=>
  cases rx;cases y with
  | non=>cases ry;exact PySem.EqNone.eq_none_none (bh I q (by simp))
  | bl j=>cases ry;exact PySem.EqNone.eq_none_bool (bh I q (by simp))
  | int j=>obtain⟨t',rfl⟩:=ry;exact PySem.EqNone.eq_none_int (bh I q (by simp))
  | str j=>obtain⟨t',rfl⟩:=ry;exact PySem.EqNone.eq_none_str (bh I q (by simp))
  | _=>exact absurd (show false=true from hs) KW
 | bl i=>
  cases rx;cases y with
  | non=>cases ry;exact PySem.EqNone.eq_bool_none (bh I q (by simp))
  | bl j=>cases ry;exact eq_bool (bh I q AA)
  | str j=>obtain⟨t',rfl⟩:=ry;exact PySem.EqMixed.eq_bool_str (bh I q (by simp))
  | _=>exact absurd (show false=true from hs) KW
 | int i=>
  obtain⟨t,rfl⟩:=rx;cases y with
  | non=>cases ry;exact PySem.EqNone.eq_int_none (bh I q (by simp))
  | int j=>obtain⟨t',rfl⟩:=ry;exact eq_int (bh I q wV)
  | str j=>obtain⟨t',rfl⟩:=ry;exact PySem.EqMixed.eq_int_str (bh I q (by simp))
  | _=>exact absurd (show false=true from hs) KW
 | str i=>
  obtain⟨t,rfl⟩:=rx;cases y with
  | non=>cases ry;exact PySem.EqNone.eq_str_none (bh I q (by simp))
  | bl j=>cases ry;exact PySem.EqMixed.eq_str_bool (bh I q (by simp))
  | int j=>obtain⟨t',rfl⟩:=ry;exact PySem.EqMixed.eq_str_int (bh I q (by simp))
  | str j=>obtain⟨t',rfl⟩:=ry;exact eq_str (bh I q wU)
  | _=>exact absurd (show false=true from hs) KW
 | byt i=>
  obtain⟨t,rfl⟩:=rx;cases y with
  | byt j=>obtain⟨t',rfl⟩:=ry;exact PySem.W.eq_bytes (bh I q wW)
  | _=>exact absurd (show false=true from hs) KW
 | _=>cases y <;> exact absurd (show false=true from hs) KW
theorem Hr:OpR X (LZ .NotEq) rNe:=by
 intro pins s σ H x y v u Q I rx ry h;obtain⟨hs,q⟩:=h;cases x with
 | non=>
  cases rx;cases y with
  | non=>cases ry;exact PySem.EqNone.ne_none_none (bh I q (by simp))
  | bl j=>cases ry;exact PySem.EqNone.ne_none_bool (bh I q (by simp))
  | int j=>obtain⟨t',rfl⟩:=ry;exact PySem.EqNone.ne_none_int (bh I q (by simp))
  | str j=>obtain⟨t',rfl⟩:=ry;exact PySem.EqNone.ne_none_str (bh I q (by simp))
  | _=>exact absurd (show false=true from hs) KW
 | bl i=>
  cases rx;cases y with
  | non=>cases ry;exact PySem.EqNone.ne_bool_none (bh I q (by simp))
  | bl j=>cases ry;exact ne_bool (bh I q (congrArg not AA))
  | str j=>obtain⟨t',rfl⟩:=ry;exact PySem.EqMixed.ne_bool_str (bh I q (by simp))
  | _=>exact absurd (show false=true from hs) KW
 | int i=>
  obtain⟨t,rfl⟩:=rx;cases y with
  | non=>cases ry;exact PySem.EqNone.ne_int_none (bh I q (by simp))
  | int j=>obtain⟨t',rfl⟩:=ry;exact ne_int (bh I q (congrArg not wV))
  | str j=>obtain⟨t',rfl⟩:=ry;exact PySem.EqMixed.ne_int_str (bh I q (by simp))
  | _=>exact absurd (show false=true from hs) KW
 | str i=>
  obtain⟨t,rfl⟩:=rx;cases y with
  | non=>cases ry;exact PySem.EqNone.ne_str_none (bh I q (by simp))
  | bl j=>cases ry;exact PySem.EqMixed.ne_str_bool (bh I q (by simp))
  | int j=>obtain⟨t',rfl⟩:=ry;exact PySem.EqMixed.ne_str_int (bh I q (by simp))
  | str j=>obtain⟨t',rfl⟩:=ry;exact ne_str (bh I q (congrArg not wU))
  | _=>exact absurd (show false=true from hs) KW
 | byt i=>
  obtain⟨t,rfl⟩:=rx;cases y with
  | byt j=>obtain⟨t',rfl⟩:=ry;exact PySem.W.ne_bytes (bh I q (congrArg not wW))
  | _=>exact absurd (show false=true from hs) KW
 | _=>cases y <;> exact absurd (show false=true from hs) KW
theorem Ht:OpR X (LZ .Lt) (rI0 fun i j=>.bl (decide (i<j))):=HD fun _ _ _ _ _ _ _ q=>lt_int q
theorem Hu:OpR X (LZ .LtE) (rI0 fun i j=>.bl (decide (i<=j))):=HD fun _ _ _ _ _ _ _ q=>le_int q
theorem Hv:OpR X (LZ .Gt) (rI0 fun i j=>.bl (decide (j<i))):=HD fun _ _ _ _ _ _ _ q=>gt_int q
theorem vd:OpR X (LZ .Lt) (fun x y H Q=>∃i j,x=.str i/\y=.str j/\Q (.bl (decide (i.cps.toList<j.cps.toList))) H):=by
 intro pins s σ H x y v u Q I rx ry h;obtain⟨i,j,rfl,rfl,q⟩:=h;obtain⟨t,rfl⟩:=rx;obtain⟨t',rfl⟩:=ry;exact lt_str (bh I q rfl)
theorem ve:OpR X (LZ .In) (fun x y H Q=>∃i j,x=.str i/\y=.str j/\Q (.bl (!(MA j i 0 j.length 1).isEmpty)) H):=by
 intro pins s σ H x y v u Q I rx ry h;obtain⟨i,j,rfl,rfl,q⟩:=h;obtain⟨t,rfl⟩:=rx;obtain⟨t',rfl⟩:=ry;exact in_str (bh I q rfl)
theorem Ef:OpR X (LZ .Is) (fun x y H Q=>y=.non/\Q (.bl (decide (x=.non))) H):=by
 intro pins s σ H x y v u Q I rx ry h;obtain⟨rfl,q⟩:=h;cases ry;refine is_none_gen (bh I q ?_)
 cases x <;> first
  | (cases rx;rfl)
  | (obtain⟨t,rfl⟩:=rx;rfl)
theorem BB:OpR X (LZ .IsNot) (fun x y H Q=>y=.non/\Q (.bl (!decide (x=.non))) H):=by
 intro pins s σ H x y v u Q I rx ry h;obtain⟨rfl,q⟩:=h;cases ry;refine isnot_none_gen (bh I q ?_)
 cases x <;> first
  | (cases rx;rfl)
  | (obtain⟨t,rfl⟩:=rx;rfl)
theorem A9(b:Expr){op:CmpOp}(h:op≠.In:=by decide)(h2:op≠.NotIn:=by decide):OA op b=false:=by
 have e1:(op == CmpOp.In)=false:=by cases op <;> first | rfl | exact absurd rfl h
 have e2:(op == CmpOp.NotIn)=false:=by cases op <;> first | rfl | exact absurd rfl h2
 cases b <;> simp[OA,e1,e2]
theorem Bu{op:CmpOp}{r:R2}(ho:OpR X (LZ op) r)(ha:PE X a ta)(hb:PE X b tb)(hm:OA op b=false):PE X (.Compare a [op] [b] pos) (tOp r ta tb):=by
 intro pins s σ H Q I h;exact wpAny_Compare1 (Iu ha hb I h fun v u s2 x y H2 I2 rx ry q=>ho pins s2 σ H2 x y v u Q I2 rx ry q) hm
def Dy(t:TE):TT:=fun σ H Q=>t σ H fun x H'=>∃k,x=.bl k/\Q k H'
theorem Bi{op:CmpOp}{r:R2}(ho:OpR X (LZ op) r)(ha:PE X a ta)(hb:PE X b tb)(hm:OA op b=false):PT X (.Compare a [op] [b] pos) (Dy (tOp r ta tb)):=by
 intro pins s σ H Q I h
 refine wpAny_isTrue_Compare1 (thn (ha pins s σ H _ I h) fun v s1 ⟨x,H1,I1,r1,q1⟩=>thn (hb pins s1 σ H1 _ I1 q1) fun u s2 ⟨y,H2,I2,r2,q2⟩=>
  thn (ho pins s2 σ H2 x y v u _ I2 r1 r2 q2) fun c s3 ⟨z,H3,I3,r3,k,e,q3⟩=>?_) hm
 subst e;cases r3;exact Ml ⟨H3,I3,q3⟩
def DB(r r':R2)(ta tb tc:TE):TE:=fun σ H Q=>ta σ H fun x H1=>tb σ H1 fun y H2=>r x y H2 fun z H3=>∃k,z=.bl k/\
 (if k=true then tc σ H3 fun w' H4=>r' y w' H4 Q else Q (.bl false) H3)
theorem yj{op op':CmpOp}{r r':R2}(ho:OpR X (LZ op) r)(ho':OpR X (LZ op') r')(ha:PE X a ta)(hb:PE X b tb)(hc:PE X c tc)
  (hm:lastMarks [op,op'] [b,c]=false:=by with_unfolding_all rfl):PT X (.Compare a [op,op'] [b,c] pos) (Dy (DB r r' ta tb tc)):=by
 intro pins s σ H Q I h
 refine isTrue_chain (thn (ha pins s σ H _ I h) fun v s1 ⟨x,H1,I1,r1,q1⟩=>test_link (thn (hb pins s1 σ H1 _ I1 q1) fun u s2 ⟨y,H2,I2,r2,q2⟩=>
  thn (ho pins s2 σ H2 x y v u _ I2 r1 r2 q2) fun d s3 ⟨z,H3,I3,r3,k,e,q3⟩=>?_)) hm
 subst e;cases r3;refine Ml ?_;cases k with
 | false=>
  obtain⟨k',e',q'⟩:=q3;cases e';exact ite_ff ⟨H3,I3,q'⟩
 | true=>
  refine ite_tt (test_last (thn (hc pins s3 σ H3 _ I3 q3) fun w' s4 ⟨z',H4,I4,r4,q4⟩=>thn (ho' pins s4 σ H4 y z' u w' _ I4 r2 r4 q4) fun d' s5 ⟨z2,H5,I5,r5,k2,e2,q5⟩=>?_));subst e2;cases r5;exact Ml ⟨H5,I5,q5⟩
def Ki(K:KA)(x:V)(H:Hp)(k:Bool):Prop:=
 match x with
 | .non=>k=false
 | .bl b=>k=b
 | .int i=>k=(i != 0)
 | .str y=>y.length<=sizeLine/\k=((y.length:Int) != 0)
 | .byt y=>y.size<=sizeLine/\k=((y.size:Int) != 0)
 | .ref p=>(∃xs,SqL K H p xs/\k=!xs.isEmpty)\/(∃xs,SqT K H p xs/\k=!xs.isEmpty)\/∃kvs,H p=some (.dK kvs)/\k=!kvs.isEmpty
 | _=>False
theorem ny{κ:Type}{kvs:List (κ×V)}{vs:List (κ×KB)}(r:KV kvs vs):(!vs.isEmpty)=!kvs.isEmpty:=by
 cases r <;> rfl
theorem nv{xs:List V}{its:List KB}(r:Vals xs its):(!its.toArray.isEmpty)=!xs.isEmpty:=by
 cases r <;> simp
theorem pw:(sizeLine:Nat)<2 ^ 63:=by rw[Li];decide
theorem cZ:Jl X (fun x H Q=>∃k,Ki X.K x H k/\Q k H):=by
 intro pins s σ H x v Q I rx h;obtain⟨k,e,q⟩:=h;have hl:=pw;have hs:sizeLine=16777216:=Li;cases x with
 | non=>
  cases rx;have e':k=false:=e;subst e';exact truthy_none ⟨H,I,q⟩
 | bl b=>
  cases rx;have e':k=b:=e;subst e';exact Ml ⟨H,I,q⟩
 | int i=>
  obtain⟨t,rfl⟩:=rx;have e':k=(i != 0):=e;subst e';exact PySem.P.truthy_int ⟨H,I,q⟩
 | str y=>
  obtain⟨t,rfl⟩:=rx;obtain⟨hy,e'⟩:y.length<=sizeLine/\k=((y.length:Int) != 0):=e;subst e';exact PySem.P.truthy_str (by omega) ⟨H,I.tok _,q⟩
 | byt y=>
  obtain⟨t,rfl⟩:=rx;obtain⟨hy,e'⟩:y.size<=sizeLine/\k=((y.size:Int) != 0):=e;subst e';exact PySem.W.truthy_bytes (by omega) ⟨H,I.tok _,q⟩
 | ref p=>
  cases rx;have e':(∃xs,SqL X.K H p xs/\k=!xs.isEmpty)\/(∃xs,SqT X.K H p xs/\k=!xs.isEmpty)\/∃kvs,H p=some (.dK kvs)/\k=!kvs.isEmpty:=e;rcases e' with⟨xs,hx,e'⟩|⟨xs,hx,e'⟩|⟨kvs,hx,e'⟩
  ·subst e'
   obtain⟨its,r,pl,hz⟩:=I.list hx;have hlen:=r.length;exact wpAny_truthy_list pl.isList (by simp only[LD];omega) ⟨H,I.tok _,by rw[nv r];exact q⟩
  ·subst e'
   obtain⟨its,r,pl,hz⟩:=I.tuple hx;have hlen:=r.length;exact truthy_tuple pl (by simp only[LD];omega) ⟨H,I.tok _,by rw[nv r];exact q⟩
  ·subst e'
   obtain⟨hz,hS,vs,r,m⟩:kvs.length<=sizeLine/\(p == Lo)=false/\∃vs,KV kvs vs/\s.heap.DictOf (aB X.prog X.w) p vs:=I.hok p _ hx;have hlen:kvs.length=vs.length:=Ln r;exact wpAny_truthy_dict hS m (by omega) ⟨H,I.tok _,by rw[ny r];exact q⟩
 | _=>exact(show False from e).elim
theorem tx:OpR X (Mr .Add) (fun x y H Q=>∃i j,x=.str i/\y=.str j/\i.length+j.length<=sizeLine/\Q (.str (i++j)) H):=by
 intro pins s σ H x y v u Q I rx ry h;obtain⟨i,j,rfl,rfl,hz,q⟩:=h;obtain⟨t,rfl⟩:=rx;obtain⟨t',rfl⟩:=ry;exact add_str (fun t' tk=>⟨.str (i++j),H,I.tok _,⟨_,rfl⟩,q⟩) hz
theorem vals1{x:V}{us:List KB}(r:Vals [x] us):∃u,us=[u]/\RelV x u:=by
 cases r with
 | cons r1 r2=>cases r2;exact⟨_,rfl,r1⟩
theorem vals2{x y:V}{us:List KB}(r:Vals [x,y] us):∃u w',us=[u,w']/\RelV x u/\RelV y w':=by
 cases r with
 | cons r1 r2=>
  cases r2 with
  | cons r3 r4=>cases r4;exact⟨_,_,rfl,r1,r3⟩
theorem pR:iZ X (.type "int") (fun xs H Q=>(∃i,xs=[.int i]/\Q (.int i) H)\/∃k,xs=[.bl k]/\Q (.int (if k then 1 else 0)) H):=by
 intro pins s σ H xs us Q I r h;rcases h with⟨i,rfl,q⟩|⟨k,rfl,q⟩
 ·obtain⟨u,rfl,t,rfl⟩:=vals1 r
  exact call_int_int ⟨.int i,H,I,⟨_,rfl⟩,q⟩
 ·obtain⟨u,rfl,r1⟩:=vals1 r
  cases r1;exact call_int_bool ⟨.int (if k then 1 else 0),H,I.tok _,⟨_,rfl⟩,q⟩
def Kk(K:KA)(x:V)(H:Hp)(n:Nat):Prop:=
 match x with
 | .str y=>y.length<=sizeLine/\n=y.length
 | .byt y=>y.size<=sizeLine/\n=y.size
 | .ref p=>(∃xs,SqL K H p xs/\n=xs.length)\/∃xs,SqT K H p xs/\n=xs.length
 | _=>False
theorem oB:iZ X (.builtin "len") (fun xs H Q=>∃x n,xs=[x]/\Kk X.K x H n/\Q (.int n) H):=by
 intro pins s σ H xs us Q I r h;obtain⟨x,n,rfl,e,q⟩:=h;obtain⟨u,rfl,rx⟩:=vals1 r;have hl:=pw;have hs:sizeLine=16777216:=Li;cases x with
 | str y=>
  obtain⟨t,rfl⟩:=rx;obtain⟨hy,e'⟩:y.length<=sizeLine/\n=y.length:=e;subst e';exact len_str (by omega) ⟨.int _,H,I.tok _,⟨_,rfl⟩,q⟩
 | byt y=>
  obtain⟨t,rfl⟩:=rx;obtain⟨hy,e'⟩:y.size<=sizeLine/\n=y.size:=e;subst e';exact PySem.W.len_bytes (by omega) ⟨.int _,H,I.tok _,⟨_,rfl⟩,q⟩
 | ref p=>
  cases rx;have e':(∃xs,SqL X.K H p xs/\n=xs.length)\/∃xs,SqT X.K H p xs/\n=xs.length:=e;rcases e' with⟨xs,hx,e'⟩|⟨xs,hx,e'⟩
  ·subst e'
   obtain⟨its,r',pl,hz⟩:=I.list hx;have hlen:=r'.length;exact Calls.call_len_list pl.isList (by simp only[LD];omega) ⟨.int xs.length,H,I.tok _,⟨_,by simp only[LD];rw[hlen]⟩,q⟩
  ·subst e'
   obtain⟨its,r',pl,hz⟩:=I.tuple hx;have hlen:=r'.length;exact len_tuple pl (by simp only[LD];omega) ⟨.int xs.length,H,I.tok _,⟨_,by simp only[LD];rw[hlen]⟩,q⟩
 | _=>exact(show False from e).elim
end
end L2
namespace L2
open PySem PySem.Spec PyProof.Rows
def uU(f:Str)(v:V):List (Str×V)->List (Str×V)
 | []=>[(f,v)]
 | (g,x)::r=>if g=f then (g,v)::r else (g,x)::uU f v r
theorem qO.some_of{v:V}{o:Option KB}(r:qO (some v) o):∃u,o=some u/\RelV v u:=by
 cases o with
 | none=>exact(show False from r).elim
 | some u=>exact⟨u,rfl,r⟩
theorem qO.none_of{o:Option KB}(r:qO none o):o=none:=by
 cases o with
 | none=>rfl
 | some u=>exact(show False from r).elim
structure Cls(K:KA)(C:Addr):Prop where
 pg:PySem.W.plainGet K C Str.empty=true
 hd:PySem.W.hasDictIn K C=true
 po:PySem.W.plainOver K C=true
 sa:Rt K (.ref C) "__setattr__"=some (some (.builtin "object.__setattr__"))
structure Con(K:KA)(C:Addr)(f:Str)(v:V)(u:KB):Prop where
 at_:Rt K (.ref C) f=some (some u)
 rel:RelV v u
 get:PySem.W.specialIn K u "__get__"=some none
 cp:PySem.W.copiedNames.contains f=false
end L2
namespace L2
open PySem PySem.Spec PyProof.Rows
structure Room(k:Nat)(A:LR):Prop where
 hd:A.handled=none
 dp:A.depth+3 * k+5<recursionLimit
 un:A.units+16 * k+200<cLine
theorem Room.mono{j k:Nat}{A:LR}(r:Room k A)(h:j<=k):Room j A:=⟨r.hd,by have:=r.dp;omega,by have:=r.un;omega⟩
theorem Room.deeper{k:Nat}{A:LR}(r:Room (k+1) A)(env:Pn):Room k (A.deeper env):=
 ⟨r.hd,by have:=r.dp;show A.depth+1+3 * k+5<_;omega,by have:=r.un;show A.units+3+16 * k+200<_;omega⟩
theorem Room.depth{k:Nat}{A:LR}(r:Room k A):A.depth<recursionLimit:=by have:=r.dp;omega
theorem Room.units{k:Nat}{A:LR}(r:Room k A):A.units+64<cLine:=by have:=r.un;omega
def J1:TA:=fun _ H Q=>Q [] H
def AW(ta:TE)(tr:TA):TA:=fun σ H Q=>ta σ H fun x H1=>tr σ H1 fun xs H2=>Q (x::xs) H2
section
variable{X : Cx}{e : Expr}{es : List Expr}{te : TE}{t : TA}{pos : Ma}
theorem iz:PA X [] J1:=fun _ _ _ _ H Q I h=>Calls.spliced_nil ⟨[],H,I,.nil,h⟩
theorem cX(ha:PE X e te)(hr:PA X es t)(hs:LA (e::es) X.env=(false,M7 e X.env)::LA es X.env:=by rfl):PA X (e::es) (AW te t):=by
 intro pos pins s σ H Q I h;rw[hs];show LC _ _ (spliced ((false,M7 e X.env)::Nh pos (LA es X.env))) _ _ s;refine Calls.spliced_cons (thn (ha pins s σ H _ I h) fun u s1 ⟨x,H1,I1,r1,q1⟩=>?_);exact thn (hr pos pins s1 σ H1 _ I1 q1) fun us s2 ⟨xs,H2,I2,r2,q2⟩=>⟨x::xs,H2,I2,.cons r1 r2,q2⟩
def Jv(t:TA):TE:=fun σ H Q=>t σ H fun xs H1=>xs.length<=sizeLine/\∀p,H1 p=none->Q (.ref p) (upd H1 p (.tup xs))
def JB(t:TA):TE:=fun σ H Q=>t σ H fun xs H1=>xs.length<=sizeLine/\∀p,H1 p=none->Q (.ref p) (upd H1 p (.lst xs))
theorem DZ{x1}(h:PA X es t):PE X (.Tuple es x1 pos) (Jv t):=by
 intro pins s σ H Q I hq;refine wpAny_Tuple_spliced (thn (h pos pins s σ H _ I hq) fun us s1 ⟨xs,H1,I1,r,z,q⟩=>⟨by rw[← r.length];exact z,?_⟩);have hf:H1 s1.heap.objs.size=none:=I1.hok.fresh (L9 _);refine⟨.ref s1.heap.objs.size,upd H1 s1.heap.objs.size (.tup xs),I1.laid (t':=s1.toks) (fun b u e=>KL _ e) (L9 _) ?_,rfl,q _ hf⟩;exact⟨z,us,r,⟨_,LM _ rfl,rfl,⟨_,rfl⟩,fun _=>rfl⟩⟩
theorem E7(h:PA X es t):PE X (.List es pos) (JB t):=by
 intro pins s σ H Q I hq;refine wpAny_List_spliced (thn (h pos pins s σ H _ I hq) fun us s1 ⟨xs,H1,I1,r,z,q⟩=>⟨by rw[← r.length];exact z,?_⟩);have hf:H1 s1.heap.objs.size=none:=I1.hok.fresh (L9 _);refine⟨.ref s1.heap.objs.size,upd H1 s1.heap.objs.size (.lst xs),I1.laid (t':=s1.toks) (fun b u e=>KL _ e) (L9 _) ?_,rfl,q _ hf⟩;exact⟨z,us,0,r,LM _ rfl⟩
end
abbrev Sp:=List V->Hp->VK->XK->Prop
abbrev CXT:=List Pn->Hp->KC->XK->KB->KC->Prop
structure Env0(P:L6)(w:LI)(K:KA)(mg:Str->Option KB)(base:Heap)(A:LR)(outer:List Pn)(s:KC)(H:Hp):Prop where
 frames:A.frames=some outer
 mod:Mod K mg base
 bs:∀b o,base.get? b=some o->s.heap.get? b=some o/\H b=none
 bsz:base.objs.size<=s.heap.objs.size
 funs:s.heap.FunFrames base outer
 frf:∀b∈frs outer,H b=none
 hok:HOk P w H s.heap
 bare:P7 s.gens
def CE(outer:List Pn)(P:L6)(w:LI)(H:Hp)(s:KC)(Q:VK)(u:KB)(s':KC):Prop:=
 ∃v H',s'.os=s.os/\P7 s'.gens/\Un (frs outer) [] H H' s.heap s'.heap/\HOk P w H' s'.heap/\RelV v u/\Q v H'
def CR(CX:CXT)(outer:List Pn)(P:L6)(w:LI)(H:Hp)(s:KC)(Q:VK)(E:XK)(r:Result)(s':KC):Prop:=
 match r with
 | .ok (.ret u)=>CE outer P w H s Q u s'
 | .ok _=>False
 | .error e=>CX outer H s E e s'
structure FnOk(P:L6)(w:LI)(K:KA)(mg:Str->Option KB)(base:Heap)(CX:CXT)(k:Nat)(f:Addr)(fd:FuncData)(ps:List Str)(sp:Sp):Prop where
 len:∀vs H Q E,sp vs H Q E->vs.length=ps.length
 run:∀(A:LR)(outer:List Pn)(s:KC)(H:Hp)(args:Args)(us:List KB)(vs:List V)(Q:VK)(E:XK),Room k A->Env0 P w K mg base A outer s H->Qe s fd args (ps.zip us)->Vals vs us->sp vs H Q E->
  Oe (LU P w) A (.call (.ref f) args) (CR CX outer P w H s Q E) s
section
variable{X : Cx}{pins : List (Addr×Obj)}{σ : St}{H : Hp}{s s' : KC}
theorem Inv.env0(I:Inv X pins σ H s):Env0 X.prog X.w X.K X.mg X.base X.A X.stack s H:=
 ⟨I.ok.frames,I.ok.mod,I.bs,Lk I.ok.bsz I.sz,I.stack,I.stkFree,I.hok,I.bare⟩
theorem Inv.after{Q:VK}{u:KB}(I:Inv X pins σ H s)(h:CE X.stack X.prog X.w H s Q u s'):EP X pins σ Q u s':=by
 obtain⟨v,H',os,bare,un,hok,r,q⟩:=h;obtain⟨hh,g,d,t,os'⟩:=s';obtain rfl:os'=s.os:=os;exact⟨v,H',I.call (h':=hh) (g':=g) (d':=d) (t':=t) (ch:=[]) un hok bare (fun b z=>absurd z (by simp)),r,q⟩
end
def GY(sp:Sp)(dvs:List V)(E:XK)(t:TA):TE:=fun σ H Q=>t σ H fun vs H1=>sp (vs++dvs) H1 Q E
def Binds(K:KA)(fd:FuncData)(ps:List Str)(ds:List KB):Prop:=
 ∀(s:KC)(us:List KB),K.In s.heap->(us++ds).length=ps.length->Qe s fd ⟨us,[]⟩ (ps.zip (us++ds))
theorem Binds.all{K:KA}{fd:FuncData}{ps:List Str}(h:∀us:List KB,us.length=ps.length->Q9 fd ⟨us,[]⟩=pure (ps.zip us)):Binds K fd ps []:=fun s us _ hl=>by
 rw[Ly] at hl ⊢;exact .of_eq (h us hl)
def Passes(CX:CXT)(X:Cx)(E:XK):Prop:=∀(pins:List (Addr×Obj))(σ:St)(H:Hp)(s:KC)(e:KB)(s':KC),Inv X pins σ H s->CX X.stack H s E e s'->X.xe e s'
section
variable{X : Cx}{CX : CXT}{k : Nat}{f C : Addr}{fd : FuncData}{ps : List Str}{sp : Sp}{dvs : List V}{ds : List KB}{E : XK}{x m : Str}{p pos apos : Ma}{e o : Expr}{es : List Expr}{ta : TE}{t : TA}
theorem DN{pins:List (Addr×Obj)}{σ:St}{H:Hp}{s:KC}{Q:VK}{us:List KB}{vs:List V}(F:FnOk X.prog X.w X.K X.mg X.base CX k f fd ps sp)(hr:Room k X.A)(hb:Binds X.K fd ps ds)(hd:Vals dvs ds)(hx:Passes CX X E)
  (I:Inv X pins σ H s) (r:Vals vs us) (h:sp (vs++dvs) H Q E):LC (LU X.prog X.w) X.A (call (.ref f) us) (EP X pins σ Q) X.xe s:=by
 have r2:Vals (vs++dvs) (us++ds):=r.append hd;have hl:(us++ds).length=ps.length:=by rw[← r2.length];exact F.len _ _ _ _ h
 refine Qo (OJ (F.run X.A X.stack s H ⟨us,[]⟩ (us++ds) (vs++dvs) Q E hr I.env0 (hb s us I.kIn hl) r2 h) fun r s' hq=>?_);cases r with
 | error e=>exact hx pins σ H s e s' I hq
 | ok fl=>
  cases fl with
  | ret u=>exact I.after hq
  | next=>exact KJ hq
  | brk=>exact KJ hq
  | cont=>exact KJ hq
theorem Bv(F:FnOk X.prog X.w X.K X.mg X.base CX k f fd ps sp)(hr:Room k X.A)(hg:Gl X x)(hm:X.mg x=some (.ref f))(hk:MP X.K (.ref f)=true)(hb:Binds X.K fd ps ds)(hd:Vals dvs ds)(hx:Passes CX X E)
  (ha:PA X (e::es) t) (hdb:(x == ("__debug__":Str))=false:=by decide) (he:LA (e::es) X.env=(false,M7 e X.env)::LA es X.env:=by rfl) (hpl:(Nh pos (LA es X.env)).any (·.1)=false:=by rfl) :
  PE X (.Call (.Name x p) (e::es) [] pos) (GY sp dvs E t):=by
 intro pins s σ H Q I h;refine My (qv I hg hm ?_ hdb);refine Qs (h₀:=X.base) I.ok.mod.kin hk (thn (ha pos pins s σ H _ I h) fun us s1 ⟨vs,H1,I1,r,q⟩=>⟨I1.kIn,?_⟩) he hpl;exact DN F hr hb hd hx I1 r q
end
structure FnScope(N P:List Str)(sc:Scope):Prop where
 kind:sc.kind=.function
 co:sc.isCoroutine=false
 gen:sc.isGenerator=false
 nd:N.Nodup
 pre:N.take P.length=P
 par:∀x∈P,sc.names.lookup x=some .local\/sc.names.lookup x=some .cell
 nofree:∀y∈sc.names,y.2≠.free
theorem pS{kindOf:Str->Option Ms}{x:Str}:∀{binds:List (Str×KB)}{m:Str->Option KB},(∀v,(x,v) ∉ binds)->Rg kindOf binds m x=m x
 | [],_,_=>rfl
 | (n,v)::r,m,h=>by
  unfold Rg;rw[pS fun w hw=>h w (LG _ hw)]
  split
  ·have:x≠n:=by rintro rfl;exact h v LO
   simp[this]
  ·rfl
theorem pU{kindOf:Str->Option Ms}{x:Str}:∀{binds:List (Str×KB)}{m:Str->Option KB},(∀v,(x,v) ∉ binds)->Rh kindOf binds m x=m x
 | [],_,_=>rfl
 | (n,v)::r,m,h=>by
  unfold Rh;rw[pU fun w hw=>h w (LG _ hw)]
  split
  ·rfl
  ·have:x≠n:=by rintro rfl;exact h v LO
   simp[this]
theorem pT{kindOf:Str->Option Ms}{x:Str}{v:KB}:∀{P:List Str}{vs:List KB}{i:Nat}{m:Str->Option KB},P.Nodup->P[i]?=some x->vs[i]?=some v->kindOf x=some .local->
  Rg kindOf (P.zip vs) m x=some v
 | [],_,_,_,_,h,_,_=>by simp at h
 | _::_,[],_,_,_,_,h,_=>by simp at h
 | p::P,w::vs,0,m,nd,h1,h2,hk=>by
  simp at h1 h2;subst h1;subst h2;show Rg kindOf ((p,w)::P.zip vs) m p=_;unfold Rg;rw[pS fun v hv=>(Le.mp nd).1 (O4 hv).1,if_pos hk];simp
 | p::P,w::vs,i+1,m,nd,h1,h2,hk=>by
  show Rg kindOf ((p,w)::P.zip vs) m x=_;unfold Rg;exact pT (i:=i) (Le.mp nd).2 (by simpa using h1) (by simpa using h2) hk
theorem pV{kindOf:Str->Option Ms}{x:Str}{v:KB}:∀{P:List Str}{vs:List KB}{i:Nat}{m:Str->Option KB},P.Nodup->P[i]?=some x->vs[i]?=some v->kindOf x≠some .local->
  Rh kindOf (P.zip vs) m x=some v
 | [],_,_,_,_,h,_,_=>by simp at h
 | _::_,[],_,_,_,_,h,_=>by simp at h
 | p::P,w::vs,0,m,nd,h1,h2,hk=>by
  simp at h1 h2;subst h1;subst h2;show Rh kindOf ((p,w)::P.zip vs) m p=_;unfold Rh;rw[pU fun v hv=>(Le.mp nd).1 (O4 hv).1,if_neg hk];simp
 | p::P,w::vs,i+1,m,nd,h1,h2,hk=>by
  show Rh kindOf ((p,w)::P.zip vs) m x=_;unfold Rh;exact pV (i:=i) (Le.mp nd).2 (by simpa using h1) (by simpa using h2) hk
def start(N:List Str)(vs:List V):St:=vs.map some++La (N.length-vs.length) none
def AB(CX:CXT)(P:L6)(w:LI)(K:KA)(mg:Str->Option KB)(base:Heap)(N:List Str)(qual:Str)(scope:Scope)(f:Addr)(cd:KB)(A:LR)(outer:List Pn)(s:KC)(H:Hp)(E:XK):Cx where
 prog:=P
 w:=w
 K:=K
 mg:=mg
 base:=base
 A:=A.deeper (Nw qual scope s.heap.objs.size f cd)
 N:=N
 s₀:=s
 H₀:=H
 env:=Nw qual scope s.heap.objs.size f cd
 outer:=outer
 stack:=Nw qual scope s.heap.objs.size f cd::outer
 ex:=[]
 calm:=true
 fn:=fun _=>true
 pn:=[]
 xe:=fun e s'=>LC (LU P w) (A.deeper (Nw qual scope s.heap.objs.size f cd)) (leaving (Nw qual scope s.heap.objs.size f cd) e) (fun _ s''=>CX outer H s E e s'') (fun e' s''=>CX outer H s E e' s'') s'
theorem sI{sc:Scope}{n:Nat}{x:Str}(h:sc.names.lookup x=some .cell):∃c,(cellsFrom n sc.names []).lookup x=some c:=by
 have q:=QI sc.names n [] (.inl h);exact QD.mp q
theorem vS{CX:CXT}{P:L6}{w:LI}{K:KA}{mg:Str->Option KB}{base:Heap}{N ps:List Str}{qual:Str}{scope:Scope}{f:Addr}{cd:KB}{A:LR}{outer:List Pn}{s s1:KC}{H:Hp}{E:XK}{us:List KB}{vs:List V}
  (S:FnScope N ps scope) (hd:A.handled=none) (e0:Env0 P w K mg base A outer s H) (hl:vs.length=ps.length) (r:Vals vs us)
  (x:InCallC s s.heap.objs.size (Rg (Nw qual scope s.heap.objs.size f cd).kindOf (ps.zip us) fun _=>none) (cellsFrom (s.heap.objs.size+1) scope.names []) (Rh (Nw qual scope s.heap.objs.size f cd).kindOf (ps.zip us) fun _=>none) s1) :
  Inv (AB CX P w K mg base N qual scope f cd A outer s H E) [] (start N vs) H s1:=by
 have hpl:ps.length<=N.length:=by have:=congrArg Lz S.pre;rw[Mo] at this;omega
 obtain⟨h1,tk,rfl,hk⟩:=x.done;have noA:∀b:Addr,b ∉ (AB CX P w K mg base N qual scope f cd A outer s H E).ex:=fun b z=>absurd (show b∈([]:List Addr) from z) (by simp)
 refine⟨⟨e0.mod,S.kind,rfl,rfl,L9 _,fun y z c h1 h2=>?_,fun y hy=>?_,fun y c _ h=>?_,fun _=>hd,Qf e0.frames,.inr ⟨rfl,rfl⟩,fun b z=>absurd z (noA b),e0.bs,e0.bsz,fun b _ _=>noA b,fun b z=>absurd z (noA b),e0.funs,e0.frf⟩,
  rfl,e0.bare,Un.kept hk,⟨_,x.toInCall.ns,fun i y v h1 h2 h3=>?_⟩,fun y c h=>⟨_,x.cell y c h⟩,e0.hok.fresh (L9 _),fun y c h=>?_,fun p hp=>absurd (show p∈([]:List (Addr×Obj)) from hp) (by simp),e0.hok.kept hk,?_⟩
 ·exact name_of_addr x.apart (Lb h1) (Lb h2)
 ·have hy:scope.names.lookup y=some .cell\/scope.names.lookup y=some .free:=hy
  rcases hy with hy | hy
  ·exact sI hy
  ·exact absurd rfl (S.nofree _ (Lb hy))
 ·exact Pj (x.above y c (Lb h))
 ·have hi:i<vs.length:=by
   unfold start at h2
   by_cases hi:i<vs.length
   ·exact hi
   ·rw[LJ (by simpa using hi)] at h2
    rw[Ll] at h2;split at h2 <;> cases h2
  have ha:vs[i]?=some v:=by
   unfold start at h2;rw[L5 (by simpa using hi),L3] at h2;cases e:vs[i]? with
   | none=>rw[e] at h2;cases h2
   | some a=>rw[e] at h2;cases h2;rfl
  obtain⟨u,hu,rv⟩:=r.get ha
  have hp:ps[i]?=some y:=by
   rw[← S.pre,List.getElem?_take_of_lt (by omega)];exact h1
  have ndP:ps.Nodup:=by rw[← S.pre];exact S.nd.sublist (List.take_sublist _ _)
  refine⟨u,rv,?_⟩;rcases S.par y (LF hp) with k | k
  ·exact .inl ⟨k,pT ndP hp hu k⟩
  ·obtain⟨c,e⟩:=sI (n:=s.heap.objs.size+1) k
   refine .inr ⟨.inl k,c,e,?_⟩;have q:=x.cell y c e;rw[pV ndP hp hu (by show scope.names.lookup y≠_;rw[k];decide)] at q;exact q
 ·exact e0.hok.fresh (Pj (x.above y c (Lb h)))
 ·unfold start
  show _=N.length;rw[L0,KH,Mx];omega
theorem Fo{CX:CXT}{P:L6}{w:LI}{K:KA}{mg:Str->Option KB}{base:Heap}{k:Nat}{f:Addr}{name qual:Str}{params:Arguments}{body:List Stmt}{scope:Scope}{dV kV doc pm cdv ct oc:KB}{an od:Option Addr}
  {osl:Array (Option KB)} {N ps:List Str} {sp:Sp} (lk:K.lookup f=some ⟨oc,od,.func (M1 name qual params body scope dV kV doc pm an cdv ct),osl⟩) (hcd:Mz K cdv qual=true) (S:FnScope N ps scope)
  (len:∀vs H Q E,sp vs H Q E->vs.length=ps.length)
  (hbody:∀(A:LR)(outer:List Pn)(s:KC)(H:Hp)(vs:List V)(Q:VK)(E:XK),Room k (A.deeper (Nw qual scope s.heap.objs.size f cdv))->sp vs H Q E->
   ∃t,PSs (AB CX P w K mg base N qual scope f cdv A outer s H E) body t/\t { nx:=fun _ H'=>Q .non H',rt:=Q } (start N vs) H) :
  FnOk P w K mg base CX (k+1) f (M1 name qual params body scope dV kV doc pm an cdv ct) ps sp:=by
 refine⟨len,fun A outer s H args us vs Q E hr e0 hb r hsp=>?_⟩;have hl:=len _ _ _ _ hsp;have KX:K.In s.heap:=e0.mod.kin.keeps fun b o e=>(e0.bs b o e).1;have lim:s.heap.NoLimit:=e0.mod.nolimit.keeps fun b o e=>(e0.bs b o e).1
 have hkind:∀y∈ps.zip us,scope.names.lookup y.1=some .local\/(scope.names.lookup y.1=some .cell/\((cellsFrom (s.heap.objs.size+1) scope.names []).lookup y.1).isSome=true):=fun ⟨n,v⟩ hy=>by
  rcases S.par n (O4 hy).1 with q | q
  ·exact .inl q
  ·exact .inr ⟨q,QI _ _ _ (.inl q)⟩
 refine codeAny_call_function hr.depth (KX _ _ lk) rfl S.co S.gen rfl (PySem.W.codeRec_of KX hcd) (hb _ _ _ _ ?_);refine wpAny_newFunctionEnv_cells S.kind hkind fun env he s1 x=>?_;subst he;refine⟨lim.keeps x.toInCall.keep,codeAny_func ?_⟩;obtain⟨t,ht,hq⟩:=hbody A outer s H vs Q E (hr.deeper _) hsp;have I:Inv (AB CX P w K mg base N qual scope f cdv A outer s H E) [] (start N vs) H s1:=vS S hr.hd e0 hl r x;refine MO (ht [] s1 (start N vs) H _ I hq) (fun fl s' hs=>?_) fun e s' hs=>hs
 have fin:∀{σ':St}{H':Hp}{v:V}{u:KB},Inv (AB CX P w K mg base N qual scope f cdv A outer s H E) [] σ' H' s'->RelV v u->Q v H'->CE outer P w H s Q u s':=
  fun {σ' H' v u} J rv q=>⟨v,H',J.os,J.bare,J.base,J.hok,rv,q⟩
 cases fl with
 | ret u=>
  obtain⟨v,σ',H',J,rv,q⟩:=hs;exact fin J rv q
 | next=>
  obtain⟨σ',H',J,q⟩:=hs;exact fin (v:=V.non) (u:=OD) J rfl q
 | brk=>
  obtain⟨_,_,_,q⟩:=hs;exact KJ q
 | cont=>
  obtain⟨_,_,_,q⟩:=hs;exact KJ q
end L2
namespace L2
open PySem PySem.Spec PyProof.Rows
section
variable{X : Cx}{x : Str}{p pos : Ma}{e : Expr}{es : List Expr}{t : TA}{id T : String}{r : List V → Hp → VK → Prop}
def tCB(r:List V->Hp->VK->Prop)(t:TA):TE:=fun σ H Q=>t σ H fun vs H1=>r vs H1 Q
theorem rD (hc:iZ X (.builtin id) r) (hg:Gl X x) (hm:X.mg x=none) (hv:MY x=some (.builtin id)) (ha:PA X (e::es) t) (hn:x≠"__name__":=by decide) (hdb:(x == ("__debug__":Str))=false:=by decide)
  (he:LA (e::es) X.env=(false,M7 e X.env)::LA es X.env:=by rfl) (hpl:(Nh pos (LA es X.env)).any (·.1)=false:=by rfl):PE X (.Call (.Name x p) (e::es) [] pos) (tCB r t):=by
 intro pins s σ H Q I h;refine My (lL I hg hm hv ?_ hn hdb);exact PyProof.Rows.callWith_builtin1 (thn (ha pos pins s σ H _ I h) fun us s1 ⟨vs,H1,I1,r1,q1⟩=>hc pins s1 σ H1 vs us Q I1 r1 q1) he hpl
theorem oX (hc:iZ X (.type T) r) (hg:Gl X x) (hm:X.mg x=none) (hv:MY x=some (.type T)) (ha:PA X (e::es) t) (hn:x≠"__name__":=by decide) (hdb:(x == ("__debug__":Str))=false:=by decide)
  (he:LA (e::es) X.env=(false,M7 e X.env)::LA es X.env:=by rfl) (hpl:(Nh pos (LA es X.env)).any (·.1)=false:=by rfl):PE X (.Call (.Name x p) (e::es) [] pos) (tCB r t):=by
 intro pins s σ H Q I h;refine My (lL I hg hm hv ?_ hn hdb);exact MF (thn (ha pos pins s σ H _ I h) fun us s1 ⟨vs,H1,I1,r1,q1⟩=>hc pins s1 σ H1 vs us Q I1 r1 q1) he hpl
end
end L2
namespace HT
open PySem PyProof.Rows
def lexLt:List Int->List Int->Bool
 | [],[]=>false
 | [],_::_=>true
 | _::_,[]=>false
 | x::xs,y::ys=>if x=y then lexLt xs ys else decide (x<y)
section
variable{prog : L6}{w : LI}{A : LR}{E : KB → KC → Prop}{s : KC}
def sIx(n d:Nat):Option Int->Nat
 | none=>d
 | some v=>if v<0 then (v+(n:Int)).toNat else min v.toNat n
theorem DL(n d:Nat)(hd:d<=n)(o:Option Int):sIx n d o<=n:=by
 cases o with
 | none=>exact hd
 | some v=>
  show (if v<0 then (v+(n:Int)).toNat else min v.toNat n)<=n
  by_cases hv:v<0
  ·rw[if_pos hv];omega
  ·rw[if_neg hv];exact Nat.min_le_right _ _
theorem xh(v:Int)(n d:Nat):(if v<0 then max (v+(n:Int)) 0 else min v (n:Int))=((sIx n d (some v):Nat):Int):=by
 show (if v<0 then max (v+(n:Int)) 0 else min v (n:Int))=(((if v<0 then (v+(n:Int)).toNat else min v.toNat n):Nat):Int)
 by_cases hv:v<0
 ·simp only[if_pos hv];omega
 ·simp only[if_neg hv];omega
theorem u9(lo hi:Option Int)(n:Nat):Nu lo hi 1 (n:Int)=(((sIx n 0 lo:Nat):Int),((sIx n n hi:Nat):Int)):=by
 have h1:¬ ((1:Int)<0):=by omega
 unfold Nu;simp only[h1,if_false];refine Pd ?_ ?_
 ·cases lo with
  | none=>rfl
  | some v=>exact xh v n 0
 ·cases hi with
  | none=>rfl
  | some v=>exact xh v n n
theorem tf(i j:Nat):Mu (i:Int) (j:Int) 1=j-i:=by
 unfold Mu;have h1:(1:Int) > 0:=by omega
 simp only[h1,if_true,Int.ediv_one]
 split <;> omega
theorem mS{v:KB}{o:Option Int}{Q:Option Int->KC->Prop}(p:QJ v o)(h:Q o s):LC (LU prog w) A (Builtin.Slice.slicePartIndex v) Q E s:=by
 cases p with
 | none=>exact slicePart_none h
 | int i t=>exact slicePart_int h
theorem kA{sl:Addr}{vl vu:KB}{lo hi:Option Int}{n:Nat}{Q:Int×Int×Nat->KC->Prop}(hs:s.heap.IsSliceOf sl vl vu .none)(pl:QJ vl lo)(pu:QJ vu hi)
  (h:Q (((sIx n 0 lo:Nat):Int),1,sIx n n hi-sIx n 0 lo) s):LC (LU prog w) A (PK (.ref sl) (pure (n:Int))) Q E s:=by
 obtain⟨os,hos,hcs,hds⟩:=id hs;unfold PK Builtin.Slice.sliceFields;refine KF (KF (wpAny_field hos hds (x:=vl) rfl (KF (wpAny_field hos hds (x:=vu) rfl (KF (wpAny_field hos hds (x:=.none) rfl (KO ?_)))))));refine KF (slicePart_none ?_);show LC _ _ (if ((1:Int) == 0)=true then _ else _) _ _ s;rw[if_neg (by decide)];refine KF (mS pl (KF (mS pu (KF (KO ?_)))));show LC _ _ (match Nu lo hi 1 (n:Int) with | (lo,hi)=>pure (lo,(1:Int),Mu lo hi 1)) _ _ s;rw[u9 lo hi n];show LC _ _ (pure (((sIx n 0 lo:Nat):Int),(1:Int),Mu ((sIx n 0 lo:Nat):Int) ((sIx n n hi:Nat):Int) 1)) _ _ s;rw[tf];exact KO h
theorem yo(xs:Array KB)(i k:Nat):((KM k).filterMap fun (m:Nat)=>xs[((i:Int)+(m:Int) * 1).toNat]?).toArray=((xs.toList.drop i).take k).toArray:=by
 have e:(fun (m:Nat)=>xs[((i:Int)+(m:Int) * 1).toNat]?)=fun m=>xs[i+m]?:=by
  funext m
  have:((i:Int)+(m:Int) * 1).toNat=i+m:=by omega
  rw[this]
 rw[e];have:=pick_run xs i k;rw[List.filterMap_map] at this;have e2:((fun x=>xs[x]?) ∘ fun x=>i+x)=fun m=>xs[i+m]?:=rfl;rw[e2] at this;rw[this]
theorem getItem_tuple_cut{t sl:Addr}{items:Array KB}{vl vu:KB}{lo hi:Option Int}{Q:KB->KC->Prop}(ht:IsTup s.heap t items)(hs:s.heap.IsSliceOf sl vl vu .none)(pl:QJ vl lo)(pu:QJ vu hi)
  (hw:¬ (sIx items.size 0 lo=0/\sIx items.size items.size hi=items.size))
  (h:Q (.ref s.heap.objs.size) { s with heap:=s.heap.push { cls:=.type "tuple",data:=.seq ((items.toList.drop (sIx items.size 0 lo)).take (sIx items.size items.size hi-sIx items.size 0 lo)).toArray } })
  (hsz:items.size<=sizeLine):LC (LU prog w) A (Qc (.ref t) (.ref sl)) Q E s:=by
 have htake:sizeOk (.seq ((items.toList.drop (sIx items.size 0 lo)).take (sIx items.size items.size hi-sIx items.size 0 lo)).toArray):=by
  show ((items.toList.drop (sIx items.size 0 lo)).take (sIx items.size items.size hi-sIx items.size 0 lo)).toArray.size<=sizeLine;rw[LD,Mo,OW,Lp];omega
 have hj:sIx items.size items.size hi<=items.size:=DL _ _ (L9 _) hi;obtain⟨os,hos,hcs,hds⟩:=id hs;have hTs:s.TypeIs (.ref sl) "slice":=⟨os,hos,hcs⟩;unfold Qc
 try with_reducible refine N4 ?_
 first | refine KF (KO ?_) | skip
 refine KF (wpAny_sequenceKey ht.typeIs (by decide) ?_)
 refine KF (Re (name:=KI "__getitem__") ht.typeIs NJ
  (Ot NJ ht.typeIs entry_tuple_getitem ?_ (args_tuple_getitem _ _)))
 show LC _ _ (PJ (.ref t) >>= _) _ _ s;refine KF (tupleItemsOf_ ht ?_);refine KF (Oy hTs ?_);rw[if_pos (by decide)];refine KF (kA hs pl pu ?_)
 have hno:¬ ((((sIx items.size 0 lo:Nat):Int) == 0 && (1:Int) == 1 && (sIx items.size items.size hi-sIx items.size 0 lo) == items.size)=true):=by
  intro q;rw[Lm,Lm] at q;have q1:((sIx items.size 0 lo:Nat):Int)=0:=NT q.1.1;have q2:sIx items.size items.size hi-sIx items.size 0 lo=items.size:=NT q.2;exact hw ⟨by omega,by omega⟩
 show LC _ _ (if (((sIx items.size 0 lo:Nat):Int) == 0 && (1:Int) == 1 && (sIx items.size items.size hi-sIx items.size 0 lo) == items.size)=true then _ else _) _ _ s;rw[if_neg hno,yo]
 first
  | exact KF (m:=N0 _) (Nr (KO ⟨_,rfl,KO h⟩) htake)
  | exact KF (m:=N0 _) (Nr (KF (KO (KO ⟨_,rfl,KO h⟩))) htake)
  | exact KF (KF (m:=N0 _) (Nr (KO (KO ⟨_,rfl,KO h⟩)) htake))
  | exact KF (KF (m:=N0 _) (Nr (KO ⟨_,rfl,KO h⟩) htake))
end
end HT
namespace L2
open PySem PySem.Spec PyProof.Rows
abbrev TO:=St->Hp->(Option Int->Hp->Prop)->Prop
def PO(X:Cx)(e:Option Expr)(t:TO):Prop:=
 ∀(pins:List (Addr×Obj))(s:KC)(σ:St)(H:Hp)(Q:Option Int->Hp->Prop),Inv X pins σ H s->t σ H Q->
  LC (LU X.prog X.w) X.A (evalPart e X.env) (fun u s'=>∃o H',Inv X pins σ H' s'/\QJ u o/\Q o H') X.xe s
def AV:TO:=fun _ H Q=>Q none H
def GU(t:TE):TO:=fun σ H Q=>t σ H fun x H1=>∃i,x=.int i/\Q (some i) H1
section
variable{X : Cx}{e : Expr}{te : TE}{lo hi : Option Expr}{tl th : TO}{pos p2 : Ma}
theorem Bo:PO X none AV:=by
 intro pins s σ H Q I h;rw[evalPart_none];exact KO ⟨none,H,I,.none,h⟩
theorem Bm(h:PE X e te):PO X (some e) (GU te):=by
 intro pins s σ H Q I hw;rw[evalPart_some];refine thn (h pins s σ H _ I hw) fun u s1 ⟨x,H1,I1,r1,q1⟩=>?_;obtain⟨i,rfl,q⟩:=q1;obtain⟨t,rfl⟩:=r1;exact⟨some i,H1,I1,.int i t,q⟩
def SlR(X:Cx)(r:V->Option Int->Option Int->Hp->VK->Prop):Prop:=
 ∀(pins:List (Addr×Obj))(s:KC)(σ:St)(H:Hp)(x:V)(v vl vu:KB)(lo hi:Option Int)(sl:Addr)(Q:VK),Inv X pins σ H s->RelV x v->s.heap.IsSliceOf sl vl vu .none->QJ vl lo->QJ vu hi->r x lo hi H Q->
  ∃T id,typeLookup (.type T) "__getitem__"=pure (some (.builtin id))/\s.TypeIs v T/\LC (LU X.prog X.w) X.A (Qc v (.ref sl)) (EP X pins σ Q) X.xe s
def tSl(r:V->Option Int->Option Int->Hp->VK->Prop)(te:TE)(tl th:TO):TE:=fun σ H Q=>te σ H fun x H1=>tl σ H1 fun l H2=>th σ H2 fun u H3=>r x l u H3 Q
theorem rC{r:V->Option Int->Option Int->Hp->VK->Prop}(hr:SlR X r)(he:PE X e te)(hl:PO X lo tl)(hu:PO X hi th):PE X (.Subscript e (.Slice lo hi none p2) pos) (tSl r te tl th):=by
 intro pins s σ H Q I h;refine Subscript_ (thn (he pins s σ H _ I h) fun v s1 ⟨x,H1,I1,r1,q1⟩=>?_);refine wpAny_Slice (thn (hl pins s1 σ H1 _ I1 q1) fun vl s2 ⟨l,H2,I2,pl,q2⟩=>thn (hu pins s2 σ H2 _ I2 q2) fun vu s3 ⟨u,H3,I3,pu,q3⟩=>?_);rw[evalPart_none];refine KO ?_;have I4:Inv X pins σ H3 { s3 with heap:=s3.heap.push { cls:=.type "slice",data:=.fields #[vl,vu,.none] } }:=I3.kept (t':=s3.toks) fun b ob q=>KL _ q;obtain⟨T,id,hT,ht,hg⟩:=hr pins { s3 with heap:=s3.heap.push { cls:=.type "slice",data:=.fields #[vl,vu,.none] } } σ H3 x v vl vu l u s3.heap.objs.size Q I4 r1 (Heap.IsSliceOf.new ..) pl pu q3;show LC (LU X.prog X.w) X.A (subscriptTail e (.Slice lo hi none p2) v (.ref s3.heap.objs.size)) (EP X pins σ Q) X.xe { s3 with heap:=s3.heap.push { cls:=.type "slice",data:=.fields #[vl,vu,.none] } };exact tail_any (ops:=[.ref s3.heap.objs.size,v]) ht hT hg (by with_unfolding_all rfl)
def zg(xs:List V)(lo hi:Option Int):List V:=(xs.drop (HT.sIx xs.length 0 lo)).take (HT.sIx xs.length xs.length hi-HT.sIx xs.length 0 lo)
theorem mv(xs:List V)(lo hi:Option Int):(zg xs lo hi).length<=xs.length:=by
 unfold zg;rw[Mo,OW];omega
def JH(K:KA):V->Option Int->Option Int->Hp->VK->Prop:=fun x lo hi H Q=>∃a xs,x=.ref a/\SqT K H a xs/\
 ¬ (HT.sIx xs.length 0 lo=0/\HT.sIx xs.length xs.length hi=xs.length)/\∀p,H p=none->Q (.ref p) (upd H p (.tup (zg xs lo hi)))
theorem DG:SlR X (JH X.K):=by
 intro pins s σ H x v vl vu lo hi sl Q I rx hs pl pu h;obtain⟨a,xs,rfl,hx,hw,q⟩:=h;cases rx;obtain⟨its,r,ht,hz⟩:=I.tuple hx;have hlen:its.toArray.size=xs.length:=by rw[LD];exact r.length.symm
 refine⟨"tuple",_,NJ.lookup,ht.typeIs,?_⟩;refine HT.getItem_tuple_cut ht hs pl pu (by rw[hlen];exact hw) ?_ (by rw[hlen];exact hz);rw[hlen];refine⟨.ref s.heap.objs.size,_,I.laid (t':=s.toks) (o:=.tup (zg xs lo hi)) (fun b ob q=>KL _ q) (L9 _) ?_,rfl,q _ (I.hok.fresh (L9 _))⟩;exact⟨Lk (mv xs lo hi) hz,_,(r.drop (HT.sIx xs.length 0 lo)).take (HT.sIx xs.length xs.length hi-HT.sIx xs.length 0 lo),zx.new _ _⟩
end
end L2
namespace L2
open PySem PySem.Spec PyProof.Rows
def ixN(n:Nat)(i:Int):Option Nat:=if 0<=i then (if i<n then some i.toNat else none) else if -(n:Int)<=i then some (i+n).toNat else none
def atI{α:Type}(xs:List α)(i:Int):Option α:=(ixN xs.length i).bind fun j=>xs[j]?
theorem C0{n:Nat}{i:Int}{j:Nat}(h:ixN n i=some j):seqIndex? i n=some j/\j<n/\-(n:Int)<=i/\i<n:=by
 unfold ixN at h
 by_cases h0:0<=i
 ·rw[if_pos h0] at h
  by_cases h1:i<n
  ·rw[if_pos h1] at h
   have e:i.toNat=j:=Lh h;exact⟨by rw[seqIndex_of h0 h1,e],by omega,by omega,h1⟩
  ·rw[if_neg h1] at h;cases h
 ·rw[if_neg h0] at h
  by_cases h1:-(n:Int)<=i
  ·rw[if_pos h1] at h
   have e:(i+n).toNat=j:=Lh h;exact⟨by rw[seqIndex_neg (by omega) h1,e],by omega,h1,by omega⟩
  ·rw[if_neg h1] at h;cases h
theorem qM{α:Type}{xs:List α}{i:Int}{v:α}(h:atI xs i=some v):∃j,seqIndex? i xs.length=some j/\xs[j]?=some v/\j<xs.length/\-(xs.length:Int)<=i/\i<xs.length:=by
 unfold atI at h;cases e:ixN xs.length i with
 | none=>rw[e] at h;cases h
 | some j=>
  rw[e] at h;obtain⟨h1,h2,h3,h4⟩:=C0 e;exact⟨j,h1,h,h2,h3,h4⟩
def xr(b:Expr):Prop:=∀o i,subscripted b false o i=operate [o,i] (Qc o i)
def IxR(X:Cx)(r:R2):Prop:=
 ∀(value slice:Expr)(pins:List (Addr×Obj))(s:KC)(σ:St)(H:Hp)(x y:V)(v u:KB)(Q:VK),Inv X pins σ H s->RelV x v->RelV y u->r x y H Q->
  subscripted slice false v u=operate [v,u] (Qc v u)->LC (LU X.prog X.w) X.A (subscriptTail value slice v u) (EP X pins σ Q) X.xe s
def MtR(X:Cx)(id:String)(r:V->List V->Hp->VK->Prop):Prop:=
 ∀(pins:List (Addr×Obj))(s:KC)(σ:St)(H:Hp)(x:V)(xs:List V)(v:KB)(us:List KB)(Q:VK),Inv X pins σ H s->RelV x v->Vals xs us->r x xs H Q->
  LC (LU X.prog X.w) X.A (call (.builtin id) (v::us)) (EP X pins σ Q) X.xe s
section
variable{X : Cx}{a b : Expr}{ta tb : TE}{pos : Ma}
theorem Hk{r:R2}(hr:IxR X r)(ha:PE X a ta)(hb:PE X b tb)(hs:xr b):PE X (.Subscript a b pos) (tOp r ta tb):=by
 intro pins s σ H Q I h;exact Subscript_ (Iu ha hb I h fun v u s2 x y H2 I2 rx ry q=>hr a b pins s2 σ H2 x y v u Q I2 rx ry q (hs _ _))
def JN(K:KA):R2:=fun x y H Q=>∃p xs i v,x=.ref p/\y=.int i/\SqL K H p xs/\atI xs i=some v/\Q v H
def JL(K:KA):R2:=fun x y H Q=>∃p xs i v,x=.ref p/\y=.int i/\SqT K H p xs/\atI xs i=some v/\Q v H
def JM:R2:=fun x y H Q=>∃z i c,x=.str z/\y=.int i/\z.length<=sizeLine/\atI z.cps.toList i=some c/\Q (.str ⟨#[c]⟩) H
theorem BZ:IxR X (JN X.K):=by
 intro value slice pins s σ H x y v u Q I rx ry h hs;obtain⟨p,xs,i,z,rfl,rfl,hq,he,q⟩:=h;cases rx;obtain⟨t,rfl⟩:=ry;obtain⟨its,r,pl,hz⟩:=I.list hq;obtain⟨j,h1,h2,h3,h4,h5⟩:=qM he;obtain⟨w,ew,rw'⟩:=r.get h2;have hl:=r.length;have hn:=pw;have fin:EP X pins σ Q w s:=⟨z,H,I,rw',q⟩
 by_cases h0:0<=i
 ·have hj:i.toNat=j:=by
   rw[seqIndex_of h0 h5] at h1;exact Lh h1
  exact item_listR pl.isList h0 (by omega) (by rw[hj];simpa using ew) fin hs
 ·have hj:(i+(its.toArray.size:Int)).toNat=j:=by
   rw[seqIndex_neg (by omega) h4] at h1;rw[LD,← hl];exact Lh h1
  exact Rw (x:=w) pl.isList.typeIs slot_list_getitem.lookup
   (wpAny_getItem_list_neg (Q:=fun r s'=>r=w/\EP X pins σ Q r s') pl.isList (by omega) (by rw[LD] <;> omega) (by omega) (by rw[hj];simpa using ew) ⟨rfl,fin⟩) hs
theorem F7:IxR X (JL X.K):=by
 intro value slice pins s σ H x y v u Q I rx ry h hs;obtain⟨p,xs,i,z,rfl,rfl,hq,he,q⟩:=h;cases rx;obtain⟨t,rfl⟩:=ry;obtain⟨its,r,pl,hz⟩:=I.tuple hq;obtain⟨j,h1,h2,h3,h4,h5⟩:=qM he;obtain⟨w,ew,rw'⟩:=r.get h2;have hl:=r.length;have hn:=pw;have fin:EP X pins σ Q w s:=⟨z,H,I,rw',q⟩
 exact Rw (x:=w) pl.typeIs slot_tuple_getitem.lookup
  (getItem_tuple (j:=j) (Q:=fun r s'=>r=w/\EP X pins σ Q r s') pl (by omega) (by omega) (by rw[LD,← hl];exact h1) (by simpa using ew) ⟨rfl,fin⟩) hs
theorem F8:IxR X JM:=by
 intro value slice pins s σ H x y v u Q I rx ry h hs;obtain⟨z,i,c,rfl,rfl,hz,he,q⟩:=h;obtain⟨t,rfl⟩:=rx;obtain⟨t',rfl⟩:=ry;obtain⟨j,h1,h2,h3,h4,h5⟩:=qM he;have hl:z.cps.toList.length=z.length:=by simp[Str.length]
 rw[hl] at h1 h4 h5;have hn:=pw
 exact tail_any (typeIs_str s z t) slot_str_getitem.lookup (getItem_str (c:=c) (by
  have e1:decide (i < -(2 ^ 63:Int))=false:=decide_eq_false (by omega);have e2:decide (i ≥ 2 ^ 63)=false:=decide_eq_false (by omega);rw[e1,e2,Bool.or_false]) (by rw[h1];simpa using h2) ⟨.str ⟨#[c]⟩,H,I.tok _,⟨_,rfl⟩,q⟩) hs
theorem oP(lo hi:Option Int)(n:Nat):(OB lo hi none n).1=((HT.sIx n 0 lo:Nat):Int)/\(OB lo hi none n).2.1=((HT.sIx n n hi:Nat):Int)/\(OB lo hi none n).2.2=1:=by
 refine⟨?_,?_,rfl⟩
 ·cases lo with
  | none=>simp[OB,HT.sIx]
  | some i=>
   simp only[OB,HT.sIx,Rj,show (1:Int) > 0 by decide,if_true]
   by_cases h:i<0
   ·simp only[h,if_true] <;> omega
   ·simp only[h,if_false] <;> omega
 ·cases hi with
  | none=>simp[OB,HT.sIx]
  | some i=>
   simp only[OB,HT.sIx,Rj,show (1:Int) > 0 by decide,if_true]
   by_cases h:i<0
   ·simp only[h,if_true] <;> omega
   ·simp only[h,if_false] <;> omega
theorem nQ(its:List KB)(lo hi:Option Int):slicePick its.toArray lo hi none=((its.drop (HT.sIx its.length 0 lo)).take (HT.sIx its.length its.length hi-HT.sIx its.length 0 lo)).toArray:=by
 obtain⟨h1,h2,h3⟩:=oP lo hi its.toArray.size;unfold slicePick;rw[h1,h2,h3];simp only[sliceRange_one,pick_run,LD] <;> rfl
def JJ(K:KA):V->Option Int->Option Int->Hp->VK->Prop:=fun x lo hi H Q=>∃a xs,x=.ref a/\SqL K H a xs/\∀p,H p=none->Q (.ref p) (upd H p (.lst (zg xs lo hi)))
theorem B0:SlR X (JJ X.K):=by
 intro pins s σ H x v vl vu lo hi sl Q I rx hs pl pu h;obtain⟨a,xs,rfl,hx,q⟩:=h;cases rx;obtain⟨its,r,ht,hz⟩:=I.list hx;have hlen:=r.length;refine⟨"list",_,slot_list_getitem.lookup,ht.isList.typeIs,?_⟩;refine wpAny_getItem_list_slice ht.isList hs pl pu .none (by simp) ?_ (by rw[LD] <;> omega)
 rw[nQ,← hlen];refine⟨.ref s.heap.objs.size,_,I.laid (t':=s.toks) (o:=.lst (zg xs lo hi)) (fun b ob q=>KL _ q) (L9 _) ?_,rfl,q _ (I.hok.fresh (L9 _))⟩;exact⟨Lk (mv xs lo hi) hz,_,0,(r.drop (HT.sIx xs.length 0 lo)).take (HT.sIx xs.length xs.length hi-HT.sIx xs.length 0 lo),LM _ rfl⟩
def mM:V->Bool
 | .non=>true
 | .bl _=>true
 | .int _=>true
 | .str _=>true
 | _=>false
def eqV:V->V->Bool
 | .non,.non=>true
 | .bl a,.bl b=>a == b
 | .bl a,.int b=>(if a then 1 else 0) == b
 | .int a,.bl b=>a == (if b then 1 else 0)
 | .int a,.int b=>a == b
 | .str a,.str b=>a == b
 | _,_=>false
theorem Ft{A:LR}{s:KC}{y x:V}{u v:KB}(ry:RelV y u)(rx:RelV x v)(fy:mM y=true)(fx:mM x=true):NR A s u v (eqV y x):=by
 cases y with
 | non=>
  cases ry;cases x with
  | non=>cases rx;exact PM _
  | bl b=>cases rx;exact SeqAt.EqAt.none_bool b
  | int b=>obtain⟨t,rfl⟩:=rx;exact SeqAt.EqAt.none_int b t
  | str b=>obtain⟨t,rfl⟩:=rx;exact SeqAt.EqAt.none_str b t
  | _=>exact absurd (show false=true from fx) KW
 | bl a=>
  cases ry;cases x with
  | non=>cases rx;exact SeqAt.EqAt.bool_none a
  | bl b=>cases rx;exact SeqAt.EqAt.bool_bool a b
  | int b=>obtain⟨t,rfl⟩:=rx;exact SeqAt.EqAt.bool_int a b t
  | str b=>obtain⟨t,rfl⟩:=rx;exact SeqAt.EqAt.bool_str a b t
  | _=>exact absurd (show false=true from fx) KW
 | int a=>
  obtain⟨t',rfl⟩:=ry;cases x with
  | non=>cases rx;exact SeqAt.EqAt.int_none a t'
  | bl b=>cases rx;exact SeqAt.EqAt.int_bool a t' b
  | int b=>obtain⟨t,rfl⟩:=rx;exact SeqAt.EqAt.int_int a t' b t
  | str b=>obtain⟨t,rfl⟩:=rx;exact QS a t' b t
  | _=>exact absurd (show false=true from fx) KW
 | str a=>
  obtain⟨t',rfl⟩:=ry;cases x with
  | non=>cases rx;exact SeqAt.EqAt.str_none a t'
  | bl b=>cases rx;exact SeqAt.EqAt.str_bool a t' b
  | int b=>obtain⟨t,rfl⟩:=rx;exact QP a t' b t
  | str b=>obtain⟨t,rfl⟩:=rx;exact SeqAt.EqAt.str_str a t' b t
  | _=>exact absurd (show false=true from fx) KW
 | _=>exact absurd (show false=true from fy) KW
def eqU(x:V)(u:KB):Bool:=match u with
 | .none=>eqV .non x
 | .bool b=>eqV (.bl b) x
 | .int i _=>eqV (.int i) x
 | .str z _=>eqV (.str z) x
 | _=>false
theorem Ax{x y:V}{u:KB}(r:RelV y u)(f:mM y=true):eqU x u=eqV y x:=by
 cases y with
 | non=>cases r;rfl
 | bl b=>cases r;rfl
 | int i=>obtain⟨t,rfl⟩:=r;rfl
 | str z=>obtain⟨t,rfl⟩:=r;rfl
 | _=>exact absurd (show false=true from f) KW
theorem mD{x:V}:∀{xs:List V}{us:List KB},Vals xs us->xs.all mM=true->us.any (eqU x)=xs.any fun y=>eqV y x
 | _,_,.nil,_=>rfl
 | y::xs,u::us,.cons r t,f=>by
  rw[Mi,Lm] at f;rw[M4,M4,Ax r f.1,mD t f.2]
theorem jf{A:LR}{s:KC}{x:V}{v:KB}(rx:RelV x v)(fx:mM x=true):∀{xs:List V}{us:List KB},Vals xs us->xs.all mM=true->∀u∈us,NR A s u v (eqU x u)
 | _,_,.nil,_=>fun u hu=>by cases hu
 | y::xs,u::us,.cons r t,f=>fun u' hu=>by
  rw[Mi,Lm] at f;rcases L4.mp hu with rfl | hu
  ·rw[Ax r f.1];exact Ft r rx f.1 fx
  ·exact jf rx fx t f.2 u' hu
def inV(x:V)(xs:List V):Bool:=xs.any fun y=>eqV y x
def rIn(K:KA)(neg:Bool):R2:=fun x y H Q=>∃p xs,y=.ref p/\(SqL K H p xs\/SqT K H p xs)/\mM x=true/\xs.all mM=true/\Q (.bl (if neg then !inV x xs else inV x xs)) H
theorem p7:OpR X (LZ .In) (rIn X.K false):=by
 intro pins s σ H x y v u Q I rx ry h;obtain⟨p,xs,rfl,hq,fx,fs,q⟩:=h;cases ry;rcases hq with hq | hq
 ·obtain⟨its,r,pl,hz⟩:=I.list hq
  refine SeqAt.in_listAt (eqU x) pl.isList (fun w hw=>jf rx fx r fs w (by simpa using hw)) ⟨.bl _,H,I,rfl,?_⟩;rw[show its.toArray.any (eqU x)=its.any (eqU x) by simp,mD r fs];exact q
 ·obtain⟨its,r,pl,hz⟩:=I.tuple hq
  refine SeqAt.in_tupleAt (eqU x) pl (fun w hw=>jf rx fx r fs w (by simpa using hw)) ⟨.bl _,H,I,rfl,?_⟩;rw[show its.toArray.any (eqU x)=its.any (eqU x) by simp,mD r fs];exact q
theorem kg:OpR X (LZ .NotIn) (rIn X.K true):=by
 intro pins s σ H x y v u Q I rx ry h;obtain⟨p,xs,rfl,hq,fx,fs,q⟩:=h;cases ry;rcases hq with hq | hq
 ·obtain⟨its,r,pl,hz⟩:=I.list hq
  refine SeqAt.notIn_listAt (eqU x) pl.isList (fun w hw=>jf rx fx r fs w (by simpa using hw)) ⟨.bl _,H,I,rfl,?_⟩;rw[show its.toArray.any (eqU x)=its.any (eqU x) by simp,mD r fs];exact q
 ·obtain⟨its,r,pl,hz⟩:=I.tuple hq
  refine SeqAt.notIn_tupleAt (eqU x) pl (fun w hw=>jf rx fx r fs w (by simpa using hw)) ⟨.bl _,H,I,rfl,?_⟩;rw[show its.toArray.any (eqU x)=its.any (eqU x) by simp,mD r fs];exact q
theorem p6:OpR X (LZ .NotIn) (fun x y H Q=>∃i j,x=.str i/\y=.str j/\Q (.bl (!(!(MA j i 0 j.length 1).isEmpty))) H):=by
 intro pins s σ H x y v u Q I rx ry h;obtain⟨i,j,rfl,rfl,q⟩:=h;obtain⟨t,rfl⟩:=rx;obtain⟨t',rfl⟩:=ry;exact notIn_str ⟨.bl _,H,I,rfl,q⟩
theorem ku:iZ X (.type "list") (fun xs H Q=>∃p ys,xs=[.ref p]/\(SqL X.K H p ys\/SqT X.K H p ys)/\∀l,H l=none->Q (.ref l) (upd H l (.lst ys))):=by
 intro pins s σ H xs us Q I r h;obtain⟨p,ys,rfl,hq,q⟩:=h;obtain⟨u,rfl,rx⟩:=vals1 r;cases rx
 have fin:∀(its:List KB),Vals ys its->ys.length<=sizeLine->∀(h':Heap)(c':Nat),(∀b o',s.heap.get? b=some o'->h'.get? b=some o')->
   h'.get? s.heap.objs.size=some { cls:=.type "list",dict:=none,data:=.seq its.toArray c',slots:=#[] }->EP X pins σ Q (.ref s.heap.objs.size) { s with heap:=h' }:=fun its r' hz h' c' kp e=>
  ⟨.ref s.heap.objs.size,_,I.laid (t':=s.toks) kp (L9 _) (show dW X.prog X.w _ h' _ (.lst ys) from ⟨hz,its,c',r',e⟩),rfl,q _ (I.hok.fresh (L9 _))⟩
 rcases hq with hq | hq
 ·obtain⟨its,r',pl,hz⟩:=I.list hq
  have hlen:=r'.length;obtain⟨o,ho,hc,n,hd⟩:=pl.isList;exact call_list_seq p (.inl rfl) ho hc hd (fun h' c' kp e=>fin its r' hz h' c' kp e) (by simp only[LD] <;> omega)
 ·obtain⟨its,r',pl,hz⟩:=I.tuple hq
  have hlen:=r'.length;obtain⟨o,ho,hc,n,hd⟩:=pl;exact call_list_seq p (.inr rfl) ho hc hd (fun h' c' kp e=>fin its r' hz h' c' kp e) (by simp only[LD] <;> omega)
theorem jy:iZ X (.type "tuple") (fun xs H Q=>∃p ys,xs=[.ref p]/\((SqL X.K H p ys/\∀l,H l=none->Q (.ref l) (upd H l (.tup ys)))\/(SqT X.K H p ys/\Q (.ref p) H))):=by
 intro pins s σ H xs us Q I r h;obtain⟨p,ys,rfl,h⟩:=h;obtain⟨u,rfl,rx⟩:=vals1 r;cases rx;rcases h with⟨hq,q⟩|⟨hq,q⟩
 ·obtain⟨its,r',pl,hz⟩:=I.list hq
  have hlen:=r'.length;refine call_tuple_list pl.isList (fun h' kp=>?_) (by simp only[LD] <;> omega)
  have I1:Inv X pins σ H { s with heap:=h' }:=I.kept (t':=s.toks) kp
  have I2:Inv X pins σ (upd H h'.objs.size (.tup ys)) { s with heap:=h'.push { cls:=.type "tuple",data:=.seq its.toArray } }:=
   I1.laid (t':=s.toks) (fun b o e=>KL _ e) (L9 _) (show dW X.prog X.w _ _ _ (.tup ys) from ⟨hz,its,r',zx.new _ _⟩)
  exact⟨.ref h'.objs.size,_,I2,rfl,q _ (I1.hok.fresh (L9 _))⟩
 ·obtain⟨its,r',pl,hz⟩:=I.tuple hq
  exact call_tuple_same pl ⟨.ref p,H,I,rfl,q⟩
def tyV(K:KA)(T:String)(x:V)(H:Hp):Prop:=match x with
 | .str _=>T="str"
 | .int _=>T="int"
 | .ref p=>(T="list"/\∃xs,SqL K H p xs)\/(T="tuple"/\∃o,K.lookup p=some o/\o.cls=.type "tuple"/\o.dict=none) ∨
   (T="dict"/\((∃kvs,H p=some (.dK kvs))\/∃kvs,H p=some (.dT kvs)))\/(T="set"/\∃S n,H p=some (.set S n))
 | _=>False
theorem Dw{pins:List (Addr×Obj)}{σ:St}{H:Hp}{s:KC}{T:String}{x:V}{v:KB}(I:Inv X pins σ H s)(r:RelV x v)(ty:tyV X.K T x H) :
  s.TypeIs v T/\∀a,v=.ref a->∃ob,s.heap.get? a=some ob/\ob.dict=none:=by
 cases x with
 | str z=>
  obtain⟨t,rfl⟩:=r;cases (show T="str" from ty);exact⟨typeIs_str s z t,fun _ e=>nomatch e⟩
 | int i=>
  obtain⟨t,rfl⟩:=r;cases (show T="int" from ty);exact⟨typeIs_int s i t,fun _ e=>nomatch e⟩
 | ref p=>
  cases r;rcases ty with⟨rfl,xs,hq⟩|⟨rfl,o,hk,hc,hd⟩|⟨rfl,hk⟩|⟨rfl,S,n,hk⟩
  ·obtain⟨its,_,pl,_⟩:=I.list hq
   refine⟨pl.isList.typeIs,fun a e=>?_⟩;cases e;obtain⟨o,n,e,c,hd,_⟩:=pl;exact⟨o,e,hd⟩
  ·refine⟨⟨o,I.kIn p o hk,hc⟩,fun a e=>?_⟩
   cases e;exact⟨o,I.kIn _ o hk,hd⟩
  ·have z:∃o,s.heap.get? p=some o/\o.ExactDict:=by
    rcases hk with⟨kvs,hk⟩|⟨kvs,hk⟩
    ·obtain⟨_,_,_,_,o,_,_,e,ex,_⟩:=I.hok p _ hk
     exact⟨o,e,ex⟩
    ·obtain⟨_,_,_,_,o,_,_,e,ex,_⟩:=I.hok p _ hk
     exact⟨o,e,ex⟩
   obtain⟨o,e,ex⟩:=z;refine⟨⟨o,e,ex.1⟩,fun a e2=>?_⟩;cases e2;exact⟨o,e,ex.2.1⟩
  ·obtain⟨o,_,_,_,e,ex,_⟩:=I.hok p _ hk
   refine⟨⟨o,e,ex.1⟩,fun a e2=>?_⟩;cases e2;exact⟨o,e,ex.2.1⟩
 | _=>exact KJ ty
def tBM(K:KA)(T:String)(r:V->List V->Hp->VK->Prop)(to:TE)(t:TA):TE:=fun σ H Q=>to σ H fun x H1=>tyV K T x H1/\t σ H1 fun xs H2=>r x xs H2 Q
variable{o e : Expr}{es : List Expr}{to : TE}{t : TA}{name : Str}{apos cpos : Ma}{T id : String}{r : V → List V → Hp → VK → Prop}
theorem E9 (pa:PlainAttrs T) (slot:Slot T name id) (hty:typeOf (.builtin id)=pure (.type "method_descriptor")) (hm:MtR X id r) (ho:PE X o to) (ha:PA X (e::es) t)
  (hbase:Pm o name X.env (M7 o X.env)=M7 o X.env:=by rfl)
  (hfew:((Nh cpos (LA (e::es) X.env)).all (fun x=>!x.1) && (backToKw cpos (keywordEach [] X.env)).all (fun x=>x.1.isSome)
   && decide ((e::es).length+([]:List Keyword).length+(if ([]:List Keyword).isEmpty then 0 else 1)<30))=true:=by rfl)
  (hline:(apos.endLine == cpos.line)=true:=by rfl) (hs:LA (e::es) X.env=(false,M7 e X.env)::LA es X.env:=by rfl) (hplain:(Nh cpos (LA es X.env)).any (·.1)=false:=by rfl) :
  PE X (.Call (.Attribute o name apos) (e::es) [] cpos) (tBM X.K T r to t):=by
 intro pins s σ H Q I h;refine Rp hbase hfew hline rfl (thn (ho pins s σ H _ I h) fun v s1 ⟨x,H1,I1,r1,ty,q1⟩=>?_);obtain⟨h1,h2⟩:=Dw I1 r1 ty;refine⟨T,id,pa,slot,hty,h1,h2,?_⟩;have hA:=ha cpos pins s1 σ H1 _ I1 q1;rw[hs] at hA ⊢;refine Qb (by show (false || (Nh cpos (LA es X.env)).any (·.1))=false;rw[hplain] <;> rfl) (Qx ?_)
 exact thn hA fun us s2 ⟨vs,H2,I2,r2,q2⟩=>hm pins s2 σ H2 x vs v us Q I2 r1 r2 q2
end
end L2
namespace L2
open PySem PySem.Spec PyProof.Rows
def MtM(X:Cx)(id:String)(r:V->List V->Hp->VK->Prop):Prop:=
 ∀(pins:List (Addr×Obj))(s:KC)(σ:St)(H:Hp)(x:V)(xs:List V)(v:KB)(us:List KB)(Q:VK),Inv X pins σ H s->RelV x v->Vals xs us->r x xs H Q->
  LC (LU X.prog X.w) X.A (call (.builtin id) (v::us)) (EP X pins σ Q) X.xe s
theorem Vals.one:∀{x:V}{us:List KB},Vals [x] us->∃u,us=[u]/\RelV x u
 | _,_,.cons r .nil=>⟨_,rfl,r⟩
section
variable{X : Cx}{pins : List (Addr×Obj)}{σ : St}{H : Hp}{s : KC}{l b : Addr}{xs ys zs : List V}
theorem Inv.lset{its its':List KB}{n:Nat}{f:Array KB->Array KB}{t':Nat}(I:Inv X pins σ H s)(hH:H l=some (.lst xs))
  (e:s.heap.get? l=some { cls:=.type "list",data:=.seq its.toArray n }) (hf:f its.toArray=its'.toArray) (hv:Vals ys its') (hz:ys.length<=sizeLine) :
  Inv X pins σ (upd H l (.lst ys)) { s with heap:=s.heap.update l (MD f),toks:=t' }:=by
 have q:=PySem.IsL.update e f;rw[hf] at q;refine I.write (x:=l) (e:=l) (by rw[hH];exact trivial) (.inl rfl) (fun b' u hb hu=>(Nc s.heap (MD f) (N3 hb)).trans hu) ⟨_,q⟩ ?_;exact⟨hz,its',_,hv,q⟩
theorem Inv.lnew{its:List KB}{t':Nat}(I:Inv X pins σ H s)(hv:Vals ys its)(hz:ys.length<=sizeLine) :
  Inv X pins σ (upd H s.heap.objs.size (.lst ys)) { s with heap:=s.heap.push { cls:=.type "list",data:=.seq its.toArray },toks:=t' }:=
 I.laid (fun _ _ q=>KL _ q) (L9 _) ⟨hz,its,0,hv,LM _ rfl⟩
theorem Inv.fresh(I:Inv X pins σ H s):H s.heap.objs.size=none:=I.hok.fresh (L9 _)
theorem Inv.lstM (I:Inv X pins σ H s) (hH:H l=some (.lst xs)):xs.length<=sizeLine/\∃(its:List KB) (n:Nat),Vals xs its/\xs.length=its.length/\s.heap.get? l=some { cls:=.type "list",data:=.seq its.toArray n }:=by
 obtain⟨z,its,n,r,e⟩:=I.hok l _ hH;exact⟨z,its,n,r,r.length,e⟩
end
section
variable{X : Cx}
def Ba:V->List V->Hp->VK->Prop:=fun x vs H Q=>∃l xs y,x=.ref l/\vs=[y]/\H l=some (.lst xs)/\xs.length<sizeLine/\Q .non (upd H l (.lst (xs++[y])))
theorem p8:MtM X "list.append" Ba:=by
 intro pins s σ H x vs v us Q I rx rv h;obtain⟨l,xs,y,rfl,rfl,hH,hz,q⟩:=h;cases rx;obtain⟨u,rfl,ru⟩:=rv.one;obtain⟨z,its,n,r,hl,e⟩:=I.lstM hH;refine call_meets Qw ⟨_,e,rfl⟩ F.entry_list_append (F.args_list_append_2 _ _) (PySem.list_append l its.toArray n u (by rw[LD];omega)) ⟨e,?_⟩;refine⟨.non,_,I.lset (its':=its++[u]) hH e (by simp) (r.append (.cons ru .nil)) ?_,rfl,q⟩;rw[L0,Lv];omega
end
end L2
namespace L2
open PySem PySem.Spec PyProof.Rows
section
variable{κ : Type}[DecidableEq κ]
def mF(kvs:List (κ×V))(k:κ):Option V:=(kvs.find? fun kv=>decide (kv.1=k)).map (·.2)
def putK(kvs:List (κ×V))(k:κ)(v:V):List (κ×V):=
 if (kvs.any fun kv=>decide (kv.1=k))=true then kvs.map (fun kv=>if kv.1=k then (kv.1,v) else kv) else kvs++[(k,v)]
theorem j5{p:κ×V}{r:List (κ×V)}{k:κ}(e:p.1=k):mF (p::r) k=some p.2:=by simp[mF,MH,e]
theorem fP{p:κ×V}{r:List (κ×V)}{k:κ}(e:¬ p.1=k):mF (p::r) k=mF r k:=by simp[mF,MH,e]
theorem kK(k:κ):∀kvs:List (κ×V),(kvs.any fun kv=>decide (kv.1=k))=(mF kvs k).isSome
 | []=>rfl
 | p::r=>by
  rw[M4]
  by_cases e:p.1=k
  ·simp only[j5 e,decide_eq_true e,Bool.true_or,Option.isSome_some]
  ·rw[fP e,decide_eq_false e,Bool.false_or];exact kK k r
theorem g9(kvs:List (κ×V))(k:κ)(v:V):(putK kvs k v).length<=kvs.length+1:=by
 unfold putK
 split
 ·rw[KH];omega
 ·rw[L0,LK,Mg];omega
theorem qO.isSome_eq{o:Option V}{u:Option KB}(r:qO o u):o.isSome=u.isSome:=by
 cases o with
 | none=>cases u with
  | none=>rfl
  | some _=>exact(show False from r).elim
 | some _=>cases u with
  | none=>exact(show False from r).elim
  | some _=>rfl
theorem KV.val{kvs:List (κ×V)}{vs:List (κ×KB)}(r:KV kvs vs)(k:κ):qO (mF kvs k) (MG vs k):=by
 unfold KV at r
 induction r with
 | nil=>exact Mq
 | @cons p q ps qs h t ih=>
  obtain⟨h1,h2⟩:=h
  by_cases e:p.1=k
  ·have e':q.1=k:=h1.symm.trans e
   have b:MG (q::qs) k=some q.2:=by simp[MG,MH,e']
   rw[j5 e,b];exact h2
  ·have e':¬ q.1=k:=fun z=>e (h1.trans z)
   have b:MG (q::qs) k=MG qs k:=by simp[MG,MH,e']
   rw[fP e,b];exact ih
theorem KV.any{kvs:List (κ×V)}{vs:List (κ×KB)}(r:KV kvs vs)(k:κ):(kvs.any fun kv=>decide (kv.1=k))=vs.any fun kv=>decide (kv.1=k):=by
 unfold KV at r
 induction r with
 | nil=>rfl
 | cons h t ih=>rw[M4,M4,ih,h.1]
theorem KV.repl{kvs:List (κ×V)}{vs:List (κ×KB)}(r:KV kvs vs)(k:κ){y:V}{u:KB}(ry:RelV y u) :
  KV (kvs.map fun kv=>if kv.1=k then (kv.1,y) else kv) (vs.map fun kv=>if kv.1=k then (kv.1,u) else kv):=by
 unfold KV at r ⊢
 induction r with
 | nil=>exact .nil
 | @cons p q ps qs h t ih=>
  rw[KG,KG];refine .cons ?_ ih;obtain⟨h1,h2⟩:=h
  by_cases e:p.1=k
  ·rw[if_pos e,if_pos (h1.symm.trans e)];exact⟨h1,ry⟩
  ·rw[if_neg e,if_neg (fun z=>e (h1.trans z))];exact⟨h1,h2⟩
theorem KV.put{kvs:List (κ×V)}{vs:List (κ×KB)}(r:KV kvs vs)(k:κ){y:V}{u:KB}(ry:RelV y u):KV (putK kvs k y) (Qp vs k u):=by
 unfold putK Qp;rw[r.any k]
 by_cases e:(vs.any fun kv=>decide (kv.1=k))=true
 ·rw[if_pos e,if_pos e];exact r.repl k ry
 ·rw[if_neg e,if_neg e];exact Paired.snoc r ⟨rfl,ry⟩
theorem KV.length{kvs:List (κ×V)}{vs:List (κ×KB)}(r:KV kvs vs):kvs.length=vs.length:=Ln r
end
theorem lR{P:L6}{w:LI}{k:Key}{u:KB}(r:RelV (kV k) u):(aB P w).is k u=true:=by
 cases k with
 | inl i=>obtain⟨t,e⟩:=(show ∃t,u=Rv i t from r);subst e;exact qo P w i t
 | inr x=>obtain⟨t,e⟩:=(show ∃t,u=Ru x t from r);subst e;exact g8 P w x t
theorem pC{P:L6}{w:LI}:∀{ks:List Key}{us:List KB},Vals (ks.map kV) us->ItemsAre (aB P w) ks us
 | [],_,r=>by rw[Mh] at r;cases r;exact .nil
 | k::ks,_,r=>by
  rw[KG] at r;cases r with
  | cons h t=>exact .cons (lR h) (pC t)
abbrev KT(H:Hp):List (cV×V)->List (cV×Addr×KB)->Prop:=Qu fun p q=>p.1=q.1/\fO H q.2.1 p.1/\RelV p.2 q.2.2
theorem KT.val{H:Hp}{kvs:List (cV×V)}{xs:List (cV×Addr×KB)}(r:KT H kvs xs)(k:cV):qO (mF kvs k) ((Qr xs k).map (·.2)):=by
 induction r with
 | nil=>exact Mq
 | @cons p q ps qs h t ih=>
  obtain⟨h1,_,h2⟩:=h
  by_cases e:p.1=k
  ·have e':q.1=k:=h1.symm.trans e
   have b:Qr (q::qs) k=some q.2:=by simp[Qr,MH,e']
   rw[j5 e,b];exact h2
  ·have e':¬ q.1=k:=fun z=>e (h1.trans z)
   have b:Qr (q::qs) k=Qr qs k:=by simp[Qr,MH,e']
   rw[fP e,b];exact ih
theorem KT.repl{H:Hp}{kvs:List (cV×V)}{xs:List (cV×Addr×KB)}(r:KT H kvs xs)(k:cV){y:V}{u:KB}(ry:RelV y u) :
  KT H (kvs.map fun kv=>if kv.1=k then (kv.1,y) else kv) (xs.map (putAt k u)):=by
 induction r with
 | nil=>exact .nil
 | @cons p q ps qs h t ih=>
  rw[KG,KG];refine .cons ?_ ih;obtain⟨h1,h2,h3⟩:=h;unfold putAt
  by_cases e:p.1=k
  ·rw[if_pos e,if_pos (h1.symm.trans e)];exact⟨h1,h2,ry⟩
  ·rw[if_neg e,if_neg (fun z=>e (h1.trans z))];exact⟨h1,h2,h3⟩
theorem KT.put{H:Hp}{kvs:List (cV×V)}{xs:List (cV×Addr×KB)}(r:KT H kvs xs)(k:cV){b:Addr}{y:V}{u:KB}(hb:fO H b k)(ry:RelV y u) :
  KT H (putK kvs k y) (storedH xs k b u):=by
 have e:(kvs.any fun kv=>decide (kv.1=k))=(Qr xs k).isSome:=by
  rw[kK,(r.val k).isSome_eq,OI]
 unfold putK storedH;rw[e]
 by_cases q:(Qr xs k).isSome=true
 ·rw[if_pos q,if_pos q];exact r.repl k ry
 ·rw[if_neg q,if_neg q];exact Paired.snoc r ⟨rfl,hb,ry⟩
theorem KT.keeps{H H':Hp}{kvs:List (cV×V)}{xs:List (cV×Addr×KB)}(r:KT H kvs xs)(ht:∀b ys,H b=some (.tup ys)->H' b=some (.tup ys)):KT H' kvs xs:=
 Paired.mapP r fun _ _ z=>⟨z.1,z.2.1.keeps ht,z.2.2⟩
section
variable{P : L6}{w : LI}{H : Hp}{h : Heap}{a : Addr}
theorem DQ{u:HO}(ok:HOk P w H h)(e:Rd H a u):dW P w H h a u:=e.ok ok
theorem tU{kvs:List (Key×V)}(ok:HOk P w H h)(e:Rd H a (.dK kvs)):kvs.length<=sizeLine/\(a == Lo)=false/\∃vs,KV kvs vs/\h.DictOf (aB P w) a vs:=
 show dW P w H h a (.dK kvs) from DQ ok e
theorem FI{kvs:List (Key×V)}(ok:HOk P w H h)(e:H a=some (.dK kvs)):kvs.length<=sizeLine/\(a == Lo)=false/\∃vs,KV kvs vs/\h.DictOf (aB P w) a vs:=tU ok (.inl e)
theorem Ce{ks:List Key}(ok:HOk P w H h)(e:H a=some (.tup (ks.map kV))):Q0 (aB P w) h ks a:=by
 obtain⟨_,its,r,o,h1,h2,⟨n,h3⟩,_⟩:=(show dW P w H h a (.tup (ks.map kV)) from ok a _ e);exact⟨o,its.toArray,n,h1,h2,h3,by simpa using pC r⟩
theorem lH(ok:HOk P w H h):∀{ks:cV}{vs:List V}{us:List KB},NV H ks vs->Vals vs us->NItems (aB P w) h ks us
 | [],_,_,e,r=>by cases e;cases r;exact .nil
 | .inl k::ks,_,_,⟨t,e,m⟩,r=>by
  subst e;cases r with
  | cons h1 h2=>exact .sc (lR h1) (lH ok m h2)
 | .inr l::ks,_,_,⟨c,t,e,hc,m⟩,r=>by
  subst e;cases r with
  | cons h1 h2=>cases h1;exact .tp (Ce ok hc) (lH ok m h2)
theorem key_of{ks:cV}(ok:HOk P w H h)(e:fO H a ks):(i7 P w).is h ks a:=by
 obtain⟨vs,e,m⟩:=e;obtain⟨_,its,r,o,h1,h2,⟨n,h3⟩,_⟩:=(show dW P w H h a (.tup vs) from ok a _ e);exact⟨o,its.toArray,n,h1,h2,h3,by simpa using lH ok m r⟩
theorem je{A:LR}(hu:A.units+16<cLine):A.in1.units+8<cLine:=show A.units+1+8<cLine by omega
theorem qJ{kvs:List (cV×V)}(ok:HOk P w H h)(e:Rd H a (.dT kvs)):kvs.length<=sizeLine/\(a == Lo)=false/\
  ∃xs,KT H kvs xs/\h.DictOfH (i7 P w) a xs:=by
 obtain⟨z,y,xs,r,o,es,ep,h1,h2,h3,h4,h5⟩:=(show dW P w H h a (.dT kvs) from DQ ok e);refine⟨z,y,xs,r,o,es,ep,h1,h2,h3,h4,fun x hx=>?_,h5⟩
 have all:∀{l:List (cV×V)}{m:List (cV×Addr×KB)},KT H l m->∀x∈m,(i7 P w).is h x.1 x.2.1:=by
  intro l m q
  induction q with
  | nil=>intro x hx;exact nomatch hx
  | @cons p q ps qs hq t ih=>
   intro x hx;rcases L4.mp hx with e | hx
   ·subst e
    exact key_of ok (by rw[← hq.1];exact hq.2.1)
   ·exact ih x hx
 exact all r x hx
theorem FH{kvs:List (cV×V)}(ok:HOk P w H h)(e:H a=some (.dT kvs)):kvs.length<=sizeLine/\(a == Lo)=false/\
  ∃xs,KT H kvs xs/\h.DictOfH (i7 P w) a xs:=qJ ok (.inl e)
end
def CL(H:Hp)(a:Addr)(y:V)(r:Option V):Prop:=
 (∃kvs k,Rd H a (.dK kvs)/\y=kV k/\r=mF kvs k)\/∃kvs k b,Rd H a (.dT kvs)/\y=.ref b/\fO H b k/\r=mF kvs k
def AL(H:Hp)(a:Addr)(y v:V)(H':Hp):Prop:=
 (∃kvs k,H a=some (.dK kvs)/\y=kV k/\kvs.length<sizeLine/\H'=upd H a (.dK (putK kvs k v))) ∨
 ∃kvs k b,H a=some (.dT kvs)/\y=.ref b/\fO H b k/\kvs.length<sizeLine/\H'=upd H a (.dT (putK kvs k v))
theorem AL.k{H:Hp}{a:Addr}{kvs:List (Key×V)}{k:Key}{v:V}(e:H a=some (.dK kvs))(hl:kvs.length<sizeLine):AL H a (kV k) v (upd H a (.dK (putK kvs k v))):=.inl ⟨kvs,k,e,rfl,hl,rfl⟩
theorem AL.t{H:Hp}{a b:Addr}{kvs:List (cV×V)}{k:cV}{v:V}(e:H a=some (.dT kvs))(eb:fO H b k)(hl:kvs.length<sizeLine) :
  AL H a (.ref b) v (upd H a (.dT (putK kvs k v))):=.inr ⟨kvs,k,b,e,rfl,eb,hl,rfl⟩
section
variable{X : Cx}{pins : List (Addr×Obj)}{σ : St}{H : Hp}{s : KC}{a : Addr}{y v : V}{u r : KB}{o : Option V}{A : LR}{E : KB → KC → Prop}
theorem Inv.big(I:Inv X pins σ H s):Lo<s.heap.objs.size:=by
 have h:mainGlobals<s.heap.objs.size:=(I.mod.glob.keeps I.bk).lt;exact Nat.lt_trans (by decide) h
theorem wY{Q:KB->KC->Prop}(hu:A.units+16<cLine)(I:Inv X pins σ H s)(g:CL H a y (some v))(ry:RelV y u)(h:∀w' s',Inv X pins σ H s'->RelV v w'->Q w' s') :
  LC (LU X.prog X.w) A (Qc (.ref a) u) Q E s:=by
 rcases g with⟨kvs,k,e,ey,l⟩|⟨kvs,k,b,e,ey,eb,l⟩
 ·subst ey
  obtain⟨z,hd,vs,rel,dd⟩:=tU I.hok e;obtain⟨w',hw,rw'⟩:=qO.some_of (v:=v) (o:=MG vs k) (by rw[l];exact rel.val k);exact wpAny_getItem_of (lR ry) dd.mapOf hw (h w' _ (I.tok _) rw')
 ·subst ey
  cases (show u=M5 b from ry);obtain⟨z,hd,xs,rel,dd⟩:=qJ I.hok e;obtain⟨w',hw,rw'⟩:=qO.some_of (v:=v) (o:=(Qr xs k).map (·.2)) (by rw[l];exact rel.val k);obtain⟨p,hp,hp2⟩:=KQ.mp hw;refine wpAny_getItem_heap (je hu) (key_of I.hok eb) dd hp ?_;rw[hp2];exact h w' _ (I.tok _) rw'
theorem K9{Q:KB->KC->Prop}(hu:A.units+16<cLine)(I:Inv X pins σ H s)(g:CL H a y o)(ry:RelV y u)(h:∀s',Inv X pins σ H s'->Q (.bool o.isSome) s') :
  LC (LU X.prog X.w) A (LZ .In u (.ref a)) Q E s:=by
 rcases g with⟨kvs,k,e,ey,l⟩|⟨kvs,k,b,e,ey,eb,l⟩
 ·subst ey
  obtain⟨z,hd,vs,rel,dd⟩:=tU I.hok e;refine wpAny_in_of (lR ry) hd dd.mapOf ?_;rw[← (rel.val k).isSome_eq,← l];exact h _ (I.tok _)
 ·subst ey
  cases (show u=M5 b from ry);obtain⟨z,hd,xs,rel,dd⟩:=qJ I.hok e;refine wpAny_in_heap (je hu) (key_of I.hok eb) hd dd ?_;have q:=(rel.val k).isSome_eq;rw[OI] at q;rw[← q,← l];exact h _ (I.tok _)
theorem Cq{Q:KB->KC->Prop}(hu:A.units+16<cLine)(I:Inv X pins σ H s)(g:CL H a y o)(ry:RelV y u)(h:∀s',Inv X pins σ H s'->Q (.bool (!o.isSome)) s') :
  LC (LU X.prog X.w) A (LZ .NotIn u (.ref a)) Q E s:=by
 rcases g with⟨kvs,k,e,ey,l⟩|⟨kvs,k,b,e,ey,eb,l⟩
 ·subst ey
  obtain⟨z,hd,vs,rel,dd⟩:=tU I.hok e;refine wpAny_notIn_of (lR ry) hd dd.mapOf ?_;rw[← (rel.val k).isSome_eq,← l];exact h _ (I.tok _)
 ·subst ey
  cases (show u=M5 b from ry);obtain⟨z,hd,xs,rel,dd⟩:=qJ I.hok e;refine wpAny_notIn_heap (je hu) (key_of I.hok eb) hd dd ?_;have q:=(rel.val k).isSome_eq;rw[OI] at q;rw[← q,← l];exact h _ (I.tok _)
theorem ow{h':Heap}{t':Nat}{ob:HO}(I:Inv X pins σ H s)(mu:Mut (H a))(hs:Nd a s.heap h')(he:∃q,h'.get? a=some q)(new:dW X.prog X.w (upd H a ob) h' a ob) :
  Inv X pins σ (upd H a ob) { s with heap:=h',toks:=t' }:=
 I.write (x:=a) (e:=a) mu (.inl rfl) (fun b q hb z=>(hs.2 b hb).trans z) he new
theorem Ay{P:L6}{w:LI}{H':Hp}{h':Heap}{kvs:List (Key×V)}{vs:List (Key×KB)}(z:kvs.length<=sizeLine)(hd:(a == Lo)=false)(rel:KV kvs vs)(dd:h'.DictOf (aB P w) a vs) :
  dW P w H' h' a (.dK kvs):=⟨z,hd,vs,rel,dd⟩
theorem wX{H':Hp}{Q:Unit->KC->Prop}(hu:A.units+16<cLine)(I:Inv X pins σ H s)(g:AL H a y v H')(ry:RelV y u)(rv:RelV v r)(h:∀s',Inv X pins σ H' s'->Q () s') :
  LC (LU X.prog X.w) A (setItem (.ref a) u r) Q E s:=by
 rcases g with⟨kvs,k,e,ey,l,eH⟩|⟨kvs,k,b,e,ey,eb,l,eH⟩
 ·subst ey eH
  obtain⟨z,hd,vs,rel,dd⟩:=FI I.hok e;have hz:vs.length<=sizeLine:=by rw[← rel.length];exact z
  have hl:(putK kvs k v).length<=sizeLine:=by have:=g9 kvs k v;omega
  refine wpAny_setItem_pairs (hsz:=hz) (lR ry) dd fun h' dd' hs=>h _ ?_;have he:∃q,h'.get? a=some q:=let ⟨q,_,_,hq,_⟩:=dd';⟨q,hq⟩
  exact ow I (by rw[e];exact Mq) hs he (Ay hl hd (rel.put k rv) dd')
 ·subst ey eH
  cases (show u=M5 b from ry);obtain⟨z,hd,xs,rel,dd⟩:=FH I.hok e;have hz:xs.length<=sizeLine:=by rw[← Ln rel];exact z
  have hl:(putK kvs k v).length<=sizeLine:=by have:=g9 kvs k v;omega
  refine wpAny_setItem_heap (hsz:=hz) (je hu) (key_of I.hok eb) dd fun h' dd' hs=>h _ ?_;obtain⟨q,es,ep,hq,h2,h3,h4,_,h5⟩:=dd';refine ow I (by rw[e];exact Mq) hs ⟨q,hq⟩ ⟨hl,hd,_,(rel.put k eb rv).keeps fun c ys ec=>?_,q,es,ep,hq,h2,h3,h4,h5⟩;rw[aL (Es ec e (fun z=>nomatch z))];exact ec
end
theorem qK {X:Cx} {pins:List (Addr×Obj)} {σ:St} {H:Hp} {s:KC} {a:Addr} {y:V} {o:Option V} (I:Inv X pins σ H s) (g:CL H a y o):s.TypeIs (.ref a) "dict":=by
 rcases g with⟨kvs,k,e,_,_⟩|⟨kvs,k,b,e,_,_,_⟩
 ·obtain⟨_,_,vs,_,dd⟩:=tU I.hok e
  exact dd.typeIs
 ·obtain⟨_,_,xs,_,dd⟩:=qJ I.hok e
  exact dd.typeIs
def Hd(td ty tv:TE):TS:=fun D σ H=>tv σ H fun v H1=>td σ H1 fun x H2=>ty σ H2 fun y H3=>∃a H4,x=.ref a/\AL H3 a y v H4/\D.nx σ H4
section
variable{X : Cx}{o i e value : Expr}{pos pos' tpos : Ma}{td ty tv : TE}
theorem uX(hu:X.A.units+16<cLine)(ho:PE X o td)(hi:PE X i ty)(hv:PE X value tv)(hs:NQ value (some (.Subscript o i pos')) pos.line X.env=pure false) :
  PS X (.Assign [.Subscript o i pos'] value pos) (Hd td ty tv):=by
 intro pins s σ H D I h;refine Rq (thn (hv pins s σ H _ I h) fun r s1 ⟨v,H1,I1,rv,q1⟩=>thn (ho pins s1 σ H1 _ I1 q1) fun u s2 ⟨x,H2,I2,rx,q2⟩=>thn (hi pins s2 σ H2 _ I2 q2) fun iv s3 ⟨y,H3,I3,ry,a,H4,ex,g,q3⟩=>?_) hs;subst ex;obtain rfl:u=M5 a:=rx;exact wX hu I3 g ry rv fun s4 I4=>⟨σ,H4,I4,q3⟩
end
theorem sA {P:L6} {w:LI} {H:Hp} (h:Heap) (hb:Lo<h.objs.size):dW P w H (h.push { cls:=.type "dict",data:=.dict #[] }) h.objs.size (.dK []):=
 ⟨MQ _,beq_eq_false_iff_ne.mpr (N3 (LQ hb)),[],.nil,Qd h⟩
theorem sx {P:L6} {w:LI} {H:Hp} (h:Heap) (hb:Lo<h.objs.size):dW P w H (h.push { cls:=.type "dict",data:=.dict #[] }) h.objs.size (.dT []):=
 ⟨MQ _,beq_eq_false_iff_ne.mpr (N3 (LQ hb)),[],.nil,_,#[],0,LM _ rfl,⟨rfl,rfl,rfl⟩,rfl,rfl,List.nodup_nil⟩
def DA:TE:=fun _ H Q=>∀p,H p=none->Q (.ref p) (upd H p (.dK []))
def Dz:TE:=fun _ H Q=>∀p,H p=none->Q (.ref p) (upd H p (.dT []))
section
variable{X : Cx}{pos : Ma}
theorem yt:PE X (.Dict [] [] pos) DA:=fun pins s σ H Q I h=>
 wpAny_Dict_empty ⟨.ref s.heap.objs.size,_,I.laid (a:=s.heap.objs.size) (o:=.dK []) (t':=s.toks) (fun _ _ q=>KL _ q) (L9 _) (sA s.heap I.big),rfl,h _ (I.hok.fresh (L9 _))⟩
theorem yr:PE X (.Dict [] [] pos) Dz:=fun pins s σ H Q I h=>
 wpAny_Dict_empty ⟨.ref s.heap.objs.size,_,I.laid (a:=s.heap.objs.size) (o:=.dT []) (t':=s.toks) (fun _ _ q=>KL _ q) (L9 _) (sx s.heap I.big),rfl,h _ (I.hok.fresh (L9 _))⟩
end
def qU:List (TE×TE)->St->Hp->(List (V×V)->Hp->Prop)->Prop
 | [],_,H,Q=>Q [] H
 | (tk,tv)::r,σ,H,Q=>tk σ H fun x H1=>tv σ H1 fun y H2=>qU r σ H2 fun ps H3=>Q ((x,y)::ps) H3
abbrev VV:List (V×V)->List (KB×KB)->Prop:=Qu fun p q=>RelV p.1 q.1/\RelV p.2 q.2
def PPs(X:Cx)(pos:Ma)(keys:List (Option Expr))(values:List Expr)(trs:List (TE×TE)):Prop:=
 ∀(pins:List (Addr×Obj))(s:KC)(σ:St)(H:Hp)(Q:List (V×V)->Hp->Prop),Inv X pins σ H s->qU trs σ H Q->
  LC (LU X.prog X.w) X.A (evalPairs (pairTrees keys values X.env pos)) (fun vs s'=>∃ps H',Inv X pins σ H' s'/\VV ps vs/\Q ps H') X.xe s
theorem uZ{X:Cx}{pos:Ma}:PPs X pos [] [] []:=fun pins s σ H Q I h=>pairTrees_nil_walk ⟨[],H,I,.nil,h⟩
theorem rA{X:Cx}{pos:Ma}{k v:Expr}{ks:List (Option Expr)}{vs:List Expr}{tk tv:TE}{trs:List (TE×TE)}(hk:PE X k tk)(hv:PE X v tv)(hr:PPs X pos ks vs trs) :
  PPs X pos (some k::ks) (v::vs) ((tk,tv)::trs):=fun pins s σ H Q I h=>
 pairTrees_cons_walk (thn (hk pins s σ H _ I h) fun u s1 ⟨x,H1,I1,rx,q1⟩=>thn (hv pins s1 σ H1 _ I1 q1) fun w2 s2 ⟨y,H2,I2,ry,q2⟩=>
  thn (hr pins s2 σ H2 _ I2 q2) fun ws s3 ⟨ps,H3,I3,rel,q3⟩=>⟨(x,y)::ps,H3,I3,.cons ⟨rx,ry⟩ rel,q3⟩)
def fH(kvs more:List (Key×V)):List (Key×V):=more.foldl (fun acc kv=>putK acc kv.1 kv.2) kvs
theorem KV.merge:∀{more:List (Key×V)}{rs:List (Key×KB)}{kvs:List (Key×V)}{vs:List (Key×KB)},KV more rs->KV kvs vs->KV (fH kvs more) (merged vs rs):=by
 intro more rs kvs vs r;unfold KV at r
 induction r generalizing kvs vs with
 | nil=>intro q;exact q
 | @cons p q ps qs h t ih=>
  intro r0
  have e:KV (putK kvs p.1 p.2) (Qp vs q.1 q.2):=by
   have:=r0.put p.1 h.2;rw[← h.1];exact this
  exact ih e
theorem jh:∀(more kvs:List (Key×V)),(fH kvs more).length<=kvs.length+more.length
 | [],kvs=>by show kvs.length<=kvs.length+0;omega
 | p::r,kvs=>by
  have h1:=jh r (putK kvs p.1 p.2);have h2:=g9 kvs p.1 p.2;show (fH (putK kvs p.1 p.2) r).length<=_;rw[LK];omega
theorem nG{P:L6}{w:LI}:∀{kvs:List (Key×V)}{ws:List (KB×KB)},VV (kvs.map fun kv=>(kV kv.1,kv.2)) ws->∃rs,Carries (aB P w) ws rs/\KV kvs rs
 | [],_,r=>by rw[Mh] at r;cases r;exact⟨[],Mq,.nil⟩
 | p::kvs,_,r=>by
  rw[KG] at r;cases r with
  | @cons a b as bs h t=>
   obtain⟨rs,c,q⟩:=nG (P:=P) (w:=w) t;obtain⟨b1,b2⟩:=b;exact⟨(p.1,b2)::rs,⟨lR h.1,rfl,c⟩,.cons ⟨rfl,h.2⟩ q⟩
def GX(trs:List (TE×TE)):TE:=fun σ H Q=>∀p,H p=none->qU trs σ (upd H p (.dK [])) fun ps H2=>H2 p=some (.dK [])/\∃kvs:List (Key×V),ps=kvs.map (fun kv=>(kV kv.1,kv.2))/\kvs.length<=15/\Q (.ref p) (upd H2 p (.dK (fH [] kvs)))
theorem Bt{X:Cx}{pos:Ma}{keys:List (Option Expr)}{values:List Expr}{trs:List (TE×TE)}(h:PPs X pos keys values trs)(hall:keys.all (·.isSome)=true)(hl:keys.length=values.length)(h0:keys≠[])
  (h15:keys.length<=15):PE X (.Dict keys values pos) (GX trs):=by
 intro pins s σ H Q I q;have hn:=I.hok.fresh (L9 s.heap.objs.size);have I1:=I.laid (a:=s.heap.objs.size) (o:=.dK []) (h':=s.heap.push { cls:=.type "dict",data:=.dict #[] }) (t':=s.toks) (fun _ _ q=>KL _ q) (L9 _) (sA s.heap I.big);refine wpAny_Dict_walk (knd:=aB X.prog X.w) hall hl h0 h15 (thn (h pins _ σ _ _ I1 (q _ hn)) fun ws s2 ⟨ps,H2,I2,rel,e,kvs,ep,lk,q2⟩=>?_);subst ep;obtain⟨rs,c,rk⟩:=nG (P:=X.prog) (w:=X.w) rel;obtain⟨z,hd,vs0,r0,dd⟩:=FI I2.hok e;cases r0;refine⟨rs,c,dd,fun h' dd' hs=>⟨.ref s.heap.objs.size,_,?_,rfl,q2⟩⟩
 have hz:(fH [] kvs).length<=sizeLine:=by
  have h1:=jh kvs [];rw[Mg] at h1;rw[Li];omega
 have he:∃q,h'.get? s.heap.objs.size=some q:=let ⟨q,_,_,hq,_⟩:=dd';⟨q,hq⟩
 exact ow I2 (by rw[e];exact Mq) hs he (Ay hz hd (rk.merge .nil) dd')
end L2
namespace Att
open PySem PySem.W PySem.Calls PyProof.Rows
theorem lT{P:Params}{h:Heap}:∀(ns:List Int)(vs:List KB),WellAll P h vs (ns.map WData.int)->Rx vs ns:=by
 intro ns
 induction ns with
 | nil=>
  intro vs w;rw[Mh] at w;cases w;exact .nil
 | cons n ns ih=>
  intro vs w;rw[KG] at w;cases w with
  | cons a b=>
   cases a;exact .cons _ _ (ih _ b)
theorem uM{l:OpenLaw}{n:Nat}(hn:l.most=some n){P:Params}{h:Heap}{args:List WData}{vals:List KB}
  (hpre:l.row.toRowW.claim.pre args=true) (hwl:WellAll P h vals args) :
  ∃a vs ns,vals=[M5 a]/\args=[WData.list (ns.map WData.int)]/\h.get? a=some { cls:=.type "list",data:=.seq vs.toArray }/\Rx vs ns/\ns.length<=n:=by
 have hsh:WShape.hasAll [] args [.list .int]=true:=(pre_splitW hpre).1;have hc:l.pre.holds [] { args:=args }=true:=(pre_splitW hpre).2;obtain⟨d,r,rfl,h1,h2⟩:=hasAllW_cons hsh;obtain rfl:=hasAllW_nil h2;obtain⟨xs,rfl,h3⟩:=hasW_list h1;obtain⟨ns,rfl⟩:=items_int h3
 have hlen:ns.length<=n:=by
  unfold OpenLaw.pre at hc
  have h4:(WTm.not (.lt (.lit (.int (n:Int))) (.len (.arg 0)))).holds [] { args:=[.list (ns.map .int)] }=true:=by
   have h4:=(holds_andW hc).1;rw[hn] at h4;exact h4
  have h5:=condW_of h4 (w_not (w_lt w_lit (w_len_list (w_arg rfl))));rw[KH] at h5;refine Nat.le_of_not_lt fun q=>?_;have q':(n:Int)<((ns.length:Nat):Int):=by omega
  first
   | (rw[decide_eq_true q'] at h5;exact absurd h5 (by decide))
   | (simp at h5;omega)
 cases hwl with
 | cons w1 w2=>
  cases w2;cases w1 with
  | list ho hall=>exact⟨_,_,ns,rfl,rfl,ho,lT ns _ hall,hlen⟩
theorem v3(l:OpenLaw)(args:List WData):l.row.toRowW.claim.post args (.bool true) args=true:=
 postW_of (r:=l.row.toRowW) (X:=(true == true))
  (show WShape.has [] (.bool true) .bool=true by first | rfl | decide | simp[WShape.has,WShape.arms,WShape.armsAll])
  (show (WTm.eq .res (.lit (.bool true))).value [] { args:=args,res:=some (.bool true),after:=args }=some (.bool (true == true)) from w_eq_bool (w_res rfl) w_lit) rfl
theorem attach_call{l:OpenLaw}{n:Nat}{q:L6}{loose:List Str}{XP:(Str->Option KB)->Heap->Prop}{YP:LI->Heap->Prop}{d:DefRec}
  (hn:l.most=some n) (hdf:d.params.defaults=[])
  (call:∀(w:LI)(s₀ s₁:KC)(mg mb:Str->Option KB)(fa:Addr)(o:Obj)(pm cd doc:KB)(a:Addr)(vs:List KB)(ns:List Int),
   Ground q loose [] XP w s₀ mg mb s₁.heap->YP w s₁.heap->
   s₁.heap.get? fa=some o->o.data=.func (docDef d.name d.params d.body d.scope pm cd doc)->s₁.heap.CodeRec cd d.name->mg d.name=some (.ref fa)->
   s₁.heap.get? a=some { cls:=.type "list",data:=.seq vs.toArray }->Rx vs ns->ns.length<=n->s₁.gens=#[]->
   Oe (LU l.prog w) Q8 (.call (.ref fa) ⟨[.ref a],[]⟩) (fun r s'=>r=.ok (.ret (.bool true))/\OldK s₁.heap s'.heap/\s'.os=s₁.os/\P7 s'.gens) s₁) :
  WalkO q loose XP YP l.row.toRowW d [] (fun f vs=>RU f vs):=by
 intro w s₀ s₁ mg mb G Y fa o pm cd doc dV kV ho hd hcd hD hmg hg args vals as hpre hlay hrd hwl hlo;obtain rfl:dV=.none:=Dflts.none hD hdf;obtain rfl:kV=.none:=Dflts.noKw hD;obtain⟨a,vs,ns,rfl,rfl,hobj,hints,hlen⟩:=uM hn hpre hwl;refine enter_call (OJ (call w s₀ s₁ mg mb fa o pm cd doc a vs ns G Y ho (fd_plain hd) hcd hmg hobj hints hlen hg) fun r s' hq=>?_);obtain⟨rfl,h2,h3,h4⟩:=hq;exact⟨.inl ⟨.bool true,.bool true,[],rfl,fun _=>rfl,.bool true,v3 l _,fun _=>⟨List.Pairwise.nil,fun _ hm=>(nomatch hm)⟩⟩,h2,h3,h4⟩
end Att
namespace L2
open PySem PySem.Spec PyProof.Rows
theorem oJ:∀{vs:List KB}{ns:List Int},Rx vs ns->Vals (ns.map V.int) vs
 | _,_,.nil=>.nil
 | _,_,.cons n t h=>.cons ⟨t,rfl⟩ (oJ h)
end L2
namespace L2
open PySem PySem.Spec PyProof.Rows
def eV(s:Stmt):Arguments:=match s with
 | .FunctionDef _ a _ _ _ _ _ _ _ _=>a
 | _=>{ posonlyargs:=[],args:=[],vararg:=none,kwonlyargs:=[],kw_defaults:=[],kwarg:=none,defaults:=[] }
def bM(s:Stmt):List Stmt:=match s with
 | .FunctionDef _ _ b _ _ _ _ _ _ _=>b
 | _=>[]
def ar(s:Stmt):Scope:=match s with
 | .FunctionDef _ _ _ _ _ _ sc _ _ _=>sc
 | _=>{ kind:=.function,names:=[],isGenerator:=false,isCoroutine:=false }
abbrev CX0:CXT:=fun _ _ _ _ _ _=>False
abbrev E0:XK:=fun _ _ _=>False
theorem Hm{X:Cx}:Passes CX0 X E0:=fun _ _ _ _ _ _ _ h=>h.elim
structure Fun(K:KA)(x qual:Str)(st:Stmt)(f:Addr)(fd:FuncData):Prop where
 ex:∃(oc:KB)(od:Option Addr)(kV doc pm:KB)(an:Option Addr)(cdv ct:KB)(osl:Array (Option KB)),
  fd=M1 x qual (eV st) (bM st) (ar st) .none kV doc pm an cdv ct/\K.lookup f=some ⟨oc,od,.func fd,osl⟩/\Mz K cdv qual=true
 kp:MP K (.ref f)=true
section
variable{P : L6}{w : LI}{K : KA}{mg : Str → Option KB}{base : Heap}
theorem Fun.ok{x qual:Str}{st:Stmt}{f:Addr}{fd:FuncData}{N ps:List Str}{k:Nat}{sp:Sp}(F:Fun K x qual st f fd)(S:FnScope N ps (ar st))(len:∀vs H Q E,sp vs H Q E->vs.length=ps.length)
  (hbody:∀(cdv:KB)(A:LR)(outer:List Pn)(s:KC)(H:Hp)(vs:List V)(Q:VK)(E:XK),Room k (A.deeper (Nw qual (ar st) s.heap.objs.size f cdv))->sp vs H Q E->
   ∃t,PSs (AB CX0 P w K mg base N qual (ar st) f cdv A outer s H E).nox (bM st) t/\t { nx:=fun _ H'=>Q .non H',rt:=Q } (start N vs) H):FnOk P w K mg base CX0 (k+1) f fd ps sp:=by
 obtain⟨oc,od,kV,doc,pm,an,cdv,ct,osl,rfl,lk,hcd⟩:=F.ex;refine Fo lk hcd S len fun A outer s H vs Q E hr hsp=>?_;obtain⟨t,h,q⟩:=hbody cdv A outer s H vs Q E hr hsp;exact⟨t,h.nox,q⟩
theorem Fun.binds{x qual:Str}{st:Stmt}{f:Addr}{fd:FuncData}{ps:List Str}(F:Fun K x qual st f fd)
  (h:∀(kV doc pm:KB)(an:Option Addr)(cdv ct:KB)(us:List KB),us.length=ps.length->Q9 (M1 x qual (eV st) (bM st) (ar st) .none kV doc pm an cdv ct) ⟨us,[]⟩=pure (ps.zip us)):Binds K fd ps []:=by
 obtain⟨oc,od,kV,doc,pm,an,cdv,ct,osl,rfl,lk,hcd⟩:=F.ex;exact .all (h kV doc pm an cdv ct)
theorem wq{x qual:Str}{st:Stmt}{f:Addr}{oc:KB}{od an:Option Addr}{osl:Array (Option KB)}{kV doc pm cdv ct:KB}(l:K.lookup f=some ⟨oc,od,.func (M1 x qual (eV st) (bM st) (ar st) .none kV doc pm an cdv ct),osl⟩)
  (c:Mz K cdv qual=true) (k:MP K (.ref f)=true):Fun K x qual st f (M1 x qual (eV st) (bM st) (ar st) .none kV doc pm an cdv ct):=⟨⟨oc,od,kV,doc,pm,an,cdv,ct,osl,rfl,l,c⟩,k⟩
end
theorem CW{A B:Prop}(h:B):if false=true then A else B:=by
 rw[if_neg KW];exact h
theorem CV{A B:Prop}(h:A):if true=true then A else B:=by
 rw[if_pos rfl];exact h
end L2
end
namespace PU
theorem yF(s:PySem.Str)(l:List PySem.Str):PySem.Txt.join s l=P5 s l:=PySem.StrLaws.glued_eq_join s l
end PU
section
namespace PU
open PySem L2
structure Lam where
 qual:Str
 args:Arguments
 body:FuncBody
 scope:Scope
 kept:List Str
 name:Str
inductive PV where
 | non | bl (b:Bool) | int (i:Int) | str (x:Str)
 | tup (ps:List PV) | lst (ps:List PV)
 | dct (ks:List Key) (ps:List PV) | dtt (ks:List cV) (ps:List PV)
 | fn (L:Lam) (cs:List PV)
structure PX where
 cls:Str
 args:List PV
inductive R (α:Type) where
 | ok (a:α) | er (x:PX) | no
namespace R
protected def bind{α β:Type}:R α->(α->R β)->R β
 | ok a,f=>f a
 | er x,_=>er x
 | no,_=>no
instance:Monad R where
 pure:=R.ok
 bind:=R.bind
@[simp] theorem ok_bind{α β:Type}(a:α)(f:α->R β):(R.ok a >>= f)=f a:=rfl
@[simp] theorem Il{α β:Type}(x:PX)(f:α->R β):((R.er x:R α) >>= f)=R.er x:=rfl
@[simp] theorem HI{α β:Type}(f:α->R β):((R.no:R α) >>= f)=R.no:=rfl
@[simp] theorem Hh{α:Type}(a:α):(pure a:R α)=R.ok a:=rfl
def ofO{α:Type}:Option α->R α
 | some a=>ok a
 | none=>no
@[simp] theorem ofO_some{α:Type}(a:α):ofO (some a)=R.ok a:=rfl
@[simp] theorem ofO_none{α:Type}:ofO (none:Option α)=R.no:=rfl
theorem bind_assoc{α β γ:Type}(r:R α)(f:α->R β)(g:β->R γ):((r >>= f) >>= g)=(r >>= fun a=>f a >>= g):=by cases r <;> rfl
end R
inductive Sl where
 | no | val (p:PV) | own (p:PV) | pin (ps:List PV) (a:Nat)
abbrev PSt:=List Sl
def ai(i:Nat)(ρ:PSt):R PV:=match ρ[i]? with
 | some (.val p)=>.ok p
 | _=>.no
def dz(i:Nat)(ρ:PSt):R PV:=match ρ[i]? with
 | some (.val p)=>.ok p
 | some (.own p)=>.ok p
 | some (.pin ps _)=>.ok (.lst ps)
 | _=>.no
def kI(i:Int):PSt->R PV:=fun _=>.ok (.int i)
def kB(b:Bool):PSt->R PV:=fun _=>.ok (.bl b)
def kN:PSt->R PV:=fun _=>.ok .non
def kS(x:Str):PSt->R PV:=fun _=>.ok (.str x)
def kP(p:PV):PSt->R PV:=fun _=>.ok p
def ay:PSt->R (List PV):=fun _=>.ok []
def ab(f:PSt->R PV)(fs:PSt->R (List PV)):PSt->R (List PV):=fun ρ=>f ρ >>= fun p=>fs ρ >>= fun ps=>.ok (p::ps)
def gy(ps:List PV):R (List PV):=if ps.length<=16777216 then .ok ps else .no
def cg(fs:PSt->R (List PV)):PSt->R PV:=fun ρ=>fs ρ >>= fun ps=>gy ps >>= fun ps=>.ok (.tup ps)
def cI(fs:PSt->R (List PV)):PSt->R PV:=fun ρ=>fs ρ >>= fun ps=>gy ps >>= fun ps=>.ok (.lst ps)
def aj(fa fb:PSt->R PV)(g:PV->PV->Option PV):PSt->R PV:=fun ρ=>fa ρ >>= fun p=>fb ρ >>= fun q=>R.ofO (g p q)
def sH(fa fb fc:PSt->R PV)(g g':PV->PV->Option PV):PSt->R PV:=fun ρ=>fa ρ >>= fun p=>fb ρ >>= fun q=>R.ofO (g p q) >>= fun z=>match z with
 | .bl true=>fc ρ >>= fun r=>R.ofO (g' q r)
 | .bl false=>.ok (.bl false)
 | _=>.no
def ub:PV->Option Bool
 | .non=>some false
 | .bl b=>some b
 | .int i=>some (i != 0)
 | .str y=>if y.length<=16777216 then some ((y.length:Int) != 0) else none
 | .tup ps=>some (!ps.isEmpty)
 | .lst ps=>some (!ps.isEmpty)
 | .dct ks _=>some (!ks.isEmpty)
 | .dtt _ _=>none
 | .fn _ _=>none
def bq(f:PSt->R PV):PSt->R Bool:=fun ρ=>f ρ >>= fun p=>R.ofO (ub p)
def cj:PV->PV->Option PV
 | .int i,.int j=>some (.int (i+j))
 | .str x,.str y=>if x.length+y.length<=16777216 then some (.str (x++y)) else none
 | .lst ps,.lst qs=>if ps.length+qs.length<=16777216 then some (.lst (ps++qs)) else none
 | .tup ps,.tup qs=>if ps.length+qs.length<=16777216 then some (.tup (ps++qs)) else none
 | _,_=>none
def um:PV->PV->Option PV
 | .int i,.int j=>some (.int (i-j))
 | _,_=>none
def wj:PV->PV->Option PV
 | .int i,.int j=>if i.natAbs<18446744073709551616\/j.natAbs<18446744073709551616 then some (.int (i * j)) else none
 | _,_=>none
def ki:PV->PV->Option PV
 | .int i,.int j=>if 0<j/\j<1073741824 then some (.int (i / j)) else none
 | _,_=>none
def bz:PV->PV->Option PV
 | .int i,.int j=>if 0<j then some (.int (i % j)) else none
 | _,_=>none
inductive Fl where
 | next (ρ:PSt) | brk (ρ:PSt) | cont (ρ:PSt) | ret (p:PV)
def aH(g g':PSt->R Fl):PSt->R Fl:=fun ρ=>g ρ >>= fun fl=>match fl with
 | .next ρ'=>g' ρ'
 | .brk ρ'=>.ok (.brk ρ')
 | .cont ρ'=>.ok (.cont ρ')
 | .ret p=>.ok (.ret p)
def b0:PSt->R Fl:=fun ρ=>.ok (.next ρ)
def ck(f:PSt->R PV):PSt->R Fl:=fun ρ=>f ρ >>= fun p=>.ok (.ret p)
def ifF(t:PSt->R Bool)(g g':PSt->R Fl):PSt->R Fl:=fun ρ=>t ρ >>= fun k=>if k=true then g ρ else g' ρ
def bS(i:Nat)(f:PSt->R PV):PSt->R Fl:=fun ρ=>f ρ >>= fun p=>.ok (.next (ρ.set i (.val p)))
def lG(i:Nat)(f:PSt->R PV):PSt->R Fl:=fun ρ=>f ρ >>= fun p=>.ok (.next (ρ.set i (.own p)))
def FP:PSt->R Fl:=fun ρ=>.ok (.brk ρ)
def wy(i:Nat)(ρ:PSt):PSt:=match ρ[i]? with
 | some (.own p)=>ρ.set i (.val p)
 | _=>ρ
def qE(i:Nat)(g:PSt->R Fl):PSt->R Fl:=fun ρ=>g (wy i ρ)
abbrev Tgt:=PV->PSt->Option PSt
abbrev xq:=List PV->PSt->Option PSt
def az(i:Nat):Tgt:=fun p ρ=>some (ρ.set i (.val p))
def ir:xq:=fun ps ρ=>match ps with
 | []=>some ρ
 | _::_=>none
def aT(h:Tgt)(h':xq):xq:=fun ps ρ=>match ps with
 | p::r=>(h p ρ).bind fun ρ1=>h' r ρ1
 | []=>none
def iq(n:Nat)(h:xq):Tgt:=fun p ρ=>match p with
 | .tup ps=>if ps.length=n then h ps ρ else none
 | _=>none
def ic(h:PV->PSt->Option PSt)(g:PSt->R Fl):List PV->PSt->R Fl
 | [],ρ=>.ok (.next ρ)
 | p::ps,ρ=>R.ofO (h p ρ) >>= fun ρ1=>g ρ1 >>= fun fl=>match fl with
  | .next ρ2=>ic h g ps ρ2
  | .cont ρ2=>ic h g ps ρ2
  | .brk ρ2=>.ok (.next ρ2)
  | .ret q=>.ok (.ret q)
def kG(fi:PSt->R (List PV))(h:Tgt)(g:PSt->R Fl):PSt->R Fl:=fun ρ=>fi ρ >>= fun ps=>ic h g ps ρ
def aD(fs:PSt->R (List PV))(F:List PV->Option PV):PSt->R PV:=fun ρ=>fs ρ >>= fun ps=>R.ofO (F ps)
def start(n:Nat)(ps:List PV):PSt:=ps.map Sl.val++La (n-ps.length) .no
def eZ(m n:Nat)(g:PSt->R Fl)(ps:List PV):Option PV:=if ps.length=m then (match g (start n ps) with
 | .ok (.ret p)=>some p
 | .ok (.next _)=>some .non
 | _=>none) else none
def roS:Option Sl->Sl
 | some (.val p)=>.val p
 | _=>.no
def cE(nt:Nat)(idx:List Nat)(ρ:PSt):PSt:=La nt .no++idx.map fun i=>roS ρ[i]?
def cQ(h:Tgt)(t:PSt->R Bool)(fe:PSt->R PV)(ρ:PSt):List PV->R (List PV)
 | []=>.ok []
 | p::ps=>R.ofO (h p ρ) >>= fun ρ1=>t ρ1 >>= fun b=>if b=true then fe ρ1 >>= fun q=>cQ h t fe ρ ps >>= fun qs=>.ok (q::qs) else cQ h t fe ρ ps
def BK{α:Type}:R α->R α
 | .ok a=>.ok a
 | _=>.no
def gZ(fi:PSt->R (List PV))(h:Tgt)(t:PSt->R Bool)(fe:PSt->R PV)(nt:Nat)(idx:List Nat):PSt->R PV:=
 fun ρ=>fi ρ >>= fun ps=>BK (cQ h t fe (cE nt idx ρ) ps) >>= fun qs=>gy qs >>= fun qs=>.ok (.lst qs)
def mG:PSt->R Bool:=fun _=>.ok true
mutual
def bW:PV->PV->Option Bool
 | .non,q=>match q with
  | .non=>some true | .bl _=>some false | .int _=>some false | .str _=>some false | .tup _=>some false | .lst _=>some false | _=>none
 | .bl a,q=>match q with
  | .bl b=>some (a == b) | .int b=>some ((if a then 1 else 0) == b) | .non=>some false | .str _=>some false | .tup _=>some false | .lst _=>some false | _=>none
 | .int a,q=>match q with
  | .int b=>some (a == b) | .bl b=>some (a == (if b then 1 else 0)) | .non=>some false | .str _=>some false | .tup _=>some false | .lst _=>some false | _=>none
 | .str a,q=>match q with
  | .str b=>some (a == b) | .non=>some false | .bl _=>some false | .int _=>some false | .tup _=>some false | .lst _=>some false | _=>none
 | .tup ps,q=>match q with
  | .tup qs=>di ps qs | .non=>some false | .bl _=>some false | .int _=>some false | .str _=>some false | .lst _=>some false | _=>none
 | .lst ps,q=>match q with
  | .lst qs=>di ps qs | .non=>some false | .bl _=>some false | .int _=>some false | .str _=>some false | .tup _=>some false | _=>none
 | _,_=>none
def di:List PV->List PV->Option Bool
 | [],[]=>some true
 | [],_::_=>some false
 | _::_,[]=>some false
 | p::ps,q::qs=>(bW p q).bind fun a=>(di ps qs).bind fun b=>some (a && b)
end
mutual
def va:PV->Nat
 | .tup ps=>dN ps+1
 | .lst ps=>dN ps+1
 | .dct _ ps=>dN ps+1
 | .dtt _ ps=>dN ps+1
 | .fn _ ps=>dN ps+1
 | _=>0
def dN:List PV->Nat
 | []=>0
 | p::ps=>max (va p) (dN ps)
end
def iP(ps qs:List PV)(j:Nat):Bool:=match ps[j]?,qs[j]? with
 | some p,some q=>(bW p q).getD false
 | _,_=>false
def pX:PV->Bool
 | .non=>true | .bl _=>true | .int _=>true | .str _=>true
 | _=>false
def scV:PV->V
 | .bl b=>.bl b | .int i=>.int i | .str x=>.str x
 | _=>.non
def cq:List Key->List PV->Key->Option PV
 | k::ks,p::ps,j=>if k=j then some p else cq ks ps j
 | _,_,_=>none
def lU(e:PV->PV->Option Bool):List Key->List PV->List Key->List PV->Option Bool
 | k::ks,p::ps,ls,qs=>match cq ls qs k with
  | none=>some false
  | some q=>(e p q).bind fun a=>(lU e ks ps ls qs).bind fun b=>some (a && b)
 | [],[],_,_=>some true
 | _,_,_,_=>none
def xB:Nat->PV->PV->Option Bool
 | n+1,.dct ks ps,.dct ls qs=>if ks.length=ls.length then lU (xB n) ks ps ls qs else some false
 | _,p,q=>bW p q
def gEq:PV->PV->Option PV
 | .dct ks ps,.dct ls qs=>if dN ps<=60 then (xB 3 (.dct ks ps) (.dct ls qs)).map .bl else none
 | .tup ps,.tup qs=>if dN ps<=60 then (di ps qs).map .bl else none
 | .lst ps,.lst qs=>if dN ps<=60 then (di ps qs).map .bl else none
 | p,q=>if pX p=true/\pX q=true/\CO (scV p) (scV q)=true then some (.bl (decide (scV p=scV q))) else none
def gNe:PV->PV->Option PV
 | .tup ps,.tup qs=>if dN ps<=60 then (di ps qs).map fun b=>.bl (!b) else none
 | .lst ps,.lst qs=>if dN ps<=60 then (di ps qs).map fun b=>.bl (!b) else none
 | p,q=>if pX p=true/\pX q=true/\CO (scV p) (scV q)=true then some (.bl (!decide (scV p=scV q))) else none
def gLt:PV->PV->Option PV
 | .int i,.int j=>some (.bl (decide (i<j)))
 | .str x,.str y=>some (.bl (decide (x.cps.toList<y.cps.toList)))
 | _,_=>none
def gLe:PV->PV->Option PV
 | .int i,.int j=>some (.bl (decide (i<=j)))
 | .str x,.str y=>some (.bl (!decide (y.cps.toList<x.cps.toList)))
 | _,_=>none
def gGt:PV->PV->Option PV
 | .int i,.int j=>some (.bl (decide (j<i)))
 | _,_=>none
def gGe:PV->PV->Option PV
 | .int i,.int j=>some (.bl (decide (j<=i)))
 | _,_=>none
def C3:PV->Bool
 | .non=>true
 | _=>false
def tQ:PV->PV->Option PV
 | p,.non=>some (.bl (C3 p))
 | _,_=>none
def pI:PV->PV->Option PV
 | p,.non=>some (.bl (!C3 p))
 | _,_=>none
def fQ:PV->Option Key
 | .int i=>some (.inl i)
 | .str x=>some (.inr x)
 | _=>none
def CZ:PV->PV->Option PV
 | .lst ps,.lst qs=>if ps.length+qs.length<=16777216 then some (.lst (ps++qs)) else none
 | _,_=>none
def gIx:PV->PV->Option PV
 | .lst ps,.int i=>atI ps i
 | .tup ps,.int i=>atI ps i
 | .str z,.int i=>if z.length<=16777216 then (atI z.cps.toList i).map fun c=>.str ⟨#[c]⟩ else none
 | .dct ks ps,k=>(fQ k).bind fun k=>cq ks ps k
 | _,_=>none
def inS(x y:Str):Bool:=!(MA y x 0 y.length 1).isEmpty
def gIn:PV->PV->Option PV
 | .str x,.str y=>some (.bl (inS x y))
 | p,.lst qs=>if pX p=true/\qs.all pX=true then some (.bl (inV (scV p) (qs.map scV))) else none
 | p,.tup qs=>if pX p=true/\qs.all pX=true then some (.bl (inV (scV p) (qs.map scV))) else none
 | p,.dct ks _=>(fQ p).map fun k=>.bl (ks.any fun j=>decide (j=k))
 | _,_=>none
def iB(p q:PV):Option PV:=(gIn p q).bind fun z=>match z with
 | .bl b=>some (.bl (!b))
 | _=>none
def pW(t u:PSt->R Bool):PSt->R Bool:=fun ρ=>t ρ >>= fun c=>if c=true then u ρ else .ok false
def orB(t u:PSt->R Bool):PSt->R Bool:=fun ρ=>t ρ >>= fun c=>if c=true then .ok true else u ρ
def vg(t:PSt->R Bool):PSt->R Bool:=fun ρ=>t ρ >>= fun c=>.ok (!c)
def D4(fa fb:PSt->R PV):PSt->R PV:=fun ρ=>fa ρ >>= fun p=>match p with
 | .bl true=>fb ρ
 | .bl false=>.ok (.bl false)
 | _=>.no
def ifV(t:PSt->R Bool)(fa fb:PSt->R PV):PSt->R PV:=fun ρ=>t ρ >>= fun c=>if c=true then fa ρ else fb ρ
def un1(f:PSt->R PV)(g:PV->Option PV):PSt->R PV:=fun ρ=>f ρ >>= fun p=>R.ofO (g p)
def gT:PV->Option PV
 | .lst ps=>some (.int ps.length)
 | .tup ps=>some (.int ps.length)
 | .str x=>if x.length<=16777216 then some (.int x.length) else none
 | .dct ks _=>some (.int ks.length)
 | _=>none
def wm:PV->Option PV
 | .int i=>some (.int i)
 | .bl b=>some (.int (if b then 1 else 0))
 | _=>none
def pH:PV->Option PV
 | .lst ps=>some (.tup ps)
 | .tup ps=>some (.tup ps)
 | _=>none
def yE:Key->PV
 | .inl i=>.int i
 | .inr x=>.str x
def gB(x:Str):List PV:=x.cps.toList.map fun c=>.str ⟨#[c]⟩
def f6:PV->Option (List PV)
 | .lst ps=>some ps
 | .tup ps=>some ps
 | .dct ks _=>some (ks.map yE)
 | .str x=>some (gB x)
 | _=>none
def itF(f:PSt->R PV):PSt->R (List PV):=fun ρ=>f ρ >>= fun p=>R.ofO (f6 p)
def cn(lo:Int)(n:Nat):List PV:=(KM n).map fun i=>.int (lo+(i:Nat))
def zL(f:PSt->R PV):PSt->R (List PV):=fun ρ=>f ρ >>= fun p=>match p with
 | .int j=>if j.natAbs<1000000000 then .ok (cn 0 j.toNat) else .no
 | _=>.no
def CS(f f2:PSt->R PV):PSt->R (List PV):=fun ρ=>f ρ >>= fun p=>f2 ρ >>= fun q=>match p,q with
 | .int i,.int j=>if i.natAbs<1000000000/\j.natAbs<1000000000 then .ok (cn i (j-i).toNat) else .no
 | _,_=>.no
def oG(i:Nat)(f:PSt->R PV):PSt->R Fl:=fun ρ=>match ρ[i]? with
 | some (.own (.lst ps))=>f ρ >>= fun p=>if ps.length<16777216 then .ok (.next (ρ.set i (.own (.lst (ps++[p]))))) else .no
 | _=>.no
def A0(ps:List PV):List (List PV):=(KM ps.length).zipWith (fun (i:Nat) p=>[.int (i:Int),p]) ps
def pO:PV->Option (List PV)
 | .lst ps=>some ((A0 ps).map .tup)
 | .str x=>some ((A0 (gB x)).map .tup)
 | _=>none
def wL(f:PSt->R PV):PSt->R (List PV):=fun ρ=>f ρ >>= fun p=>R.ofO (pO p)
def tyN:PV->String
 | .non=>"NoneType" | .bl _=>"bool" | .int _=>"int" | .str _=>"str" | .tup _=>"tuple" | .lst _=>"list" | .dct _ _=>"dict" | .dtt _ _=>"dict" | .fn _ _=>"function"
def Fc (t c:String):Bool:=t == c || (t == "bool" && c == "int")
def sj(c:String):PV->Option PV
 | .fn _ _=>none
 | p=>some (.bl (Fc (tyN p) c))
def Jj:PV->Option PV
 | .int i=>if i.natAbs.log2<1920 then some (.str (toString i)) else none
 | .str x=>some (.str x)
 | _=>none
def oF:PV->Option PV
 | .int i=>some (.int (-i))
 | _=>none
def Fd:PV->Bool
 | .str _=>true
 | _=>false
def tD(fo fe:PSt->R PV)(g:PV->PV->Option PV):PSt->R PV:=fun ρ=>fo ρ >>= fun p=>if Fd p=true then fe ρ >>= fun q=>R.ofO (g p q) else .no
def kx:List PV->Option (List Str)
 | []=>some []
 | .str x::r=>(kx r).map (x::·)
 | _::_=>none
def wk:PV->PV->Option PV
 | .str x,.lst ps=>(kx ps).bind fun ys=>if (ys.map (·.length)).sum+ys.length * x.length<=16777216 then some (.str (Txt.join x ys)) else none
 | .str x,.tup ps=>(kx ps).bind fun ys=>if (ys.map (·.length)).sum+ys.length * x.length<=16777216 then some (.str (Txt.join x ys)) else none
 | _,_=>none
def kJ{α:Type}(xs:List α)(lo hi:Option Int):List α:=(xs.drop (HT.sIx xs.length 0 lo)).take (HT.sIx xs.length xs.length hi-HT.sIx xs.length 0 lo)
def gSl:PV->Option Int->Option Int->Option PV
 | .lst ps,lo,hi=>some (.lst (kJ ps lo hi))
 | .tup ps,lo,hi=>if HT.sIx ps.length 0 lo=0/\HT.sIx ps.length ps.length hi=ps.length then none else some (.tup (kJ ps lo hi))
 | _,_,_=>none
def bA:PSt->R (Option Int):=fun _=>.ok none
def d9(f:PSt->R PV):PSt->R (Option Int):=fun ρ=>f ρ >>= fun p=>match p with
 | .int i=>.ok (some i)
 | _=>.no
def bV(f:PSt->R PV)(l h:PSt->R (Option Int)):PSt->R PV:=fun ρ=>f ρ >>= fun p=>l ρ >>= fun lo=>h ρ >>= fun hi=>R.ofO (gSl p lo hi)
def kC(ks:List Key)(ps:List PV)(k:Key)(p:PV):List PV:=ks.zipWith (fun j q=>if j=k then p else q) ps
def mK(ks:List Key)(ps:List PV)(k:Key)(p:PV):PV:=if (ks.any fun j=>decide (j=k))=true then .dct ks (kC ks ps k p) else .dct (ks++[k]) (ps++[p])
def uU(i:Nat)(fk fv:PSt->R PV):PSt->R Fl:=fun ρ=>match ρ[i]? with
 | some (.own (.dct ks ps))=>fv ρ >>= fun p=>fk ρ >>= fun kp=>R.ofO (fQ kp) >>= fun k=>if ks.length<16777216 then .ok (.next (ρ.set i (.own (mK ks ps k p)))) else .no
 | _=>.no
def newD:PSt->R PV:=fun _=>.ok (.dct [] [])
def Gy:PSt->R (List (Key×PV)):=fun _=>.ok []
def tY(fk fv:PSt->R PV)(f:PSt->R (List (Key×PV))):PSt->R (List (Key×PV)):=fun ρ=>fk ρ >>= fun kp=>R.ofO (fQ kp) >>= fun k=>fv ρ >>= fun p=>f ρ >>= fun r=>.ok ((k,p)::r)
def gL(kps:List (Key×PV)):PV:=kps.foldl (fun d kp=>match d with
 | .dct ks ps=>mK ks ps kp.1 kp.2
 | d=>d) (.dct [] [])
def zc(f:PSt->R (List (Key×PV))):PSt->R PV:=fun ρ=>f ρ >>= fun kps=>if kps.length<=15 then .ok (gL kps) else .no
end PU
end
namespace PU
open PySem PySem.Spec PyProof.Rows L2
def jP:Expr->Bool
 | .Starred ..=>false
 | _=>true
theorem cM{e:Expr}{es:List Expr}{env:Pn}(h:jP e=true):LA (e::es) env=(false,M7 e env)::LA es env:=by
 cases e <;> first | rfl | cases h
theorem cT{e:Expr}{env:Pn}(h:jP e=true):LA [e] env=[(false,M7 e env)]:=cM h
theorem qW{e e2:Expr}{env:Pn}(h:jP e=true)(h2:jP e2=true):LA [e,e2] env=[(false,M7 e env),(false,M7 e2 env)]:=(cM h).trans (congrArg _ (cT h2))
theorem kT{pos:Ma}{es:List Expr}{env:Pn}(h:es.all jP=true):(Nh pos (LA es env)).any (·.1)=false:=by
 have:∀es:List Expr,es.all jP=true->(LA es env).any (·.1)=false:=by
  intro es
  induction es with
  | nil=>intro _;rfl
  | cons e es ih=>
   intro h;simp only[Mi,Lm] at h;rw[cM h.1,M4,ih h.2];rfl
 have h2:=this es h
 have h3:(Nh pos (LA es env)).map (·.1)=(LA es env).map (·.1):=by
  unfold Nh;simp[L7,OE]
 have:(Nh pos (LA es env)).any (·.1)=((Nh pos (LA es env)).map (·.1)).any id:=by rw[NA];rfl
 rw[this,h3,NA];exact h2
class TW where
 w:LI
 tabs:List Addr:=[]
 qual:Nat->Nat->Str:=fun _ _=>⟨#[]⟩
variable[TW]
def fu(c:Addr)(q:Str):HO:=.ext fun h=>h.CodeRec (.ref c) q
def TOk(H:Hp)(ps:Array KB):Prop:=TriplesOk ps.toList/\∀pos v,Nj pos ps.toList=some v->∃c,v=.ref c/\H c=some (fu c (TW.qual pos.line pos.col))
def CY:HO->Bool
 | .tbl _=>true
 | _=>false
structure Same(H H':Hp):Prop where
 at_:∀b o,H b=some o->∀(n:CY o=false:=by rfl),H' b=some o
 tb:∀b ps,H b=some (.tbl ps)->∃ps',H' b=some (.tbl ps')/\(TOk H ps->TOk H' ps')
instance {H H':Hp}:CoeFun (Same H H') (fun _=>∀b o,H b=some o->∀(n:CY o=false:=by rfl),H' b=some o):=⟨@Same.at_ _ H H'⟩
theorem TOk.same{H H':Hp}{ps:Array KB}(h:∀b o,H b=some o->CY o=false->H' b=some o)(t:TOk H ps):TOk H' ps:=
 ⟨t.1,fun pos v e=>let ⟨c,e1,e2⟩:=t.2 pos v e;⟨c,e1,h _ _ e2 rfl⟩⟩
theorem Same.of{H H':Hp}(h:∀b o,H b=some o->H' b=some o):Same H H':=
 ⟨fun b o e _=>h b o e,fun b ps e=>⟨ps,h b _ e,TOk.same fun b o e _=>h b o e⟩⟩
theorem Same.refl(H:Hp):Same H H:=.of fun _ _ h=>h
theorem Same.trans{H H1 H2:Hp}(a:Same H H1)(b:Same H1 H2):Same H H2:=
 ⟨fun c o h n=>b.at_ c o (a.at_ c o h n) n,fun c ps e=>by
  obtain⟨p1,e1,k1⟩:=a.tb c ps e;obtain⟨p2,e2,k2⟩:=b.tb c p1 e1;exact⟨p2,e2,fun t=>k2 (k1 t)⟩⟩
theorem Same.free{H H':Hp}(e:Same H H'){l:Addr}(h:H' l=Option.none):H l=Option.none:=by
 cases q:H l with
 | none=>rfl
 | some o=>
  cases ho:CY o with
  | false=>rw[e.at_ l o q ho] at h;cases h
  | true=>
   cases o <;> cases ho
   obtain⟨p1,e1,_⟩:=e.tb l _ q;rw[e1] at h;cases h
def ua(H:Hp):Prop:=∀P∈TW.tabs,∃ps,H P=some (.tbl ps)/\TOk H ps
theorem Same.tabs{H H':Hp}(s:Same H H')(t:ua H):ua H':=fun P hP=>by
 obtain⟨ps,e,k⟩:=t P hP;obtain⟨p1,e1,k1⟩:=s.tb P ps e;exact⟨p1,e1,k1 k⟩
def FW(K:KA)(a:Addr)(xs:List V):Prop:=
 ∃(its:List KB) (n:Nat),K.lookup a=some { cls:=.type "list",data:=.seq its.toArray n }/\xs.length<=sizeLine/\Vals xs its
def xt(K:KA)(a:Addr)(kvs:List (Key×V)):Prop:=
 kvs.length<=sizeLine/\(a == Lo)=false/\∃(o:Obj)(es:Array DictEntry)(ep:Nat),K.lookup a=some o/\o.ExactDict/\o.data=.dict es ep/\
  ∀P:L6,∃vs,KV kvs vs/\PySem.KeysOf (aB P TW.w) es/\Pairs (aB P TW.w) es.toList vs/\(vs.map (·.1)).Nodup
theorem xt.at{K:KA}{a:Addr}{kvs:List (Key×V)}(h:xt K a kvs)(P:L6)(w:LI)(hw:w=TW.w)(hp:Heap)(hk:K.In hp):∃vs,KV kvs vs/\hp.DictOf (aB P w) a vs:=by
 subst hw;obtain⟨_,_,o,es,ep,e,x,d,r⟩:=h;obtain⟨vs,r1,r2⟩:=r P;exact⟨vs,r1,o,es,ep,hk _ _ e,x,d,r2⟩
def SqO(K:KA)(H:Hp)(a:Addr)(xs:List V):Prop:=Rd H a (.lst xs)\/FW K a xs
theorem SqO.l{K:KA}{H:Hp}{a:Addr}{xs:List V}(h:SqO K H a xs):SqL K H a xs:=by
 rcases h with h | ⟨its,n,e,z,r⟩
 ·exact .inl h
 ·exact .inr ⟨_,its.toArray,n,e,rfl,rfl,rfl,by rw[LD,← r.length];exact z,by simpa using r⟩
theorem SqO.is{X:Cx}{pins:List (Addr×Obj)}{σ:L2.St}{H:Hp}{s:KC}{a:Addr}{xs:List V}(I:Inv X pins σ H s)(h:SqO X.K H a xs) :
  xs.length<=sizeLine/\∃(its:List KB) (n:Nat),Vals xs its/\s.heap.get? a=some { cls:=.type "list",data:=.seq its.toArray n }:=by
 rcases h with h | ⟨its,n,e,z,r⟩
 ·obtain⟨z,its,n,r,e⟩:=h.ok I.hok
  exact⟨z,its,n,r,e⟩
 ·exact⟨z,its,n,r,I.kIn _ _ e⟩
def SqF(K:KA)(H:Hp)(a:Addr)(xs:List V):Prop:=(∃o,H a=some (.frz o (.lst xs)))\/FW K a xs
def DkF(K:KA)(H:Hp)(a:Addr)(kvs:List (Key×V)):Prop:=(∃o,H a=some (.frz o (.dK kvs)))\/xt K a kvs
def DkR(K:KA)(H:Hp)(a:Addr)(kvs:List (Key×V)):Prop:=Rd H a (.dK kvs)\/xt K a kvs
theorem SqF.l{K:KA}{H:Hp}{a:Addr}{xs:List V}(h:SqF K H a xs):SqO K H a xs:=by
 rcases h with h | h
 ·exact .inl (.inr h)
 ·exact .inr h
theorem DkF.r{K:KA}{H:Hp}{a:Addr}{kvs:List (Key×V)}(h:DkF K H a kvs):DkR K H a kvs:=by
 rcases h with h | h
 ·exact .inl (.inr h)
 ·exact .inr h
def FnAt(f:Addr)(o:Obj):HO:=.ext fun h=>h.get? f=some o
abbrev tG(L:Lam)(cl:List (Str×Addr))(pm:KB×KB)(cdv ct:KB):FuncData:=
 { name:=L.name,qualname:=L.qual,params:=L.args,body:=L.body,scope:=L.scope,globals:=mainGlobals,closure:=cl,defaults:=.none,kwdefaults:=.none,doc:=pm.1,pyModule:=pm.2,annotations:=none,code:=cdv,closureTuple:=ct,builtins:=Lw }
abbrev lM (L:Lam) (cl:List (Str×Addr)) (pm:KB×KB) (c:Addr) (ct:KB):Obj:={ cls:=.type "function",data:=.func (tG L cl pm (.ref c) ct) }
def fE(H:Hp):List (Str×Addr)->List V->Prop
 | [],xs=>xs=[]
 | p::cl,xs=>∃x r o u,xs=x::r/\H p.2=some (.frz o (.own 0))/\o.data=.cell (some u)/\RelV x u/\fE H cl r
mutual
def Rep(K:KA)(H:Hp):PV->V->Prop
 | .non,v=>v=.non
 | .bl b,v=>v=.bl b
 | .int i,v=>v=.int i
 | .str x,v=>v=.str x
 | .tup ps,v=>∃a xs,v=.ref a/\H a=some (.tup xs)/\aO K H ps xs
 | .lst ps,v=>∃a xs,v=.ref a/\SqF K H a xs/\aO K H ps xs
 | .dct ks ps,v=>∃a kvs,v=.ref a/\DkF K H a kvs/\kvs.map (·.1)=ks/\aO K H ps (kvs.map (·.2))
 | .dtt ks ps,v=>∃a o kvs,v=.ref a/\H a=some (.frz o (.dT kvs))/\kvs.map (·.1)=ks/\aO K H ps (kvs.map (·.2))
 | .fn L cs,v=>∃f c cl pm ct xs,v=.ref f/\H f=some (FnAt f (lM L cl pm c ct))/\H c=some (fu c L.qual)/\cl.map (·.1)=L.kept/\(cl.map (·.2)).Nodup/\fE H cl xs/\aO K H cs xs
def aO(K:KA)(H:Hp):List PV->List V->Prop
 | [],xs=>xs=[]
 | p::ps,xs=>∃x r,xs=x::r/\Rep K H p x/\aO K H ps r
end
def bc(K:KA)(H:Hp):PV->V->Prop
 | .lst ps,v=>∃a xs,v=.ref a/\SqO K H a xs/\aO K H ps xs
 | .dct ks ps,v=>∃a kvs,v=.ref a/\DkR K H a kvs/\kvs.map (·.1)=ks/\aO K H ps (kvs.map (·.2))
 | .dtt ks ps,v=>∃a kvs,v=.ref a/\Rd H a (.dT kvs)/\kvs.map (·.1)=ks/\aO K H ps (kvs.map (·.2))
 | p,v=>Rep K H p v
def cH(K:KA)(H:Hp)(a:Addr):PV->Prop
 | .lst ps=>∃xs,H a=some (.lst xs)/\aO K H ps xs
 | .dct ks ps=>∃kvs,H a=some (.dK kvs)/\kvs.map (·.1)=ks/\aO K H ps (kvs.map (·.2))
 | .dtt ks ps=>∃kvs,H a=some (.dT kvs)/\kvs.map (·.1)=ks/\aO K H ps (kvs.map (·.2))
 | _=>False
def Aq:HO->Bool
 | .frz _ _=>true
 | .tup _=>true
 | .ext _=>true
 | _=>false
def Kp(H H':Hp):Prop:=∀b u,H b=some u->Aq u=true->H' b=some u
theorem Same.kp{H H':Hp}(h:Same H H'):Kp H H':=fun b u e f=>h.at_ b u e (by cases u <;> first | rfl | cases f)
theorem Kp.refl(H:Hp):Kp H H:=fun _ _ e _=>e
theorem Kp.trans{H H1 H2:Hp}(h:Kp H H1)(k:Kp H1 H2):Kp H H2:=fun b u e f=>k b u (h b u e f) f
theorem Kp.upd{H:Hp}{a:Addr}{u o:HO}(h:H a=some u)(f:Aq u=false):Kp H (upd H a o):=fun b w e g=>by
 have:b≠a:=fun z=>by
  subst z;rw[h] at e;cases e;rw[f] at g;cases g
 rw[aL this];exact e
theorem Kp.sqT{K:KA}{H H':Hp}(k:Kp H H'){a:Addr}{xs:List V}(h:SqT K H a xs):SqT K H' a xs:=by
 rcases h with (h | ⟨o,h⟩) | h
 ·exact .inl (.inl (k _ _ h rfl))
 ·exact .inl (.inr ⟨o,k _ _ h rfl⟩)
 ·exact .inr h
theorem Kp.sqF{K:KA}{H H':Hp}(k:Kp H H'){a:Addr}{xs:List V}(h:SqF K H a xs):SqF K H' a xs:=by
 rcases h with⟨o,h⟩ | h
 ·exact .inl ⟨o,k _ _ h rfl⟩
 ·exact .inr h
theorem Kp.dkF{K:KA}{H H':Hp}(k:Kp H H'){a:Addr}{kvs:List (Key×V)}(h:DkF K H a kvs):DkF K H' a kvs:=by
 rcases h with⟨o,h⟩ | h
 ·exact .inl ⟨o,k _ _ h rfl⟩
 ·exact .inr h
theorem TOk.kp{H H':Hp}{ps:Array KB}(k:Kp H H')(t:TOk H ps):TOk H' ps:=
 ⟨t.1,fun pos v e=>let ⟨c,e1,e2⟩:=t.2 pos v e;⟨c,e1,k _ _ e2 rfl⟩⟩
theorem Kp.but{H H':Hp}{a:Addr}(na:∀u,H a=some u->Aq u=false)(oth:∀b,b≠a->H' b=H b):Kp H H':=fun b u e f=>by
 have:b≠a:=fun z=>by
  subst z;rw[na u e] at f;cases f
 rw[oth b this];exact e
theorem Same.but{B H H':Hp}{a:Addr}(s:Same B H)(fa:B a=none)(na:∀u,H a=some u->Aq u=false)(oth:∀b,b≠a->H' b=H b):Same B H':=
 ⟨fun b o e n=>by rw[oth b (bB e fa)];exact s.at_ b o e n,fun b ps e=>by
  obtain⟨p1,e1,k1⟩:=s.tb b ps e;exact⟨p1,by rw[oth b (bB e fa)];exact e1,fun t=>(k1 t).kp (Kp.but na oth)⟩⟩
theorem ua.but{H H':Hp}{a:Addr}(t:ua H)(na:∀u,H a=some u->Aq u=false/\CY u=false)(oth:∀b,b≠a->H' b=H b):ua H':=fun P hP=>by
 obtain⟨ps,e,k⟩:=t P hP
 have:P≠a:=fun z=>by
  subst z;have:=(na _ e).2;cases this
 exact⟨ps,by rw[oth P this];exact e,k.kp (Kp.but (fun u h=>(na u h).1) oth)⟩
theorem tq{K:KA}{H:Hp}{a:Addr}{xs:List V}(h:H a=some (.tup xs)):SqT K H a xs:=.inl (.inl h)
theorem fE.kp{H H':Hp}(k:Kp H H'):∀{cl:List (Str×Addr)}{xs:List V},fE H cl xs->fE H' cl xs
 | [],_,h=>h
 | p::cl,_,⟨x,r,o,u,e,h,d,v,t⟩=>⟨x,r,o,u,e,k _ _ h rfl,d,v,fE.kp k t⟩
mutual
theorem Rep.kp{K:KA}{H H':Hp}(k:Kp H H'):∀(p:PV){v:V},Rep K H p v->Rep K H' p v
 | .non,_,h=>h
 | .bl _,_,h=>h
 | .int _,_,h=>h
 | .str _,_,h=>h
 | .tup ps,_,⟨a,xs,e,h,r⟩=>⟨a,xs,e,k _ _ h rfl,aO.kp k ps r⟩
 | .lst ps,_,⟨a,xs,e,h,r⟩=>⟨a,xs,e,k.sqF h,aO.kp k ps r⟩
 | .dct ks ps,_,⟨a,kvs,e,h,ek,r⟩=>⟨a,kvs,e,k.dkF h,ek,aO.kp k ps r⟩
 | .dtt ks ps,_,⟨a,o,kvs,e,h,ek,r⟩=>⟨a,o,kvs,e,k _ _ h rfl,ek,aO.kp k ps r⟩
 | .fn L cs,_,⟨f,c,cl,pm,ct,xs,e,h1,h2,h3,h5,h4,r⟩=>⟨f,c,cl,pm,ct,xs,e,k _ _ h1 rfl,k _ _ h2 rfl,h3,h5,fE.kp k h4,aO.kp k cs r⟩
theorem aO.kp{K:KA}{H H':Hp}(k:Kp H H'):∀(ps:List PV){xs:List V},aO K H ps xs->aO K H' ps xs
 | [],_,h=>h
 | p::ps,_,⟨x,r,e,h,t⟩=>⟨x,r,e,Rep.kp k p h,aO.kp k ps t⟩
end
section
variable{K : KA}{H H' : Hp}{p : PV}{ps qs : List PV}{v : V}{xs ys : List V}{a : Addr}
theorem Rep.same(h:Rep K H p v)(s:Same H H'):Rep K H' p v:=Rep.kp (Same.kp s) p h
theorem aO.same(h:aO K H ps xs)(s:Same H H'):aO K H' ps xs:=aO.kp (Same.kp s) ps h
theorem bc.same(h:bc K H p v)(s:Same H H'):bc K H' p v:=by
 cases p with
 | lst ps=>
  obtain⟨a,xs,e,q,r⟩:=h;refine⟨a,xs,e,?_,r.same s⟩;rcases q with (q | ⟨o,q⟩) | q
  ·exact .inl (.inl (s _ _ q))
  ·exact .inl (.inr ⟨o,s _ _ q⟩)
  ·exact .inr q
 | dct ks ps=>
  obtain⟨a,kvs,e,q,ek,r⟩:=h;refine⟨a,kvs,e,?_,ek,r.same s⟩;rcases q with (q | ⟨o,q⟩) | q
  ·exact .inl (.inl (s _ _ q))
  ·exact .inl (.inr ⟨o,s _ _ q⟩)
  ·exact .inr q
 | dtt ks ps=>
  obtain⟨a,kvs,e,q,ek,r⟩:=h;refine⟨a,kvs,e,?_,ek,r.same s⟩;rcases q with q | ⟨o,q⟩
  ·exact .inl (s _ _ q)
  ·exact .inr ⟨o,s _ _ q⟩
 | _=>exact Rep.same h s
theorem cH.same(h:cH K H a p)(s:Same H H'):cH K H' a p:=by
 cases p with
 | lst ps=>
  obtain⟨xs,q,r⟩:=h;exact⟨xs,s _ _ q,r.same s⟩
 | dct ks ps=>
  obtain⟨kvs,q,ek,r⟩:=h;exact⟨kvs,s _ _ q,ek,r.same s⟩
 | dtt ks ps=>
  obtain⟨kvs,q,ek,r⟩:=h;exact⟨kvs,s _ _ q,ek,r.same s⟩
 | _=>exact h
theorem Rep.o(h:Rep K H p v):bc K H p v:=by
 cases p with
 | lst ps=>
  obtain⟨a,xs,e,q,r⟩:=h;exact⟨a,xs,e,q.l,r⟩
 | dct ks ps=>
  obtain⟨a,kvs,e,q,ek,r⟩:=h;exact⟨a,kvs,e,q.r,ek,r⟩
 | dtt ks ps=>
  obtain⟨a,o,kvs,e,q,ek,r⟩:=h;exact⟨a,kvs,e,.inr ⟨o,q⟩,ek,r⟩
 | _=>exact h
theorem cH.o(h:cH K H a p):bc K H p (.ref a):=by
 cases p with
 | lst ps=>
  obtain⟨xs,q,r⟩:=h;exact⟨a,xs,rfl,.inl (.inl q),r⟩
 | dct ks ps=>
  obtain⟨kvs,q,ek,r⟩:=h;exact⟨a,kvs,rfl,.inl (.inl q),ek,r⟩
 | dtt ks ps=>
  obtain⟨kvs,q,ek,r⟩:=h;exact⟨a,kvs,rfl,.inl q,ek,r⟩
 | _=>exact KJ h
theorem aO.length:∀{ps:List PV}{xs:List V},aO K H ps xs->ps.length=xs.length
 | [],_,h=>by cases h;rfl
 | p::ps,_,⟨x,r,e,_,t⟩=>by subst e;simp[aO.length t]
theorem aO.nil:aO K H [] []:=rfl
theorem aO.cons(h:Rep K H p v)(t:aO K H ps xs):aO K H (p::ps) (v::xs):=⟨v,xs,rfl,h,t⟩
theorem aO.append:∀{ps qs:List PV}{xs ys:List V},aO K H ps xs->aO K H qs ys->aO K H (ps++qs) (xs++ys)
 | [],_,_,_,h,k=>by cases h;exact k
 | p::ps,_,_,_,⟨x,r,e,h,t⟩,k=>by subst e;exact⟨x,_,rfl,h,aO.append t k⟩
theorem aO.get:∀{ps:List PV}{xs:List V}{i:Nat}{p:PV},aO K H ps xs->ps[i]?=some p->∃x,xs[i]?=some x/\Rep K H p x
 | [],_,_,_,_,e=>by simp at e
 | p::ps,_,0,_,⟨x,r,e,h,t⟩,q=>by
  subst e;simp at q;subst q;exact⟨x,rfl,h⟩
 | p::ps,_,i+1,q,⟨x,r,e,h,t⟩,z=>by
  subst e;obtain⟨y,h1,h2⟩:=aO.get (i:=i) (p:=q) t (by simpa using z);exact⟨y,by simpa using h1,h2⟩
theorem aO.take:∀{ps:List PV}{xs:List V}(n:Nat),aO K H ps xs->aO K H (ps.take n) (xs.take n)
 | _,_,0,_=>by simp;rfl
 | [],_,n+1,h=>by cases h;rfl
 | p::ps,_,n+1,⟨x,r,e,h,t⟩=>by subst e;exact⟨x,_,rfl,h,aO.take n t⟩
theorem aO.drop:∀{ps:List PV}{xs:List V}(n:Nat),aO K H ps xs->aO K H (ps.drop n) (xs.drop n)
 | _,_,0,h=>by simpa using h
 | [],_,n+1,h=>by cases h;rfl
 | p::ps,_,n+1,⟨x,r,e,h,t⟩=>by subst e;simpa using aO.drop n t
theorem aO.set:∀{ps:List PV}{xs:List V}(n:Nat){p:PV}{v:V},aO K H ps xs->Rep K H p v->aO K H (ps.set n p) (xs.set n v)
 | [],_,_,_,_,h,_=>by cases h;rfl
 | q::ps,_,0,_,_,⟨x,r,e,h,t⟩,k=>by subst e;exact⟨_,_,rfl,k,t⟩
 | q::ps,_,n+1,_,_,⟨x,r,e,h,t⟩,k=>by subst e;exact⟨x,_,rfl,h,aO.set n t k⟩
end
theorem _root_.L2.Inv.reH{X:Cx}{pins:List (Addr×Obj)}{σ:L2.St}{H H':Hp}{s:KC}(I:Inv X pins σ H s){a:Addr}{u u':HO}(hu:H a=some u)(h':H'=upd H a u')
  (nf:Aq u=false) (nt:∀ps,u≠.tbl ps) (no:∀x,u≠.own x) (hok:dW X.prog X.w H' s.heap a u'):Inv X pins σ H' s:=by
 subst h';have keepT:∀b xs,H b=some (.tup xs)->(upd H a u') b=some (.tup xs):=fun b xs e=>Kp.upd hu nf b _ e rfl
 have keepO:∀b x,H b=some (.own x)->(upd H a u') b=some (.own x):=fun b x e=>by
  have:b≠a:=fun z=>by
   subst z;rw[hu] at e;cases e;exact no x rfl
  rw[aL this];exact e
 have hn:∀b,H b=none->(upd H a u') b=none:=fun b e=>by
  have:b≠a:=fun z=>by
   subst z;rw[hu] at e;cases e
  rw[aL this];exact e
 refine⟨I.ok,I.os,I.bare,⟨I.base.keep,I.base.slot,fun b o e n x=>hn b (I.base.free b o e n x),I.base.there,fun b xs e=>keepT b xs (I.base.tups b xs e),
  fun b o w e=>Kp.upd hu nf b _ (I.base.frzs b o w e) rfl,fun b ps e=>?_⟩,I.loc,I.cell,hn _ I.free,fun x c e=>hn c (I.freeC x c e),fun p hp=>?_,fun b o e=>?_,I.len⟩
 ·obtain⟨more,q⟩:=I.base.tbls b ps e
  have:b≠a:=fun z=>by
   subst z;rw[hu] at q;cases q;exact nt _ rfl
  exact⟨more,by rw[aL this];exact q⟩
 ·obtain⟨h1,h2,h3⟩:=I.pin p hp
  exact⟨h1,hn _ h2,h3⟩
 ·by_cases hb:b=a
  ·subst hb
   rw[aF] at e;cases e;exact hok
  ·rw[aL hb] at e
   exact(I.hok b o e).stay (fun c v _ r=>r) (fun c r=>keepO c b r) keepT
theorem _root_.L2.Inv.frz{X:Cx}{pins:List (Addr×Obj)}{σ:L2.St}{H:Hp}{s:KC}{a:Addr}{p:PV}(I:Inv X pins σ H s)(n:cH X.K H a p) :
  ∃H',Inv X pins σ H' s/\Rep X.K H' p (.ref a)/\∀b,b≠a->H' b=H b:=by
 cases p with
 | lst ps=>
  obtain⟨xs,q,r⟩:=n;obtain⟨z,its,m,rv,e⟩:=I.hok a _ q;refine⟨upd H a (.frz _ (.lst xs)),I.reH q rfl rfl (by intro _ h;cases h) (by intro _ h;cases h) ⟨e,z,its,m,rv,e⟩,⟨a,xs,rfl,.inl ⟨_,aF⟩,r.kp (Kp.upd q rfl)⟩,fun b hb=>aL hb⟩
 | dct ks ps=>
  obtain⟨kvs,q,ek,r⟩:=n;obtain⟨z,hs,vs,rv,o,es,ep,e,rest⟩:=I.hok a _ q;refine⟨upd H a (.frz o (.dK kvs)),I.reH q rfl rfl (by intro _ h;cases h) (by intro _ h;cases h) ⟨e,z,hs,vs,rv,o,es,ep,e,rest⟩,⟨a,kvs,rfl,.inl ⟨_,aF⟩,ek,r.kp (Kp.upd q rfl)⟩,fun b hb=>aL hb⟩
 | dtt ks ps=>
  obtain⟨kvs,q,ek,r⟩:=n;obtain⟨z,hs,ys,rv,o,es,ep,e,rest⟩:=I.hok a _ q;refine⟨upd H a (.frz o (.dT kvs)),I.reH q rfl rfl (by intro _ h;cases h) (by intro _ h;cases h) ⟨e,z,hs,ys,?_,o,es,ep,e,rest⟩,⟨a,o,kvs,rfl,aF,ek,r.kp (Kp.upd q rfl)⟩,fun b hb=>aL hb⟩;exact Paired.mapP rv fun p1 q1 ⟨h1,h2,h3⟩=>⟨h1,h2.keeps fun b ys hb=>Kp.upd q rfl _ _ hb rfl,h3⟩
 | _=>exact KJ n
theorem cH.nt{K:KA}{H:Hp}{a:Addr}{p:PV}(h:cH K H a p):∀u,H a=some u->Aq u=false/\CY u=false:=fun u e=>by
 cases p with
 | lst ps=>obtain⟨_,w,_⟩:=h;rw[w] at e;cases e;exact⟨rfl,rfl⟩
 | dct ks ps=>obtain⟨_,w,_⟩:=h;rw[w] at e;cases e;exact⟨rfl,rfl⟩
 | dtt ks ps=>obtain⟨_,w,_⟩:=h;rw[w] at e;cases e;exact⟨rfl,rfl⟩
 | _=>exact KJ h
end PU
namespace PU
open PySem PySem.Spec PyProof.Rows L2
variable[TW]
structure Cn where
 X:Cx
 Ac:PX->Hp->Prop
def D5(K:KA)(H:Hp)(x:Option (Option V)):Sl->Prop
 | .no=>True
 | .val p=>∃v,x=some (some v)/\Rep K H p v
 | .own p=>∃a,x=some (some (.ref a))/\cH K H a p
 | .pin ps a=>x=some (some (.ref a))/\cH K H a (.lst ps)
structure View(K:KA)(H:Hp)(σ:L2.St)(ρ:PSt):Prop where
 at_:∀(i:Nat)(l:Sl),ρ[i]?=some l->D5 K H σ[i]? l
 tb:ua H
instance {K:KA} {H:Hp} {σ:L2.St} {ρ:PSt}:CoeFun (View K H σ ρ) (fun _=>∀(i:Nat)(l:Sl),ρ[i]?=some l->D5 K H σ[i]? l):=⟨@View.at_ _ K H σ ρ⟩
theorem D5.same{K:KA}{H H':Hp}{x:Option (Option V)}{l:Sl}(h:D5 K H x l)(s:Same H H'):D5 K H' x l:=by
 cases l with
 | no=>exact trivial
 | val p=>obtain⟨v,e,r⟩:=h;exact⟨v,e,r.same s⟩
 | own p=>obtain⟨a,e,r⟩:=h;exact⟨a,e,r.same s⟩
 | pin ps a=>exact⟨h.1,cH.same h.2 s⟩
theorem View.same{K:KA}{H H':Hp}{σ:L2.St}{ρ:PSt}(h:View K H σ ρ)(s:Same H H'):View K H' σ ρ:=⟨fun i l e=>(h i l e).same s,s.tabs h.tb⟩
def RQ(C:Cn)(H:Hp){α:Type}(r:R α)(k:α->Prop):Prop:=
 match r with
 | .ok a=>k a
 | .er x=>∀H',Same H H'->C.Ac x H'
 | .no=>False
section
variable{C : Cn}{H H' : Hp}{α β : Type}{r : R α}{k k' : α → Prop}
theorem RQ.imp(h:RQ C H r k)(f:∀a,r=.ok a->k a->k' a):RQ C H r k':=by
 cases r with
 | ok a=>exact f a rfl h
 | er x=>exact h
 | no=>exact h
theorem RQ.same(h:RQ C H r k)(s:Same H H'):RQ C H' r k:=by
 cases r with
 | ok a=>exact h
 | er x=>exact fun H2 s2=>h H2 (s.trans s2)
 | no=>exact h
theorem RQ.bind{f:α->R β}{m:β->Prop}(h:RQ C H (r >>= f) m):RQ C H r fun a=>RQ C H (f a) m:=by
 cases r <;> exact h
theorem RQ.ofO{o:Option α}(h:RQ C H (R.ofO o) k):∃a,o=some a/\k a:=by
 cases o with
 | none=>exact KJ h
 | some a=>exact⟨a,rfl,h⟩
end
def tV(C:Cn)(f:PSt->R PV):TE:=fun σ H Q=>∃ρ,View C.X.K H σ ρ/\RQ C H (f ρ) fun p=>∀v H',Same H H'->Rep C.X.K H' p v->Q v H'
def tO(C:Cn)(f:PSt->R PV):TE:=fun σ H Q=>∃ρ,View C.X.K H σ ρ/\RQ C H (f ρ) fun p=>∀v H',Same H H'->bc C.X.K H' p v->Q v H'
def tN(C:Cn)(f:PSt->R PV):TE:=fun σ H Q=>∃ρ,View C.X.K H σ ρ/\RQ C H (f ρ) fun p=>∀a H',Same H H'->H a=none->cH C.X.K H' a p->Q (.ref a) H'
def tAs(C:Cn)(f:PSt->R (List PV)):TA:=fun σ H Q=>∃ρ,View C.X.K H σ ρ/\RQ C H (f ρ) fun ps=>∀vs H',Same H H'->aO C.X.K H' ps vs->Q vs H'
def tBl(C:Cn)(f:PSt->R Bool):TT:=fun σ H Q=>∃ρ,View C.X.K H σ ρ/\RQ C H (f ρ) fun b=>∀H',Same H H'->Q b H'
def EV(C:Cn)(e:Expr)(f:PSt->R PV):Prop:=PE C.X e (tV C f)
def EO(C:Cn)(e:Expr)(f:PSt->R PV):Prop:=PE C.X e (tO C f)
def EN(C:Cn)(e:Expr)(f:PSt->R PV):Prop:=PE C.X e (tN C f)
def EA(C:Cn)(es:List Expr)(f:PSt->R (List PV)):Prop:=PA C.X es (tAs C f)
def ET(C:Cn)(e:Expr)(f:PSt->R Bool):Prop:=PT C.X e (tBl C f)
def EW(C:Cn)(e:Expr)(f:PSt->R Bool):Prop:=PW C.X e (tBl C f)
section
variable{C : Cn}{e a b c : Expr}{es : List Expr}{f fa fb fc : PSt → R PV}{fs : PSt → R (List PV)}{pos : Ma}
theorem EV.o(h:EV C e f):EO C e f:=fun pins s σ H Q I ⟨ρ,vw,q⟩=>h pins s σ H Q I ⟨ρ,vw,q.imp fun _ _ k v H' sm r=>k v H' sm r.o⟩
theorem EN.o(h:EN C e f):EO C e f:=fun pins s σ H Q I ⟨ρ,vw,q⟩=>h pins s σ H Q I ⟨ρ,vw,q.imp fun _ _ k a H' sm _ r=>k (.ref a) H' sm r.o⟩
theorem EN.v(h:EN C e f):EV C e f:=by
 intro pins s σ H Q I ⟨ρ,vw,q⟩;cases hf:f ρ with
 | ok p=>
  rw[hf] at q;refine thn (h pins s σ H (fun v H'=>∃a,v=.ref a/\Same H H'/\H a=none/\cH C.X.K H' a p) I ⟨ρ,vw,by rw[hf];exact fun a H' sm n w=>⟨a,rfl,sm,n,w⟩⟩) fun u s' ⟨v,H',I',rv,a,ev,sm,na,w⟩=>?_;obtain⟨H2,I2,rp,oth⟩:=I'.frz w;subst ev;exact⟨.ref a,H2,I2,rv,q _ H2 (sm.but na (fun u h=>(w.nt u h).1) oth) rp⟩
 | er x=>
  rw[hf] at q;exact h pins s σ H Q I ⟨ρ,vw,by rw[hf];exact q⟩
 | no=>
  rw[hf] at q;exact KJ q
theorem Fp (i:Nat) {x:Str} (hN:C.X.N[i]?=some x) (hv:Vis C.X.env.scope x) (hd:(x == ("__debug__":Str))=false:=by decide) (hcd:(x == ("__classdict__":Str))=false:=by decide):EV C (.Name x pos) (ai i):=by
 intro pins s σ H Q I ⟨ρ,vw,q⟩;unfold ai at q;split at q
 ·rename_i p e
  obtain⟨v,ev,r⟩:=vw i _ e;exact gw hN hv hd hcd pins s σ H Q I ⟨v,ev,q v H (Same.refl H) r⟩
 ·exact KJ q
theorem Fu (i:Nat) {x:Str} (hN:C.X.N[i]?=some x) (hv:Vis C.X.env.scope x) (hd:(x == ("__debug__":Str))=false:=by decide) (hcd:(x == ("__classdict__":Str))=false:=by decide):EO C (.Name x pos) (dz i):=by
 intro pins s σ H Q I ⟨ρ,vw,q⟩;unfold dz at q;split at q
 ·rename_i p e
  obtain⟨v,ev,r⟩:=vw i _ e;exact gw hN hv hd hcd pins s σ H Q I ⟨v,ev,q v H (Same.refl H) r.o⟩
 ·rename_i p e
  obtain⟨v,ev,r⟩:=vw i _ e;exact gw hN hv hd hcd pins s σ H Q I ⟨_,ev,q _ H (Same.refl H) r.o⟩
 ·rename_i ps a e
  obtain⟨ev,r⟩:=vw i _ e;exact gw hN hv hd hcd pins s σ H Q I ⟨_,ev,q _ H (Same.refl H) r.o⟩
 ·exact KJ q
theorem aI{i j}:EV C (.Constant (.int i) j pos) (kI i):=fun pins s σ H Q I ⟨_,_,q⟩=>E8 pins s σ H Q I (q _ H (Same.refl H) rfl)
theorem jv{i j}:EV C (.Constant (.bool i) j pos) (kB i):=fun pins s σ H Q I ⟨_,_,q⟩=>Hl pins s σ H Q I (q _ H (Same.refl H) rfl)
theorem kj{j}:EV C (.Constant .none j pos) kN:=fun pins s σ H Q I ⟨_,_,q⟩=>E6 pins s σ H Q I (q _ H (Same.refl H) rfl)
theorem aC{x j}:EV C (.Constant (.str x) j pos) (kS x):=fun pins s σ H Q I ⟨_,_,q⟩=>E3 pins s σ H Q I (q _ H (Same.refl H) rfl)
theorem Cg {x:Str} {v:V} {u:KB} {p:PV} (hg:Gl C.X x) (hm:C.X.mg x=some u) (r:RelV v u) (rp:∀H,Rep C.X.K H p v) (hd:(x == ("__debug__":Str))=false:=by decide):EV C (.Name x pos) (kP p):=
 fun pins s σ H Q I ⟨_,_,q⟩=>Bs hg hm r hd pins s σ H Q I (q _ H (Same.refl H) (rp H))
theorem ak:EA C [] ay:=fun pos pins s σ H Q I ⟨_,_,q⟩=>iz pos pins s σ H Q I (q [] H (Same.refl H) aO.nil)
theorem aa(ha:EV C e f)(hr:EA C es fs)(hs:LA (e::es) C.X.env=(false,M7 e C.X.env)::LA es C.X.env:=by exact cM rfl):EA C (e::es) (ab f fs):=by
 intro pos pins s σ H Q I ⟨ρ,vw,q⟩;refine cX ha hr hs pos pins s σ H Q I ⟨ρ,vw,q.bind.imp fun p _ k v H1 s1 r1=>⟨ρ,vw.same s1,(k.bind.same s1).imp fun ps _ k2 vs H2 s2 r2=>?_⟩⟩;exact k2 (v::vs) H2 (s1.trans s2) (aO.cons (r1.same s2) r2)
def tA1(C:Cn)(f:PSt->R PV):TA:=fun σ H Q=>∃ρ,View C.X.K H σ ρ/\RQ C H (f ρ) fun p=>∀v H',Same H H'->bc C.X.K H' p v->Q [v] H'
theorem sv(ha:EO C e f)(hs:LA [e] C.X.env=[(false,M7 e C.X.env)]:=by exact cT rfl):PA C.X [e] (tA1 C f):=by
 intro pos pins s σ H Q I ⟨ρ,vw,q⟩;exact cX ha iz hs pos pins s σ H Q I ⟨ρ,vw,q⟩
theorem Same.new{H:Hp}{a:Addr}{o:HO}(h:H a=none):Same H (upd H a o):=.of fun b u e=>by
 rw[aL (bB e h)];exact e
theorem lV{C:Cn}{H:Hp}{ps:List PV}{β:Type}{g:List PV->R β}{k:β->Prop}(h:RQ C H (gy ps >>= g) k):ps.length<=sizeLine/\RQ C H (g ps) k:=by
 unfold gy at h
 by_cases hz:ps.length<=16777216
 ·rw[if_pos hz] at h
  exact⟨by rw[Li];exact hz,h⟩
 ·rw[if_neg hz] at h
  exact KJ h
theorem aR{k}(h:EA C es fs):EV C (.Tuple es k pos) (cg fs):=by
 intro pins s σ H Q I ⟨ρ,vw,q⟩;refine DZ h pins s σ H Q I ⟨ρ,vw,q.bind.imp fun ps _ k vs H1 s1 r1=>?_⟩;obtain⟨z,k⟩:=lV k;refine⟨by rw[← r1.length];exact z,fun p hp=>?_⟩;exact k _ _ (s1.trans (Same.new hp)) ⟨p,vs,rfl,aF,r1.same (Same.new hp)⟩
theorem aZ(h:EA C es fs):EN C (.List es pos) (cI fs):=by
 intro pins s σ H Q I ⟨ρ,vw,q⟩;refine E7 h pins s σ H Q I ⟨ρ,vw,q.bind.imp fun ps _ k vs H1 s1 r1=>?_⟩;obtain⟨z,k⟩:=lV k;refine⟨by rw[← r1.length];exact z,fun p hp=>?_⟩;exact k p _ (s1.trans (Same.new hp)) (s1.free hp) ⟨vs,aF,r1.same (Same.new hp)⟩
def rP(K:KA)(g:PV->PV->Option PV):R2:=fun v u H Q=>∃p q z,bc K H p v/\bc K H q u/\g p q=some z/\∀w H',Same H H'->Rep K H' z w->Q w H'
theorem t2{σ:L2.St}{H:Hp}{Q:VK}{ρ:PSt}{g:PV->PV->Option PV}{r:R2}(vw:View C.X.K H σ ρ)(q:RQ C H (aj fa fb g ρ) fun p=>∀v H',Same H H'->Rep C.X.K H' p v->Q v H')
  (hr:∀v u H' Q',rP C.X.K g v u H' Q'->r v u H' Q'):tOp r (tO C fa) (tO C fb) σ H Q:=by
 refine⟨ρ,vw,q.bind.imp fun p _ k v H1 s1 r1=>⟨ρ,vw.same s1,(k.bind.same s1).imp fun p2 _ k2 u H2 s2 r2=>?_⟩⟩;obtain⟨z,ez,k3⟩:=k2.ofO;exact hr _ _ _ _ ⟨p,p2,z,r1.same s2,r2,ez,fun w H3 s3 r3=>k3 w H3 ((s1.trans s2).trans s3) r3⟩
theorem av{op:Operator}{g:PV->PV->Option PV}(ho:OpR C.X (Mr op) (rP C.X.K g))(ha:EO C a fa)(hb:EO C b fb):EV C (.BinOp a op b pos) (aj fa fb g):=by
 intro pins s σ H Q I ⟨ρ,vw,q⟩;exact E4 ho ha hb pins s σ H Q I (t2 vw q fun _ _ _ _ h=>h)
theorem km{op:CmpOp}{g:PV->PV->Option PV}(ho:OpR C.X (LZ op) (rP C.X.K g))(ha:EO C a fa)(hb:EO C b fb)(hm:OA op b=false:=by first | exact A9 _ | with_unfolding_all rfl):EV C (.Compare a [op] [b] pos) (aj fa fb g):=by
 intro pins s σ H Q I ⟨ρ,vw,q⟩;exact Bu ho ha hb hm pins s σ H Q I (t2 vw q fun _ _ _ _ h=>h)
theorem ao{g:PV->PV->Option PV}(ho:IxR C.X (rP C.X.K g))(ha:EO C a fa)(hb:EO C b fb)(hs:xr b:=by exact fun _ _=>rfl):EV C (.Subscript a b pos) (aj fa fb g):=by
 intro pins s σ H Q I ⟨ρ,vw,q⟩;exact Hk ho ha hb hs pins s σ H Q I (t2 vw q fun _ _ _ _ h=>h)
end
end PU
namespace PU
open PySem PySem.Spec PyProof.Rows L2
variable[TW]
section
variable{X : Cx}{pins : List (Addr×Obj)}{σ : L2.St}{H : Hp}{s : KC}
theorem DkR.at{a:Addr}{kvs:List (Key×V)}(hw:X.w=TW.w)(I:Inv X pins σ H s)(h:DkR X.K H a kvs) :
  kvs.length<=sizeLine/\(a == Lo)=false/\∃vs,KV kvs vs/\s.heap.DictOf (aB X.prog X.w) a vs:=by
 rcases h with h | h
 ·exact tU I.hok h
 ·exact⟨h.1,h.2.1,h.at _ _ hw _ I.kIn⟩
theorem BO{ys:List V}{its:List KB}{ps:List PV}(I:Inv X pins σ H s)(hv:Vals ys its)(hz:ys.length<=sizeLine)(hr:aO X.K H ps ys)(t':Nat) :
  ∃H',Inv X pins σ H' { s with heap:=s.heap.push { cls:=.type "list",data:=.seq its.toArray },toks:=t' }/\Same H H'/\Rep X.K H' (.lst ps) (.ref s.heap.objs.size):=by
 have I1:=I.lnew (t':=t') hv hz;have nf:H s.heap.objs.size=none:=I.fresh;obtain⟨H',I2,rp,oth⟩:=L2.Inv.frz (a:=s.heap.objs.size) (p:=.lst ps) I1 ⟨ys,aF,hr.same (Same.new nf)⟩;refine⟨H',I2,.of fun b o e=>?_,rp⟩;have hb:=bB e nf;rw[oth b hb,aL hb];exact e
theorem bc.lst_inv{K:KA}{H:Hp}{ps:List PV}{v:V}(h:bc K H (.lst ps) v):∃a xs,v=.ref a/\SqO K H a xs/\aO K H ps xs:=h
theorem bc.tup_inv{K:KA}{H:Hp}{ps:List PV}{v:V}(h:bc K H (.tup ps) v):∃a xs,v=.ref a/\SqT K H a xs/\aO K H ps xs:=by
 obtain⟨a,xs,e,q,r⟩:=(show ∃a xs,v=.ref a/\H a=some (.tup xs)/\aO K H ps xs from h);exact⟨a,xs,e,.inl (.inl q),r⟩
end
theorem zj{prog:L6}{w:LI}{A:LR}{E:KB->KC->Prop}{s:KC}{t b:Addr}{vs ws:List KB}{Q:KB->KC->Prop}(ht:IsTup s.heap t vs.toArray)(hb:IsTup s.heap b ws.toArray)
  (h0:vs=[]->Q (.ref b) s) (h1:ws=[]->Q (.ref t) s) (h2:Q (.ref s.heap.objs.size) { s with heap:=s.heap.push { cls:=.type "tuple",data:=.seq (vs++ws).toArray } })
  (hsz:vs.length+ws.length<=sizeLine):LC (LU prog w) A (Mr .Add (.ref t) (.ref b)) Q E s:=by
 obtain⟨⟨cls,dd,data,sl⟩,ho,hc,n,hd⟩:=id ht;obtain⟨⟨cls2,dd2,data2,sl2⟩,ho2,hc2,n2,hd2⟩:=id hb;simp only at hc hd hc2 hd2;subst hc hd hc2 hd2;have e:vs.toArray++ws.toArray=(vs++ws).toArray:=by simp
 by_cases hv:vs=[]
 ·exact Rr ⟨_,ho,rfl⟩ ⟨_,ho2,rfl⟩ QG RL OR OM (OH _ _)
   (tuple_addW0 t b vs.toArray ws.toArray n n2 dd dd2 sl sl2 (by simp[hv])) ⟨ho,ho2,h0 hv⟩
 ·by_cases hw:ws=[]
  ·exact Rr ⟨_,ho,rfl⟩ ⟨_,ho2,rfl⟩ QG RL OR OM (OH _ _)
    (tuple_addW1 t b vs.toArray ws.toArray n n2 dd dd2 sl sl2 (by simpa using hv) (by simp[hw])) ⟨ho,ho2,h1 hw⟩
  ·refine Rr ⟨_,ho,rfl⟩ ⟨_,ho2,rfl⟩ QG RL OR OM (OH _ _)
    (tuple_addW2 t b vs.toArray ws.toArray n n2 dd dd2 sl sl2 (by simpa using hv) (by simpa using hw) (by rw[LD,LD];exact hsz)) ⟨ho,ho2,?_⟩
   rw[e];exact h2
section
variable{X : Cx}
theorem oV{f:KB->KB->Sem KB}{g:PV->PV->Option PV}{r:R2}(h:OpR X f r)
  (hg:∀(p q z:PV),g p q=some z->∃i j,p=.int i/\q=.int j/\∃w:V,(∀K H,Rep K H z w)/\∀H Q,Q w H->r (.int i) (.int j) H Q):OpR X f (rP X.K g):=by
 intro pins s σ H x y v u Q I rx ry ⟨p,q,z,hp,hq,e,k⟩;obtain⟨i,j,rfl,rfl,w,hw,hr⟩:=hg p q z e;cases (show x=.int i from hp);cases (show y=.int j from hq);exact h pins s σ H _ _ v u Q I rx ry (hr H Q (k w H (Same.refl H) (hw _ _)))
theorem BD:OpR X (Mr .Sub) (rP X.K um):=oV Eb fun p q z e=>by
 unfold um at e;split at e
 ·rename_i i j
  cases e;exact⟨i,j,rfl,rfl,_,fun _ _=>rfl,fun H Q q=>⟨i,j,rfl,rfl,q⟩⟩
 ·cases e
theorem yv:OpR X (Mr .Mult) (rP X.K wj):=oV Ec fun p q z e=>by
 unfold wj at e;split at e
 ·rename_i i j
  split at e
  ·rename_i hc
   cases e;exact⟨i,j,rfl,rfl,_,fun _ _=>rfl,fun H Q q=>⟨i,j,rfl,rfl,hc.imp (fun h=>⟨by omega,by omega⟩) (fun h=>⟨by omega,by omega⟩),q⟩⟩
  ·cases e
 ·cases e
theorem oa:OpR X (Mr .FloorDiv) (rP X.K ki):=oV BC fun p q z e=>by
 unfold ki at e;split at e
 ·rename_i i j
  split at e
  ·rename_i hc
   cases e;exact⟨i,j,rfl,rfl,_,fun _ _=>rfl,fun H Q q=>⟨i,j,rfl,rfl,hc,q⟩⟩
  ·cases e
 ·cases e
theorem bG:OpR X (Mr .Mod) (rP X.K bz):=oV Ee fun p q z e=>by
 unfold bz at e;split at e
 ·rename_i i j
  split at e
  ·rename_i hc
   cases e;exact⟨i,j,rfl,rfl,_,fun _ _=>rfl,fun H Q q=>⟨i,j,rfl,rfl,hc,q⟩⟩
  ·cases e
 ·cases e
theorem cB:OpR X (Mr .Add) (rP X.K cj):=by
 intro pins s σ H x y v u Q I rx ry ⟨p,q,z,hp,hq,e,k⟩;have hs:=Li;unfold cj at e;split at e
 ·rename_i i j
  cases e;cases (show x=.int i from hp);cases (show y=.int j from hq);exact Eg pins s σ H _ _ v u Q I rx ry ⟨i,j,rfl,rfl,k _ H (Same.refl H) rfl⟩
 ·rename_i i j
  split at e
  ·rename_i hc
   cases e;cases (show x=.str i from hp);cases (show y=.str j from hq);exact tx pins s σ H _ _ v u Q I rx ry ⟨i,j,rfl,rfl,by omega,k _ H (Same.refl H) rfl⟩
  ·cases e
 ·rename_i ps qs
  split at e
  ·rename_i hc
   cases e;obtain⟨a,xs,rfl,hx,r1⟩:=hp;obtain⟨b,ys,rfl,hy,r2⟩:=hq;cases rx;cases ry;obtain⟨hz,its,n,rv,e1⟩:=hx.is I;obtain⟨hz2,its2,n2,rv2,e2⟩:=hy.is I;have l1:=r1.length;have l2:=r2.length;have l3:=rv.length;have l4:=rv2.length;have ea:its.toArray++its2.toArray=(its++its2).toArray:=by simp
   refine RX e1 e2 ?_ (by simp only[LD];omega);rw[ea];obtain⟨H',I',sm,rp⟩:=BO I (rv.append rv2) (by rw[L0];omega) (r1.append r2) s.toks;exact⟨.ref _,H',I',rfl,k _ H' sm rp⟩
  ·cases e
 ·rename_i ps qs
  split at e
  ·rename_i hc
   cases e;obtain⟨a,xs,rfl,hx,r1⟩:=bc.tup_inv hp;obtain⟨b,ys,rfl,hy,r2⟩:=bc.tup_inv hq;cases rx;cases ry;obtain⟨its,rv,pl,hz⟩:=I.tuple hx;obtain⟨its2,rv2,pl2,hz2⟩:=I.tuple hy;have l1:=r1.length;have l2:=r2.length;have l3:=rv.length;have l4:=rv2.length;refine zj pl pl2 (fun z=>?_) (fun z=>?_) ?_ (by omega)
   ·subst z
    have:ps=[]:=Lu (by rw[l1,l3];rfl);subst this;exact⟨.ref b,H,I,rfl,k _ H (Same.refl H) hq⟩
   ·subst z
    have:qs=[]:=Lu (by rw[l2,l4];rfl);subst this;rw[Ly] at k;exact⟨.ref a,H,I,rfl,k _ H (Same.refl H) hp⟩
   ·have nf:H s.heap.objs.size=none:=I.fresh
    refine⟨.ref s.heap.objs.size,_,I.laid (t':=s.toks) (o:=.tup (xs++ys)) (fun b ob q=>KL _ q) (L9 _) ?_,rfl,k _ _ (Same.new nf) ⟨_,xs++ys,rfl,aF,(r1.append r2).same (Same.new nf)⟩⟩;exact⟨by rw[L0];omega,_,rv.append rv2,zx.new _ _⟩
  ·cases e
 ·cases e
end
end PU
namespace PU
open PySem PySem.Spec PyProof.Rows L2
variable[TW]
structure StOk(K:KA)(B:Hp×Hp)(H:Hp)(σ:L2.St)(ρ:PSt):Prop where
 len:ρ.length=σ.length
 same:Same B.1 H
 kp:Kp B.2 H
 vw:View K H σ ρ
 fresh:∀(i:Nat)(p:PV)(a:Addr),ρ[i]?=some (.own p)->σ[i]?=some (some (.ref a))->B.1 a=none
 apart:∀(i j:Nat)(p q:PV)(a:Addr),ρ[i]?=some (.own p)->ρ[j]?=some (.own q)->σ[i]?=some (some (.ref a))->σ[j]?=some (some (.ref a))->i=j
 pinned:∀(i:Nat)(ps:List PV)(a:Addr),ρ[i]?=some (.pin ps a)->B.1 a≠none
section
variable{K : KA}{B : Hp×Hp}{H H' : Hp}{σ : L2.St}{ρ : PSt}{i : Nat}{p q : PV}{v : V}{a : Addr}
theorem StOk.grow(S:StOk K B H σ ρ)(s:Same H H'):StOk K B H' σ ρ:=⟨S.len,S.same.trans s,S.kp.trans (Same.kp s),S.vw.same s,S.fresh,S.apart,S.pinned⟩
theorem cK{α:Type}{l:List α}{i j:Nat}{x y:α}(h:(l.set i x)[j]?=some y):(j=i/\y=x/\i<l.length)\/(j≠i/\l[j]?=some y):=by
 rw[Nf] at h
 by_cases e:i=j
 ·subst e
  rw[if_pos rfl] at h;split at h
  ·rename_i hl
   cases h;exact .inl ⟨rfl,rfl,hl⟩
  ·cases h
 ·rw[if_neg e] at h
  exact .inr ⟨fun z=>e z.symm,h⟩
theorem bC{α:Type}{l:List α}{i j:Nat}{x:α}(h:j≠i):(l.set i x)[j]?=l[j]?:=by
 rw[Nf,if_neg fun z=>h z.symm]
theorem eJ{α:Type}{l:List α}{i:Nat}{x:α}(h:i<l.length):(l.set i x)[i]?=some x:=by
 rw[Nf,if_pos rfl,if_pos h]
theorem StOk.setV(S:StOk K B H σ ρ)(r:Rep K H p v):StOk K B H (σ.set i (some v)) (ρ.set i (.val p)):=by
 refine⟨by simp[S.len],S.same,S.kp,⟨fun j l e=>?_,S.vw.tb⟩,fun j q b e f=>?_,fun j k q q' b e1 e2 f1 f2=>?_,fun j qs b e=>?_⟩
 ·rcases cK e with⟨rfl,rfl,hl⟩|⟨hj,e⟩
  ·exact⟨v,eJ (by rw[← S.len];exact hl),r⟩
  ·rw[bC hj]
   exact S.vw j l e
 ·rcases cK e with⟨_,z,_⟩|⟨hj,e⟩
  ·cases z
  ·rw[bC hj] at f
   exact S.fresh j q b e f
 ·rcases cK e1 with⟨_,z,_⟩|⟨hj,e1⟩
  ·cases z
  ·rcases cK e2 with⟨_,z,_⟩|⟨hk,e2⟩
   ·cases z
   ·rw[bC hj] at f1
    rw[bC hk] at f2;exact S.apart j k q q' b e1 e2 f1 f2
 ·rcases cK e with⟨_,z,_⟩|⟨hj,e⟩
  ·cases z
  ·exact S.pinned j qs b e
theorem StOk.setN(S:StOk K B H σ ρ)(s:Same H H')(n:H a=none)(r:cH K H' a p):StOk K B H' (σ.set i (some (.ref a))) (ρ.set i (.own p)):=by
 have other:∀(j:Nat)(q:PV),ρ[j]?=some (.own q)->σ[j]?≠some (some (.ref a)):=fun j q e f=>by
  obtain⟨b,e2,w⟩:=S.vw j _ e;rw[f] at e2;cases e2;cases q with
  | lst ps=>obtain⟨_,w,_⟩:=w;rw[n] at w;cases w
  | dct ks ps=>obtain⟨_,w,_⟩:=w;rw[n] at w;cases w
  | dtt ks ps=>obtain⟨_,w,_⟩:=w;rw[n] at w;cases w
  | _=>exact w
 refine⟨by simp[S.len],S.same.trans s,S.kp.trans (Same.kp s),⟨fun j l e=>?_,s.tabs S.vw.tb⟩,fun j q b e f=>?_,fun j k q q' b e1 e2 f1 f2=>?_,fun j qs b e=>?_⟩
 ·rcases cK e with⟨rfl,rfl,hl⟩|⟨hj,e⟩
  ·exact⟨a,eJ (by rw[← S.len];exact hl),r⟩
  ·rw[bC hj]
   exact(S.vw j l e).same s
 ·rcases cK e with⟨rfl,_,hl⟩|⟨hj,e⟩
  ·rw[eJ (by rw[← S.len];exact hl)] at f
   cases f;exact S.same.free n
  ·rw[bC hj] at f
   exact S.fresh j q b e f
 ·rcases cK e1 with⟨h1,_,hl⟩|⟨hj,d1⟩
  ·rcases cK e2 with⟨h2,_,_⟩|⟨hk,d2⟩
   ·rw[h1,h2]
   ·subst h1
    rw[eJ (by rw[← S.len];exact hl)] at f1;cases f1;rw[bC hk] at f2;exact absurd f2 (other k q' d2)
  ·rcases cK e2 with⟨h2,_,hl⟩|⟨hk,d2⟩
   ·subst h2
    rw[eJ (by rw[← S.len];exact hl)] at f2;cases f2;rw[bC hj] at f1;exact absurd f1 (other j q d1)
   ·rw[bC hj] at f1
    rw[bC hk] at f2;exact S.apart j k q q' b d1 d2 f1 f2
 ·rcases cK e with⟨_,z,_⟩|⟨hj,e⟩
  ·cases z
  ·exact S.pinned j qs b e
theorem cH.obj(h:cH K H a p):∃u,H a=some u/\Aq u=false:=by
 cases p with
 | lst ps=>obtain⟨_,w,_⟩:=h;exact⟨_,w,rfl⟩
 | dct ks ps=>obtain⟨_,w,_⟩:=h;exact⟨_,w,rfl⟩
 | dtt ks ps=>obtain⟨_,w,_⟩:=h;exact⟨_,w,rfl⟩
 | _=>exact KJ h
theorem cH.kp(k:Kp H H')(e:H' a=H a)(h:cH K H a p):cH K H' a p:=by
 cases p with
 | lst ps=>obtain⟨xs,w,r⟩:=h;exact⟨xs,by rw[e];exact w,r.kp k⟩
 | dct ks ps=>obtain⟨xs,w,z,r⟩:=h;exact⟨xs,by rw[e];exact w,z,r.kp k⟩
 | dtt ks ps=>obtain⟨xs,w,z,r⟩:=h;exact⟨xs,by rw[e];exact w,z,r.kp k⟩
 | _=>exact h
theorem StOk.turn{l':Sl}(S:StOk K B H σ ρ)(e:ρ[i]?=some (.own p))(f:σ[i]?=some (some (.ref a)))(oth:∀b,b≠a->H' b=H b)(hl:D5 K H' (some (some (.ref a))) l')(hn:∀ps b,l'≠.pin ps b:=by intro _ _ h;cases h):StOk K B H' σ (ρ.set i l'):=by
 obtain⟨b,f2,w⟩:=S.vw i _ e;rw[f] at f2;cases f2;obtain⟨u,hu,nf⟩:=w.obj;have fa:=S.fresh i p a e f
 have k:Kp H H':=fun b u' eb fb=>by
  have:b≠a:=fun z=>by
   subst z;rw[hu] at eb;cases eb;rw[nf] at fb;cases fb
  rw[oth b this];exact eb
 have ne:∀(j:Nat)(q:PV)(b:Addr),j≠i->ρ[j]?=some (.own q)->σ[j]?=some (some (.ref b))->b≠a:=fun j q b hj e2 f2 z=>by
  subst z;exact hj (S.apart j i q p b e2 e f2 f)
 refine⟨by simp[S.len],S.same.but fa (fun u h=>(w.nt u h).1) oth,S.kp.trans k,⟨fun j l ej=>?_,S.vw.tb.but w.nt oth⟩,fun j q b ej fj=>?_,fun j m q q' b e1 e2 f1 f2=>?_,fun j qs b e=>?_⟩
 ·rcases cK ej with⟨rfl,rfl,hl2⟩|⟨hj,ej⟩
  ·rw[f]
   exact hl
  ·have:=S.vw j l ej
   cases l with
   | no=>exact trivial
   | val q=>obtain⟨v,e1,r⟩:=this;exact⟨v,e1,r.kp k⟩
   | own q=>
    obtain⟨b,e1,r⟩:=this;exact⟨b,e1,r.kp k (oth b (ne j q b hj ej e1))⟩
   | pin qs b=>
    exact⟨this.1,this.2.kp k (oth b fun z=>S.pinned j qs b ej (by rw[z];exact fa))⟩
 ·rcases cK ej with⟨rfl,_,_⟩|⟨hj,ej⟩
  ·rw[f] at fj
   cases fj;exact fa
  ·exact S.fresh j q b ej fj
 ·have fix:∀(j:Nat)(q:PV),(ρ.set i l')[j]?=some (.own q)->∃q',ρ[j]?=some (.own q'):=fun j q ej=>by
   rcases cK ej with⟨rfl,_,_⟩|⟨hj,ej⟩
   ·exact⟨p,e⟩
   ·exact⟨q,ej⟩
  obtain⟨q1,g1⟩:=fix j q e1;obtain⟨q2,g2⟩:=fix m q' e2;exact S.apart j m q1 q2 b g1 g2 f1 f2
 ·rcases cK e with⟨_,z,_⟩|⟨hj,e⟩
  ·exact absurd z.symm (hn qs b)
  ·exact S.pinned j qs b e
theorem StOk.rebase{B':Hp}(S:StOk K B H σ ρ)(k:Kp B' H):StOk K (B.1,B') H σ ρ:=⟨S.len,S.same,k,S.vw,S.fresh,S.apart,S.pinned⟩
end
def RS(C:Cn)(B:Hp×Hp)(D:Ends):R Fl->Prop
 | .ok (.next ρ)=>∀σ H,StOk C.X.K B H σ ρ->D.nx σ H
 | .ok (.brk ρ)=>∀σ H,StOk C.X.K B H σ ρ->D.bk σ H
 | .ok (.cont ρ)=>∀σ H,StOk C.X.K B H σ ρ->D.ct σ H
 | .ok (.ret p)=>∀v H,Same B.1 H->Rep C.X.K H p v->D.rt v H
 | .er x=>∀H,Same B.1 H->C.Ac x H
 | .no=>False
def tS(C:Cn)(g:PSt->R Fl):TS:=fun D σ H=>∃ρ B,StOk C.X.K B H σ ρ/\RS C B D (g ρ)
def SV(C:Cn)(st:Stmt)(g:PSt->R Fl):Prop:=PS C.X st (tS C g)
def SVs(C:Cn)(st:List Stmt)(g:PSt->R Fl):Prop:=PSs C.X st (tS C g)
section
variable{C : Cn}{B : Hp×Hp}{D : Ends}{H : Hp}{α : Type}
theorem RS.bind{r:R α}{g:α->R Fl}(h:RS C B D (r >>= g))(s:Same B.1 H):RQ C H r fun a=>RS C B D (g a):=by
 cases r with
 | ok a=>exact h
 | er x=>exact fun H' s'=>h H' (s.trans s')
 | no=>exact h
theorem RS.ofO{o:Option α}{g:α->R Fl}(h:RS C B D (R.ofO o >>= g)):∃a,o=some a/\RS C B D (g a):=by
 cases o with
 | none=>exact KJ h
 | some a=>exact⟨a,rfl,h⟩
end
section
variable{C : Cn}{st : Stmt}{sts a b body : List Stmt}{e tg iter c : Expr}{f fk : PSt → R PV}{g g' : PSt → R Fl}{pos : Ma}{t : PSt → R Bool}
theorem aJ:SVs C [] b0:=fun pins s σ H D I ⟨ρ,B,S,h⟩=>uV pins s σ H D I (h σ H S)
theorem af(h1:SV C st g)(h2:SVs C sts g'):SVs C (st::sts) (aH g g'):=by
 intro pins s σ H D I ⟨ρ,B,S,h⟩;refine i5 h1 h2 pins s σ H D I ⟨ρ,B,S,?_⟩;unfold aH at h;cases hg:g ρ with
 | ok fl=>
  rw[hg] at h;cases fl with
  | next ρ'=>exact fun σ' H' S'=>⟨ρ',B,S',h⟩
  | brk ρ'=>exact h
  | cont ρ'=>exact h
  | ret p=>exact h
 | er x=>rw[hg] at h;exact h
 | no=>rw[hg] at h;exact h
theorem aq(h1:SV C st g):SVs C [st] g:=by
 intro pins s σ H D I ⟨ρ,B,S,h⟩;exact o5 h1 pins s σ H D I ⟨ρ,B,S,h⟩
theorem xW:SV C (.Break pos) FP:=fun pins s σ H D I ⟨ρ,B,S,h⟩=>yn pins s σ H D I (h σ H S)
theorem aE(he:EV C e f):SV C (.Return (some e) pos) (ck f):=by
 intro pins s σ H D I ⟨ρ,B,S,h⟩;exact rj he pins s σ H D I ⟨ρ,S.vw,(h.bind S.same).imp fun p _ k v H' s' r=>k v H' (S.same.trans s') r⟩
theorem bO(hc:ET C c t)(ha:SVs C a g)(hb:SVs C b g'):SV C (.If c a b pos) (ifF t g g'):=by
 intro pins s σ H D I ⟨ρ,B,S,h⟩;refine DV hc ha hb pins s σ H D I ⟨ρ,S.vw,(h.bind S.same).imp fun k _ q H' s'=>?_⟩;cases k with
 | true=>exact CV ⟨ρ,B,S.grow s',q⟩
 | false=>exact CW ⟨ρ,B,S.grow s',q⟩
theorem aN(i:Nat){x:Str}{pos':Ma}(hN:C.X.N.Nodup)(he:EV C e f)(hs:NQ e (some (.Name x pos')) pos.line C.X.env=pure false:=by rfl)
  (hf:C.X.fn x=true\/C.X.env.scope.names.lookup x=some .local:=by first | exact .inl rfl | exact .inr rfl | assumption) (hi:C.X.N[i]?=some x:=by rfl) (hx:Loc C.X.env.scope x:=by first | exact .inl rfl | exact .inr rfl) :
  SV C (.Assign [.Name x pos'] e pos) (bS i f):=by
 intro pins s σ H D I ⟨ρ,B,S,h⟩;exact uW hN hi hx he hs hf pins s σ H D I ⟨ρ,S.vw,(h.bind S.same).imp fun p _ k v H' s' r=>k _ H' ((S.grow s').setV r)⟩
theorem f7(i:Nat){x:Str}{pos':Ma}(hN:C.X.N.Nodup)(he:EN C e f)(hs:NQ e (some (.Name x pos')) pos.line C.X.env=pure false:=by rfl)
  (hf:C.X.fn x=true\/C.X.env.scope.names.lookup x=some .local:=by first | exact .inl rfl | exact .inr rfl | assumption) (hi:C.X.N[i]?=some x:=by rfl) (hx:Loc C.X.env.scope x:=by first | exact .inl rfl | exact .inr rfl) :
  SV C (.Assign [.Name x pos'] e pos) (lG i f):=by
 intro pins s σ H D I ⟨ρ,B,S,h⟩;exact uW hN hi hx he hs hf pins s σ H D I ⟨ρ,S.vw,(h.bind S.same).imp fun p _ k a H' s' n r=>k _ H' (S.setN s' n r)⟩
theorem Fm{pins:List (Addr×Obj)}{s:KC}{σ:L2.St}{H:Hp}{B:Hp×Hp}{ρ:PSt}(i:Nat)(I:Inv C.X pins σ H s)(S:StOk C.X.K B H σ ρ):∃H',Inv C.X pins σ H' s/\StOk C.X.K B H' σ (wy i ρ):=by
 unfold wy
 split
 ·rename_i p e
  obtain⟨a,f,w⟩:=S.vw i _ e;obtain⟨H',I',rp,oth⟩:=L2.Inv.frz I w;exact⟨H',I',S.turn e f oth ⟨_,rfl,rp⟩⟩
 ·exact⟨H,I,S⟩
theorem SV.frz(i:Nat)(h:SV C st g):SV C st (qE i g):=by
 intro pins s σ H D I ⟨ρ,B,S,q⟩;obtain⟨H',I',S'⟩:=Fm i I S;exact h pins s σ H' D I' ⟨_,B,S',q⟩
def tTg(C:Cn)(h:PV->PSt->Option PSt):TG:=fun v σ H Q=>∃ρ B p ρ',StOk C.X.K B H σ ρ/\Rep C.X.K H p v/\h p ρ=some ρ'/\∀σ',StOk C.X.K B H σ' ρ'->Q σ' H
def TGt(C:Cn)(tg:Expr)(h:PV->PSt->Option PSt):Prop:=PG C.X tg (tTg C h)
def Jw(C:Cn)(h:List PV->PSt->Option PSt):TGs:=fun vs σ H Q=>∃ρ B ps ρ',StOk C.X.K B H σ ρ/\aO C.X.K H ps vs/\h ps ρ=some ρ'/\∀σ',StOk C.X.K B H σ' ρ'->Q σ' H
def CI(C:Cn)(ts:List Expr)(h:List PV->PSt->Option PSt):Prop:=PGs C.X ts (Jw C h)
theorem aX(i:Nat){x:Str}(hN:C.X.N.Nodup)(hf:C.X.fn x=true\/C.X.env.scope.names.lookup x=some .local:=by first | exact .inl rfl | exact .inr rfl | assumption)(hi:C.X.N[i]?=some x:=by rfl)(hx:Loc C.X.env.scope x:=by first | exact .inl rfl | exact .inr rfl) :
  TGt C (.Name x pos) (az i):=by
 intro pins s σ H v u Q I r ⟨ρ,B,p,ρ',S,rp,e,k⟩;cases e;exact o6 hN hi hx hf pins s σ H v u Q I r (k _ (S.setV rp))
theorem iE:CI C [] ir:=by
 intro pins s σ H vs us Q I r ⟨ρ,B,ps,ρ',S,rp,e,k⟩;cases ps with
 | nil=>cases e;cases rp;exact v8 pins s σ H _ us Q I r ⟨rfl,k _ S⟩
 | cons _ _=>cases e
theorem bD{es:List Expr}{h:PV->PSt->Option PSt}{h':List PV->PSt->Option PSt}(h1:TGt C e h)(h2:CI C es h')(hs:(Me (e::es) C.X.env).map (·.2)=PZ e C.X.env::(Me es C.X.env).map (·.2):=by rfl):CI C (e::es) (aT h h'):=by
 intro pins s σ H vs us Q I r ⟨ρ,B,ps,ρ',S,rp,ee,k⟩;cases ps with
 | nil=>cases ee
 | cons p qs=>
  obtain⟨x,xs,rfl,rp1,rp2⟩:=rp;have ee:(h p ρ).bind (fun ρ1=>h' qs ρ1)=some ρ':=ee;obtain⟨ρ1,e1,e2⟩:=Kx.mp ee;exact rB h1 h2 hs pins s σ H _ us Q I r ⟨x,xs,rfl,ρ,B,p,ρ1,S,rp1,e1,fun σ1 S1=>⟨ρ1,B,qs,ρ',S1,rp2,e2,k⟩⟩
end
end PU
namespace PU
open PySem PySem.Spec PyProof.Rows L2
variable[TW]
section
variable{C : Cn}{st : Stmt}{sts a b body : List Stmt}{e tg iter c : Expr}{f fk : PSt → R PV}{g g' : PSt → R Fl}{pos : Ma}{t : PSt → R Bool}
theorem lj{es:List Expr}{k n:Nat}{h:List PV->PSt->Option PSt}(hc:C.X.calm=true)(hh:CI C es h)
  (hn:(Me es C.X.env).length=n:=by rfl) (hst:(Me es C.X.env).findIdx? (·.1)=none:=by rfl):TGt C (.Tuple es k pos) (iq n h):=by
 intro pins s σ H v u Q I r ⟨ρ,B,p,ρ',S,rp,e,k⟩;cases p with
 | tup ps=>
  have e:(if ps.length=n then h ps ρ else none)=some ρ':=e
  by_cases hl:ps.length=n
  ·rw[if_pos hl] at e
   obtain⟨a,xs,rfl,hq,r1⟩:=rp;exact zT hc hh hn hst pins s σ H _ u Q I r ⟨a,xs,rfl,tq hq,by rw[← r1.length];exact hl,ρ,B,ps,ρ',S,r1,e,k⟩
  ·rw[if_neg hl] at e
   cases e
 | _=>cases e
def ItP(K:KA)(J:It)(H₁:Hp)(ps:List PV):Prop:=
 ∀(i:Nat)(H:Hp),Kp H₁ H->(i=ps.length->J.stop i H)/\∀p,ps[i]?=some p->J.go i H/\∀x H',J.yld i H x H'->Same H H'/\Rep K H' p x
def tI(C:Cn)(f:PSt->R (List PV)):TI:=fun σ H Q=>∃ρ,View C.X.K H σ ρ/\RQ C H (f ρ) fun ps=>∀J H',Same H H'->ItP C.X.K J H' ps->Q J H'
def EI(C:Cn)(tg iter:Expr)(f:PSt->R (List PV)):Prop:=PI C.X tg iter (tI C f)
theorem sy{α:Type}{l:List α}{i:Nat}{x:α}(h:l[i]?=some x):l.drop i=x::l.drop (i+1):=by
 obtain⟨hl,e⟩:=KN.mp h;rw[LH hl,e]
theorem d8{fi:PSt->R (List PV)}{h:PV->PSt->Option PSt}(hi:EI C tg iter fi)(hg:TGt C tg h)(hb:SVs C body g)
  (hs:∀x,Nt iter C.X.env x=pure x:=by intro _;rfl) (hp:Ri (LU C.X.prog C.X.w) C.X.A C.X.env C.X.xe:=by exact R7) (hc:C.X.calm=true:=by rfl):SV C (.For tg iter body [] pos) (kG fi h g):=by
 intro pins s σ H D I ⟨ρ,B,S,q⟩;refine DW hp hc hi hg hb hs pins s σ H D I ⟨ρ,S.vw,(q.bind S.same).imp fun ps _ k J H1 s1 it=>?_⟩;refine⟨fun i m σ' H'=>∃ρ',m=ps.length-i/\i<=ps.length/\StOk C.X.K (B.1,H1) H' σ' ρ'/\RS C B D (ic h g (ps.drop i) ρ'),⟨ps.length,ρ,rfl,MQ _,(S.grow s1).rebase (Kp.refl H1),by simpa using k⟩,?_⟩;rintro i m σ' H' ⟨ρ',rfl,hi',S',q'⟩;have back:∀{σ2:L2.St}{H2:Hp}{ρ2:PSt},StOk C.X.K (B.1,H1) H2 σ2 ρ2->StOk C.X.K B H2 σ2 ρ2:=fun {σ2 H2 ρ2} S2=>⟨S2.len,S2.same,(S.kp.trans (Same.kp s1)).trans S2.kp,S2.vw,S2.fresh,S2.apart,S2.pinned⟩;obtain⟨stp,stepp⟩:=it i H' S'.kp
 by_cases hlt:i<ps.length
 ·have ei:ps[i]?=some ps[i]:=by simp[hlt]
  obtain⟨go,yl⟩:=stepp _ ei;rw[sy ei] at q';obtain⟨ρ1,e1,q1⟩:=RS.ofO q';refine .inr ⟨go,fun σ2 H2=>∃ρ2,StOk C.X.K (B.1,H1) H2 σ2 ρ2/\RS C B D (ic h g (ps.drop (i+1)) ρ2),fun σ2 H2 ⟨ρ2,S2,r2⟩=>⟨ps.length-(i+1),by omega,ρ2,rfl,hlt,S2,r2⟩,fun x H2 y=>?_⟩;obtain⟨s2,rp⟩:=yl x H2 y;refine⟨ρ',(B.1,H1),ps[i],ρ1,S'.grow s2,rp,e1,fun σ3 S3=>⟨ρ1,(B.1,H1),S3,?_⟩⟩;cases hgr:g ρ1 with
  | ok fl=>
   rw[hgr] at q1;cases fl with
   | next ρ2=>exact fun σ4 H4 S4=>⟨ρ2,S4,q1⟩
   | cont ρ2=>exact fun σ4 H4 S4=>⟨ρ2,S4,q1⟩
   | brk ρ2=>exact fun σ4 H4 S4=>q1 σ4 H4 (back S4)
   | ret p=>exact q1
  | er x=>rw[hgr] at q1;exact q1
  | no=>rw[hgr] at q1;exact q1
 ·have e:i=ps.length:=by omega
  subst e;rw[OZ] at q';exact .inl ⟨stp rfl,q' σ' H' (back S')⟩
end
end PU
namespace PU
open PySem PySem.Spec PyProof.Rows L2
variable[TW]
def spP(K:KA)(n:Nat)(F:List PV->Option PV):Sp:=fun vs H Q _=>vs.length=n/\ua H/\∃ps p,aO K H ps vs/\F ps=some p/\∀v H',Same H H'->Rep K H' p v->Q v H'
structure PF(P:L6)(w:LI)(K:KA)(mg:Str->Option KB)(base:Heap)(k:Nat)(x:Str)(F:List PV->Option PV):Prop where
 ex:∃(f:Addr)(fd:FuncData)(ps:List Str),FnOk P w K mg base CX0 k f fd ps (spP K ps.length F)/\mg x=some (.ref f)/\MP K (.ref f)=true/\Binds K fd ps []/\∀qs p,F qs=some p->qs.length=ps.length
section
variable{C : Cn}{e : Expr}{es : List Expr}{fs : PSt → R (List PV)}{x : Str}{k : Nat}{F : List PV → Option PV}{p pos : Ma}
theorem au(G:PF C.X.prog C.X.w C.X.K C.X.mg C.X.base k x F){kr:Nat}(hr:Room kr C.X.A)(ha:EA C (e::es) fs)
  (hdb:(x == ("__debug__":Str))=false:=by decide) (he:LA (e::es) C.X.env=(false,M7 e C.X.env)::LA es C.X.env:=by exact cM rfl) (hpl:(Nh pos (LA es C.X.env)).any (·.1)=false:=by exact kT rfl) (hk:k<=kr:=by decide) (hg:Gl C.X x:=by exact rfl) :
  EV C (.Call (.Name x p) (e::es) [] pos) (aD fs F):=by
 replace hr:=hr.mono hk;obtain⟨f,fd,ps,a,b,c,d,l⟩:=G.ex;intro pins s σ H Q I ⟨ρ,vw,q⟩;refine Bv (dvs:=[]) (ds:=[]) (E:=E0) a hr hg b c d .nil Hm ha hdb he hpl pins s σ H Q I ⟨ρ,vw,q.bind.imp fun qs _ k vs H1 s1 r1=>?_⟩;obtain⟨z,ez,k⟩:=k.ofO;rw[Ly];exact⟨by rw[← r1.length];exact l qs z ez,s1.tabs vw.tb,qs,z,r1,ez,fun v H' s' r'=>k v H' (s1.trans s') r'⟩
end
section
variable{P : L6}{w : LI}{K : KA}{mg : Str → Option KB}{base : Heap}
abbrev D0(P:L6)(w:LI)(K:KA)(mg:Str->Option KB)(base:Heap)(N:List Str)(qual:Str)(sc:Scope)(f:Addr)(cdv:KB)(A:LR)(outer:List Pn)(s:KC)(H:Hp)(E:XK):Cn:=
 ⟨(AB CX0 P w K mg base N qual sc f cdv A outer s H E).nox,fun _ _=>False⟩
theorem Aa{ps:List PV}{n i:Nat}{p:PV}(e:(start n ps)[i]?=some (.own p)):False:=by
 unfold start at e
 by_cases hi:i<ps.length
 ·rw[L5 (by simpa using hi),L3] at e
  cases h:ps[i]? with
  | none=>rw[h] at e;cases e
  | some p=>rw[h] at e;cases e
 ·rw[LJ (by simpa using hi),Ll] at e
  split at e <;> cases e
theorem Em{n i:Nat}{ps qs:List PV}{a:Addr}(e:(start n ps)[i]?=some (.pin qs a)):False:=by
 unfold start at e
 by_cases hi:i<ps.length
 ·rw[L5 (by simpa using hi),L3] at e
  cases h:ps[i]? with
  | none=>rw[h] at e;cases e
  | some p=>rw[h] at e;cases e
 ·rw[LJ (by simpa using hi),Ll] at e
  split at e <;> cases e
theorem kQ{K:KA}{H:Hp}{N:List Str}{ps:List PV}{vs:List V}(tb:ua H)(r:aO K H ps vs):StOk K (H,H) H (L2.start N vs) (start N.length ps):=by
 have hl:=r.length;refine⟨by simp[start,L2.start,hl],Same.refl H,Kp.refl H,⟨fun i l e=>?_,tb⟩,fun i p a e f=>?_,fun i j p q a e1 e2 f1 f2=>?_,fun i qs a e=>?_⟩
 ·unfold start at e
  by_cases hi:i<ps.length
  ·rw[L5 (by simpa using hi),L3] at e
   cases h:ps[i]? with
   | none=>rw[h] at e;cases e
   | some p=>
    rw[h] at e;cases e;obtain⟨v,ev,rp⟩:=r.get h;refine⟨v,?_,rp⟩;unfold L2.start;rw[L5 (by rw[KH,← hl];exact hi),L3,ev];rfl
  ·rw[LJ (by simpa using hi),Ll] at e
   split at e
   ·cases e
    exact trivial
   ·cases e
 all_goals exfalso
 ·exact Aa e
 ·exact Aa e1
 ·exact Em e
theorem Hi{x qual:Str}{st:Stmt}{f:Addr}{fd:FuncData}{N ps:List Str}{k:Nat}{g:PSt->R Fl}(F:Fun K x qual st f fd)(S:FnScope N ps (ar st))(hm:mg x=some (.ref f))(hb:Binds K fd ps [])
  (hbody:∀(cdv:KB)(A:LR)(outer:List Pn)(s:KC)(H:Hp)(E:XK),Room k (A.deeper (Nw qual (ar st) s.heap.objs.size f cdv))->SVs (D0 P w K mg base N qual (ar st) f cdv A outer s H E) (bM st) g) :
  PF P w K mg base (k+1) x (eZ ps.length N.length g):=by
 refine⟨f,fd,ps,F.ok S (fun vs H Q E h=>h.1) (fun cdv A outer s H vs Q E hr h=>?_),hm,F.kp,hb,fun qs p h=>?_⟩
 ·obtain⟨hl,tb,qs,p,r,e,k⟩:=h
  refine⟨_,hbody cdv A outer s H E hr,start N.length qs,(H,H),kQ tb r,?_⟩;unfold eZ at e;rw[if_pos (by rw[r.length];exact hl)] at e;cases hg:g (start N.length qs) with
  | ok fl=>
   rw[hg] at e;cases fl with
   | next ρ=>cases e;exact fun σ H' S'=>k .non H' S'.same rfl
   | ret q=>cases e;exact fun v H' s' r'=>k v H' s' r'
   | brk ρ=>cases e
   | cont ρ=>cases e
  | er x=>rw[hg] at e;cases e
  | no=>rw[hg] at e;cases e
 ·unfold eZ at h
  split at h
  ·rename_i hl;exact hl
  ·cases h
end
end PU
namespace PU
open PySem PySem.Spec PyProof.Rows L2
variable[TW]
def gz(X:Cx)(N':List Str)(scope:Scope)(cl:List (Str×Addr))(L:Addr)(s₂:KC)(H₂:Hp)(fp:List Addr):Cx where
 prog:=X.prog
 w:=X.w
 K:=X.K
 mg:=X.mg
 base:=X.base
 A:=X.A
 N:=N'
 s₀:=s₂
 H₀:=H₂
 env:=compEnvC scope cl L X.env
 outer:=X.stack
 stack:=X.stack
 ex:=fp
 fn:=fun _=>false
 calm:=true
 pn:=[]
 xe:=fun _ _=>False
abbrev dY(C:Cn)(N':List Str)(scope:Scope)(cl:List (Str×Addr))(L:Addr)(s₂:KC)(H₂:Hp)(fp:List Addr):Cn:=⟨gz C.X N' scope cl L s₂ H₂ fp,fun _ _=>False⟩
def tTc(C:Cn)(h:Tgt):TG:=fun v σ H Q=>∃ρ p ρ',ρ.length=σ.length/\View C.X.K H σ ρ/\Rep C.X.K H p v/\h p ρ=some ρ'/\∀σ',ρ'.length=σ'.length->View C.X.K H σ' ρ'->Q σ' H
def TCt(C:Cn)(tg:Expr)(h:Tgt):Prop:=PG C.X tg (tTc C h)
def Jx(C:Cn)(h:xq):TGs:=fun vs σ H Q=>∃ρ ps ρ',ρ.length=σ.length/\View C.X.K H σ ρ/\aO C.X.K H ps vs/\h ps ρ=some ρ'/\∀σ',ρ'.length=σ'.length->View C.X.K H σ' ρ'->Q σ' H
def CJ(C:Cn)(ts:List Expr)(h:xq):Prop:=PGs C.X ts (Jx C h)
theorem View.setV{K:KA}{H:Hp}{σ:L2.St}{ρ:PSt}{i:Nat}{p:PV}{v:V}(vw:View K H σ ρ)(hl:ρ.length=σ.length)(r:Rep K H p v):View K H (σ.set i (some v)) (ρ.set i (.val p)):=by
 refine⟨fun j l e=>?_,vw.tb⟩;rcases cK e with⟨rfl,rfl,hl2⟩|⟨hj,e⟩
 ·exact⟨v,eJ (by rw[← hl];exact hl2),r⟩
 ·rw[bC hj]
  exact vw j l e
section
variable{C : Cn}{e : Expr}{pos : Ma}
theorem AU(i:Nat){x:Str}(hN:C.X.N.Nodup)(hi:C.X.N[i]?=some x)(hx:Loc C.X.env.scope x)(hf:C.X.fn x=true\/C.X.env.scope.names.lookup x=some .local:=by first | exact .inl rfl | exact .inr rfl | assumption) :
  TCt C (.Name x pos) (az i):=by
 intro pins s σ H v u Q I r ⟨ρ,p,ρ',hl,vw,rp,e,k⟩;cases e;exact o6 hN hi hx hf pins s σ H v u Q I r (k _ (by simp[hl]) (vw.setV hl rp))
theorem nK:CJ C [] ir:=by
 intro pins s σ H vs us Q I r ⟨ρ,ps,ρ',hl,vw,rp,e,k⟩;cases ps with
 | nil=>cases e;cases rp;exact v8 pins s σ H _ us Q I r ⟨rfl,k _ hl vw⟩
 | cons _ _=>cases e
theorem dZ{es:List Expr}{h:Tgt}{h':xq}(h1:TCt C e h)(h2:CJ C es h')(hs:(Me (e::es) C.X.env).map (·.2)=PZ e C.X.env::(Me es C.X.env).map (·.2):=by rfl):CJ C (e::es) (aT h h'):=by
 intro pins s σ H vs us Q I r ⟨ρ,ps,ρ',hl,vw,rp,ee,k⟩;cases ps with
 | nil=>cases ee
 | cons p qs=>
  obtain⟨x,xs,rfl,rp1,rp2⟩:=rp;have ee:(h p ρ).bind (fun ρ1=>h' qs ρ1)=some ρ':=ee;obtain⟨ρ1,e1,e2⟩:=Kx.mp ee;exact rB h1 h2 hs pins s σ H _ us Q I r ⟨x,xs,rfl,ρ,p,ρ1,hl,vw,rp1,e1,fun σ1 hl1 vw1=>⟨ρ1,qs,ρ',hl1,vw1,rp2,e2,k⟩⟩
theorem qS{es:List Expr}{k n:Nat}{h:xq}(hc:C.X.calm=true)(hh:CJ C es h)
  (hn:(Me es C.X.env).length=n:=by rfl) (hst:(Me es C.X.env).findIdx? (·.1)=none:=by rfl):TCt C (.Tuple es k pos) (iq n h):=by
 intro pins s σ H v u Q I r ⟨ρ,p,ρ',hl,vw,rp,e,k⟩;cases p with
 | tup ps=>
  have e:(if ps.length=n then h ps ρ else none)=some ρ':=e
  by_cases hl2:ps.length=n
  ·rw[if_pos hl2] at e
   obtain⟨a,xs,rfl,hq,r1⟩:=rp;exact zT hc hh hn hst pins s σ H _ u Q I r ⟨a,xs,rfl,tq hq,by rw[← r1.length];exact hl2,ρ,ps,ρ',hl,vw,r1,e,k⟩
  ·rw[if_neg hl2] at e
   cases e
 | _=>cases e
end
def CK(n:Nat)(h:Tgt):Prop:=∀p ρ ρ1,h p ρ=some ρ1->ρ1.length=ρ.length/\∀i,n<=i->ρ1[i]?=ρ[i]?
def zw(n:Nat)(h:xq):Prop:=∀p ρ ρ1,h p ρ=some ρ1->ρ1.length=ρ.length/\∀i,n<=i->ρ1[i]?=ρ[i]?
theorem og{n i:Nat}(h:i<n):CK n (az i):=fun p ρ ρ1 e=>by
 cases e;exact⟨by simp,fun j hj=>bC (by omega)⟩
theorem qt{n:Nat}:zw n ir:=fun ps ρ ρ1 e=>by
 cases ps with
 | nil=>cases e;exact⟨rfl,fun _ _=>rfl⟩
 | cons _ _=>cases e
theorem oh{n:Nat}{h:Tgt}{h':xq}(a:CK n h)(b:zw n h'):zw n (aT h h'):=fun ps ρ ρ2 e=>by
 cases ps with
 | nil=>cases e
 | cons p qs=>
  have e:(h p ρ).bind (fun ρ1=>h' qs ρ1)=some ρ2:=e;obtain⟨ρ1,e1,e2⟩:=Kx.mp e;obtain⟨l1,g1⟩:=a p ρ ρ1 e1;obtain⟨l2,g2⟩:=b qs ρ1 ρ2 e2;exact⟨l2.trans l1,fun i hi=>(g2 i hi).trans (g1 i hi)⟩
theorem qr{n m:Nat}{h:xq}(a:zw n h):CK n (iq m h):=fun p ρ ρ1 e=>by
 cases p with
 | tup ps=>
  have e:(if ps.length=m then h ps ρ else none)=some ρ1:=e;split at e
  ·exact a ps ρ ρ1 e
  ·cases e
 | _=>cases e
def ETs(C:Cn)(ifs:List Expr)(t:PSt->R Bool):Prop:=(ifs=[]/\t=mG)\/∃c,ifs=[c]/\ET C c t
theorem qG{C:Cn}:ETs C [] mG:=.inl ⟨rfl,rfl⟩
def eF(cells:List (Str×Addr)):List (Str×Ms)->List (Str×Addr)->List (Str×Addr)
 | [],acc=>acc
 | (n,k)::r,acc=>if (k == .free)=true then (match cells.lookup n with
  | some c=>eF cells r ((n,c)::acc)
  | none=>eF cells r acc) else eF cells r acc
theorem cx{scope:Scope}{env:Pn}(h:∀y∈scope.names,y.2=.free->∃c,env.cells.lookup y.1=some c):closureFor scope env=pure (eF env.cells scope.names []):=by
 have gen:∀(l:List (Str×Ms))(acc:List (Str×Addr)),(∀y∈l,y.2=.free->∃c,env.cells.lookup y.1=some c)->
   (forIn l acc fun x r=>(match x with | (name,kind)=>if (kind == Lj)=true then do let a<- Qq env name;pure (MW ((name,a)::r)) else pure (MW r):Sem (ForInStep (List (Str×Addr)))))=pure (eF env.cells l acc):=by
  intro l
  induction l with
  | nil=>intro acc _;rfl
  | cons y r ih=>
   intro acc hy;obtain⟨n,k⟩:=y;rw[List.forIn_cons];have hr:=fun z hz=>hy z (LG _ hz)
   by_cases hk:(k == Lj)=true
   ·obtain⟨c,hc⟩:=hy (n,k) LO (by simpa using hk)
    have hc:env.cells.lookup n=some c:=hc;have e1:Qq env n=pure c:=by unfold Qq;rw[hc]
    simp only[hk,if_true,e1,eF,hc];exact ih _ hr
   ·simp only[hk,if_false,eF]
    exact ih _ hr
 have:=gen scope.names [] h;have e:closureFor scope env=((forIn scope.names ([]:List (Str×Addr)) fun x r=>(match x with | (name,kind)=>if (kind == Lj)=true then do let a<- Qq env name;pure (MW ((name,a)::r)) else pure (MW r):Sem (ForInStep (List (Str×Addr))))) >>= fun cs=>pure cs):=rfl;rw[e,this];rfl
theorem dE{cells:List (Str×Addr)}{x:Str}{c:Addr}:∀{l:List (Str×Ms)}{acc:List (Str×Addr)},(eF cells l acc).lookup x=some c->cells.lookup x=some c\/acc.lookup x=some c
 | [],acc,h=>.inr h
 | (n,k)::r,acc,h=>by
  unfold eF at h;split at h
  ·split at h
   ·rename_i d hd
    rcases dE h with z | z
    ·exact .inl z
    ·rw[Lc] at z
     by_cases e:(x == n)=true
     ·rw[e] at z
      cases z;rw[NT e];exact .inl hd
     ·simp only[NB] at e
      rw[e] at z;exact .inr z
   ·exact dE h
  ·exact dE h
theorem jx{cells:List (Str×Addr)}{x:Str}:∀{l:List (Str×Ms)}{acc:List (Str×Addr)},(acc.lookup x).isSome=true->((eF cells l acc).lookup x).isSome=true
 | [],acc,h=>h
 | (n,k)::r,acc,h=>by
  unfold eF
  split
  ·split
   ·refine jx ?_
    rw[Lc]
    split
    ·rfl
    ·exact h
   ·exact jx h
  ·exact jx h
theorem sG{cells:List (Str×Addr)}{x:Str}{c:Addr}(hc:cells.lookup x=some c):∀{l:List (Str×Ms)}{acc:List (Str×Addr)},(x,Lj)∈l->(eF cells l acc).lookup x=some c:=by
 have fin:∀{l:List (Str×Ms)}{acc:List (Str×Addr)},(∀d,acc.lookup x=some d->d=c)->((eF cells l acc).lookup x).isSome=true->(eF cells l acc).lookup x=some c:=fun {l acc} ha h=>by
  obtain⟨d,hd⟩:=QD.mp h;rcases dE hd with z | z
  ·rw[hc] at z;cases z;exact hd
  ·rw[hd,ha d z]
 intro l
 induction l with
 | nil=>intro acc h;cases h
 | cons y r ih=>
  intro acc h;obtain⟨n,k⟩:=y;have rest:∀acc,(x,Lj)∈r->(eF cells r acc).lookup x=some c:=fun acc hr=>ih hr;rcases L4.mp h with z | z
  ·cases z
   unfold eF;rw[if_pos (show (Lj == Lj)=true from rfl),hc];show (eF cells r ((x,c)::acc)).lookup x=some c;have hs:(((x,c)::acc).lookup x)=some c:=by rw[Lc,beq_self_eq_true]
   exact fin (fun d hd=>by rw[hs] at hd;cases hd;rfl) (jx (by rw[hs];rfl))
  ·unfold eF
   split
   ·split
    ·exact rest _ z
    ·exact rest _ z
   ·exact rest _ z
theorem iA{env:Pn}{x:Str}:∀{names:List (Str×Ms)},names.lookup x=some .free->
  (names.map fun (n,k)=>if (k == Lj && env.scope.kind == .function && env.kindOf n == some .cell) then (n,Ov) else (n,k)).lookup x=some .cell ∨
  (names.map fun (n,k)=>if (k == Lj && env.scope.kind == .function && env.kindOf n == some .cell) then (n,Ov) else (n,k)).lookup x=some .free
 | [],h=>by simp at h
 | (n,k)::r,h=>by
  have ih:=@iA env x r;cases hx:x == n with
  | true=>
   simp only[Lc,hx] at h;cases h
   by_cases hc:(Lj == Lj && env.scope.kind == .function && env.kindOf n == some .cell)=true
   ·left
    simp only[KG,hc,if_true,Lc,hx]
   ·right
    simp only[NB] at hc;simp only[KG,hc,LV,if_false,Lc,hx]
  | false=>
   simp only[Lc,hx] at h
   by_cases hc:(k == Lj && env.scope.kind == .function && env.kindOf n == some .cell)=true
   ·simp only[KG,hc,if_true,Lc,hx]
    exact ih h
   ·simp only[NB] at hc
    simp only[KG,hc,Lc,LV,if_false,hx];exact ih h
theorem pP{prog:L6}{w:LI}{A:LR}{R:Result->KC->Prop}{s:KC}{elt target iter:Expr}{ifs:List Expr}{scope:Scope}{pos:Ma}{it acc:KB}{env:Pn}(I:Nat->KC->Prop)
  (turn:∀n s,I n s->LC (LU prog w) A (pyNext it) (fun r s₁=>match r with
   | none=>R (.ok .next) s₁
   | some v=>LC (LU prog w) A (PC target it v) (fun _ s₁=>LC (LU prog w) A (PZ target env v) (fun _ s₂=>
     LC (LU prog w) A (forIn ifs true fun c r=>if r=true then do let ok<- isTrue c env (M7 c env);pure (MW ok) else pure (MW r)) (fun ok s₃=>
      if ok=true then LC (LU prog w) A (M7 elt env) (fun x s₄=>
       LC (LU prog w) A (call (.builtin "list.append") [acc,x]) (fun _ s₅=>∃m,m<n/\I m s₅) (fun _ _=>False) s₄) (fun _ _=>False) s₃
      else ∃m,m<n/\I m s₃) (fun _ _=>False) s₂) (fun _ _=>False) s₁) (fun _ _=>False) s₁) (fun _ _=>False) s)
  (n:Nat) (h:I n s) :
  Oe (LU prog w) A (.compLoop (.ListComp elt [⟨target,iter,ifs,0⟩] scope pos) 0 it acc env) R s:=by
 refine codeAny_loop rfl I (fun n s hI=>?_) n h;show LC _ A ((compTurn (.ListComp elt [⟨target,iter,ifs,0⟩] scope pos) 0 it acc env).onRaise (fun x=>do noteFrame x env;theTreesLotGoes x)) _ _ s;refine wpAny_noted ?_;rw[compTurn_list];refine KF (RK (KF (MO (turn n s hI) (fun r s₁ h₁=>?_) fun _ _ h'=>h'.elim)));cases r with
 | none=>exact KO h₁
 | some v=>
  refine KF (MO h₁ (fun _ s₁ h₁=>?_) fun _ _ h'=>h'.elim);refine KF (MO h₁ (fun _ s₂ h₂=>KF (MO h₂ (fun ok s₃ h₃=>?_) fun _ _ h'=>h'.elim)) fun _ _ h'=>h'.elim);cases ok with
  | false=>exact KO ⟨rfl,h₃⟩
  | true=>
   exact KF (KF (MO h₃ (fun x s₄ h₄=>KF (MO h₄ (fun _ s₅ h₅=>KO (KO ⟨rfl,h₅⟩)) fun _ _ h'=>h'.elim)) fun _ _ h'=>h'.elim))
end PU
namespace PU
open PySem PySem.Spec PyProof.Rows L2
variable[TW]
structure CompOk(NX:List Str)(scX:Scope)(scope:Scope)(N':List Str)(nt:Nat)(idx:List Nat):Prop where
 kind:scope.kind=.function
 cell:∀y∈scope.names,y.2≠.cell
 names:∀y∈scope.names,y.2=.local->scope.names.lookup y.1=some .local
 free:∀y∈scope.names,y.2=.free->scX.names.lookup y.1=some .cell\/scX.names.lookup y.1=some .free
 len:N'.length=nt+idx.length
 ix:(idx.zip (N'.drop nt)).all (fun p=>decide (NX[p.1]?=some p.2) && decide (scope.names.lookup p.2=some .free))=true
theorem CompOk.at{NX:List Str}{scX:Scope}{scope:Scope}{N':List Str}{nt:Nat}{idx:List Nat}(O:CompOk NX scX scope N' nt idx){k:Nat}{x:Str}(h:N'[nt+k]?=some x) :
  ∃i,idx[k]?=some i/\NX[i]?=some x/\scope.names.lookup x=some .free:=by
 have hk:k<idx.length:=by
  have:=(KN.mp h).1;have:=O.len;omega
 have e1:idx[k]?=some idx[k]:=by simp[hk]
 have e2:(N'.drop nt)[k]?=some x:=by rw[List.getElem?_drop];exact h
 have e3:(idx.zip (N'.drop nt))[k]?=some (idx[k],x):=by
  rw[QO];exact⟨e1,e2⟩
 have:=Nq.mp O.ix _ (LF e3);simp only[Lm,decide_eq_true_eq] at this;exact⟨_,e1,this.1,this.2⟩
section
variable{C : Cn}{elt tg iter : Expr}{ifs : List Expr}{scope : Scope}{pos : Ma}{N' : List Str}{nt : Nat}{idx : List Nat}{h : Tgt}{t : PSt → R Bool}{fe : PSt → R PV}
theorem u0{pins:List (Addr×Obj)}{σ:L2.St}{H₂:Hp}{s₂:KC}{J:It}{fp:List Addr}{it:Addr}{tn:Nat->Heap->Prop}{ρ:PSt}(O:CompOk C.X.N C.X.env.scope scope N' nt idx)(hc:C.X.calm=true)
  (I:Inv C.X pins σ H₂ s₂) (T:Turn C.X.prog C.X.w C.X.K tg J fp it tn) (st:tn 0 s₂.heap) (hf:∀b∈fp,sL C.X pins H₂ b) (vw:View C.X.K H₂ σ ρ)
  {L D:Addr} {h₁:Heap} {tk:Nat} (hD:D=s₂.heap.objs.size) (hL:s₂.heap.objs.size<=L) (hDL:D≠L) (ns:h₁.Ns L (fun _=>none)) (keep:∀b o,s₂.heap.get? b=some o->h₁.get? b=some o)
  (acc:h₁.get? D=some { cls:=.type "list",data:=.seq ([]:List KB).toArray }) :
  ∃σ',Inv (gz C.X N' scope (eF C.X.env.cells scope.names []) L s₂ H₂ fp) [] σ' (upd H₂ D (.lst [])) { s₂ with heap:=h₁,toks:=tk }/\View C.X.K (upd H₂ D (.lst [])) σ' (cE nt idx ρ)/\(cE nt idx ρ).length=σ'.length/\
   ∀b∈fp,b<s₂.heap.objs.size:=by
 have fl:∀b∈fp,b<s₂.heap.objs.size:=fun b hb=>by
  obtain⟨o,e,_⟩:=T.obj 0 _ st b hb;exact KZ e
 have nD:H₂ D=none:=by rw[hD];exact I.fresh
 have frC:∀y∈scope.names,y.2=.free->∃c,C.X.env.cells.lookup y.1=some c:=fun y hy hk=>I.ok.has y.1 (O.free y hy hk)
 have clS:∀x c,(eF C.X.env.cells scope.names []).lookup x=some c->C.X.env.cells.lookup x=some c:=fun x c e=>by
  rcases dE e with z | z
  ·exact z
  ·cases z
 have cne:∀x c,(eF C.X.env.cells scope.names []).lookup x=some c->c<s₂.heap.objs.size:=fun x c e=>by
  obtain⟨v,q⟩:=I.cell x c (clS x c e);exact q.lt
 refine⟨La nt none++idx.map (fun i=>(σ[i]?).getD none),⟨⟨I.ok.mod,O.kind,I.ok.glob,I.ok.blt,hL,fun x y c e1 e2=>I.ok.inj x y c (clS x c e1) (clS y c e2),fun x hx=>?_,(fun x c z=>absurd (show false=true from z) KW),fun _=>I.ok.hd hc,I.ok.frames,.inl rfl,
  fun b hb=>⟨LQ (KY (fl b hb) hL),fun x c e=>(hf b hb).2.2.2.2.1 x c (clS x c e)⟩,I.bs,Lk I.ok.bsz I.sz,fun b o e hb=>?_,fun b hb z=>?_,I.stack,I.stkFree⟩,
  rfl,I.bare,Un.laid keep (Qz hD.symm) nD,⟨_,ns,fun i x v hN hσ hv=>?_⟩,fun x c e=>?_,?_,fun x c e=>?_,fun p hp=>absurd (show p∈([]:List (Addr×Obj)) from hp) (by simp),?_,?_⟩,?_,?_,fl⟩
 ·-- has
  have hx:(relabel scope C.X.env).names.lookup x=some .cell\/(relabel scope C.X.env).names.lookup x=some .free:=hx
  have:scope.names.lookup x=some .free:=by
   have gen:∀(l:List (Str×Ms)),(∀y∈l,y.2≠.cell)->((l.map fun (n,k)=>if (k == Lj && C.X.env.scope.kind == .function && C.X.env.kindOf n == some .cell) then (n,Ov) else (n,k)).lookup x=some .cell ∨
     (l.map fun (n,k)=>if (k == Lj && C.X.env.scope.kind == .function && C.X.env.kindOf n == some .cell) then (n,Ov) else (n,k)).lookup x=some .free)->l.lookup x=some .free:=by
    intro l
    induction l with
    | nil=>intro _ z;simp at z
    | cons y r ih=>
     intro hy z;obtain⟨n,k⟩:=y;have hk:k≠.cell:=hy (n,k) LO;have ih:=ih fun y' hy'=>hy y' (LG _ hy');rw[Lc]
     by_cases hc':(k == Lj && C.X.env.scope.kind == .function && C.X.env.kindOf n == some .cell)=true
     ·simp only[KG,hc',if_true,Lc] at z
      cases hx':x == n with
      | true=>
       have:k=.free:=by
        simp only[Lm] at hc';exact NT hc'.1.1
       rw[this]
      | false=>
       rw[hx'] at z;exact ih z
     ·simp only[NB] at hc'
      simp only[KG,hc',LV,if_false,Lc] at z;cases hx':x == n with
      | true=>
       rw[hx'] at z;rcases z with z | z
       ·cases z;exact absurd rfl hk
       ·cases z;rfl
      | false=>
       rw[hx'] at z;exact ih z
   exact gen scope.names O.cell hx
  obtain⟨c,e⟩:=frC (x,.free) (Lb this) rfl;exact⟨c,sG e (Lb this)⟩
 ·-- noex
  obtain⟨e1,e2⟩:=I.bs b o e;obtain⟨g1,g2,g3,g4,_⟩:=hf b hb;rcases g4 with z | z
  ·exact I.ok.noex b o e z
  ·exact absurd (KZ (I.ok.bs b o e).1) (QK.mpr z)
 ·-- exfs
  obtain⟨g1,g2,g3,_⟩:=hf b hb;exact(L4.mp (I.stkSub b z)).elim g2 g3
 ·-- loc
  by_cases hi:i<nt
  ·rw[L5 (by simpa using hi),Ll,if_pos hi] at hσ
   cases hσ
  ·obtain⟨k,rfl⟩:∃k,i=nt+k:=⟨i-nt,by omega⟩
   have hN:N'[nt+k]?=some x:=hN;obtain⟨j,ej,ex,el⟩:=O.at hN;rw[LJ (by simp),Mx,Qg,L3,ej] at hσ;have hσ:some ((σ[j]?).getD none)=some (some v):=hσ
   have hσ:σ[j]?=some (some v):=by
    cases q:σ[j]? with
    | none=>rw[q] at hσ;cases hσ
    | some z=>rw[q] at hσ;cases hσ;rfl
   obtain⟨m,hn,hl⟩:=I.loc;have hfr:=O.free (x,.free) (Lb el) rfl;obtain⟨u,ru,lk⟩:=hl j x v ex hσ (by rcases hfr with z | z;exact .inr (.inl z);exact .inr (.inr z));refine⟨u,ru,.inr ?_⟩;rcases lk with⟨z,_⟩|⟨_,c,ec,hcell⟩
   ·exfalso
    have z:C.X.env.scope.names.lookup x=some .local:=z;rcases hfr with q | q <;> (rw[show C.X.env.scope.names.lookup x=_ from q] at z;cases z)
   ·refine⟨iA (env:=C.X.env) el,c,sG ec (Lb el),?_⟩
    obtain⟨o,ho,hd⟩:=hcell;exact⟨o,keep c o ho,hd⟩
 ·obtain⟨v,o,ho,hd⟩:=I.cell x c (clS x c e)
  exact⟨v,o,keep c o ho,hd⟩
 ·-- free
  show upd H₂ D _ L=none;rw[aL (N3 hDL)];exact I.hok.fresh hL
 ·show upd H₂ D _ c=none
  rw[aL (by rw[hD];exact LQ (cne x c e))];exact I.freeC x c (clS x c e)
 ·exact I.hok.laid keep (Qz hD.symm) ⟨by simp,[],0,.nil,acc⟩
 ·show _=N'.length
  rw[O.len];simp
 ·refine⟨fun i l e=>?_,(Same.new (o:=.lst []) nD).tabs vw.tb⟩
  unfold cE at e
  by_cases hi:i<nt
  ·rw[L5 (by simpa using hi),Ll,if_pos hi] at e
   cases e;exact trivial
  ·obtain⟨k,rfl⟩:∃k,i=nt+k:=⟨i-nt,by omega⟩
   rw[LJ (by simp),Mx,Qg,L3] at e ⊢;cases ej:idx[k]? with
   | none=>rw[ej] at e;cases e
   | some j=>
    rw[ej] at e;have e:some (roS ρ[j]?)=some l:=e;cases e;cases q:ρ[j]? with
    | none=>exact trivial
    | some l'=>
     have:=(vw j l' q).same (Same.new (o:=.lst []) nD);cases l' with
     | no=>exact trivial
     | val p=>
      obtain⟨v,ev,r⟩:=this;exact⟨v,by show some ((σ[j]?).getD none)=_;rw[ev];rfl,r⟩
     | own p=>exact trivial
     | pin qs a=>exact trivial
 ·simp[cE]
theorem u3{ρ:PSt}{p:PV}{ps rest:List PV}(e:cQ h t fe ρ (p::ps)=.ok rest):∃ρ1 b,h p ρ=some ρ1/\t ρ1=.ok b/\
  ((b=true/\∃q r,fe ρ1=.ok q/\cQ h t fe ρ ps=.ok r/\rest=q::r)\/(b=false/\cQ h t fe ρ ps=.ok rest)):=by
 unfold cQ at e;cases h1:h p ρ with
 | none=>rw[h1] at e;cases e
 | some ρ1=>
  rw[h1] at e;simp only[R.ofO_some,R.ok_bind] at e;cases h2:t ρ1 with
  | ok b=>
   rw[h2] at e;simp only[R.ok_bind] at e;refine⟨ρ1,b,rfl,h2,?_⟩;cases b with
   | true=>
    rw[if_pos rfl] at e;cases h3:fe ρ1 with
    | ok q=>
     rw[h3] at e;simp only[R.ok_bind] at e;cases h4:cQ h t fe ρ ps with
     | ok r=>
      rw[h4] at e;cases e;exact .inl ⟨rfl,q,r,rfl,rfl,rfl⟩
     | er x=>rw[h4] at e;cases e
     | no=>rw[h4] at e;cases e
    | er x=>rw[h3] at e;cases e
    | no=>rw[h3] at e;cases e
   | false=>
    rw[if_neg KW] at e;exact .inr ⟨rfl,e⟩
  | er x=>rw[h2] at e;cases e
  | no=>rw[h2] at e;cases e
theorem View.weak{K:KA}{H:Hp}{σ:L2.St}{ρ ρ1:PSt}{n:Nat}(vw:View K H σ ρ1)(low:∀i,n<=i->ρ1[i]?=ρ[i]?)(no:∀i l,i<n->ρ[i]?=some l->l=.no):View K H σ ρ:=by
 refine⟨fun i l e=>?_,vw.tb⟩
 by_cases hi:i<n
 ·rw[no i l hi e];exact trivial
 ·exact vw i l (by rw[low i (by omega)];exact e)
theorem xb{idx:List Nat}{nt:Nat}{ρ:PSt}{i:Nat}{l:Sl}(hi:i<nt)(e:(cE nt idx ρ)[i]?=some l):l=.no:=by
 unfold cE at e;rw[L5 (by simpa using hi),Ll,if_pos hi] at e;cases e;rfl
theorem xa{idx:List Nat}{nt:Nat}{ρ:PSt}{i:Nat}{p:PV}(e:(cE nt idx ρ)[i]?=some (.own p)):False:=by
 unfold cE at e
 by_cases hi:i<nt
 ·rw[L5 (by simpa using hi),Ll,if_pos hi] at e
  cases e
 ·rw[LJ (by simpa using hi),L3] at e
  cases q:idx[i-(La nt Sl.no).length]? with
  | none=>rw[q] at e;cases e
  | some j=>
   rw[q] at e;have e:some (roS ρ[j]?)=some (Sl.own p):=e;unfold roS at e;split at e <;> cases e
theorem x5{idx:List Nat}{nt:Nat}{ρ:PSt}{i:Nat}{p:List PV}{a:Addr}(e:(cE nt idx ρ)[i]?=some (.pin p a)):False:=by
 unfold cE at e
 by_cases hi:i<nt
 ·rw[L5 (by simpa using hi),Ll,if_pos hi] at e
  cases e
 ·rw[LJ (by simpa using hi),L3] at e
  cases q:idx[i-(La nt Sl.no).length]? with
  | none=>rw[q] at e;cases e
  | some j=>
   rw[q] at e;have e:some (roS ρ[j]?)=some (Sl.pin p a):=e;unfold roS at e;split at e <;> cases e
theorem View.noOwn{K:KA}{H H':Hp}{σ:L2.St}{ρ:PSt}(vw:View K H σ ρ)(no:∀(i:Nat)(p:PV),ρ[i]?≠some (Sl.own p))(np:∀(i:Nat)(ps:List PV)(a:Addr),ρ[i]?≠some (Sl.pin ps a))(k:Kp H H')(tb:ua H'):View K H' σ ρ:=by
 refine⟨fun i l e=>?_,tb⟩;have:=vw i l e;cases l with
 | no=>exact trivial
 | val p=>obtain⟨v,ev,r⟩:=this;exact⟨v,ev,r.kp k⟩
 | own p=>exact absurd e (no i p)
 | pin ps a=>exact absurd e (np i ps a)
theorem mx{pins:List (Addr×Obj)}{σ:L2.St}{H₂:Hp}{s₂:KC}{J:It}{fp:List Addr}{it:Addr}{tn:Nat->Heap->Prop}{ρ:PSt}{ps qs:List PV}{RR:KB->Addr->Result->KC->Prop}{E:KB->KC->Prop}
  (O:CompOk C.X.N C.X.env.scope scope N' nt idx) (hc:C.X.calm=true)
  (hg:∀cl L s H fp,TCt (dY C N' scope cl L s H fp) tg h) (hlow:CK nt h) (ht:∀cl L s H fp,ETs (dY C N' scope cl L s H fp) ifs t) (he:∀cl L s H fp,EV (dY C N' scope cl L s H fp) elt fe)
  (I:Inv C.X pins σ H₂ s₂) (T:Turn C.X.prog C.X.w C.X.K tg J fp it tn) (st:tn 0 s₂.heap) (hf:∀b∈fp,sL C.X pins H₂ b) (vw:View C.X.K H₂ σ ρ) (ip:ItP C.X.K J H₂ ps)
  (hq:cQ h t fe (cE nt idx ρ) ps=.ok qs) (hz:qs.length<=sizeLine)
  (hRR:∀D L σ' H' s' xs,Inv (gz C.X N' scope (eF C.X.env.cells scope.names []) L s₂ H₂ fp) [] σ' H' s'->Same H₂ H'->H₂ D=none->H' D=some (.lst xs)->aO C.X.K H' qs xs->s₂.heap.objs.size<=L->RR (.ref D) L (.ok .next) s') :
  LC (LU C.X.prog C.X.w) C.X.A (newList []) (fun acc s₃=>LC (LU C.X.prog C.X.w) C.X.A (newFunctionEnv scope C.X.env.globals (eF C.X.env.cells scope.names []) [] C.X.env.qual none .none (some C.X.env)) (fun cenv s₄=>
   Oe (LU C.X.prog C.X.w) C.X.A (.compStart (.ListComp elt [⟨tg,iter,ifs,0⟩] scope pos) 0 (.ref it) acc { cenv with scope:=relabel scope C.X.env }) (RR acc cenv.locals) s₄) E s₃) E s₂:=by
 refine Nr (wpAny_newFunctionEnv O.cell (by intro y hy;simp at hy) (fun h₁ hns₁ hsb₁=>?_) O.kind);dsimp only at hns₁ hsb₁ ⊢;generalize hG:s₂.heap.push { cls:=.type "list",dict:=none,data:=.seq ([]:List KB).toArray }=G at hns₁ hsb₁ ⊢;have hC:G.objs.size=s₂.heap.objs.size+1:=by rw[← hG,Heap.size_push]
 have hDL:s₂.heap.objs.size≠G.objs.size:=by rw[hC];exact LQ (Nat.lt_succ_self _)
 have keep:∀b o,s₂.heap.get? b=some o->h₁.get? b=some o:=fun b o e=>
  hsb₁.extBut b o (by rw[hC];exact LQ (OP (KZ e))) (KL _ (hG▸KL _ e))
 have acc:h₁.get? s₂.heap.objs.size=some { cls:=.type "list",data:=.seq ([]:List KB).toArray }:=hsb₁.extBut _ _ hDL (KL _ (hG▸LM _ rfl));have nD:H₂ s₂.heap.objs.size=none:=I.fresh;have hGe:s₂.heap.objs.size<=G.objs.size:=by rw[hC];exact RZ _
 obtain⟨σ0,I0,vw0,hl0,fl⟩:=u0 O hc I T st hf vw (L:=G.objs.size) (tk:=s₂.toks+([]:List (Str×KB)).length) rfl hGe hDL (by simpa using hns₁) keep acc
 have fpk:∀{H':Hp}{pins':List (Addr×Obj)},(∀b∈fp,H' b=none)->(∀p∈pins',p.1 ∉ fp)->∀b∈fp,sL (gz C.X N' scope (eF C.X.env.cells scope.names []) G.objs.size s₂ H₂ fp) pins' H' b:=fun {H' pins'} hn hp b hb=>by
  obtain⟨g1,g2,g3,g4,g5,g6⟩:=hf b hb;refine⟨hn b hb,LQ (KY (fl b hb) hGe),fun z=>?_,.inl hb,fun x c e=>?_,fun p hp' z=>?_⟩
  ·exact(L4.mp (I.stkSub b z)).elim g2 g3
  ·rcases dE e with z | z
   ·exact g5 x c z
   ·cases z
  ·subst z
   exact hp p ((show p∈([]:List (Addr×Obj))++pins' from hp')) hb
 have loop:Oe (LU C.X.prog C.X.w) C.X.A (.compLoop (.ListComp elt [⟨tg,iter,ifs,0⟩] scope pos) 0 (.ref it) (.ref s₂.heap.objs.size) (compEnvC scope (eF C.X.env.cells scope.names []) G.objs.size C.X.env))
   (RR (.ref s₂.heap.objs.size) G.objs.size) { s₂ with heap:=h₁,toks:=s₂.toks+([]:List (Str×KB)).length }:=by
  refine pP (fun n s=>∃i σ' H' xs dn rest,n=ps.length-i/\i<=ps.length/\Inv (gz C.X N' scope (eF C.X.env.cells scope.names []) G.objs.size s₂ H₂ fp) [] σ' H' s/\tn i s.heap/\(∀b∈fp,H' b=none)/\Same H₂ H'/\
   H' s₂.heap.objs.size=some (.lst xs)/\aO C.X.K H' dn xs/\View C.X.K H' σ' (cE nt idx ρ)/\(cE nt idx ρ).length=σ'.length/\cQ h t fe (cE nt idx ρ) (ps.drop i)=.ok rest/\dn++rest=qs) ?_ ps.length
   ⟨0,σ0,_,[],[],qs,rfl,MQ _,I0,T.keep _ _ _ st fun b _ o e=>keep b o e,fun b hb=>?_,Same.new nD,aF,aO.nil,vw0,hl0,by simpa using hq,rfl⟩
  ·rintro n s ⟨i,σ',H',xs,dn,rest,rfl,hi,I',st',fr',sm',hD',rp',vw',hl',e',ea⟩
   obtain⟨stp,stepp⟩:=ip i H' (Same.kp sm')
   by_cases hlt:i<ps.length
   ·have ei:ps[i]?=some ps[i]:=by simp[hlt]
    obtain⟨go,yl⟩:=stepp _ ei;rw[sy ei] at e';obtain⟨ρ1,b,e1,e2,e3⟩:=u3 e';obtain⟨l1,low1⟩:=hlow _ _ _ e1;refine thn (T.item (gz C.X N' scope (eF C.X.env.cells scope.names []) G.objs.size s₂ H₂ fp) rfl rfl rfl rfl i [] s σ' H' _ I' (fpk fr' (by simp)) st' go) fun r s1 ⟨u,hr,h4⟩=>?_;subst hr;refine thn h4 fun _ s2 ⟨x,H3,I3,r3,y3,st3,fr3⟩=>?_;obtain⟨sm3,rp3⟩:=yl x H3 y3;have I3':=I3.pinned (fpk fr3 (by simp)) (T.obj _ _ st3);refine thn (hg _ _ _ _ _ _ s2 σ' H3 x u (fun σ4 H4=>H4=H3/\ρ1.length=σ4.length/\View C.X.K H4 σ4 ρ1) I3' r3 ⟨_,_,ρ1,hl',vw'.same sm3,rp3,e1,fun σ4 hl4 vw4=>⟨rfl,hl4,vw4⟩⟩) fun _ s4 ⟨σ4,H4,I4,q4⟩=>?_;obtain⟨rfl,hl4,vw4⟩:=q4
    have tests:LC (LU C.X.prog C.X.w) C.X.A (forIn ifs true fun c r=>if r=true then do let ok<- isTrue c (compEnvC scope (eF C.X.env.cells scope.names []) G.objs.size C.X.env) (M7 c (compEnvC scope (eF C.X.env.cells scope.names []) G.objs.size C.X.env));pure (MW ok) else pure (MW r))
      (TP (gz C.X N' scope (eF C.X.env.cells scope.names []) G.objs.size s₂ H₂ fp) ([]++mW fp s2.heap) σ4 (fun b' H5=>b'=b/\Same H4 H5)) (fun _ _=>False) s4:=by
     rcases ht (eF C.X.env.cells scope.names []) G.objs.size s₂ H₂ fp with⟨ez,et⟩|⟨c,ez,et⟩
     ·subst ez
      subst et;cases e2;exact wpAny_tests_nil ⟨H4,I4,rfl,Same.refl _⟩
     ·subst ez
      exact wpAny_tests_one (et _ s4 σ4 H4 _ I4 ⟨ρ1,vw4,by rw[e2];exact fun H' s'=>⟨rfl,s'⟩⟩)
    refine thn tests fun b' s5 ⟨H5,I5,eb,sm5⟩=>?_;subst eb
    have fin:∀{H7:Hp}{s7:KC},Inv (gz C.X N' scope (eF C.X.env.cells scope.names []) G.objs.size s₂ H₂ fp) ([]++mW fp s2.heap) σ4 H7 s7->Inv (gz C.X N' scope (eF C.X.env.cells scope.names []) G.objs.size s₂ H₂ fp) [] σ4 H7 s7/\tn (i+1) s7.heap/\∀b∈fp,H7 b=none:=fun {H7 s7} I7=>by
     refine⟨I7.unpinned,T.keep _ _ _ st3 fun b hb o e=>(I7.pin (b,o) (Ld _ (Ld _ (ia hb e)))).1,fun b hb=>?_⟩;obtain⟨o,e,_⟩:=T.obj _ _ st3 b hb;exact(I7.pin (b,o) (Ld _ (Ld _ (ia hb e)))).2.1
    have sm25:Same H₂ H5:=(sm'.trans sm3).trans sm5;have smd:Same H' H5:=sm3.trans sm5;have vw5:View C.X.K H5 σ4 (cE nt idx ρ):=View.weak (vw4.same sm5) low1 fun i l hi e=>xb hi e;have hl5:(cE nt idx ρ).length=σ4.length:=by rw[← l1];exact hl4
    rcases e3 with⟨rfl,q,r,e4,e5,rfl⟩|⟨rfl,e4⟩
    ·rw[if_pos rfl]
     refine thn (he _ _ _ _ _ _ s5 σ4 H5 (fun v H6=>Same H5 H6/\Rep C.X.K H6 q v) I5 ⟨ρ1,vw4.same sm5,by rw[e4];exact fun v H' s' r=>⟨s',r⟩⟩) fun u6 s6 ⟨v,H6,I6,r6,sm6,rp6⟩=>?_;have hD6:H6 s₂.heap.objs.size=some (.lst xs):=sm6 _ _ (smd _ _ hD')
     have hx:xs.length<sizeLine:=by
      have a1:=rp'.length;have a2:qs.length=dn.length+(r.length+1):=by rw[← ea];simp
      omega
     refine thn (p8 (X:=gz C.X N' scope (eF C.X.env.cells scope.names []) G.objs.size s₂ H₂ fp) _ s6 σ4 H6 (.ref s₂.heap.objs.size) [v] (.ref s₂.heap.objs.size) [u6] (fun _ H7=>H7=upd H6 s₂.heap.objs.size (.lst (xs++[v]))) I6 rfl (.cons r6 .nil) ⟨_,xs,v,rfl,rfl,hD6,hx,rfl⟩) fun _ s7 ⟨_,H7,I7,_,e7⟩=>?_;subst e7;obtain⟨J7,st7,fr7⟩:=fin I7;have kp7:Kp H6 (upd H6 s₂.heap.objs.size (.lst (xs++[v]))):=Kp.upd hD6 rfl;refine⟨ps.length-(i+1),by omega,i+1,σ4,_,xs++[v],dn++[q],r,rfl,hlt,J7,st7,fr7,(sm25.trans sm6).but nD (fun u h=>by rw[hD6] at h;cases h;rfl) (fun b hb=>aL hb),aF,?_,?_,hl5,e5,by rw[← ea];simp⟩
     ·exact aO.append (aO.kp kp7 _ ((rp'.same smd).same sm6)) (aO.cons (Rep.kp kp7 _ rp6) aO.nil)
     ·exact(vw5.same sm6).noOwn (fun i p e=>xa e) (fun i p a e=>x5 e) kp7 ((vw5.same sm6).tb.but (fun u h=>by rw[hD6] at h;cases h;exact⟨rfl,rfl⟩) (fun b hb=>aL hb))
    ·rw[if_neg KW]
     obtain⟨J7,st7,fr7⟩:=fin I5;exact⟨ps.length-(i+1),by omega,i+1,σ4,H5,xs,dn,rest,rfl,hlt,J7,st7,fr7,sm25,smd _ _ hD',rp'.same smd,vw5,hl5,e4,ea⟩
   ·have e:i=ps.length:=by omega
    subst e;rw[OZ] at e';cases e';rw[Ly] at ea;subst ea;refine thn (T.done (gz C.X N' scope (eF C.X.env.cells scope.names []) G.objs.size s₂ H₂ fp) rfl rfl rfl rfl ps.length [] s σ' H' _ I' (fpk fr' (by simp)) st' (stp rfl)) fun r s1 ⟨hr,I1⟩=>?_;subst hr;exact hRR _ _ σ' H' s1 xs I1 sm' nD hD' rp' hGe
  ·show upd H₂ _ _ b=none
   rw[aL (LQ (fl b hb))];exact(hf b hb).1
 exact codeAny_compStart_list loop (T.self _ 0 _ _ _ (T.keep _ _ _ st fun b _ o e=>keep b o e) loop)
end
end PU
namespace PU
open PySem PySem.Spec PyProof.Rows L2
variable[TW]
section
variable{C : Cn}{elt tg iter : Expr}{ifs : List Expr}{scope : Scope}{pos : Ma}{N' : List Str}{nt : Nat}{idx : List Nat}{fi : PSt → R (List PV)}{h : Tgt}{t : PSt → R Bool}{fe : PSt → R PV}
theorem mz{pins:List (Addr×Obj)}{σ σ':L2.St}{H₂ H':Hp}{s₂ s':KC}{fp:List Addr}{cl:List (Str×Addr)}{L:Addr}(I:Inv C.X pins σ H₂ s₂)(hf:∀b∈fp,sL C.X pins H₂ b)
  (I':Inv (gz C.X N' scope cl L s₂ H₂ fp) [] σ' H' s'):Inv C.X pins σ H' s':=
 I.call' (ch:=fp) I'.os I'.base I'.hok I'.bare fun b hb=>by
  obtain⟨g1,g2,g3,g4,g5,g6⟩:=hf b hb;exact⟨g4,g2,g5,g6⟩
theorem BJ{α:Type}{H:Hp}{r:R α}{k:α->Prop}(q:RQ C H (BK r) k):∃a,r=.ok a/\k a:=by
 cases r with
 | ok a=>exact⟨a,rfl,q⟩
 | er x=>exact KJ q
 | no=>exact KJ q
theorem mw{pins:List (Addr×Obj)}{σ:L2.St}{H:Hp}{s:KC}{L:Addr}{h':Heap}(I:Inv C.X pins σ H s)(hn:H L=none)(hL:L≠C.X.env.locals)(h1:C.X.s₀.heap.objs.size<=L)(h2:∀x c,C.X.env.cells.lookup x=some c->c≠L)
  (h3:∀p∈C.X.pn++pins,p.1≠L) (sb:Nd L s.heap h'):Inv C.X pins σ H { s with heap:=h' }:=
 I.turned (t':=s.toks) (fun b o hb e=>(sb.2 b hb).trans e) hn hL (.inr h1) h2 h3
theorem ov(O:CompOk C.X.N C.X.env.scope scope N' nt idx)(hi:EI C tg iter fi)
  (hg:∀cl L s H fp,TCt (dY C N' scope cl L s H fp) tg h) (he:∀cl L s H fp,EV (dY C N' scope cl L s H fp) elt fe)
  (hs:∀x,Nt iter C.X.env x=pure x:=by intro _;rfl) (hc:C.X.calm=true:=by rfl) (hlow:CK nt h:=by repeat' (first | exact qt | exact og (by decide) | apply qr | apply oh)) (ht:∀cl L s H fp,ETs (dY C N' scope cl L s H fp) ifs t:=by exact fun _ _ _ _ _=>qG):EN C (.ListComp elt [⟨tg,iter,ifs,0⟩] scope pos) (gZ fi h t fe nt idx):=by
 intro pins s σ H Q I ⟨ρ,vw,q⟩;rw[eval_ListComp];refine Oi (use:=none) rfl hs (cx fun y hy hk=>I.ok.has y.1 (O.free y hy hk)) O.kind O.names ?_
 refine thn (hi pins s σ H (fun J H'=>∃ps qs,Same H H'/\ItP C.X.K J H' ps/\cQ h t fe (cE nt idx ρ) ps=.ok qs/\qs.length<=sizeLine/\∀a H'',Same H H''->H a=none->cH C.X.K H'' a (.lst qs)->Q (.ref a) H'') I
  ⟨ρ,vw,q.bind.imp fun ps _ k J H' s' ip=>?_⟩) fun v s1 h1=>thn h1 fun itv s2 h2=>?_
 ·obtain⟨qs,e1,k⟩:=BJ k.bind
  obtain⟨z,k⟩:=lV k;exact⟨ps,qs,s',ip,e1,z,k⟩
 ·obtain⟨it,fp,tn,J,H2,e,I2,T,st2,f2,ps,qs,sm,ip,e1,hz,k⟩:=h2
  subst e;refine mx O hc hg hlow ht he I2 T st2 f2 (vw.same sm) ip e1 hz fun D L σ' H' s' xs I' sm' nD hD rp hL=>?_;obtain⟨m,hn,_⟩:=id I'.loc;have IB:=mz I2 f2 I';refine⟨m,hn,fun h' sb=>⟨.ref D,H',mw IB I'.free ?_ (Lk I2.sz hL) ?_ ?_ sb,rfl,k D H' (sm.trans sm') (sm.free nD) ⟨xs,hD,rp⟩⟩⟩
  ·exact Mt (KY I2.lt hL)
  ·intro x c ec z
   obtain⟨v,qc⟩:=I2.cell x c ec;have z:c=L:=z;exact Lx _ (KY (z▸qc.lt) hL)
  ·intro p hp z
   have z:p.1=L:=z;exact Lx _ (KY (z▸KZ (I2.pin p hp).1) hL)
theorem RS.bind'{C:Cn}{B:Hp×Hp}{D:Ends}{H:Hp}{fi:PSt->R (List PV)}{h:Tgt}{t:PSt->R Bool}{fe:PSt->R PV}{nt:Nat}{idx:List Nat}{ρ:PSt}{g:PV->Sl}{i:Nat}
  (q:RS C B D (gZ fi h t fe nt idx ρ >>= fun p=>.ok (.next (ρ.set i (g p))))) (s:Same B.1 H) :
  RQ C H (fi ρ) fun ps=>∃qs,cQ h t fe (cE nt idx ρ) ps=.ok qs/\qs.length<=sizeLine/\∀σ' H'',StOk C.X.K B H'' σ' (ρ.set i (g (.lst qs)))->D.nx σ' H'':=by
 unfold gZ at q;rw[R.bind_assoc] at q;refine(q.bind s).imp fun ps _ k=>?_;rw[R.bind_assoc] at k;cases hc:cQ h t fe (cE nt idx ρ) ps with
 | ok qs=>
  rw[hc] at k;have k:RS C B D ((gy qs >>= fun qs=>R.ok (.lst qs)) >>= fun p=>.ok (.next (ρ.set i (g p)))):=k;unfold gy at k
  by_cases hz:qs.length<=16777216
  ·rw[if_pos hz] at k
   exact⟨qs,rfl,by rw[Li];exact hz,k⟩
  ·rw[if_neg hz] at k
   exact KJ k
 | er x=>rw[hc] at k;exact KJ k
 | no=>rw[hc] at k;exact KJ k
theorem uJ(own:Bool)(i:Nat){x:Str}{px:Ma}{spos:Ma}(hN:C.X.N.Nodup)(O:CompOk C.X.N C.X.env.scope scope N' nt idx)(hi:EI C tg iter fi)
  (hg:∀cl L s H fp,TCt (dY C N' scope cl L s H fp) tg h) (he:∀cl L s H fp,EV (dY C N' scope cl L s H fp) elt fe)
  (hsw:NQ (.ListComp elt [⟨tg,iter,ifs,0⟩] scope pos) (some (.Name x px)) spos.line C.X.env=pure true:=by rfl)
  (hs:∀x,Nt iter C.X.env x=pure x:=by intro _;rfl)
  (hf:C.X.fn x=true\/C.X.env.scope.names.lookup x=some .local:=by first | exact .inl rfl | exact .inr rfl | assumption) (hc:C.X.calm=true:=by rfl) (hlow:CK nt h:=by repeat' (first | exact qt | exact og (by decide) | apply qr | apply oh)) (ht:∀cl L s H fp,ETs (dY C N' scope cl L s H fp) ifs t:=by exact fun _ _ _ _ _=>qG) (hi':C.X.N[i]?=some x:=by rfl) (hx:Loc C.X.env.scope x:=by first | exact .inl rfl | exact .inr rfl) :
  SV C (.Assign [.Name x px] (.ListComp elt [⟨tg,iter,ifs,0⟩] scope pos) spos) ((if own=true then lG else bS) i (gZ fi h t fe nt idx)):=by
 intro pins s σ H D I ⟨ρ,B,S,q⟩;rw[exec_Assign_Name_used _ _ _ _ hsw];refine KF (RK (KF ?_));show LC _ C.X.A (do let _<- comprehension (.ListComp elt [⟨tg,iter,ifs,0⟩] scope pos) scope C.X.env _ (newList []) false (M7 iter C.X.env) (some (PZ (.Name x px) C.X.env))) _ _ s
 refine KF (MO (Oi (use:=some (PZ (.Name x px) C.X.env)) (Q:=fun _ s'=>SP C.X pins D .next s') rfl hs (cx fun y hy hk=>I.ok.has y.1 (O.free y hy hk)) O.kind O.names ?_)
  (fun _ s' hq=>KO (KO hq)) fun _ _ e=>e)
 have q':RS C B D (gZ fi h t fe nt idx ρ >>= fun p=>.ok (.next (ρ.set i (if own=true then .own p else .val p)))):=by
  cases own with
  | true=>exact q
  | false=>exact q
 refine thn (hi pins s σ H (fun J H'=>∃ps qs,Same H H'/\ItP C.X.K J H' ps/\cQ h t fe (cE nt idx ρ) ps=.ok qs/\qs.length<=sizeLine/\∀σ' H'',StOk C.X.K B H'' σ' (ρ.set i (if own=true then .own (.lst qs) else .val (.lst qs)))->D.nx σ' H'') I
  ⟨ρ,S.vw,(RS.bind' q' S.same).imp fun ps _ k J H' s' ip=>?_⟩) fun v s1 h1=>thn h1 fun itv s2 h2=>?_
 ·obtain⟨qs,e1,z,k⟩:=k
  exact⟨ps,qs,s',ip,e1,z,k⟩
 ·obtain⟨it,fp,tn,J,H2,e,I2,T,st2,f2,ps,qs,sm,ip,e1,hz,k⟩:=h2
  subst e;refine mx O hc hg hlow ht he I2 T st2 f2 (S.vw.same sm) ip e1 hz fun Da L σ' H' s' xs I' sm' nD hD rp hL=>?_;obtain⟨m,⟨o,es,ep,ho,hrest⟩,_⟩:=id I'.loc;have IB:=mz I2 f2 I';have nL:L≠C.X.env.locals:=Mt (KY I2.lt hL)
  have nC:∀x c,C.X.env.cells.lookup x=some c->c≠L:=fun x c ec z=>by
   obtain⟨v,qc⟩:=I2.cell x c ec;have z:c=L:=z;exact Lx _ (KY (z▸qc.lt) hL)
  have nP:∀p∈C.X.pn++pins,p.1≠L:=fun p hp z=>by
   have z:p.1=L:=z;exact Lx _ (KY (z▸KZ (I2.pin p hp).1) hL)
  have IP:Inv C.X (pins++[(L,o)]) σ H' s':=IB.pins_of fun p hp=>by
   rcases LW.mp hp with z | z
   ·exact IB.pin p (Ld _ z)
   ·have:p=(L,o):=by simpa using z
    subst this;exact⟨ho,I'.free,nL,I2.nofs hL,fun v z=>by rw[hrest.1] at z;cases z⟩
  have S2:=S.grow (sm.trans sm')
  have fin:∀{H3:Hp}{v:V},Inv C.X (pins++[(L,o)]) σ H3 s'->v=.ref Da->(∀σ3,σ3=σ.set i (some v)->D.nx σ3 H3)->
    LC (LU C.X.prog C.X.w) C.X.A (PZ (.Name x px) C.X.env (.ref Da)) (fun _ s''=>∃m,s''.heap.Ns L m/\∀h',Nd L s''.heap h'->SP C.X pins D .next { s'' with heap:=h' }) C.X.xe s':=fun {H3 v} I3 ev k3=>by
   refine thn (o6 hN hi' hx hf (pins++[(L,o)]) s' σ H3 v (.ref Da) (fun σ4 H4=>σ4=σ.set i (some v)/\H4=H3) I3 (by subst ev;rfl) ⟨rfl,rfl⟩) fun _ s4 ⟨σ4,H4,I4,e4,e5⟩=>?_;have hp:=I4.pin (L,o) (by simp);have IU:Inv C.X pins σ4 H4 s4:=I4.unpinned;refine⟨m,⟨o,es,ep,hp.1,hrest⟩,fun h' sb=>⟨σ4,H4,mw IU hp.2.1 nL (Lk I2.sz hL) nC nP sb,?_⟩⟩;subst e5;exact k3 σ4 e4
  cases own with
  | true=>
   exact fin IP rfl fun σ3 e3=>by
    subst e3;exact k _ _ (S.setN (sm.trans sm') (sm.free nD) ⟨xs,hD,rp⟩)
  | false=>
   obtain⟨H3,I3,rp3,oth⟩:=L2.Inv.frz (a:=Da) (p:=.lst qs) IP ⟨xs,hD,rp⟩;refine fin I3 rfl fun σ3 e3=>?_;subst e3;exact k _ _ ((S.grow ((sm.trans sm').but (sm.free nD) (fun u h=>by rw[hD] at h;cases h;rfl) oth)).setV rp3)
end
end PU
namespace PU
open PySem PySem.Spec PyProof.Rows L2 PySem.SeqAt
variable[TW]
section
variable{X : Cx}{pins : List (Addr×Obj)}{σ : L2.St}{H : Hp}{s : KC}
theorem kb{a:Addr}{xs ys:List V}(I:Inv X pins σ H s)(h1:SqT X.K H a xs)(h2:SqO X.K H a ys):False:=by
 obtain⟨its,_,⟨o,e,c,_⟩,_⟩:=I.tuple h1;obtain⟨_,its2,n,_,e2⟩:=h2.is I;rw[e] at e2;cases e2;have c:Nl "list"=Nl "tuple":=c;exact absurd c (by decide)
theorem AZ{a:Addr}{xs ys:List V}(I:Inv X pins σ H s)(h1:SqO X.K H a xs)(h2:SqO X.K H a ys):xs=ys:=I.list_inj h1.l h2.l
mutual
theorem jd(I:Inv X pins σ H s):∀(p q:PV)(v:V)(b:Bool),bc X.K H p v->bc X.K H q v->bW p q=some b->b=true
 | .non,q,v,b,h1,h2,e=>by
  cases (show v=.non from h1);cases q with
  | non=>simpa [bW] using e.symm
  | bl j=>cases (show V.non=.bl j from h2)
  | int j=>cases (show V.non=.int j from h2)
  | str j=>cases (show V.non=.str j from h2)
  | tup qs=>obtain⟨a,xs,z,_⟩:=bc.tup_inv h2;cases z
  | lst qs=>obtain⟨a,xs,z,_⟩:=bc.lst_inv h2;cases z
  | _=>simp[bW] at e
 | .bl i,q,v,b,h1,h2,e=>by
  cases (show v=.bl i from h1);cases q with
  | bl j=>cases (show V.bl i=.bl j from h2);simpa [bW] using e.symm
  | non=>cases (show V.bl i=.non from h2)
  | int j=>cases (show V.bl i=.int j from h2)
  | str j=>cases (show V.bl i=.str j from h2)
  | tup qs=>obtain⟨a,xs,z,_⟩:=bc.tup_inv h2;cases z
  | lst qs=>obtain⟨a,xs,z,_⟩:=bc.lst_inv h2;cases z
  | _=>simp[bW] at e
 | .int i,q,v,b,h1,h2,e=>by
  cases (show v=.int i from h1);cases q with
  | int j=>cases (show V.int i=.int j from h2);simpa [bW] using e.symm
  | bl j=>cases (show V.int i=.bl j from h2)
  | non=>cases (show V.int i=.non from h2)
  | str j=>cases (show V.int i=.str j from h2)
  | tup qs=>obtain⟨a,xs,z,_⟩:=bc.tup_inv h2;cases z
  | lst qs=>obtain⟨a,xs,z,_⟩:=bc.lst_inv h2;cases z
  | _=>simp[bW] at e
 | .str i,q,v,b,h1,h2,e=>by
  cases (show v=.str i from h1);cases q with
  | str j=>cases (show V.str i=.str j from h2);simpa [bW] using e.symm
  | bl j=>cases (show V.str i=.bl j from h2)
  | non=>cases (show V.str i=.non from h2)
  | int j=>cases (show V.str i=.int j from h2)
  | tup qs=>obtain⟨a,xs,z,_⟩:=bc.tup_inv h2;cases z
  | lst qs=>obtain⟨a,xs,z,_⟩:=bc.lst_inv h2;cases z
  | _=>simp[bW] at e
 | .tup ps,q,v,b,h1,h2,e=>by
  obtain⟨a,xs,rfl,g1,r1⟩:=bc.tup_inv h1;cases q with
  | tup qs=>
   obtain⟨a2,ys,z,g2,r2⟩:=bc.tup_inv h2;cases z;cases I.tuple_inj g1 g2;exact lF I ps qs xs b r1 r2 (by simpa [bW] using e)
  | lst qs=>
   obtain⟨a2,ys,z,g2,r2⟩:=bc.lst_inv h2;cases z;exact(kb I g1 g2).elim
  | non=>cases (show V.ref a=.non from h2)
  | bl j=>cases (show V.ref a=.bl j from h2)
  | int j=>cases (show V.ref a=.int j from h2)
  | str j=>cases (show V.ref a=.str j from h2)
  | _=>simp[bW] at e
 | .lst ps,q,v,b,h1,h2,e=>by
  obtain⟨a,xs,rfl,g1,r1⟩:=bc.lst_inv h1;cases q with
  | lst qs=>
   obtain⟨a2,ys,z,g2,r2⟩:=bc.lst_inv h2;cases z;cases AZ I g1 g2;exact lF I ps qs xs b r1 r2 (by simpa [bW] using e)
  | tup qs=>
   obtain⟨a2,ys,z,g2,r2⟩:=bc.tup_inv h2;cases z;exact(kb I g2 g1).elim
  | non=>cases (show V.ref a=.non from h2)
  | bl j=>cases (show V.ref a=.bl j from h2)
  | int j=>cases (show V.ref a=.int j from h2)
  | str j=>cases (show V.ref a=.str j from h2)
  | _=>simp[bW] at e
 | .dct _ _,_,_,_,_,_,e=>by simp[bW] at e
 | .dtt _ _,_,_,_,_,_,e=>by simp[bW] at e
 | .fn _ _,_,_,_,_,_,e=>by simp[bW] at e
theorem lF(I:Inv X pins σ H s):∀(ps qs:List PV)(xs:List V)(b:Bool),aO X.K H ps xs->aO X.K H qs xs->di ps qs=some b->b=true
 | [],qs,xs,b,r1,r2,e=>by
  cases r1;cases qs with
  | nil=>simpa [di] using e.symm
  | cons q qs=>obtain⟨x,r,z,_⟩:=r2;cases z
 | p::ps,qs,xs,b,r1,r2,e=>by
  obtain⟨x,r,rfl,h1,t1⟩:=r1;cases qs with
  | nil=>cases (show x::r=[] from r2)
  | cons q qs=>
   obtain⟨x2,r2',z,h2,t2⟩:=r2;cases z;simp only[di] at e;obtain⟨b1,e1,e⟩:=Kx.mp e;obtain⟨b2,e2,e⟩:=Kx.mp e;cases e;rw[jd I p q x b1 h1.o h2.o e1,lF I ps qs r b2 t1 t2 e2];rfl
end
theorem mY{p q:PV}{ps qs:List PV}{j:Nat}:iP (p::ps) (q::qs) (j+1)=iP ps qs j:=by simp[iP]
theorem kU:∀(ps qs:List PV)(b:Bool),di ps qs=some b->((KM (min ps.length qs.length)).all (iP ps qs) && ps.length == qs.length)=b
 | [],[],b,e=>by simp[di] at e;simp[e]
 | [],_::_,b,e=>by simp[di] at e;simp[e]
 | _::_,[],b,e=>by simp[di] at e;simp[e]
 | p::ps,q::qs,b,e=>by
  simp only[di] at e;obtain⟨b1,e1,e⟩:=Kx.mp e;obtain⟨b2,e2,e⟩:=Kx.mp e;cases e;have ih:=kU ps qs b2 e2;have hm:min (p::ps).length (q::qs).length=min ps.length qs.length+1:=by simp only[LK];omega
  rw[hm,MJ,Mi,Qk];have h0:iP (p::ps) (q::qs) 0=b1:=by simp[iP,e1]
  have hs:(iP (p::ps) (q::qs) ∘ Nat.succ)=iP ps qs:=by funext j;exact mY
  rw[h0,hs,← ih,LK,LK];simp[Bool.and_assoc]
theorem o8:∀{ps:List PV}{j:Nat}{p:PV},ps[j]?=some p->va p<=dN ps
 | [],_,_,h=>by simp at h
 | p::ps,0,_,h=>by simp at h;subst h;simp only[dN];omega
 | p::ps,j+1,q,h=>by
  have:=o8 (ps:=ps) (j:=j) (p:=q) (by simpa using h);simp only[dN];omega
mutual
theorem wK(I:Inv X pins σ H s):∀(p q:PV)(A:LR)(v u:V)(v' u':KB)(b:Bool),bc X.K H p v->bc X.K H q u->RelV v v'->RelV u u'->bW p q=some b->A.units+va p<cLine->EqAt A s v' u' b
 | .non,q,A,v,u,v',u',b,h1,h2,e1,e2,e,hu=>by
  cases (show v=.non from h1);cases e1;have hu:=NZ (Ob _ _) hu;cases q with
  | non=>cases (show u=.non from h2);cases e2;simp[bW] at e;subst e;exact EqAt.same _
  | bl j=>cases (show u=.bl j from h2);cases e2;simp[bW] at e;subst e;exact EqAt.none_bool j
  | int j=>cases (show u=.int j from h2);obtain⟨t,rfl⟩:=e2;simp[bW] at e;subst e;exact EqAt.none_int j t
  | str j=>cases (show u=.str j from h2);obtain⟨t,rfl⟩:=e2;simp[bW] at e;subst e;exact EqAt.none_str j t
  | tup qs=>obtain⟨a,xs,rfl,g,_⟩:=bc.tup_inv h2;cases e2;obtain⟨its,_,pl,_⟩:=I.tuple g;simp[bW] at e;subst e;exact EqAt.none_tuple pl hu
  | lst qs=>obtain⟨a,xs,rfl,g,_⟩:=bc.lst_inv h2;cases e2;obtain⟨its,_,pl,_⟩:=I.list g.l;simp[bW] at e;subst e;exact EqAt.none_list pl.isList hu
  | _=>simp[bW] at e
 | .bl i,q,A,v,u,v',u',b,h1,h2,e1,e2,e,hu=>by
  cases (show v=.bl i from h1);cases e1;have hu:=NZ (Ob _ _) hu;cases q with
  | non=>cases (show u=.non from h2);cases e2;simp[bW] at e;subst e;exact EqAt.bool_none i
  | bl j=>cases (show u=.bl j from h2);cases e2;simp only[bW,NH] at e;subst e;exact EqAt.bool_bool i j
  | int j=>cases (show u=.int j from h2);obtain⟨t,rfl⟩:=e2;simp only[bW,NH] at e;subst e;exact EqAt.bool_int i j t
  | str j=>cases (show u=.str j from h2);obtain⟨t,rfl⟩:=e2;simp[bW] at e;subst e;exact EqAt.bool_str i j t
  | tup qs=>obtain⟨a,xs,rfl,g,_⟩:=bc.tup_inv h2;cases e2;obtain⟨its,_,pl,_⟩:=I.tuple g;simp[bW] at e;subst e;exact EqAt.bool_tuple i pl hu
  | lst qs=>obtain⟨a,xs,rfl,g,_⟩:=bc.lst_inv h2;cases e2;obtain⟨its,_,pl,_⟩:=I.list g.l;simp[bW] at e;subst e;exact EqAt.bool_list i pl.isList hu
  | _=>simp[bW] at e
 | .int i,q,A,v,u,v',u',b,h1,h2,e1,e2,e,hu=>by
  cases (show v=.int i from h1);obtain⟨t',rfl⟩:=e1;have hu:=NZ (Ob _ _) hu;cases q with
  | non=>cases (show u=.non from h2);cases e2;simp[bW] at e;subst e;exact EqAt.int_none i t'
  | bl j=>cases (show u=.bl j from h2);cases e2;simp only[bW,NH] at e;subst e;exact EqAt.int_bool i t' j
  | int j=>cases (show u=.int j from h2);obtain⟨t,rfl⟩:=e2;simp only[bW,NH] at e;subst e;exact EqAt.int_int i t' j t
  | str j=>cases (show u=.str j from h2);obtain⟨t,rfl⟩:=e2;simp[bW] at e;subst e;exact EqAt.int_str i t' j t
  | tup qs=>obtain⟨a,xs,rfl,g,_⟩:=bc.tup_inv h2;cases e2;obtain⟨its,_,pl,_⟩:=I.tuple g;simp[bW] at e;subst e;exact EqAt.int_tuple i t' pl hu
  | lst qs=>obtain⟨a,xs,rfl,g,_⟩:=bc.lst_inv h2;cases e2;obtain⟨its,_,pl,_⟩:=I.list g.l;simp[bW] at e;subst e;exact EqAt.int_list i t' pl.isList hu
  | _=>simp[bW] at e
 | .str i,q,A,v,u,v',u',b,h1,h2,e1,e2,e,hu=>by
  cases (show v=.str i from h1);obtain⟨t',rfl⟩:=e1;have hu:=NZ (Ob _ _) hu;cases q with
  | non=>cases (show u=.non from h2);cases e2;simp[bW] at e;subst e;exact EqAt.str_none i t'
  | bl j=>cases (show u=.bl j from h2);cases e2;simp[bW] at e;subst e;exact EqAt.str_bool i t' j
  | int j=>cases (show u=.int j from h2);obtain⟨t,rfl⟩:=e2;simp[bW] at e;subst e;exact EqAt.str_int i t' j t
  | str j=>cases (show u=.str j from h2);obtain⟨t,rfl⟩:=e2;simp only[bW,NH] at e;subst e;exact EqAt.str_str i t' j t
  | tup qs=>obtain⟨a,xs,rfl,g,_⟩:=bc.tup_inv h2;cases e2;obtain⟨its,_,pl,_⟩:=I.tuple g;simp[bW] at e;subst e;exact EqAt.str_tuple i t' pl hu
  | lst qs=>obtain⟨a,xs,rfl,g,_⟩:=bc.lst_inv h2;cases e2;obtain⟨its,_,pl,_⟩:=I.list g.l;simp[bW] at e;subst e;exact EqAt.str_list i t' pl.isList hu
  | _=>simp[bW] at e
 | .tup ps,q,A,v,u,v',u',b,h1,h2,e1,e2,e,hu=>by
  obtain⟨a,xs,rfl,g1,r1⟩:=bc.tup_inv h1;cases e1;obtain⟨its,rv,pl,_⟩:=I.tuple g1;simp only[va] at hu;have hu0:A.units<cLine:=by omega
  cases q with
  | non=>cases (show u=.non from h2);cases e2;simp[bW] at e;subst e;exact EqAt.tuple_none pl hu0
  | bl j=>cases (show u=.bl j from h2);cases e2;simp[bW] at e;subst e;exact EqAt.tuple_bool j pl hu0
  | int j=>cases (show u=.int j from h2);obtain⟨t,rfl⟩:=e2;simp[bW] at e;subst e;exact EqAt.tuple_int j t pl hu0
  | str j=>cases (show u=.str j from h2);obtain⟨t,rfl⟩:=e2;simp[bW] at e;subst e;exact EqAt.tuple_str j t pl hu0
  | lst qs=>obtain⟨a2,ys,rfl,g,_⟩:=bc.lst_inv h2;cases e2;obtain⟨its2,_,pl2,_⟩:=I.list g.l;simp[bW] at e;subst e;exact EqAt.tuple_list pl pl2.isList hu0
  | tup qs=>
   by_cases hv:V.ref a=u
   ·subst hv
    rw[jd I _ _ _ b h1 h2 e];cases e2;exact EqAt.same _
   ·obtain⟨a2,ys,rfl,g2,r2⟩:=bc.tup_inv h2
    cases e2;obtain⟨its2,rv2,pl2,_⟩:=I.tuple g2;have l1:=r1.length;have l2:=r2.length;have l3:=rv.length;have l4:=rv2.length;have e':di ps qs=some b:=by simpa [bW] using e
    rw[← kU ps qs b e',show ps.length=its.toArray.size by simp;omega,show qs.length=its2.toArray.size by simp;omega];refine EqAt.of_refs (fun z=>hv (by rw[z])) (RcAt.tuples pl pl2 hu0 fun j j1 j2=>?_);have:=mi I ps qs A.in1 xs ys its its2 b r1 r2 rv rv2 e' (by show A.units+1+_<_;omega) j (by simpa using j1) (by simpa using j2);simpa using this
  | _=>simp[bW] at e
 | .lst ps,q,A,v,u,v',u',b,h1,h2,e1,e2,e,hu=>by
  obtain⟨a,xs,rfl,g1,r1⟩:=bc.lst_inv h1;cases e1;obtain⟨its,rv,pl,_⟩:=I.list g1.l;simp only[va] at hu;have hu0:A.units<cLine:=by omega
  cases q with
  | non=>cases (show u=.non from h2);cases e2;simp[bW] at e;subst e;exact EqAt.list_none pl.isList hu0
  | bl j=>cases (show u=.bl j from h2);cases e2;simp[bW] at e;subst e;exact EqAt.list_bool j pl.isList hu0
  | int j=>cases (show u=.int j from h2);obtain⟨t,rfl⟩:=e2;simp[bW] at e;subst e;exact EqAt.list_int j t pl.isList hu0
  | str j=>cases (show u=.str j from h2);obtain⟨t,rfl⟩:=e2;simp[bW] at e;subst e;exact EqAt.list_str j t pl.isList hu0
  | tup qs=>obtain⟨a2,ys,rfl,g,_⟩:=bc.tup_inv h2;cases e2;obtain⟨its2,_,pl2,_⟩:=I.tuple g;simp[bW] at e;subst e;exact EqAt.list_tuple pl.isList pl2 hu0
  | lst qs=>
   by_cases hv:V.ref a=u
   ·subst hv
    rw[jd I _ _ _ b h1 h2 e];cases e2;exact EqAt.same _
   ·obtain⟨a2,ys,rfl,g2,r2⟩:=bc.lst_inv h2
    cases e2;obtain⟨its2,rv2,pl2,_⟩:=I.list g2.l;have l1:=r1.length;have l2:=r2.length;have l3:=rv.length;have l4:=rv2.length;have e':di ps qs=some b:=by simpa [bW] using e
    have hp:=kU ps qs b e';refine EqAt.of_refs (fun z=>hv (by rw[z])) ?_
    by_cases hl:ps.length=qs.length
    ·have hb:(KM its.toArray.size).all (iP ps qs)=b:=by
      rw[← hp,hl,Nat.min_self,beq_self_eq_true,PL,show its.toArray.size=qs.length by simp;omega]
     rw[← hb];refine RcAt.lists pl.isList pl2.isList (by simp;omega) hu0 fun j j1 j2=>?_;have:=mi I ps qs A.in1 xs ys its its2 b r1 r2 rv rv2 e' (by show A.units+1+_<_;omega) j (by simpa using j1) (by simpa using j2);simpa using this
    ·have hb:b=false:=by
      rw[← hp,beq_eq_false_iff_ne.mpr hl,Ox]
     rw[hb];exact RcAt.lists_lengths pl.isList pl2.isList (by simp;omega) hu0
  | _=>simp[bW] at e
 | .dct _ _,_,_,_,_,_,_,_,_,_,_,_,e,_=>by simp[bW] at e
 | .dtt _ _,_,_,_,_,_,_,_,_,_,_,_,e,_=>by simp[bW] at e
 | .fn _ _,_,_,_,_,_,_,_,_,_,_,_,e,_=>by simp[bW] at e
theorem mi(I:Inv X pins σ H s):∀(ps qs:List PV)(A:LR)(xs ys:List V)(vs ws:List KB)(b:Bool),aO X.K H ps xs->aO X.K H qs ys->Vals xs vs->Vals ys ws->di ps qs=some b->A.units+dN ps<cLine->
  ∀j (h1:j<vs.length) (h2:j<ws.length),EqAt A s vs[j] ws[j] (iP ps qs j)
 | [],qs,A,xs,ys,vs,ws,b,r1,r2,rv,rw',e,hu,j,h1,h2=>by
  cases r1;cases rv;exact absurd h1 (Mw _)
 | p::ps,[],A,xs,ys,vs,ws,b,r1,r2,rv,rw',e,hu,j,h1,h2=>by
  cases r2;cases rw';exact absurd h2 (Mw _)
 | p::ps,q::qs,A,xs,ys,vs,ws,b,r1,r2,rv,rw',e,hu,j,h1,h2=>by
  obtain⟨x,r,rfl,p1,t1⟩:=r1;obtain⟨y,r',rfl,p2,t2⟩:=r2;cases rv with
  | cons a1 c1=>
   cases rw' with
   | cons a2 c2=>
    simp only[di] at e;obtain⟨b1,e1,e⟩:=Kx.mp e;obtain⟨b2,e2,e⟩:=Kx.mp e;simp only[dN] at hu;cases j with
    | zero=>
     have:iP (p::ps) (q::qs) 0=b1:=by simp[iP,e1]
     rw[this];exact wK I p q A x y _ _ b1 p1.o p2.o a1 a2 e1 (by omega)
    | succ j=>
     rw[mY];exact mi I ps qs A r r' _ _ b2 t1 t2 c1 c2 e2 (by omega) j (Qy h1) (Qy h2)
end
end
end PU
namespace PU
open PySem PySem.Spec PyProof.Rows L2 PySem.SeqAt PySem.Calls PyProof.V
variable[TW]
def EqW(P:L6)(w:LI)(A:LR)(s:KC)(y x:KB)(b:Bool):Prop:=∀(E:KB->KC->Prop)(Q:Bool->KC->Prop),Q b s->LC (LU P w) A (eqBool y x) Q E s
theorem EqW.of{P:L6}{w:LI}{A:LR}{s:KC}{y x:KB}{b:Bool}(h:EqAt A s y x b):EqW P w A s y x b:=fun E Q q=>h P w E Q q
section
variable{P : L6}{w : LI}{κ : Type}[DecidableEq κ]{kd : KeyKind P w κ}{A : LR}{E : KB → KC → Prop}{s : KC}
inductive HitW (P:L6) (w:LI) (A:LR) (s:KC) (other:List (κ×KB)):List (κ×KB)->Bool->Prop
 | done:HitW P w A s other [] true
 | lacks {k:κ} {v:KB} {t:List (κ×KB)}:MG other k=none->HitW P w A s other ((k,v)::t) false
 | meets {k:κ} {v y:KB} {t:List (κ×KB)} {e b:Bool}:MG other k=some y->EqW P w A s v y e->HitW P w A s other t b->HitW P w A s other ((k,v)::t) (e && b)
theorem HitW.split{other:List (κ×KB)}{k:κ}{v:KB}{t:List (κ×KB)}{b:Bool}(h:HitW P w A s other ((k,v)::t) b) :
  (MG other k=none/\b=false)\/∃y e c,MG other k=some y/\EqW P w A s v y e/\HitW P w A s other t c/\b=(e && c):=by
 cases h with
 | lacks n=>exact .inl ⟨n,rfl⟩
 | meets y1 y2 y3=>exact .inr ⟨_,_,_,y1,y2,y3,rfl⟩
theorem t5{nm:String}{d1 d2:Addr}{l1 l2:List (κ×KB)}{r:Bool}{Q:Bool->KC->Prop}(n1:(d1 == Lo)=false)(n2:(d2 == Lo)=false)(D1:s.heap.DictOf kd d1 l1)(D2:s.heap.DictOf kd d2 l2)
  (hh:l1.length=l2.length->HitW P w A s l2 l1 r) (q:Q (l1.length == l2.length && r) s):LC (LU P w) A (Pp nm d1 d2) Q E s:=by
 obtain⟨o1,es1,c1,get1,_,dat1,ks1,prs1,_⟩:=D1;obtain⟨o2,es2,c2,get2,_,dat2,ks2,prs2,_⟩:=D2;have len1:l1.length=es1.size:=by rw[← prs1.length];exact Lp
 have len2:l2.length=es2.size:=by rw[← prs2.length];exact Lp
 have seek:∀k,findBy kd.is es2 k=MG l2 k:=fun k=>by
  rw[← prs2.find k];clear len2 prs2 ks2 dat2 get2;cases es2;simp[findBy]
 rw[len1,len2] at q;unfold Pp Builtin.Dict.showsAll;rw[if_neg (by rw[n1];exact KW),if_neg (by rw[n2];exact KW)];refine KF (KO (KF (KO (KF (Od get1 dat1 ?_)))));dsimp only;refine KF (Od get2 dat2 ?_)
 by_cases sz:es1.size=es2.size
 case neg=>
  rw[if_pos (by simpa using sz)];have no:(es1.size == es2.size)=false:=by simpa using sz
  rw[no,QE] at q;exact KF (Qn (KO q))
 case pos=>
  have q':Q r s:=by simpa [sz] using q
  have hh':=hh (by rw[len1,len2];exact sz);rw[if_neg (by rw[sz];simp)];refine KF (wpAny_dictEpoch get1 dat1 (KF ?_));rw[Std.Legacy.Range.forIn_eq_forIn_range'];simp only[Std.Legacy.Range.size,Nat.sub_zero,Nat.add_sub_cancel,Nat.div_one];refine NO _ (fun todo z s'=>s'=s/\z=(none,())/\∃j,todo=RB j (es1.size-j)/\j<=es1.size/\HitW P w A s l2 (l1.drop j) r) _ ?_ ?_ _ _ ⟨rfl,rfl,0,by simp,MQ _,hh'⟩
  ·rintro x todo z s' ⟨rfl,rfl,j,et,hj,rest⟩
   have lt:j<es1.size:=by
    rcases Lr j es1.size with g | g
    ·exact g
    ·rw[Nat.sub_eq_zero_of_le g] at et;simp at et
   have e1:es1.size-j=(es1.size-(j+1))+1:=by omega
   rw[e1,Pr] at et;injection et with ex et;subst ex;refine KF (Od get1 dat1 ?_);rw[Mb lt];have lt':x<l1.length:=by rw[len1];exact lt
   obtain⟨k,v,ekv⟩:∃k v,l1[x]=(k,v):=⟨_,_,rfl⟩;have cut:l1.drop x=(k,v)::l1.drop (x+1):=by rw[← ekv];exact LH lt'
   obtain⟨isk,isv⟩:=prs1.get? (i:=x) (e:=es1[x]) (k:=k) (v:=v) (by rw[Qm];exact Mb lt) (by rw[LY lt',ekv]);obtain⟨k',isk',hs⟩:=ks1 es1[x] (Array.getElem_mem lt);have ek:k'=k:=kd.inj _ _ _ isk' isk;rw[ek] at hs;rw[cut] at rest;show LC _ _ (holding [es1[x].key,es1[x].val] _ >>= _) _ _ _;rw[hs];refine KF (N4 (KF (wpAny_dictFind_of isk get2 dat2 ks2 ?_)));cases at2:es2.findIdx? fun e=>kd.is k e.key with
   | none=>
    have nn:MG l2 k=none:=by rw[← seek k,findBy_of_findIdx?,at2]
    rcases rest.split with⟨_,er⟩|⟨y,_,_,hy,_⟩
    ·rw[er] at q'
     refine KO ?_;show LC _ _ (if (!false)=true then _ else _) _ _ _;rw[if_pos (by decide)];exact KO (KO q')
    ·rw[nn] at hy;cases hy
   | some m=>
    obtain⟨mlt,_,_⟩:=Array.findIdx?_eq_some_iff_getElem.mp at2
    have vv:MG l2 k=some es2[m].val:=by
     rw[← seek k,findBy_of_findIdx?,at2];simp[Mb mlt]
    refine KF (Od get2 dat2 ?_);rw[Mb mlt];rcases rest.split with⟨nn,_⟩|⟨y,e,c,hy,he,ht,er⟩
    ·rw[vv] at nn;cases nn
    ·have ey:es2[m].val=y:=Lh (vv.symm.trans hy)
     rw[← ey,← isv] at he;refine N4 (he _ _ ?_);cases e with
     | false=>
      rw[er,QE] at q';show LC _ _ (if (!false)=true then _ else _) _ _ _;rw[if_pos (by decide)];exact KO (KO q')
     | true=>
      rw[QW] at er;rw[← er] at ht;show LC _ _ (if (!true)=true then _ else _) _ _ _;rw[if_neg (by decide)];refine KF (wpAny_dictEpoch get1 dat1 ?_);rw[if_neg (by simp)];exact KO ⟨rfl,rfl,x+1,et,lt,ht⟩
  ·rintro z s' ⟨rfl,rfl,j,et,hj,rest⟩
   have ej:j=es1.size:=by
    rcases Lr j es1.size with g | g
    ·have e1:es1.size-j=(es1.size-(j+1))+1:=by omega
     rw[e1,Pr] at et;cases et
    ·exact Nat.le_antisymm hj g
   refine KO ?_;rw[ej,← len1,OZ] at rest;cases rest;exact q'
theorem l7{d1 d2:Addr}{l1 l2:List (κ×KB)}{r:Bool}{Q:KB->KC->Prop}(n1:(d1 == Lo)=false)(n2:(d2 == Lo)=false)(D1:s.heap.DictOf kd d1 l1)(D2:s.heap.DictOf kd d2 l2)(hu:A.units<cLine)
  (hh:l1.length=l2.length->HitW P w A.in1 s l2 l1 r) (q:Q (.bool (l1.length == l2.length && r)) s):LC (LU P w) A (OC .Eq (.ref d1) (.ref d2)) Q E s:=by
 refine wpAny_richCompare_same_room (op:=.Eq) D1.typeIs D2.typeIs Qa (Ot Qa D1.typeIs PySem.F.entry_dict_eq ?_ (PySem.F.args_dict_eq_2 _ _)) hu;show LC _ _ (Pa "__eq__" ⟨[.ref d1,.ref d2],[]⟩ >>= _) _ _ s;unfold Pa;refine KF (KF (wpAny_notOrdered_dict D1.typeIs ?_));show LC _ _ (pure (M5 d1,M5 d2)) _ _ s;refine KO (KF (QF (T:="dict") D2.typeIs PySem.F.sub_dict_dict ?_));simp only[QX,LV,if_false];refine KF (KO (KF (KO (KF (t5 n1 n2 D1 D2 hh (KO ⟨_,rfl,(fun z=>nomatch z),?_⟩))))));simpa using q
end
section
variable{X : Cx}{pins : List (Addr×Obj)}{σ : L2.St}{H : Hp}{s : KC}
theorem mO{kvs:List (Key×V)}{vs:List (Key×KB)}(r:KV kvs vs)(k:Key):(mF kvs k=none/\MG vs k=none)\/∃v u,mF kvs k=some v/\MG vs k=some u/\RelV v u:=by
 induction r with
 | nil=>exact .inl ⟨rfl,rfl⟩
 | @cons p q ps qs h t ih=>
  obtain⟨h1,h2⟩:=h
  by_cases e:p.1=k
  ·refine .inr ⟨p.2,q.2,j5 e,?_,h2⟩
   simp[MG,MH,← h1,e]
  ·rw[fP e]
   have e2:MG (q::qs) k=MG qs k:=by simp[MG,MH,← h1,e]
   rw[e2];exact ih
theorem nr{k:Key}:∀{ks:List Key}{ps:List PV}{kvs:List (Key×V)},kvs.map (·.1)=ks->ps.length=kvs.length->cq ks ps k=none->mF kvs k=none
 | [],_,kvs,e,_,_=>by
  have:kvs=[]:=by simpa using e
  subst this;rfl
 | j::ks,[],kvs,e,hl,_=>by
  have:kvs.length=0:=by simpa using hl.symm
  have:kvs=[]:=Lu this;subst this;cases e
 | j::ks,p::ps,kv::kvs,e,hl,h=>by
  have e1:kv.1=j:=by simpa using congrArg PQ e
  have e2:kvs.map (·.1)=ks:=by simpa using congrArg Pq e
  have h:(if j=k then some p else cq ks ps k)=none:=h;split at h
  ·cases h
  ·rename_i hn
   rw[fP (by rw[e1];exact hn)];exact nr e2 (by simpa using hl) h
 | j::ks,p::ps,[],e,_,_=>by cases e
theorem jg{K:KA}{H:Hp}{k:Key}:∀{ks:List Key}{ps:List PV}{kvs:List (Key×V)}{p:PV},kvs.map (·.1)=ks->aO K H ps (kvs.map (·.2))->cq ks ps k=some p->∃v,mF kvs k=some v/\Rep K H p v
 | _,_,[],_,h1,h2,e=>by
  subst h1;simp only[Mh,cq] at e;cases e
 | _,[],kv::kvs,_,h1,h2,e=>by
  cases h2
 | _,q::ps,kv::kvs,p,h1,h2,e=>by
  subst h1;obtain⟨x,r,ex,hx,ht⟩:=h2;simp only[KG,MV] at ex;obtain⟨rfl,rfl⟩:=ex;simp only[KG,cq] at e
  by_cases hk:kv.1=k
  ·rw[if_pos hk] at e
   cases e;exact⟨kv.2,j5 hk,hx⟩
  ·rw[if_neg hk] at e
   rw[fP hk];exact jg rfl ht e
theorem oo(A:LR)(eqf:PV->PV->Option Bool)(I:Inv X pins σ H s){ls:List Key}{qs:List PV}{kvs2:List (Key×V)}{vs2:List (Key×KB)}(e2:kvs2.map (·.1)=ls)(r2:aO X.K H qs (kvs2.map (·.2)))(kv2:KV kvs2 vs2) :
  ∀(ks:List Key)(ps:List PV)(kvs1:List (Key×V))(vs1:List (Key×KB))(b:Bool),kvs1.map (·.1)=ks->aO X.K H ps (kvs1.map (·.2))->KV kvs1 vs1->lU eqf ks ps ls qs=some b->
   (∀p∈ps,∀(q:PV)(v u:V)(v' u':KB)(c:Bool),bc X.K H p v->bc X.K H q u->RelV v v'->RelV u u'->eqf p q=some c->EqW X.prog X.w A s v' u' c)->HitW X.prog X.w A s vs2 vs1 b
 | [],[],kvs1,vs1,b,e1,r1,kv1,h,_=>by
  have:kvs1=[]:=by simpa using e1
  subst this;cases kv1;have h:some true=some b:=h;cases h;exact .done
 | k::ks,p::ps,kvs1,vs1,b,e1,r1,kv1,h,he=>by
  cases kvs1 with
  | nil=>cases e1
  | cons kv kvs=>
   have ek:kv.1=k:=by simpa using congrArg PQ e1
   have et:kvs.map (·.1)=ks:=by simpa using congrArg Pq e1
   obtain⟨x,r,ex,rp,rt⟩:=r1;have exx:kv.2=x:=by simpa using congrArg PQ ex
   have err:kvs.map (·.2)=r:=by simpa using congrArg Pq ex
   cases kv1 with
   | @cons _ q _ qs' hd tl=>
    obtain⟨k',u1⟩:=q;obtain⟨h1,h2⟩:=hd;have h1:kv.1=k':=h1;have h2:RelV kv.2 u1:=h2;subst err;rw[← h1,ek];unfold lU at h;cases hl:cq ls qs k with
    | none=>
     rw[hl] at h;have h:some false=some b:=h;cases h;have:=nr e2 (by rw[r2.length,KH]) hl;rcases mO kv2 k with⟨_,z⟩|⟨v,u,z,_⟩
     ·exact .lacks z
     ·rw[this] at z;cases z
    | some q2=>
     rw[hl] at h;have h:((eqf p q2).bind fun a=>(lU eqf ks ps ls qs).bind fun b=>some (a && b))=some b:=h;obtain⟨c1,g1,h⟩:=Kx.mp h;obtain⟨c2,g2,h⟩:=Kx.mp h;cases h;obtain⟨v2,ev2,rp2⟩:=jg e2 r2 hl;rcases mO kv2 k with⟨z,_⟩|⟨v,u,z,z2,z3⟩
     ·rw[ev2] at z;cases z
     ·rw[ev2] at z
      cases z;exact .meets z2 (he p LO q2 kv.2 v2 u1 u c1 (exx▸rp.o) rp2.o h2 z3 g1) (oo A eqf I e2 r2 kv2 ks ps kvs qs' c2 et rt tl g2 fun p' hp'=>he p' (LG _ hp'))
 | [],_::_,_,_,_,_,_,_,h,_=>by cases h
 | _::_,[],_,_,_,_,_,_,h,_=>by cases h
theorem vx{k:Key}{r:PV}:∀(ks:List Key)(ps:List PV),ks.length=ps.length->k ∉ ks->∀(ls:List Key)(qs:List PV),cq (ks++k::ls) (ps++r::qs) k=some r
 | [],[],_,_,ls,qs=>by
  show (if k=k then some r else _)=_;rw[if_pos rfl]
 | j::ks,p::ps,hl,hn,ls,qs=>by
  show (if j=k then some p else cq (ks++k::ls) (ps++r::qs) k)=_;rw[if_neg (fun e=>hn (by rw[e];exact LO))];exact vx ks ps (by simpa using hl) (fun h=>hn (LG _ h)) ls qs
 | [],_::_,h,_,_,_=>by simp at h
 | _::_,[],h,_,_,_=>by simp at h
theorem oY{P:L6}{w:LI}{κ:Type}[DecidableEq κ]{kd:KeyKind P w κ}:∀{es:List DictEntry}{l1 l2:List (κ×KB)},Pairs kd es l1->Pairs kd es l2->l1=l2
 | _,_,_,.nil,.nil=>rfl
 | _,_,_,.cons a b c,.cons a' b' c'=>by
  rw[oY c c'];have h1:=kd.inj _ _ _ a a';have h2:=b.symm.trans b';rw[Pd h1 h2]
theorem tW{P:L6}{w:LI}{κ:Type}[DecidableEq κ]{kd:KeyKind P w κ}{h:Heap}{a:Addr}{l1 l2:List (κ×KB)}(d1:h.DictOf kd a l1)(d2:h.DictOf kd a l2):l1=l2:=by
 obtain⟨o1,es1,c1,get1,_,dat1,_,prs1,_⟩:=d1;obtain⟨o2,es2,c2,get2,_,dat2,_,prs2,_⟩:=d2;rw[get1] at get2;cases get2;rw[dat1] at dat2;cases dat2;exact oY prs1 prs2
theorem Ak:∀{l1 l2:List (Key×V)}{vs:List (Key×KB)},KV l1 vs->KV l2 vs->l1=l2
 | _,_,_,.nil,.nil=>rfl
 | _,_,_,.cons a c,.cons a' c'=>by
  rw[Ak c c'];rw[Pd (a.1.trans a'.1.symm) (RelV.inj a.2 a'.2)]
theorem vJ:∀{l:List (Key×V)}{vs:List (Key×KB)},KV l vs->l.map (·.1)=vs.map (·.1)
 | _,_,.nil=>rfl
 | _,_,.cons a c=>by rw[KG,KG,vJ c,a.1]
theorem pG(eqf:PV->PV->Option Bool)(he:∀(p q:PV)(v:V)(c:Bool),Rep X.K H p v->Rep X.K H q v->eqf p q=some c->c=true):∀(kvs kvs0:List (Key×V))(qs0 qs ps:List PV)(b:Bool),
  ((kvs0++kvs).map (·.1)).Nodup->aO X.K H qs0 (kvs0.map (·.2))->aO X.K H qs (kvs.map (·.2))->aO X.K H ps (kvs.map (·.2))->lU eqf (kvs.map (·.1)) ps ((kvs0++kvs).map (·.1)) (qs0++qs)=some b->b=true
 | [],kvs0,qs0,qs,ps,b,nd,r0,rq,rp,h=>by
  have:ps=[]:=Lu (by rw[rp.length];rfl);subst this;have h:some true=some b:=h;cases h;rfl
 | kv::kvs,kvs0,qs0,[],ps,b,nd,r0,rq,rp,h=>by
  have:=rq.length;simp at this
 | kv::kvs,kvs0,qs0,q::qs,[],b,nd,r0,rq,rp,h=>by
  have:=rp.length;simp at this
 | kv::kvs,kvs0,qs0,q::qs,p::ps,b,nd,r0,rq,rp,h=>by
  obtain⟨x,r,ex,rp1,rpt⟩:=rp;obtain⟨y,r',ey,rq1,rqt⟩:=rq;have exx:kv.2=x:=by simpa using congrArg PQ ex
  have err:kvs.map (·.2)=r:=by simpa using congrArg Pq ex
  have eyy:kv.2=y:=by simpa using congrArg PQ ey
  have err':kvs.map (·.2)=r':=by simpa using congrArg Pq ey
  subst exx eyy err;rw[← err'] at rqt
  have nk:kv.1 ∉ kvs0.map (·.1):=fun z=>by
   rw[L8,M6] at nd;exact nd.2.2 _ z _ (by simp) rfl
  have lk:cq ((kvs0++kv::kvs).map (·.1)) (qs0++q::qs) kv.1=some q:=by
   rw[L8,KG];exact vx _ _ (by rw[KH,r0.length,KH]) nk _ _
  rw[KG] at h;unfold lU at h;rw[lk] at h;have h:((eqf p q).bind fun a=>(lU eqf (kvs.map (·.1)) ps ((kvs0++kv::kvs).map (·.1)) (qs0++q::qs)).bind fun b=>some (a && b))=some b:=h;obtain⟨c1,g1,h⟩:=Kx.mp h;obtain⟨c2,g2,h⟩:=Kx.mp h;cases h;rw[he p q kv.2 c1 rp1 rq1 g1];have:=pG eqf he kvs (kvs0++[kv]) (qs0++[q]) qs ps c2 (by simpa using nd) (by rw[L8];exact r0.append (aO.cons rq1 aO.nil)) rqt rpt (by simpa using g2);rw[this];rfl
theorem v9(hw:X.w=TW.w)(I:Inv X pins σ H s):∀(n:Nat)(p q:PV)(v:V)(b:Bool),bc X.K H p v->bc X.K H q v->xB n p q=some b->b=true:=by
 intro n
 induction n with
 | zero=>
  intro p q v b h1 h2 e;have e:bW p q=some b:=by cases p <;> exact e
  exact jd I p q v b h1 h2 e
 | succ n ih=>
  intro p q v b h1 h2 e
  by_cases hd:∃ks ps ls qs,p=.dct ks ps/\q=.dct ls qs
  ·obtain⟨ks,ps,ls,qs,rfl,rfl⟩:=hd
   have e:(if ks.length=ls.length then lU (xB n) ks ps ls qs else some false)=some b:=e;obtain⟨a1,kvs1,rfl,d1,k1,r1⟩:=h1;obtain⟨a2,kvs2,ea,d2,k2,r2⟩:=h2;cases ea;obtain⟨_,n1,vs1,kv1,D1⟩:=DkR.at hw I d1;obtain⟨_,n2,vs2,kv2,D2⟩:=DkR.at hw I d2;have:=tW D1 D2;subst this;have:=Ak kv1 kv2;subst this;subst k1;subst k2;rw[if_pos rfl] at e;obtain⟨_,_,_,_,_,_,_,_,nd⟩:=D1;exact pG (xB n) (fun p q v c g1 g2 g=>ih p q v c g1.o g2.o g) kvs1 [] [] qs ps b (by rw[O5,vJ kv1];exact nd) aO.nil r2 r1 (by simpa using e)
  ·have e:bW p q=some b:=by
    rw[← e];cases p with
    | dct ks ps=>
     cases q with
     | dct ls qs=>exact absurd ⟨ks,ps,ls,qs,rfl,rfl⟩ hd
     | _=>rfl
    | _=>rfl
   exact jd I p q v b h1 h2 e
theorem Cj(hw:X.w=TW.w)(I:Inv X pins σ H s):∀(n:Nat)(p q:PV)(A:LR)(v u:V)(v' u':KB)(b:Bool),bc X.K H p v->bc X.K H q u->RelV v v'->RelV u u'->xB n p q=some b->A.units+va p<cLine->EqW X.prog X.w A s v' u' b:=by
 intro n
 induction n with
 | zero=>
  intro p q A v u v' u' b h1 h2 e1 e2 e hu;have e:bW p q=some b:=by cases p <;> exact e
  exact .of (wK I p q A v u v' u' b h1 h2 e1 e2 e hu)
 | succ n ih=>
  intro p q A v u v' u' b h1 h2 e1 e2 e hu
  by_cases hd:∃ks ps ls qs,p=.dct ks ps/\q=.dct ls qs
  ·obtain⟨ks,ps,ls,qs,rfl,rfl⟩:=hd
   have e0:=e;have h10:=h1;have h20:=h2;have e:(if ks.length=ls.length then lU (xB n) ks ps ls qs else some false)=some b:=e;obtain⟨a1,kvs1,rfl,d1,k1,r1⟩:=h1;obtain⟨a2,kvs2,rfl,d2,k2,r2⟩:=h2;cases e1;cases e2;obtain⟨_,n1,vs1,kv1,D1⟩:=DkR.at hw I d1;obtain⟨_,n2,vs2,kv2,D2⟩:=DkR.at hw I d2;have l1:vs1.length=ks.length:=by rw[← k1,KH];exact(Ln kv1).symm
   have l2:vs2.length=ls.length:=by rw[← k2,KH];exact(Ln kv2).symm
   simp only[va] at hu;have hu0:A.units<cLine:=by omega
   have dep:∀p∈ps,va p<=dN ps:=fun p hp=>by
    obtain⟨j,hj⟩:=Np.mp hp;exact o8 hj
   by_cases same:a1=a2
   ·subst same
    rw[v9 hw I (n+1) _ _ _ b h10 h20 e0];exact .of (EqAt.same _)
   ·intro E Q hq
    unfold eqBool;refine N4 (wpAny_ite_split (fun hab=>absurd (by have:=NT hab;injection this) same) fun _=>KF ?_)
    by_cases hl:ks.length=ls.length
    ·rw[if_pos hl] at e
     refine l7 (r:=b) n1 n2 D1 D2 hu0 (fun _=>oo A.in1 (xB n) I k2 r2 kv2 ks ps kvs1 vs1 b k1 r1 kv1 e fun p hp q v u v' u' c g1 g2 g3 g4 g5=>ih p q A.in1 v u v' u' c g1 g2 g3 g4 g5 ?_) (Ml ?_)
     ·have:=dep p hp
      show A.units+1+_<_;omega
     ·have:(vs1.length == vs2.length)=true:=by rw[l1,l2,hl];simp
      rw[this,QW];exact hq
    ·rw[if_neg hl] at e
     cases e;refine l7 (r:=false) n1 n2 D1 D2 hu0 (fun z=>absurd (by rw[← l1,← l2];exact z) hl) (Ml ?_);rw[Ox];exact hq
  ·have e:bW p q=some b:=by
    rw[← e];cases p with
    | dct ks ps=>
     cases q with
     | dct ls qs=>exact absurd ⟨ks,ps,ls,qs,rfl,rfl⟩ hd
     | _=>rfl
    | _=>rfl
   exact .of (wK I p q A v u v' u' b h1 h2 e1 e2 e hu)
end
end PU
namespace PU
open PySem PySem.Spec PyProof.Rows L2 PySem.SeqAt
variable[TW]
theorem cC{K:KA}{H:Hp}{p:PV}{v:V}(h:pX p=true)(r:bc K H p v):v=scV p:=by
 cases p with
 | non=>exact r
 | bl b=>exact r
 | int i=>exact r
 | str x=>exact r
 | _=>cases h
section
variable{X : Cx}
theorem qY{pins:List (Addr×Obj)}{σ:L2.St}{H:Hp}{s:KC}{ps qs:List PV}{v u:V}{v' u':KB}{b:Bool}(hu:X.A.units+64<cLine)(I:Inv X pins σ H s)(e:di ps qs=some b)(hd:dN ps<=60) :
  (bc X.K H (.tup ps) v->bc X.K H (.tup qs) u->RelV v v'->RelV u u'->RcAt X.A s v' u' b/\RcNeAt X.A s v' u' (!b))/\
  (bc X.K H (.lst ps) v->bc X.K H (.lst qs) u->RelV v v'->RelV u u'->RcAt X.A s v' u' b/\RcNeAt X.A s v' u' (!b)):=by
 have hu0:X.A.units<cLine:=by omega
 have hp:=kU ps qs b e;constructor
 ·intro h1 h2 e1 e2
  obtain⟨a,xs,rfl,g1,r1⟩:=bc.tup_inv h1;obtain⟨a2,ys,rfl,g2,r2⟩:=bc.tup_inv h2;cases e1;cases e2;obtain⟨its,rv,pl,_⟩:=I.tuple g1;obtain⟨its2,rv2,pl2,_⟩:=I.tuple g2;have l1:=r1.length;have l2:=r2.length;have l3:=rv.length;have l4:=rv2.length
  have each:∀j (j1:j<its.toArray.size) (j2:j<its2.toArray.size),EqAt X.A.in1 s its.toArray[j] its2.toArray[j] (iP ps qs j):=fun j j1 j2=>by
   have:=mi I ps qs X.A.in1 xs ys its its2 b r1 r2 rv rv2 e (by show X.A.units+1+_<_;omega) j (by simpa using j1) (by simpa using j2);simpa using this
  rw[← hp,show ps.length=its.toArray.size by simp;omega,show qs.length=its2.toArray.size by simp;omega];exact⟨RcAt.tuples pl pl2 hu0 each,RcNeAt.tuples pl pl2 hu0 each⟩
 ·intro h1 h2 e1 e2
  obtain⟨a,xs,rfl,g1,r1⟩:=bc.lst_inv h1;obtain⟨a2,ys,rfl,g2,r2⟩:=bc.lst_inv h2;cases e1;cases e2;obtain⟨its,rv,pl,_⟩:=I.list g1.l;obtain⟨its2,rv2,pl2,_⟩:=I.list g2.l;have l1:=r1.length;have l2:=r2.length;have l3:=rv.length;have l4:=rv2.length
  have each:∀j (j1:j<its.toArray.size) (j2:j<its2.toArray.size),EqAt X.A.in1 s its.toArray[j] its2.toArray[j] (iP ps qs j):=fun j j1 j2=>by
   have:=mi I ps qs X.A.in1 xs ys its its2 b r1 r2 rv rv2 e (by show X.A.units+1+_<_;omega) j (by simpa using j1) (by simpa using j2);simpa using this
  by_cases hl:ps.length=qs.length
  ·have hb:(KM its.toArray.size).all (iP ps qs)=b:=by
    rw[← hp,hl,Nat.min_self,beq_self_eq_true,PL,show its.toArray.size=qs.length by simp;omega]
   rw[← hb];exact⟨RcAt.lists pl.isList pl2.isList (by simp;omega) hu0 each,RcNeAt.lists pl.isList pl2.isList (by simp;omega) hu0 each⟩
  ·have hb:b=false:=by
    rw[← hp,beq_eq_false_iff_ne.mpr hl,Ox]
   rw[hb];exact⟨RcAt.lists_lengths pl.isList pl2.isList (by simp;omega) hu0,RcNeAt.lists_lengths pl.isList pl2.isList (by simp;omega) hu0⟩
theorem i6(hu:X.A.units+64<cLine)(hw:X.w=TW.w:=by rfl):OpR X (LZ .Eq) (rP X.K gEq):=by
 intro pins s σ H x y v u Q I rx ry ⟨p,q,z,hp,hq,e,k⟩;unfold gEq at e;split at e
 ·rename_i ks ps ls qs
  split at e
  ·rename_i hd
   obtain⟨b,eb,ez⟩:=KQ.mp e;subst ez;have eb:(if ks.length=ls.length then lU (xB 2) ks ps ls qs else some false)=some b:=eb;obtain⟨a1,kvs1,rfl,d1,k1,r1⟩:=hp;obtain⟨a2,kvs2,rfl,d2,k2,r2⟩:=hq;cases rx;cases ry;obtain⟨_,n1,vs1,kv1,D1⟩:=DkR.at hw I d1;obtain⟨_,n2,vs2,kv2,D2⟩:=DkR.at hw I d2;have l1:vs1.length=ks.length:=by rw[← k1,KH];exact(Ln kv1).symm
   have l2:vs2.length=ls.length:=by rw[← k2,KH];exact(Ln kv2).symm
   have fin:EP X pins σ Q (.bool b) s:=⟨.bl b,H,I,rfl,k _ H (Same.refl H) rfl⟩;have hu0:X.A.units<cLine:=by omega
   by_cases hl:ks.length=ls.length
   ·rw[if_pos hl] at eb
    refine l7 (r:=b) n1 n2 D1 D2 hu0 (fun _=>oo X.A.in1 (xB 2) I k2 r2 kv2 ks ps kvs1 vs1 b k1 r1 kv1 eb fun p hp q v u v' u' c g1 g2 g3 g4 g5=>Cj hw I 2 p q X.A.in1 v u v' u' c g1 g2 g3 g4 g5 ?_) ?_
    ·obtain⟨j,hj⟩:=Np.mp hp
     have:=o8 hj;show X.A.units+1+_<_;omega
    ·have:(vs1.length == vs2.length)=true:=by rw[l1,l2,hl];simp
     rw[this,QW];exact fin
   ·rw[if_neg hl] at eb
    cases eb;refine l7 (r:=false) n1 n2 D1 D2 hu0 (fun z=>absurd (by rw[← l1,← l2];exact z) hl) ?_;rw[Ox];exact fin
  ·cases e
 ·split at e
  ·rename_i hd
   obtain⟨b,eb,ez⟩:=KQ.mp e;subst ez;exact((qY hu I eb hd).1 hp hq rx ry).1 _ _ _ _ ⟨.bl b,H,I,rfl,k _ H (Same.refl H) rfl⟩
  ·cases e
 ·split at e
  ·rename_i hd
   obtain⟨b,eb,ez⟩:=KQ.mp e;subst ez;exact((qY hu I eb hd).2 hp hq rx ry).1 _ _ _ _ ⟨.bl b,H,I,rfl,k _ H (Same.refl H) rfl⟩
  ·cases e
 ·split at e
  ·rename_i hc
   obtain⟨h1,h2,h3⟩:=hc;cases e;rw[cC h1 hp] at rx;rw[cC h2 hq] at ry;exact Hw pins s σ H _ _ v u Q I rx ry ⟨h3,k _ H (Same.refl H) rfl⟩
  ·cases e
theorem BH(hu:X.A.units+64<cLine):OpR X (LZ .NotEq) (rP X.K gNe):=by
 intro pins s σ H x y v u Q I rx ry ⟨p,q,z,hp,hq,e,k⟩;unfold gNe at e;split at e
 ·split at e
  ·rename_i hd
   obtain⟨b,eb,ez⟩:=KQ.mp e;subst ez;exact((qY hu I eb hd).1 hp hq rx ry).2 _ _ _ _ ⟨.bl (!b),H,I,rfl,k _ H (Same.refl H) rfl⟩
  ·cases e
 ·split at e
  ·rename_i hd
   obtain⟨b,eb,ez⟩:=KQ.mp e;subst ez;exact((qY hu I eb hd).2 hp hq rx ry).2 _ _ _ _ ⟨.bl (!b),H,I,rfl,k _ H (Same.refl H) rfl⟩
  ·cases e
 ·split at e
  ·rename_i hc
   obtain⟨h1,h2,h3⟩:=hc;cases e;rw[cC h1 hp] at rx;rw[cC h2 hq] at ry;exact Hr pins s σ H _ _ v u Q I rx ry ⟨h3,k _ H (Same.refl H) rfl⟩
  ·cases e
theorem Hy:OpR X (LZ .Lt) (rP X.K gLt):=by
 intro pins s σ H x y v u Q I rx ry ⟨p,q,z,hp,hq,e,k⟩;unfold gLt at e;split at e
 ·rename_i i j
  cases e;cases (show x=.int i from hp);cases (show y=.int j from hq);exact Ht pins s σ H _ _ v u Q I rx ry ⟨i,j,rfl,rfl,k _ H (Same.refl H) rfl⟩
 ·rename_i i j
  cases e;cases (show x=.str i from hp);cases (show y=.str j from hq);exact vd pins s σ H _ _ v u Q I rx ry ⟨i,j,rfl,rfl,k _ H (Same.refl H) rfl⟩
 ·cases e
theorem HC:OpR X (LZ .Gt) (rP X.K gGt):=oV Hv fun p q z e=>by
 unfold gGt at e;split at e
 ·rename_i i j
  cases e;exact⟨i,j,rfl,rfl,_,fun _ _=>rfl,fun H Q q=>⟨i,j,rfl,rfl,q⟩⟩
 ·cases e
theorem JP:OpR X (LZ .LtE) (rP X.K gLe):=by
 intro pins s σ H x y v u Q I rx ry ⟨p,q,z,hp,hq,e,k⟩;unfold gLe at e;split at e
 ·rename_i i j
  cases e;cases (show x=.int i from hp);cases (show y=.int j from hq);exact Hu pins s σ H _ _ v u Q I rx ry ⟨i,j,rfl,rfl,k _ H (Same.refl H) rfl⟩
 ·rename_i i j
  cases e;cases (show x=.str i from hp);cases (show y=.str j from hq);obtain⟨t,rfl⟩:=rx;obtain⟨t',rfl⟩:=ry;exact PySem.P.le_str ⟨.bl _,H,I,rfl,k _ H (Same.refl H) rfl⟩
 ·cases e
theorem uQ{K:KA}{H:Hp}{p:PV}{v:V}(r:bc K H p v):decide (v=.non)=C3 p:=by
 cases p with
 | non=>cases (show v=.non from r);rfl
 | bl b=>cases (show v=.bl b from r);rfl
 | int b=>cases (show v=.int b from r);rfl
 | str b=>cases (show v=.str b from r);rfl
 | tup ps=>obtain⟨a,xs,rfl,_⟩:=bc.tup_inv r;rfl
 | lst ps=>obtain⟨a,xs,rfl,_⟩:=bc.lst_inv r;rfl
 | dct ks ps=>obtain⟨a,kvs,rfl,_⟩:=r;rfl
 | dtt ks ps=>obtain⟨a,kvs,rfl,_⟩:=r;rfl
 | fn L cs=>obtain⟨f,_,_,_,_,_,rfl,_⟩:=(show Rep K H (.fn L cs) v from r);rfl
theorem Ei:OpR X (LZ .Is) (rP X.K tQ):=by
 intro pins s σ H x y v u Q I rx ry ⟨p,q,z,hp,hq,e,k⟩;unfold tQ at e;split at e
 ·cases e
  cases (show y=.non from hq);refine Ef pins s σ H _ _ v u Q I rx ry ⟨rfl,?_⟩;rw[uQ hp];exact k _ H (Same.refl H) rfl
 ·cases e
theorem Eh:OpR X (LZ .IsNot) (rP X.K pI):=by
 intro pins s σ H x y v u Q I rx ry ⟨p,q,z,hp,hq,e,k⟩;unfold pI at e;split at e
 ·cases e
  cases (show y=.non from hq);refine BB pins s σ H _ _ v u Q I rx ry ⟨rfl,?_⟩;rw[uQ hp];exact k _ H (Same.refl H) rfl
 ·cases e
end
end PU
namespace PU
open PySem PySem.Spec PyProof.Rows L2 PySem.SeqAt
variable[TW]
theorem eL{K:KA}{H:Hp}{p:PV}{v:V}{k:Key}(e:fQ p=some k)(r:bc K H p v):v=kV k:=by
 cases p with
 | int i=>cases e;exact r
 | str i=>cases e;exact r
 | _=>cases e
theorem r8{K:KA}{H:Hp}{ps:List PV}{xs:List V}{i:Int}{p:PV}(r:aO K H ps xs)(e:atI ps i=some p):∃v,atI xs i=some v/\Rep K H p v:=by
 unfold atI at e ⊢;rw[← r.length];obtain⟨j,ej,e2⟩:=Kx.mp e;obtain⟨v,ev,rp⟩:=r.get e2;exact⟨v,by rw[ej];exact ev,rp⟩
section
variable{X : Cx}
theorem ixP(hu:X.A.units+64<cLine)(hw:X.w=TW.w:=by rfl):IxR X (rP X.K gIx):=by
 intro value slice pins s σ H x y v u Q I rx ry ⟨p,q,z,hp,hq,e,k⟩ hs;have h16:=Li;unfold gIx at e;split at e
 ·rename_i ps i
  obtain⟨a,xs,rfl,g,r⟩:=bc.lst_inv hp;cases (show y=.int i from hq);obtain⟨w,ew,rp⟩:=r8 r e;exact BZ value slice pins s σ H _ _ v u Q I rx ry ⟨a,xs,i,w,rfl,rfl,g.l,ew,k w H (Same.refl H) rp⟩ hs
 ·rename_i ps i
  obtain⟨a,xs,rfl,g,r⟩:=bc.tup_inv hp;cases (show y=.int i from hq);obtain⟨w,ew,rp⟩:=r8 r e;exact F7 value slice pins s σ H _ _ v u Q I rx ry ⟨a,xs,i,w,rfl,rfl,g,ew,k w H (Same.refl H) rp⟩ hs
 ·rename_i t i
  split at e
  ·rename_i hl
   obtain⟨c,ec,ez⟩:=KQ.mp e;subst ez;cases (show x=.str t from hp);cases (show y=.int i from hq);exact F8 value slice pins s σ H _ _ v u Q I rx ry ⟨t,i,c,rfl,rfl,by omega,ec,k _ H (Same.refl H) rfl⟩ hs
  ·cases e
 ·rename_i ks ps
  obtain⟨kk,ek,e⟩:=Kx.mp e;obtain⟨a,kvs,rfl,g,e1,r⟩:=hp;cases rx;have hy:=eL ek hq;subst hy;obtain⟨w,ew,rp⟩:=jg e1 r e;obtain⟨zz,hd,vs,rel,dd⟩:=DkR.at hw I g;obtain⟨w',hw,rw'⟩:=qO.some_of (v:=w) (o:=MG vs kk) (by rw[← ew];exact rel.val kk);exact tail_any dd.typeIs Q4.lookup (wpAny_getItem_of (lR ry) dd.mapOf hw ⟨w,H,I.tok _,rw',k w H (Same.refl H) rp⟩) hs
 ·cases e
theorem mE{K:KA}{H:Hp}:∀{qs:List PV}{xs:List V},qs.all pX=true->aO K H qs xs->xs=qs.map scV/\xs.all mM=true
 | [],_,_,r=>by cases r;exact⟨rfl,rfl⟩
 | q::qs,_,h,⟨x,t,e,h1,h2⟩=>by
  subst e;simp only[Mi,Lm] at h;obtain⟨e1,e2⟩:=mE h.2 h2;have hx:=cC h.1 h1.o;refine⟨by rw[KG,hx,e1],?_⟩;rw[Mi,e2,PL,hx];cases q <;> first | rfl | cases h.1
theorem nS{p:PV}(h:pX p=true):mM (scV p)=true:=by
 cases p <;> first | rfl | cases h
theorem HA(hu:X.A.units+64<cLine)(hw:X.w=TW.w:=by rfl):OpR X (LZ .In) (rP X.K gIn):=by
 intro pins s σ H x y v u Q I rx ry ⟨p,q,z,hp,hq,e,k⟩;unfold gIn at e;split at e
 ·rename_i i j
  cases e;cases (show x=.str i from hp);cases (show y=.str j from hq);exact ve pins s σ H _ _ v u Q I rx ry ⟨i,j,rfl,rfl,k _ H (Same.refl H) rfl⟩
 ·rename_i qs _
  split at e
  ·rename_i hc
   cases e;obtain⟨a,xs,rfl,g,r⟩:=bc.lst_inv hq;obtain⟨e1,e2⟩:=mE hc.2 r;refine p7 pins s σ H _ _ v u Q I rx ry ⟨a,xs,rfl,.inl g.l,by rw[cC hc.1 hp];exact nS hc.1,e2,?_⟩;rw[cC hc.1 hp,e1];exact k _ H (Same.refl H) rfl
  ·cases e
 ·rename_i qs _
  split at e
  ·rename_i hc
   cases e;obtain⟨a,xs,rfl,g,r⟩:=bc.tup_inv hq;obtain⟨e1,e2⟩:=mE hc.2 r;refine p7 pins s σ H _ _ v u Q I rx ry ⟨a,xs,rfl,.inr g,by rw[cC hc.1 hp];exact nS hc.1,e2,?_⟩;rw[cC hc.1 hp,e1];exact k _ H (Same.refl H) rfl
  ·cases e
 ·rename_i ks ps _
  obtain⟨kk,ek,ez⟩:=KQ.mp e;subst ez;obtain⟨a,kvs,rfl,g,e1,r⟩:=hq;cases ry;have hx:=eL ek hp;subst hx;obtain⟨zz,hd,vs,rel,dd⟩:=DkR.at hw I g;refine wpAny_in_of (lR rx) hd dd.mapOf ?_;rw[← (rel.val kk).isSome_eq,← kK];refine⟨.bl _,H,I.tok _,rfl,k _ H (Same.refl H) ?_⟩;subst e1;rw[NA];rfl
 ·cases e
theorem BE(hu:X.A.units+64<cLine)(hw:X.w=TW.w:=by rfl):OpR X (LZ .NotIn) (rP X.K iB):=by
 intro pins s σ H x y v u Q I rx ry ⟨p,q,z,hp,hq,e,k⟩;have e:=e;obtain⟨z0,e1,ez⟩:=Kx.mp e;clear e;have e:=e1;clear e1;unfold gIn at e;split at e
 ·rename_i i j _
  cases e;cases ez;cases (show x=.str i from hp);cases (show y=.str j from hq);exact p6 pins s σ H _ _ v u Q I rx ry ⟨i,j,rfl,rfl,k _ H (Same.refl H) rfl⟩
 ·rename_i qs _
  split at e
  ·rename_i hc
   cases e;cases ez;obtain⟨a,xs,rfl,g,r⟩:=bc.lst_inv hq;obtain⟨e1,e2⟩:=mE hc.2 r;refine kg pins s σ H _ _ v u Q I rx ry ⟨a,xs,rfl,.inl g.l,by rw[cC hc.1 hp];exact nS hc.1,e2,?_⟩;rw[cC hc.1 hp,e1];exact k _ H (Same.refl H) rfl
  ·cases e
 ·rename_i qs _
  split at e
  ·rename_i hc
   cases e;cases ez;obtain⟨a,xs,rfl,g,r⟩:=bc.tup_inv hq;obtain⟨e1,e2⟩:=mE hc.2 r;refine kg pins s σ H _ _ v u Q I rx ry ⟨a,xs,rfl,.inr g,by rw[cC hc.1 hp];exact nS hc.1,e2,?_⟩;rw[cC hc.1 hp,e1];exact k _ H (Same.refl H) rfl
  ·cases e
 ·rename_i ks ps _
  obtain⟨kk,ek,ez'⟩:=KQ.mp e;subst ez';cases ez;obtain⟨a,kvs,rfl,g,e1,r⟩:=hq;cases ry;have hx:=eL ek hp;subst hx;obtain⟨zz,hd,vs,rel,dd⟩:=DkR.at hw I g;refine wpAny_notIn_of (lR rx) hd dd.mapOf ?_;rw[← (rel.val kk).isSome_eq,← kK];refine⟨.bl _,H,I.tok _,rfl,k _ H (Same.refl H) ?_⟩;subst e1;rw[NA];rfl
 ·cases e
theorem uE(hw:X.w=TW.w):Jl X (fun v H Q=>∃p b,bc X.K H p v/\ub p=some b/\Q b H):=by
 intro pins s σ H x v Q I rx ⟨p,b,rp,e,q⟩;have h16:=Li;cases p with
 | non=>
  cases (show x=.non from rp);cases e;exact cZ pins s σ H _ v Q I rx ⟨_,rfl,q⟩
 | bl i=>
  cases (show x=.bl i from rp);cases e;exact cZ pins s σ H _ v Q I rx ⟨_,rfl,q⟩
 | int i=>
  cases (show x=.int i from rp);cases e;exact cZ pins s σ H _ v Q I rx ⟨_,rfl,q⟩
 | str i=>
  cases (show x=.str i from rp);simp only[ub] at e;split at e
  ·cases e
   exact cZ pins s σ H _ v Q I rx ⟨_,⟨by omega,rfl⟩,q⟩
  ·cases e
 | tup ps=>
  obtain⟨a,xs,rfl,g,r⟩:=bc.tup_inv rp;cases e;have:ps.isEmpty=xs.isEmpty:=by have:=r.length;cases ps <;> cases xs <;> simp_all
  exact cZ pins s σ H _ v Q I rx ⟨_,.inr (.inl ⟨xs,g,by rw[this]⟩),q⟩
 | lst ps=>
  obtain⟨a,xs,rfl,g,r⟩:=bc.lst_inv rp;cases e;have:ps.isEmpty=xs.isEmpty:=by have:=r.length;cases ps <;> cases xs <;> simp_all
  exact cZ pins s σ H _ v Q I rx ⟨_,.inl ⟨xs,g.l,by rw[this]⟩,q⟩
 | dct ks ps=>
  obtain⟨a,kvs,rfl,g,e1,r⟩:=rp;cases rx;cases e;obtain⟨hz,hS,vs,rel,m⟩:=DkR.at hw I g;have hlen:kvs.length=vs.length:=Ln rel;refine wpAny_truthy_dict hS m (by omega) ⟨H,I.tok _,?_⟩;rw[ny rel];subst e1;have:(kvs.map (·.1)).isEmpty=kvs.isEmpty:=by cases kvs <;> rfl
  rw[this] at q;exact q
 | dtt ks ps=>cases e
 | fn L cs=>cases e
end
section
variable{C : Cn}{a b c e : Expr}{f fa fb fc : PSt → R PV}{t u : PSt → R Bool}{rest : List Expr}{pos : Ma}
theorem eE(ha:EO C a f)(he:∀whole,isTrue a C.X.env whole=(do let v<- whole;standAt a.pos;holding [v] (truthy v)):=by intro _;rfl)(hw:C.X.w=TW.w:=by rfl):ET C a (bq f):=by
 intro pins s σ H Q I ⟨ρ,vw,q⟩;refine isTrue_plain (thn (ha pins s σ H (fun v H'=>∃p b,bc C.X.K H' p v/\ub p=some b/\Q b H') I ⟨ρ,vw,q.bind.imp fun p _ k v H' s' r=>?_⟩) fun v s1 ⟨x,H1,I1,r1,q1⟩=>uE hw pins s1 σ H1 x v Q I1 r1 q1) (he _);obtain⟨b,eb,k⟩:=k.ofO;exact⟨p,b,r,eb,k H' s'⟩
def pE(g:PV->PV->Option PV):Prop:=∀p q z,g p q=some z->∃b,z=.bl b
theorem aQ{op:CmpOp}{g:PV->PV->Option PV}(ho:OpR C.X (LZ op) (rP C.X.K g))(hg:pE g)(ha:EO C a fa)(hb:EO C b fb)(hm:OA op b=false:=by first | exact A9 _ | with_unfolding_all rfl):ET C (.Compare a [op] [b] pos) (bq (aj fa fb g)):=by
 intro pins s σ H Q I ⟨ρ,vw,q⟩;refine Bi ho ha hb hm pins s σ H Q I ?_;refine t2 vw (g:=g) (q.bind.imp fun p e k v H' s' r=>?_) fun _ _ _ _ h=>h
 have:∃b,p=.bl b:=by
  unfold aj at e;cases h1:fa ρ with
  | ok x=>
   rw[h1] at e;cases h2:fb ρ with
   | ok y=>
    rw[h2] at e;cases h3:g x y with
    | some z=>
     simp only[R.ok_bind,h3,R.ofO_some] at e;cases e;exact hg x y _ h3
    | none=>simp only[R.ok_bind,h3,R.ofO_none] at e;cases e
   | er x=>rw[h2] at e;cases e
   | no=>rw[h2] at e;cases e
  | er x=>rw[h1] at e;cases e
  | no=>rw[h1] at e;cases e
 obtain⟨b,rfl⟩:=this;cases (show v=.bl b from r);exact⟨b,rfl,k H' s'⟩
theorem EW.et(h:EW C e t):ET C e t:=PW.pt h
theorem me(ha:ET C a t):EW C (.BoolOp .And [a] pos) t:=Bf ha
theorem ju(ha:ET C a t):EW C (.BoolOp .Or [a] pos) t:=DR ha
theorem pM(ha:ET C a t)(hb:EW C (.BoolOp .And (b::rest) pos) u):EW C (.BoolOp .And (a::b::rest) pos) (pW t u):=by
 intro wh pins s σ H Q I ⟨ρ,vw,q⟩;refine DS ha hb wh pins s σ H Q I ⟨ρ,vw,q.bind.imp fun c _ k H' s'=>?_⟩;cases c with
 | true=>exact CV ⟨ρ,vw.same s',(k.same s').imp fun b _ k2 H2 s2=>k2 H2 (s'.trans s2)⟩
 | false=>exact CW (k H' s')
theorem m9(ha:ET C a t)(hb:EW C (.BoolOp .Or (b::rest) pos) u):EW C (.BoolOp .Or (a::b::rest) pos) (orB t u):=by
 intro wh pins s σ H Q I ⟨ρ,vw,q⟩;refine Hf ha hb wh pins s σ H Q I ⟨ρ,vw,q.bind.imp fun c _ k H' s'=>?_⟩;cases c with
 | true=>exact CV (k H' s')
 | false=>exact CW ⟨ρ,vw.same s',(k.same s').imp fun b _ k2 H2 s2=>k2 H2 (s'.trans s2)⟩
theorem mh(ha:ET C a t):ET C (.UnaryOp .Not a pos) (vg t):=by
 intro pins s σ H Q I ⟨ρ,vw,q⟩;exact DU ha pins s σ H Q I ⟨ρ,vw,q.bind.imp fun c _ k H' s'=>k H' s'⟩
theorem Aw{op}(h:EV C a f):EV C (.BoolOp op [a] pos) f:=E5 h
theorem wI(ha:EV C a fa)(hb:EV C (.BoolOp .And (b::rest) pos) fb):EV C (.BoolOp .And (a::b::rest) pos) (D4 fa fb):=by
 intro pins s σ H Q I ⟨ρ,vw,q⟩;refine Ea ha hb pins s σ H Q I ⟨ρ,vw,q.bind.imp fun p _ k v H' s' r=>?_⟩;cases p with
 | bl c=>
  cases (show v=.bl c from r);refine⟨c,rfl,?_⟩;cases c with
  | true=>exact CV ⟨ρ,vw.same s',(RQ.same k s').imp fun z _ k2 v2 H2 s2 r2=>k2 v2 H2 (s'.trans s2) r2⟩
  | false=>exact CW (k _ H' s' rfl)
 | _=>exact KJ k
theorem Fs(hc:ET C c t)(ha:EV C a fa)(hb:EV C b fb):EV C (.IfExp c a b pos) (ifV t fa fb):=by
 intro pins s σ H Q I ⟨ρ,vw,q⟩;refine yq hc ha hb pins s σ H Q I ⟨ρ,vw,q.bind.imp fun c _ k H' s'=>?_⟩;cases c with
 | true=>exact CV ⟨ρ,vw.same s',(RQ.same k s').imp fun z _ k2 v2 H2 s2 r2=>k2 v2 H2 (s'.trans s2) r2⟩
 | false=>exact CW ⟨ρ,vw.same s',(RQ.same k s').imp fun z _ k2 v2 H2 s2 r2=>k2 v2 H2 (s'.trans s2) r2⟩
end
theorem b9:pE gEq:=fun p q z e=>by
 unfold gEq at e;split at e
 ·split at e
  ·obtain⟨b,_,ez⟩:=KQ.mp e
   exact⟨b,ez.symm⟩
  ·cases e
 ·split at e
  ·obtain⟨b,_,ez⟩:=KQ.mp e
   exact⟨b,ez.symm⟩
  ·cases e
 ·split at e
  ·obtain⟨b,_,ez⟩:=KQ.mp e
   exact⟨b,ez.symm⟩
  ·cases e
 ·split at e
  ·cases e
   exact⟨_,rfl⟩
  ·cases e
theorem jR:pE gNe:=fun p q z e=>by
 unfold gNe at e;split at e
 ·split at e
  ·obtain⟨b,_,ez⟩:=KQ.mp e;exact⟨_,ez.symm⟩
  ·cases e
 ·split at e
  ·obtain⟨b,_,ez⟩:=KQ.mp e;exact⟨_,ez.symm⟩
  ·cases e
 ·split at e
  ·cases e;exact⟨_,rfl⟩
  ·cases e
theorem qA:pE gLt:=fun p q z e=>by unfold gLt at e;split at e <;> cases e <;> exact⟨_,rfl⟩
theorem C5:pE gLe:=fun p q z e=>by unfold gLe at e;split at e <;> cases e <;> exact⟨_,rfl⟩
theorem qC:pE gGt:=fun p q z e=>by unfold gGt at e;split at e <;> cases e <;> exact⟨_,rfl⟩
theorem rY:pE tQ:=fun p q z e=>by unfold tQ at e;split at e <;> cases e <;> exact⟨_,rfl⟩
theorem vR:pE pI:=fun p q z e=>by unfold pI at e;split at e <;> cases e <;> exact⟨_,rfl⟩
theorem qB:pE gIn:=fun p q z e=>by
 unfold gIn at e;split at e
 ·cases e;exact⟨_,rfl⟩
 ·split at e <;> cases e;exact⟨_,rfl⟩
 ·split at e <;> cases e;exact⟨_,rfl⟩
 ·obtain⟨b,_,ez⟩:=KQ.mp e;exact⟨_,ez.symm⟩
 ·cases e
theorem tJ:pE iB:=fun p q z e=>by
 obtain⟨z0,e,ez⟩:=Kx.mp e;cases z0 <;> cases ez
 exact⟨_,rfl⟩
end PU
namespace PU
open PySem PySem.Spec PyProof.Rows L2 PySem.SeqAt
variable[TW]
def r1(K:KA)(g:PV->Option PV):List V->Hp->VK->Prop:=fun vs H Q=>∃v p z,vs=[v]/\bc K H p v/\g p=some z/\∀w H',Same H H'->Rep K H' z w->Q w H'
def rn1(K:KA)(g:PV->Option PV):List V->Hp->VK->Prop:=fun vs H Q=>∃v p z,vs=[v]/\bc K H p v/\g p=some z/\∀a H',Same H H'->H a=none->cH K H' a z->Q (.ref a) H'
section
variable{C : Cn}{e : Expr}{f : PSt → R PV}{g : PV → Option PV}{x : Str}{p pos : Ma}{id T : String}
theorem t1{σ:L2.St}{H:Hp}{Q:VK}{ρ:PSt}(vw:View C.X.K H σ ρ)(q:RQ C H (un1 f g ρ) fun p=>∀v H',Same H H'->Rep C.X.K H' p v->Q v H'):tCB (r1 C.X.K g) (tA1 C f) σ H Q:=by
 refine⟨ρ,vw,q.bind.imp fun p _ k v H1 s1 r1=>?_⟩;obtain⟨z,ez,k⟩:=k.ofO;exact⟨v,p,z,rfl,r1,ez,fun w H' s' r'=>k w H' (s1.trans s') r'⟩
theorem tn1{σ:L2.St}{H:Hp}{Q:VK}{ρ:PSt}(vw:View C.X.K H σ ρ)(q:RQ C H (un1 f g ρ) fun p=>∀a H',Same H H'->H a=none->cH C.X.K H' a p->Q (.ref a) H'):tCB (rn1 C.X.K g) (tA1 C f) σ H Q:=by
 refine⟨ρ,vw,q.bind.imp fun p _ k v H1 s1 r1=>?_⟩;obtain⟨z,ez,k⟩:=k.ofO;exact⟨v,p,z,rfl,r1,ez,fun a H' s' n' r'=>k a H' (s1.trans s') (s1.free n') r'⟩
theorem jW (hc:iZ C.X (.builtin id) (r1 C.X.K g)) (hg:Gl C.X x) (hm:C.X.mg x=none) (hv:MY x=some (.builtin id)) (ha:EO C e f) (hn:x≠"__name__":=by decide) (hdb:(x == ("__debug__":Str))=false:=by decide)
  (hs:LA [e] C.X.env=[(false,M7 e C.X.env)]:=by exact cT rfl):EV C (.Call (.Name x p) [e] [] pos) (un1 f g):=by
 intro pins s σ H Q I ⟨ρ,vw,q⟩;exact rD hc hg hm hv (sv ha hs) hn hdb hs (by rfl) pins s σ H Q I (t1 vw q)
theorem yX (hc:iZ C.X (.type T) (r1 C.X.K g)) (hg:Gl C.X x) (hm:C.X.mg x=none) (hv:MY x=some (.type T)) (ha:EO C e f) (hn:x≠"__name__":=by decide) (hdb:(x == ("__debug__":Str))=false:=by decide)
  (hs:LA [e] C.X.env=[(false,M7 e C.X.env)]:=by exact cT rfl):EV C (.Call (.Name x p) [e] [] pos) (un1 f g):=by
 intro pins s σ H Q I ⟨ρ,vw,q⟩;exact oX hc hg hm hv (sv ha hs) hn hdb hs (by rfl) pins s σ H Q I (t1 vw q)
theorem yZ (hc:iZ C.X (.type T) (rn1 C.X.K g)) (hg:Gl C.X x) (hm:C.X.mg x=none) (hv:MY x=some (.type T)) (ha:EO C e f) (hn:x≠"__name__":=by decide) (hdb:(x == ("__debug__":Str))=false:=by decide)
  (hs:LA [e] C.X.env=[(false,M7 e C.X.env)]:=by exact cT rfl):EN C (.Call (.Name x p) [e] [] pos) (un1 f g):=by
 intro pins s σ H Q I ⟨ρ,vw,q⟩;exact oX hc hg hm hv (sv ha hs) hn hdb hs (by rfl) pins s σ H Q I (tn1 vw q)
end
section
variable{X : Cx}
theorem u5 (hw:X.w=TW.w:=by rfl):iZ X (.builtin "len") (r1 X.K gT):=by
 intro pins s σ H xs us Q I r ⟨v,p,z,e1,rp,ez,k⟩;have h16:=Li;subst e1;cases p with
 | lst ps=>
  obtain⟨a,xs,rfl,g,rr⟩:=bc.lst_inv rp;cases ez;exact oB pins s σ H _ us Q I r ⟨_,_,rfl,.inl ⟨xs,g.l,rfl⟩,by rw[← rr.length];exact k _ H (Same.refl H) rfl⟩
 | tup ps=>
  obtain⟨a,xs,rfl,g,rr⟩:=bc.tup_inv rp;cases ez;exact oB pins s σ H _ us Q I r ⟨_,_,rfl,.inr ⟨xs,g,rfl⟩,by rw[← rr.length];exact k _ H (Same.refl H) rfl⟩
 | str x=>
  simp only[gT] at ez;split at ez
  ·cases ez
   cases (show v=.str x from rp);exact oB pins s σ H _ us Q I r ⟨_,_,rfl,⟨by omega,rfl⟩,k _ H (Same.refl H) rfl⟩
  ·cases ez
 | dct ks ps=>
  obtain⟨a,kvs,rfl,g,e1,rr⟩:=rp;cases ez;obtain⟨u,rfl,ru⟩:=vals1 r;cases ru;obtain⟨hz,hS,vs,rel,m⟩:=DkR.at hw I g;have hlen:kvs.length=vs.length:=Ln rel;subst e1;rw[KH,hlen] at k;exact call_len_dict hS m (by omega) ⟨.int vs.length,H,I.tok _,⟨_,rfl⟩,k _ H (Same.refl H) rfl⟩
 | _=>cases ez
theorem cInt:iZ X (.type "int") (r1 X.K wm):=by
 intro pins s σ H xs us Q I r ⟨v,p,z,e1,rp,ez,k⟩;subst e1;cases p with
 | int i=>cases ez;cases (show v=.int i from rp);exact pR pins s σ H _ us Q I r (.inl ⟨i,rfl,k _ H (Same.refl H) rfl⟩)
 | bl i=>cases ez;cases (show v=.bl i from rp);exact pR pins s σ H _ us Q I r (.inr ⟨i,rfl,k _ H (Same.refl H) rfl⟩)
 | _=>cases ez
theorem AC:iZ X (.type "tuple") (r1 X.K pH):=by
 intro pins s σ H xs us Q I r ⟨v,p,z,e1,rp,ez,k⟩;subst e1;cases p with
 | lst ps=>
  obtain⟨a,xs,rfl,g,rr⟩:=bc.lst_inv rp;cases ez;exact jy pins s σ H _ us Q I r ⟨a,xs,rfl,.inl ⟨g.l,fun l hl=>k _ _ (Same.new hl) ⟨l,xs,rfl,aF,rr.same (Same.new hl)⟩⟩⟩
 | tup ps=>
  obtain⟨a,xs,rfl,g,rr⟩:=bc.tup_inv rp;cases ez;exact jy pins s σ H _ us Q I r ⟨a,xs,rfl,.inr ⟨g,k _ H (Same.refl H) rp⟩⟩
 | _=>cases ez
end
section
variable{C : Cn}{e tg : Expr}{f : PSt → R PV}{pos : Ma}
theorem C1{K:KA}{H:Hp}{a:Addr}{xs:List V}{ps:List PV}(g:SqF K H a xs)(r:aO K H ps xs):ItP K (Itl K a) H ps:=fun i H' k=>by
 have g':=(k.sqF g).l.l;have r':=aO.kp k ps r;have hl:=r'.length;refine⟨fun h=>⟨xs,g',by omega⟩,fun p e=>?_⟩;obtain⟨x,ex,rp⟩:=r'.get e
 exact⟨⟨xs,x,g',ex⟩,fun y H2 ⟨eh,hy⟩=>by
  subst eh;have:=hy xs g';rw[ex] at this;cases this;exact⟨Same.refl _,rp⟩⟩
theorem F9{K:KA}{H:Hp}{a:Addr}{xs:List V}{ps:List PV}(g:SqT K H a xs)(r:aO K H ps xs):ItP K (Itt K a) H ps:=fun i H' k=>by
 have g':=k.sqT g;have r':=aO.kp k ps r;have hl:=r'.length;refine⟨fun h=>⟨xs,g',by omega⟩,fun p e=>?_⟩;obtain⟨x,ex,rp⟩:=r'.get e
 exact⟨⟨xs,x,g',ex⟩,fun y H2 ⟨eh,hy⟩=>by
  subst eh;have:=hy xs g';rw[ex] at this;cases this;exact⟨Same.refl _,rp⟩⟩
theorem rX{K:KA}{H:Hp}{lo:Int}{n:Nat}:ItP K (Itr lo n) H (cn lo n):=fun i H' k=>by
 refine⟨fun h=>?_,fun p e=>?_⟩
 ·have:n<=i:=by simp[cn] at h;omega
  exact this
 ·unfold cn at e
  rw[L3] at e
  have hi:i<n:=by
   by_cases hi:i<n
   ·exact hi
   ·rw[Os (by simpa using hi)] at e
    cases e
  rw[O7 hi] at e;cases e;exact⟨hi,fun y H2 ⟨eh,hy⟩=>by subst eh hy;exact⟨Same.refl _,rfl⟩⟩
theorem gW {p:Ma} (hg:Gl C.X "range") (hm:C.X.mg "range"=none) (he:EV C e f) (hs:LA [e] C.X.env=[(false,M7 e C.X.env)]:=by exact cT rfl):EI C tg (.Call (.Name "range" p) [e] [] pos) (zL f):=by
 intro pins s σ H Rk I ⟨ρ,vw,q⟩;refine v7 hg hm (cX he iz hs) hs pins s σ H Rk I ⟨ρ,vw,q.bind.imp fun p _ k v H1 s1 r1=>?_⟩;cases p with
 | int j=>
  cases (show v=.int j from r1)
  by_cases hj:j.natAbs<1000000000
  ·have k:RQ C H (if j.natAbs<1000000000 then R.ok (cn 0 j.toNat) else R.no) fun ps=>∀J H',Same H H'->ItP C.X.K J H' ps->Rk J H':=k
   rw[if_pos hj] at k;exact⟨j,rfl,by omega,by omega,k _ H1 s1 rX⟩
  ·have k:RQ C H (if j.natAbs<1000000000 then R.ok (cn 0 j.toNat) else R.no) fun ps=>∀J H',Same H H'->ItP C.X.K J H' ps->Rk J H':=k
   rw[if_neg hj] at k;exact KJ k
 | _=>exact KJ k
end
section
variable{C : Cn}{e : Expr}{f : PSt → R PV}{pos apos cpos : Ma}
theorem dI(i:Nat){x:Str}{np:Ma}(he:EV C e f)(hs:LA [e] C.X.env=[(false,M7 e C.X.env)]:=by exact cT rfl)
  (hb:Pm (.Name x np) "append" C.X.env (M7 (.Name x np) C.X.env)=M7 (.Name x np) C.X.env:=by rfl) (hline:(apos.endLine == cpos.line)=true:=by rfl)
  (hd:(x == ("__debug__":Str))=false:=by decide) (hcd:(x == ("__classdict__":Str))=false:=by decide) (hN:C.X.N[i]?=some x:=by rfl) (hv:Vis C.X.env.scope x:=by first | exact .inl rfl | exact .inr (.inl rfl) | exact .inr (.inr rfl)):SV C (.Expr (.Call (.Attribute (.Name x np) "append" apos) [e] [] cpos) pos) (oG i f):=by
 intro pins s σ H D I ⟨ρ,B,S,q⟩;unfold oG at q;split at q
 ·rename_i ps e1
  obtain⟨a,e2,xs,hx,rr⟩:=S.vw i _ e1;refine Bj (E9 PySem.F.plainAttrs_list Qw PySem.F.type_list_append p8 (gw hN hv hd hcd) (cX he iz hs) hb (by rw[hs];rfl) hline hs (by rfl)) (by rfl) pins s σ H D I ?_;refine⟨_,e2,.inl ⟨rfl,xs,SqL.of hx⟩,ρ,S.vw,(RS.bind q S.same).imp fun p _ q' v H1 s1 r1=>?_⟩
  by_cases hl:ps.length<16777216
  ·rw[if_pos hl] at q'
   refine⟨a,xs,v,rfl,rfl,s1 _ _ hx,by rw[Li,← rr.length];exact hl,?_⟩;refine q' σ _ ((S.grow s1).turn e1 e2 (fun b hb=>aL hb) ?_);have kp:Kp H1 (upd H1 a (.lst (xs++[v]))):=Kp.upd (s1 _ _ hx) rfl;exact⟨a,rfl,xs++[v],aF,aO.append (aO.kp kp _ (rr.same s1)) (aO.cons (Rep.kp kp _ r1) aO.nil)⟩
  ·rw[if_neg hl] at q'
   exact KJ q'
 ·exact KJ q
end
end PU
namespace PU
open PySem PySem.Spec PyProof.Rows L2 PySem.SeqAt
variable[TW]
section
variable{C : Cn}
theorem aA(i:Nat){x:Str}{pos:Ma}(hN:C.X.N[i]?=some x:=by rfl)(hv:Vis C.X.env.scope x:=by first | exact PD rfl | exact Oo (PD rfl) | exact Oo (Oo rfl))
  (hd:(x == ("__debug__":Str))=false:=by decide) (hcd:(x == ("__classdict__":Str))=false:=by decide):EV C (.Name x pos) (ai i):=Fp i hN hv hd hcd
theorem kH(i:Nat){x:Str}{pos:Ma}(hN:C.X.N[i]?=some x:=by rfl)(hv:Vis C.X.env.scope x:=by first | exact PD rfl | exact Oo (PD rfl) | exact Oo (Oo rfl))
  (hd:(x == ("__debug__":Str))=false:=by decide) (hcd:(x == ("__classdict__":Str))=false:=by decide):EO C (.Name x pos) (dz i):=Fu i hN hv hd hcd
variable{a b c : Expr}{fa fb fc : PSt → R PV}{pos : Ma}
end
end PU
namespace PU
open PySem PySem.Spec PyProof.Rows L2 PySem.SeqAt
variable[TW]
section
variable{X : Cx}{pins : List (Addr×Obj)}{σ : L2.St}{H : Hp}{s : KC}
theorem _root_.L2.Inv.turnedL{wr:List Addr}{h':Heap}{t':Nat}(I:L2.Inv X pins σ H s)(k:∀b o,b ∉ wr->s.heap.get? b=some o->h'.get? b=some o)(hw:∀b∈wr,sL X pins H b):L2.Inv X pins σ H { s with heap:=h',toks:=t' }:=by
 have nw:∀b u,H b=some u->b ∉ wr:=fun b u e z=>by rw[(hw b z).1] at e;cases e
 refine I.step (g':=s.gens) (d':=s.drawn) (ch:=wr) (fun b hb=>?_) (fun b o _ _ hc e _=>k b o hc e) (fun b o _ _ hc e _=>⟨o.slots,k b o hc e⟩) (fun _ _ _ _ n=>n)
  (fun b o hc e=>⟨o,k b o hc e⟩) (fun _ _ e=>e) (fun _ _ _ e=>e) (fun b ps e=>⟨#[],by rw[e];simp⟩) (fun m hm=>?_) (fun b u e=>?_) I.bare
 ·obtain⟨g1,g2,g3,g4,g5,g6⟩:=hw b hb
  exact⟨g4,g2,g5,g6⟩
 ·obtain⟨o,es,ep,ho,r⟩:=hm
  exact⟨o,es,ep,k _ o (fun z=>(hw _ z).2.1 rfl) ho,r⟩
 ·refine(I.hok b u e).stay (fun c v hc q=>k c v ?_ q) (fun _ q=>q) fun _ _ q=>q
  rcases hc with z | z
  ·rw[z];exact nw b u e
  ·exact nw c _ z
theorem _root_.L2.Inv.tupled{wr:List Addr}{h':Heap}{t':Nat}{T:Addr}{vals:List KB}{xs:List V}(I:L2.Inv X pins σ H s)(k:∀b o,b ∉ wr->s.heap.get? b=some o->h'.get? b=some o)(hw:∀b∈wr,sL X pins H b)(hws:∀b∈wr,b<s.heap.objs.size)
  (hT:s.heap.objs.size<=T) (ht:h'.IsTuple T vals.toArray) (rv:Vals xs vals) (hz:xs.length<=sizeLine) (hnr:¬ ∀v∈vals,∃b,v=M5 b):L2.Inv X pins σ (upd H T (.tup xs)) { s with heap:=h',toks:=t' }:=by
 have nw:∀b u,H b=some u->b ∉ wr:=fun b u e z=>by rw[(hw b z).1] at e;cases e
 have nT:H T=none:=I.hok.fresh hT;have neT:∀b u,H b=some u->b≠T:=fun b u e=>bB e nT
 have lo:∀b o,s.heap.get? b=some o->b≠T:=fun b o e z=>by
  subst z;exact absurd (KZ e) (QK.mpr hT)
 have hlt:X.env.locals≠T:=fun z=>absurd I.lt (by rw[z];exact QK.mpr hT)
 refine I.step (g':=s.gens) (d':=s.drawn) (ch:=wr) (fun b hb=>?_) (fun b o _ _ hc e _=>k b o hc e) (fun b o _ _ hc e _=>⟨o.slots,k b o hc e⟩) (fun b o _ e n=>by rw[aL (lo b o e)];exact n)
  (fun b o hc e=>⟨o,k b o hc e⟩) (fun b xs e=>by rw[aL (neT _ _ e)];exact e) (fun b o u e=>by rw[aL (neT _ _ e)];exact e) (fun b ps e=>⟨#[],by rw[aL (neT _ _ e),e];simp⟩) (fun m hm=>?_) (fun b u e=>?_) I.bare
 ·obtain⟨g1,g2,g3,g4,g5,g6⟩:=hw b hb
  exact⟨g4,g2,g5,g6⟩
 ·obtain⟨o,es,ep,ho,r⟩:=hm
  exact⟨o,es,ep,k _ o (fun z=>(hw _ z).2.1 rfl) ho,r⟩
 ·by_cases hb:b=T
  ·subst hb
   rw[aF] at e;cases e;obtain⟨o,e1,e2,e3⟩:=ht;exact⟨hz,vals,rv,o,e1,e2,e3,fun h=>absurd h hnr⟩
  ·rw[aL hb] at e
   refine(I.hok b u e).stay (fun c v hc q=>k c v ?_ q) (fun c q=>by rw[aL (neT _ _ q)];exact q) fun c ys q=>by rw[aL (neT _ _ q)];exact q
   rcases hc with z | z
   ·rw[z];exact nw b u e
   ·exact nw c _ z
end
theorem uD{P:L6}{w:LI}{K:KA}{elts:List Expr}{kk:Nat}{tp:Ma}{it:Addr}{fp wr:List Addr}{n:Nat}{own:Nat->Heap->Prop}{J:It}
  (W:∀(X:Cx)(pins:List (Addr×Obj))(σ:L2.St)(H:Hp)(s:KC)(i:Nat),X.prog=P->X.w=w->X.K=K->X.calm=true->L2.Inv X pins σ H s->own i s.heap->J.go i H\/J.stop i H->
   ∃(more:List Addr)(Pt:Nat->Array KB->Prop)(St:Nat->Heap->Prop)(Mid:Nat->Addr->Heap->Prop),WalksT P w X.A it more wr n Pt St Mid/\St i s.heap/\(∀j h,St j h->own j h)/\
    ∀vals,Pt i vals->∃xs,Vals xs vals.toList/\xs.length<=sizeLine/\(¬ ∀v∈vals.toList,∃b,v=M5 b)/\∀T,H T=none->J.yld i H (.ref T) (upd H T (.tup xs)))
  (hI:it∈fp) (hwr:∀b∈wr,b∈fp)
  (obj:∀i h,own i h->∀b∈fp,∃o,h.get? b=some o/\∀v,o.data≠.cell v) (keep:∀i h h',own i h->(∀b∈fp,∀o,h.get? b=some o->h'.get? b=some o)->own i h')
  (hgo:∀i H,J.go i H->i<n) (hstop:∀i H,J.stop i H->i=n)
  (self:∀(A:LR)(i:Nat)(s:KC)(Q:KB->KC->Prop)(E:KB->KC->Prop),own i s.heap->Q (.ref it) s->LC (LU P w) A (pyIter (.ref it)) Q E s) :
  Turn P w K (.Tuple elts kk tp) J fp it own where
 mem:=hI
 obj:=obj
 keep:=keep
 item:=by
  intro X hP hw hK hc i pins s σ H E I hf st hg;obtain⟨more,Pt,St,Mid,W',st',ofSt,hval⟩:=W X pins σ H s i hP hw hK hc I st (.inl hg);subst hP hw hK;refine W'.item i s _ _ (hgo i H hg) st' fun T vals h' tk hPt hT hTup hMid hk=>?_;obtain⟨xs,rv,hz,hnr,hy⟩:=hval vals hPt;have nT:H T=none:=I.hok.fresh hT;have hfw:∀b∈wr,sL X pins H b:=fun b hb=>hf b (hwr b hb)
  have hws:∀b∈wr,b<s.heap.objs.size:=fun b hb=>by
   obtain⟨o,e,_⟩:=obj i _ st b (hwr b hb);exact KZ e
  have I1:L2.Inv X pins σ (upd H T (.tup xs)) { s with heap:=h',toks:=tk }:=I.tupled (vals:=vals.toList) hk hfw hws hT (by simpa using hTup) rv hz hnr;refine⟨_,rfl,W'.go elts kk tp i T _ _ _ hMid fun h'' st'' hk''=>?_⟩
  have fne:∀b∈fp,upd H T (.tup xs) b=none:=fun b hb=>by
   obtain⟨o,e,_⟩:=obj i _ st b hb;rw[aL (LQ (KY (KZ e) hT))];exact(hf b hb).1
  have I2:L2.Inv X pins σ (upd H T (.tup xs)) { s with heap:=h'',toks:=tk }:=L2.Inv.turnedL (s:={ s with heap:=h',toks:=tk }) (wr:=wr) (t':=tk) I1 hk'' fun b hb=>⟨fne b (hwr b hb),(hfw b hb).2⟩;exact⟨.ref T,_,I2,rfl,hy T nT,ofSt _ _ st'',fne⟩
 done:=by
  intro X hP hw hK hc i pins s σ H E I hf st hg;obtain⟨more,Pt,St,Mid,W',st',ofSt,hval⟩:=W X pins σ H s i hP hw hK hc I st (.inr hg);subst hP hw hK;have e:=hstop i H hg;subst e;refine W'.done s _ _ st' fun h' tk hk=>⟨rfl,?_⟩;exact I.turnedL hk fun b hb=>hf b (hwr b hb)
 self:=self
def oE(n:Nat)(Gd:Hp->Prop)(xs:List (List V)):It:=
 ⟨fun i H=>i<n/\Gd H,fun i H x H'=>∃T ys,x=.ref T/\H T=none/\xs[i]?=some ys/\H'=upd H T (.tup ys),fun i H=>i=n/\Gd H⟩
theorem qy{K:KA}{H₁:Hp}{n:Nat}{Gd:Hp->Prop}{xs:List (List V)}{pss:List (List PV)}(hn:pss.length=n)(hg:∀H,Kp H₁ H->Gd H)(r:∀(i:Nat)(ps:List PV)(ys:List V),pss[i]?=some ps->xs[i]?=some ys->aO K H₁ ps ys) :
  ItP K (oE n Gd xs) H₁ (pss.map PV.tup):=fun i H k=>by
 refine⟨fun h=>⟨by rw[h,KH,hn],hg H k⟩,fun p e=>?_⟩;rw[L3] at e;cases hp:pss[i]? with
 | none=>rw[hp] at e;cases e
 | some ps=>
  rw[hp] at e;cases e;have hi:i<n:=by rw[← hn];exact(KN.mp hp).1
  refine⟨⟨hi,hg H k⟩,fun x H' ⟨T,ys,ex,nT,ey,eH⟩=>?_⟩;subst ex eH;refine⟨Same.new nT,T,ys,rfl,aF,?_⟩;exact(aO.kp k ps (r i ps ys hp ey)).same (Same.new nT)
end PU
namespace PU
open PySem PySem.Spec PyProof.Rows L2 PySem.SeqAt
variable[TW]
theorem mN:MY "enumerate"=some (.type "enumerate"):=by decide +kernel
def oQ(x:Str):List V:=x.cps.toList.map fun c=>.str ⟨#[c]⟩
theorem sX{K:KA}{H:Hp}(x:Str):aO K H (gB x) (oQ x):=by
 unfold gB oQ
 induction x.cps.toList with
 | nil=>rfl
 | cons c r ih=>exact⟨_,_,rfl,rfl,ih⟩
def CT(xs:List V):List (List V):=(KM xs.length).zipWith (fun (i:Nat) x=>[.int (i:Int),x]) xs
theorem qj{α β:Type}(f:Nat->α->β)(l:List α)(i:Nat):((KM l.length).zipWith f l)[i]?=l[i]?.map (f i):=by
 rw[Oq]
 by_cases hi:i<l.length
 ·rw[O7 hi]
  simp[hi]
 ·rw[Os (by simpa using hi)]
  simp[hi]
theorem rH{K:KA}{H:Hp}{ps:List PV}{xs:List V}(r:aO K H ps xs):∀(i:Nat)(qs:List PV)(ys:List V),(A0 ps)[i]?=some qs->(CT xs)[i]?=some ys->aO K H qs ys:=fun i qs ys h1 h2=>by
 unfold A0 at h1;unfold CT at h2;rw[qj] at h1 h2;cases e:ps[i]? with
 | none=>rw[e] at h1;cases h1
 | some p=>
  rw[e] at h1;obtain⟨x,ex,rp⟩:=r.get e;rw[ex] at h2;cases h1;cases h2;exact⟨_,_,rfl,rfl,_,_,rfl,rp,rfl⟩
theorem rJ(ps:List PV):(A0 ps).length=ps.length:=by simp[A0]
section
variable{P : L6}{w : LI}{K : KA}{elts : List Expr}{kk : Nat}{tp : Ma}
theorem sS(a it e:Addr)(xs:List V)(hne:e≠it)(hae:a≠e)(hai:a≠it) :
  Turn P w K (.Tuple elts kk tp) (oE xs.length (fun H=>SqL K H a xs) (CT xs)) [e,it] e (fun i h=>(∃old,IsEnum h e it i old)/\h.IsListIter it a i):=by
 refine uD (wr:=[e,it]) (n:=xs.length) (fun X pins σ H s i hP hw hK hc I st hg=>?_) (by simp) (fun b hb=>hb) (fun i h st b hb=>?_) (fun i h h' st k=>?_) (fun i H h=>h.1) (fun i H h=>h.1) fun A i s Q E st h=>Oc st.1.choose_spec h
 ·subst hP hw hK
  have hq:SqL X.K H a xs:=by rcases hg with h | h <;> exact h.2
  obtain⟨its,rv,pl,hz⟩:=I.list hq;have hl:=rv.length;have W:=RV (A:=X.A) (Draws.list (prog:=X.prog) (w:=X.w) (A:=X.A.in1) (I.ok.hd hc) it a hai its.toArray) e hne (by simp[hne,N3 hae]) (by simp);rw[show its.toArray.size=xs.length by simp[hl]] at W;refine⟨_,_,_,_,W,⟨st.1,st.2,pl.isList⟩,fun j h st=>⟨st.1,st.2.1⟩,fun vals hv=>?_⟩;obtain⟨t,x,hx,rfl⟩:=hv;have hx:its[i]?=some x:=by simpa using hx
  have hi:i<xs.length:=by rw[hl];exact(KN.mp hx).1
  have e1:xs[i]?=some xs[i]:=by simp[hi]
  obtain⟨u,eu,ru⟩:=rv.get e1;rw[hx] at eu;cases eu;refine⟨[.int i,xs[i]],.cons ⟨t,rfl⟩ (.cons ru .nil),by show 2<=sizeLine;decide,fun z=>(by obtain⟨b,z⟩:=z _ LO;cases z),fun T hT=>⟨T,_,rfl,hT,?_,rfl⟩⟩;unfold CT;rw[qj,e1];rfl
 ·obtain⟨⟨old,he⟩,o,ho,hc,hd⟩:=st
  rcases L4.mp hb with rfl | hb
  ·exact⟨_,he,fun v z=>by cases (show Q1 _=P6 v from z)⟩
  ·have:b=it:=by simpa using hb
   subst this;exact⟨o,ho,fun v z=>by rw[hd] at z;cases z⟩
 ·obtain⟨⟨old,he⟩,hi⟩:=st
  exact⟨⟨old,k e (by simp) _ he⟩,hi.at fun o x=>k it (by simp) o x⟩
theorem wQ{prog:L6}{w:LI}{A:LR}(hh:A.handled=none)(it:Addr)(x:Str)(t:Tok) :
  Draws prog w A it [it] x.cps.size (fun i v=>∃c u,x.cps[i]?=some c/\v=.str ⟨#[c]⟩ u) (fun i h=>h.IsStrIter it (ND x) x t i):=by
 unfold ND
 split
 ·exact Draws.strAscii hh it x t
 ·exact Draws.strWide hh it x t
theorem sR(it e:Addr)(x:Str)(t:Tok)(hne:e≠it) :
  Turn P w K (.Tuple elts kk tp) (oE x.cps.size (fun _=>True) (CT (oQ x))) [e,it] e (fun i h=>(∃old,IsEnum h e it i old)/\h.IsStrIter it (ND x) x t i):=by
 refine uD (wr:=[e,it]) (n:=x.cps.size) (fun X pins σ H s i hP hw hK hc I st hg=>?_) (by simp) (fun b hb=>hb) (fun i h st b hb=>?_) (fun i h h' st k=>?_) (fun i H h=>h.1) (fun i H h=>h.1) fun A i s Q E st h=>Oc st.1.choose_spec h
 ·subst hP hw hK
  refine⟨_,_,_,_,RV (A:=X.A) (wQ (A:=X.A.in1) (I.ok.hd hc) it x t) e hne (by simp[hne]) (by simp),⟨st.1,st.2⟩,fun j h st=>⟨st.1,st.2⟩,fun vals hv=>?_⟩;obtain⟨t',v,⟨c,u,hc',rfl⟩,rfl⟩:=hv
  have e1:(oQ x)[i]?=some (.str ⟨#[c]⟩):=by
   unfold oQ;rw[L3];simp[hc']
  refine⟨[.int i,.str ⟨#[c]⟩],.cons ⟨t',rfl⟩ (.cons ⟨u,rfl⟩ .nil),by show 2<=sizeLine;decide,fun z=>(by obtain⟨b,z⟩:=z _ LO;cases z),fun T hT=>⟨T,_,rfl,hT,?_,rfl⟩⟩;unfold CT;rw[qj,e1];rfl
 ·obtain⟨⟨old,he⟩,o,ho,hc,hd⟩:=st
  rcases L4.mp hb with rfl | hb
  ·exact⟨_,he,fun v z=>by cases (show Q1 _=P6 v from z)⟩
  ·have:b=it:=by simpa using hb
   subst this;exact⟨o,ho,fun v z=>by rw[hd] at z;cases z⟩
 ·obtain⟨⟨old,he⟩,o,ho,r⟩:=st
  exact⟨⟨old,k e (by simp) _ he⟩,o,k it (by simp) o ho,r⟩
end
theorem wO {C:Cn} {e:Expr} {elts:List Expr} {kk:Nat} {tp p pos:Ma} {f:PSt->R PV} (hg:Gl C.X "enumerate") (hm:C.X.mg "enumerate"=none) (he:EV C e f) (hs:LA [e] C.X.env=[(false,M7 e C.X.env)]:=by exact cT rfl) :
  EI C (.Tuple elts kk tp) (.Call (.Name "enumerate" p) [e] [] pos) (wL f):=by
 intro pins s σ H Rk I ⟨ρ,vw,q⟩
 refine Call_ (lL I hg hm mN (MF (thn ((cX he iz hs) pos pins s σ H (fun vs H'=>∃v p ps,vs=[v]/\Same H H'/\Rep C.X.K H' p v/\pO p=some ps/\∀J H2,Same H' H2->ItP C.X.K J H2 ps->Rk J H2) I ⟨ρ,vw,q.bind.imp fun p _ k v H' s' r=>?_⟩)
  fun us s1 ⟨vs,H1,I1,r1,v,p,ps,ev,sm,rp,ep,k⟩=>?_) hs rfl))
 ·obtain⟨ps,ep,k⟩:=k.ofO
  exact⟨v,p,ps,rfl,s',r,ep,fun J H2 s2 it=>k J H2 (s'.trans s2) it⟩
 ·subst ev
  obtain⟨u,rfl,ru⟩:=vals1 r1;have hne:s1.heap.objs.size+1≠s1.heap.objs.size:=Nat.succ_ne_self _
  have fp:∀{h':Heap},(∀b o,s1.heap.get? b=some o->h'.get? b=some o)->L2.Inv C.X pins σ H1 { s1 with heap:=h' }/\∀b∈[s1.heap.objs.size+1,s1.heap.objs.size],sL C.X pins H1 b:=fun {h'} hk=>by
   refine⟨I1.kept (t':=s1.toks) hk,fun b hb=>?_⟩
   have hb:s1.heap.objs.size<=b:=by
    simp only[L4,MC,or_false] at hb;rcases hb with rfl | rfl
    ·exact RZ _
    ·exact L9 _
   exact I1.fpOk hb (I1.hok.fresh hb)
  cases p with
  | lst qs=>
   cases ep;obtain⟨a,xs,rfl,g,rr⟩:=rp;cases ru;obtain⟨its,rv,pl,hz⟩:=I1.list g.l.l;have ha:a<s1.heap.objs.size:=by obtain⟨o,n,ho,_⟩:=pl;exact KZ ho
   refine call_enumerate_list pl.isList fun h' he' hi' hsz hk=>Oc he' ?_;obtain⟨I2,hf⟩:=fp hk;refine⟨_,_,_,_,H1,rfl,I2,sS a s1.heap.objs.size (s1.heap.objs.size+1) xs hne (LQ (OP ha)) (LQ ha),⟨⟨_,he'⟩,hi'⟩,hf,k _ H1 (Same.refl H1) ?_⟩;exact qy (by rw[rJ,rr.length]) (fun H2 k2=>(k2.sqF g).l.l) (rH rr)
  | str x=>
   cases ep;cases (show v=.str x from rp);obtain⟨t,rfl⟩:=ru;refine call_enumerate_str fun h' he' hi' hsz hk=>Oc he' ?_;obtain⟨I2,hf⟩:=fp hk;refine⟨_,_,_,_,H1,rfl,I2,sR s1.heap.objs.size (s1.heap.objs.size+1) x t hne,⟨⟨_,he'⟩,hi'⟩,hf,k _ H1 (Same.refl H1) ?_⟩;exact qy (by rw[rJ];simp[gB]) (fun H2 k2=>trivial) (rH (sX x))
  | _=>cases ep
end PU
namespace PU
open PySem PySem.Spec PyProof.Rows L2 PySem.SeqAt
variable[TW]
theorem yD{K:KA}{H:Hp}(k:Key):Rep K H (yE k) (kV k):=by
 cases k <;> rfl
section
variable{P : L6}{w : LI}{K : KA}{elts : List Expr}{kk : Nat}{tp : Ma}
theorem tj{kvs:List (Key×V)}{vs:List (Key×KB)}(rel:KV kvs vs):∀{i:Nat}{a:Key×V}{b:Key×KB},kvs[i]?=some a->vs[i]?=some b->a.1=b.1/\RelV a.2 b.2:=by
  induction rel with
  | nil=>intro i a b h _;simp at h
  | cons h t ih=>
   intro i a b h1 h2;cases i with
   | zero=>simp at h1 h2;subst h1 h2;exact h
   | succ i=>exact ih (by simpa using h1) (by simpa using h2)
def zy(K:KA)(H:Hp)(d:Addr)(o:Obj)(kvs:List (Key×V)):Prop:=H d=some (.frz o (.dK kvs))\/(K.lookup d=some o/\xt K d kvs)
theorem zy.at{X:Cx}{pins:List (Addr×Obj)}{σ:L2.St}{H:Hp}{s:KC}{d:Addr}{o:Obj}{kvs:List (Key×V)}{es:Array DictEntry}{ep:Nat}(hw:X.w=TW.w)(I:L2.Inv X pins σ H s)(h:zy X.K H d o kvs)(ho:o.data=.dict es ep) :
  ∃vs,KV kvs vs/\s.heap.DictAt (aB X.prog X.w) d vs ep/\s.heap.get? d=some o/\o.ExactDict:=by
 rcases h with hq | ⟨hk,_,_,o2,es2,ep2,e,x,d2,r⟩
 ·obtain⟨e0,z,_,vs,rel,o',es',ep',e1,x1,d1,rest⟩:=I.hok d _ hq
  rw[e0] at e1;cases e1;rw[ho] at d1;cases d1;exact⟨vs,rel,⟨o,es,e0,x1,ho,rest⟩,e0,x1⟩
 ·rw[hk] at e
  cases e;rw[ho] at d2;cases d2;obtain⟨vs,rel,rest⟩:=r X.prog;rw[← hw] at rest;exact⟨vs,rel,⟨o,es,I.kIn _ _ hk,x,ho,rest⟩,I.kIn _ _ hk,x⟩
end
end PU
namespace PU
open PySem PySem.Spec PyProof.Rows L2 PySem.SeqAt
variable[TW]
section
variable{P : L6}{w : LI}{K : KA}{tg : Expr}
def AK(K:KA)(d:Addr)(o:Obj)(kvs:List (Key×V)):It:=
 ⟨fun i H=>i<kvs.length/\zy K H d o kvs,fun i H x H'=>H'=H/\∃kv,kvs[i]?=some kv/\x=kV kv.1,fun i H=>i=kvs.length/\zy K H d o kvs⟩
theorem zy.kp{H H':Hp}{d:Addr}{o:Obj}{kvs:List (Key×V)}(k:Kp H H')(h:zy K H d o kvs):zy K H' d o kvs:=by
 rcases h with h | h
 ·exact .inl (k _ _ h rfl)
 ·exact .inr h
theorem C2{H:Hp}{d:Addr}{o:Obj}{kvs:List (Key×V)}{ks:List Key}(g:zy K H d o kvs)(e:kvs.map (·.1)=ks):ItP K (AK K d o kvs) H (ks.map yE):=fun i H' k=>by
 subst e;refine⟨fun h=>⟨by simpa using h,g.kp k⟩,fun p ep=>?_⟩;rw[L3,L3] at ep;cases hk:kvs[i]? with
 | none=>rw[hk] at ep;cases ep
 | some kv=>
  rw[hk] at ep;cases ep;refine⟨⟨(KN.mp hk).1,g.kp k⟩,fun x H2 ⟨eh,kv',e1,e2⟩=>?_⟩;rw[hk] at e1;cases e1;subst eh e2;exact⟨Same.refl _,yD kv.1⟩
theorem uC(d it:Addr)(o:Obj)(es:Array DictEntry)(ep:Nat)(ho:o.data=.dict es ep)(kvs:List (Key×V))(hw:w=TW.w):Turn P w K tg (AK K d o kvs) [it] it (fun i h=>h.IsKeyIter it d i kvs.length ep) where
 mem:=by simp
 obj:=fun i h st b hb=>by
  have e:b=it:=by simpa using hb
  subst e;obtain⟨o,e,c,dd⟩:=st;exact⟨o,e,fun v z=>by rw[dd] at z;cases z⟩
 keep:=fun i h h' st k=>st.at fun o e=>k it (by simp) o e
 item:=by
  intro X hP hw hK hc i pins s σ H E I hf st hg;subst hP hw hK;obtain⟨hi,hq⟩:=hg;obtain⟨vs,rel,dat,_,_⟩:=hq.at hw I ho;have hl:kvs.length=vs.length:=Ln rel;obtain⟨f0,f1,f2,f3,f4,f5⟩:=hf it (by simp);have eg:vs[i]?=some vs[i]:=by simp[← hl,hi]
  have egk:kvs[i]?=some kvs[i]:=by simp[hi]
  obtain⟨hk1,hk2⟩:kvs[i].1=vs[i].1/\RelV kvs[i].2 vs[i].2:=tj rel egk eg;rw[hl] at st;refine wpAny_pyNext_dict_item st dat (k:=vs[i].1) (v:=vs[i].2) eg fun key h' hkey st' sb=>?_;have I1:Inv X pins σ H { s with heap:=h' }:=I.turned (t':=s.toks) (fun b o hb e=>(sb.2 b hb).trans e) f0 f1 f3 f4 f5;obtain⟨oi,e,c,dd⟩:=id st'
  have rk:RelV (kV kvs[i].1) key:=by
   rw[hk1];rcases bj hkey with⟨j,t,e1,e2⟩|⟨y,t,e1,e2⟩
   ·rw[e1,e2];exact⟨t,rfl⟩
   ·rw[e1,e2];exact⟨t,rfl⟩
  exact⟨key,rfl,w6 (s:={ s with heap:=h' }) e c dd (by decide) ⟨kV kvs[i].1,H,I1,rk,⟨rfl,_,egk,rfl⟩,by rw[hl];exact st',fun b hb=>(hf b hb).1⟩⟩
 done:=by
  intro X hP hw hK hc i pins s σ H E I hf st hg;subst hP hw hK;obtain⟨hi,hq⟩:=hg;obtain⟨vs,rel,dat,_,_⟩:=hq.at hw I ho;have hl:kvs.length=vs.length:=Ln rel;obtain⟨f0,f1,f2,f3,f4,f5⟩:=hf it (by simp);rw[hl] at st;exact wpAny_pyNext_dict_end (I.ok.hd hc) st dat (by simp[← hl,hi]) fun h' eb=>⟨rfl,I.turned (t':=s.toks) (fun b o hb e=>eb b o hb e) f0 f1 f3 f4 f5⟩
 self:=fun _ _ _ _ _ st h=>wpAny_pyIter_keyiter st h
def xu(x:Str):It:=⟨fun i _=>i<x.cps.size,fun i H y H'=>H'=H/\∃c,x.cps[i]?=some c/\y=.str ⟨#[c]⟩,fun i _=>i=x.cps.size⟩
theorem yH{H:Hp}{x:Str}:ItP K (xu x) H (gB x):=fun i H' k=>by
 refine⟨fun h=>show i=x.cps.size by simpa [gB] using h,fun p ep=>?_⟩;unfold gB at ep;rw[L3] at ep;cases hk:x.cps.toList[i]? with
 | none=>rw[hk] at ep;cases ep
 | some c=>
  rw[hk] at ep;cases ep;refine⟨show i<x.cps.size by simpa using (KN.mp hk).1,fun y H2 ⟨eh,c',e1,e2⟩=>?_⟩
  have:c'=c:=by
   rw[Qm] at hk;rw[hk] at e1;exact(Lh e1).symm
  subst this eh e2;exact⟨Same.refl _,rfl⟩
theorem oH{A:LR}(hh:A.handled=none)(it:Addr)(x:Str)(t:Tok):Walks P w A it [it] [it] x.cps.size (SignAt x) (fun i h=>h.IsStrIter it (ND x) x t i):=by
 unfold ND
 split
 ·exact Walks.strAscii hh it x t
 ·exact Walks.strWide hh it x t
theorem q9 (x:Str):["enumerate","zip","dict_itemiterator","dict_reverseitemiterator","odict_iterator","itertools.zip_longest","itertools.pairwise"].contains (ND x)=false:=by
 unfold ND
 split <;> decide
theorem sO(it:Addr)(x:Str)(t:Tok):Turn P w K tg (xu x) [it] it (fun i h=>h.IsStrIter it (ND x) x t i) where
 mem:=by simp
 obj:=fun i h st b hb=>by
  have e:b=it:=by simpa using hb
  subst e;obtain⟨o,e,c,dd⟩:=st;exact⟨o,e,fun v z=>by rw[dd] at z;cases z⟩
 keep:=fun i h h' st k=>by
  obtain⟨o,e,r⟩:=st;exact⟨o,k it (by simp) o e,r⟩
 item:=by
  intro X hP hw hK hc i pins s σ H E I hf st hg;subst hP hw hK;obtain⟨f0,f1,f2,f3,f4,f5⟩:=hf it (by simp);have W:=oH (P:=X.prog) (w:=X.w) (I.ok.hd hc) it x t;refine W.item i s _ _ hg st fun v h' tk hv st' kk=>?_;obtain⟨c,u,ec,rfl⟩:=hv;have I1:Inv X pins σ H { s with heap:=h',toks:=tk }:=I.turned (fun b o hb e=>kk b o (by simpa using hb) e) f0 f1 f3 f4 f5;obtain⟨oi,e,cc,dd⟩:=id st';exact⟨_,rfl,w6 (s:={ s with heap:=h',toks:=tk }) e cc dd (q9 x) ⟨.str ⟨#[c]⟩,H,I1,⟨u,rfl⟩,⟨rfl,c,ec,rfl⟩,st',fun b hb=>(hf b hb).1⟩⟩
 done:=by
  intro X hP hw hK hc i pins s σ H E I hf st hg;subst hP hw hK;obtain⟨f0,f1,f2,f3,f4,f5⟩:=hf it (by simp);have W:=oH (P:=X.prog) (w:=X.w) (I.ok.hd hc) it x t;have hg:i=x.cps.size:=hg;subst hg;refine W.done s _ _ st fun h' tk hk=>⟨rfl,I.turned (fun b o hb e=>hk b o (by simpa using hb) e) f0 f1 f3 f4 f5⟩
 self:=fun A i s Q E st h=>by
  unfold ND at st;split at st
  ·exact wpAny_pyIter_striter_ascii st h
  ·exact wpAny_pyIter_striter_wide st h
end
section
variable{C : Cn}{e tg : Expr}{f : PSt → R PV}
theorem dX(he:EV C e f)(hw:C.X.w=TW.w:=by rfl):EI C tg e (itF f):=by
 intro pins s σ H R I ⟨ρ,vw,q⟩;refine thn (he pins s σ H (fun v H'=>∃p ps,Same H H'/\Rep C.X.K H' p v/\f6 p=some ps/\∀J H2,Same H' H2->ItP C.X.K J H2 ps->R J H2) I ⟨ρ,vw,q.bind.imp fun p _ k v H' s' r=>?_⟩) fun v s1 ⟨x,H1,I1,r1,p,ps,sm,rp,ep,k⟩=>?_
 ·obtain⟨ps,ep,k⟩:=k.ofO
  exact⟨p,ps,s',r,ep,fun J H2 s2 it=>k J H2 (s'.trans s2) it⟩
 ·cases p with
  | lst qs=>
   cases ep;obtain⟨a,xs,rfl,g,rr⟩:=rp;cases r1;obtain⟨its,rv,pl,hz⟩:=I1.list g.l.l;refine wpAny_pyIter_list pl.isList ?_;refine⟨s1.heap.objs.size,[s1.heap.objs.size],_,_,H1,rfl,I1.kept (t':=s1.toks) fun b o e=>KL _ e,uB a _,⟨_,LM _ rfl,rfl,rfl⟩,fun b hb=>?_,k _ H1 (Same.refl H1) (C1 g rr)⟩;have e:b=s1.heap.objs.size:=by simpa using hb
   subst e;exact I1.fpOk (L9 _) (I1.hok.fresh (L9 _))
  | tup qs=>
   cases ep;obtain⟨a,xs,rfl,g,rr⟩:=rp;cases r1;obtain⟨its,rv,pl,hz⟩:=I1.tuple (tq g);refine wpAny_pyIter_tuple (show s1.heap.IsTuple a its.toArray from pl) ?_;refine⟨s1.heap.objs.size,[s1.heap.objs.size],_,_,H1,rfl,I1.kept (t':=s1.toks) fun b o e=>KL _ e,sN a _,⟨_,LM _ rfl,rfl,rfl⟩,fun b hb=>?_,k _ H1 (Same.refl H1) (F9 (tq g) rr)⟩;have e:b=s1.heap.objs.size:=by simpa using hb
   subst e;exact I1.fpOk (L9 _) (I1.hok.fresh (L9 _))
  | dct ks qs=>
   cases ep;obtain⟨a,kvs,rfl,g,ek,rr⟩:=rp;cases r1
   obtain⟨o,es,ep,ho,hq,hs⟩:∃o es ep,o.data=.dict es ep/\zy C.X.K H1 a o kvs/\(a == Lo)=false:=by
    rcases g with⟨o,g⟩ | g
    ·obtain⟨e0,z,hs,vs,rel,o',es',ep',e1,x1,d1,rest⟩:=I1.hok a _ g
     rw[e0] at e1;cases e1;exact⟨o,es',ep',d1,.inl g,hs⟩
    ·obtain⟨_,hs,o,es,ep,e,x,d,r⟩:=id g
     exact⟨o,es,ep,d,.inr ⟨e,g⟩,hs⟩
   obtain⟨vs,rel,dat,_,_⟩:=hq.at hw I1 ho;have hl:kvs.length=vs.length:=Ln rel;refine wpAny_pyIter_dict hs dat ?_;refine⟨s1.heap.objs.size,[s1.heap.objs.size],_,_,H1,rfl,I1.kept (t':=s1.toks) fun b o e=>KL _ e,uC a _ o es ep ho kvs hw,⟨_,LM _ rfl,rfl,by rw[hl];rfl⟩,fun b hb=>?_,k _ H1 (Same.refl H1) (C2 hq ek)⟩;have e:b=s1.heap.objs.size:=by simpa using hb
   subst e;exact I1.fpOk (L9 _) (I1.hok.fresh (L9 _))
  | str y=>
   cases ep;cases (show x=.str y from rp);obtain⟨t,rfl⟩:=r1;refine wpAny_pyIter_strU ?_;refine⟨s1.heap.objs.size,[s1.heap.objs.size],_,_,H1,rfl,I1.kept (t':=s1.toks) fun b o e=>KL _ e,sO _ y t,⟨_,LM _ rfl,rfl,rfl⟩,fun b hb=>?_,k _ H1 (Same.refl H1) yH⟩;have e:b=s1.heap.objs.size:=by simpa using hb
   subst e;exact I1.fpOk (L9 _) (I1.hok.fresh (L9 _))
  | _=>cases ep
end
end PU
namespace PU
open PySem PySem.Spec PyProof.Rows L2 PySem.SeqAt
variable[TW]
def FX (K:KA) (c:String):Prop:=∀t∈["NoneType","bool","int","str","tuple","list","dict"],PySem.W.kitOne K (.type t) (.type c)=some (Fc t c)
theorem vQ {K:KA}:FX K "str":=by intro t ht;simp only[L4,MC,or_false] at ht;rcases ht with rfl | rfl | rfl | rfl | rfl | rfl | rfl <;> first | rfl | kernel_rfl
theorem pD {K:KA}:FX K "tuple":=by intro t ht;simp only[L4,MC,or_false] at ht;rcases ht with rfl | rfl | rfl | rfl | rfl | rfl | rfl <;> first | rfl | kernel_rfl
theorem yI {K:KA}:FX K "list":=by intro t ht;simp only[L4,MC,or_false] at ht;rcases ht with rfl | rfl | rfl | rfl | rfl | rfl | rfl <;> first | rfl | kernel_rfl
theorem Cb{c:String}{p z:PV}(h:sj c p=some z):z=.bl (Fc (tyN p) c):=by
 cases p <;> cases h <;> rfl
def JO(K:KA)(c:String):List V->Hp->VK->Prop:=fun vs H Q=>∃v p,vs=[v,.ty c]/\bc K H p v/\(sj c p).isSome=true/\Q (.bl (Fc (tyN p) c)) H
theorem Ka {X:Cx} {c:String} (hw:X.w=TW.w) (h:FX X.K c):iZ X (.builtin "isinstance") (JO X.K c):=by
 intro pins s σ H xs us Q I r ⟨v,p,e1,rp,hsm,q⟩;subst e1;obtain⟨u,u2,rfl,ru,ru2⟩:=vals2 r;cases (show u2=Nl c from ru2);have fin:∀tk,EP X pins σ Q (.bool (Fc (tyN p) c)) { s with toks:=tk }:=fun tk=>⟨.bl _,H,I.tok _,rfl,q⟩;have hk:=fun t ht=>h t ht;cases p with
 | non=>cases (show v=.non from rp);cases ru;exact MZ PySem.W.kitx_none I.kIn Mq (hk _ (by simp[tyN])) (fun z=>nomatch z) fin
 | bl b=>cases (show v=.bl b from rp);cases ru;exact MZ PySem.W.kitx_bool I.kIn Mq (hk _ (by simp[tyN])) (fun z=>nomatch z) fin
 | int i=>cases (show v=.int i from rp);obtain⟨t,rfl⟩:=ru;exact MZ PySem.W.kitx_int I.kIn Mq (hk _ (by simp[tyN])) (fun z=>nomatch z) fin
 | str i=>cases (show v=.str i from rp);obtain⟨t,rfl⟩:=ru;exact MZ PySem.W.kitx_str I.kIn Mq (hk _ (by simp[tyN])) (fun z=>nomatch z) fin
 | tup ps=>
  obtain⟨a,ys,rfl,g,_⟩:=bc.tup_inv rp;cases ru;obtain⟨its,_,⟨o,e,c',_⟩,_⟩:=I.tuple g;exact MZ PySem.W.kitx_tuple I.kIn ⟨o,e,c'⟩ (hk _ (by simp[tyN])) (fun z=>nomatch z) fin
 | lst ps=>
  obtain⟨a,ys,rfl,g,_⟩:=bc.lst_inv rp;cases ru;obtain⟨_,its,n,_,e⟩:=g.is I;exact MZ PySem.W.kitx_list I.kIn ⟨_,e,rfl⟩ (hk _ (by simp[tyN])) (fun z=>nomatch z) fin
 | dct ks ps=>
  obtain⟨a,kvs,rfl,g,_⟩:=rp;cases ru;obtain⟨_,_,vs,_,o,es,ep,e,x,_⟩:=DkR.at hw I g;exact MZ R6 I.kIn ⟨o,e,x.1⟩ (hk _ (by simp[tyN])) (fun z=>nomatch z) fin
 | dtt ks ps=>
  obtain⟨a,kvs,rfl,g,_⟩:=rp;cases ru;obtain⟨_,_,_,_,o,es,ep,e,x,_⟩:=qJ I.hok g;exact MZ R6 I.kIn ⟨o,e,x.1⟩ (hk _ (by simp[tyN])) (fun z=>nomatch z) fin
 | fn L cs=>cases hsm
theorem pN {C:Cn} {e:Expr} {f:PSt->R PV} {c:Str} {cs:String} {p p2 pos:Ma} (h:FX C.X.K cs) (hg:Gl C.X "isinstance") (hm:C.X.mg "isinstance"=none) (hg2:Gl C.X c) (hm2:C.X.mg c=none) (hb2:MY c=some (.type cs)) (ha:EO C e f)
  (hs:LA [e,.Name c p2] C.X.env=[(false,M7 e C.X.env),(false,M7 (.Name c p2) C.X.env)]:=by exact qW rfl rfl) (hs2:LA [.Name c p2] C.X.env=[(false,M7 (.Name c p2) C.X.env)]:=by rfl)
  (hn:c≠"__name__":=by decide) (hd:(c == ("__debug__":Str))=false:=by decide) (hw:C.X.w=TW.w:=by rfl):EV C (.Call (.Name "isinstance" p) [e,.Name c p2] [] pos) (un1 f (sj cs)):=by
 intro pins s σ H Q I ⟨ρ,vw,q⟩;have hpa:PA C.X [e,.Name c p2] (AW (tO C f) (AW (tC (.ty cs)) J1)):=cX ha (cX (Bw hg2 hm2 hb2 rfl hn hd) iz hs2) (by rw[hs,hs2]);refine rD (Ka hw h) hg hm (by decide +kernel) hpa (by decide) (by decide) (by rw[hs,hs2]) (by rw[hs2];rfl) pins s σ H Q I ⟨ρ,vw,q.bind.imp fun p _ k v H1 s1 r1=>?_⟩;obtain⟨z,ez,k⟩:=RQ.ofO k;have hz:=Cb ez;subst hz;exact⟨v,p,rfl,r1,by rw[ez];rfl,k _ H1 s1 rfl⟩
theorem iC{C:Cn}{e:Expr}{f:PSt->R PV}{pos:Ma}(h:EV C e f):EV C (.UnaryOp .USub e pos) (un1 f oF):=by
 intro pins s σ H Q I ⟨ρ,vw,q⟩;refine Hj Dt h pins s σ H Q I ⟨ρ,vw,q.bind.imp fun p _ k v H1 s1 r1=>?_⟩;obtain⟨z,ez,k⟩:=k.ofO;cases p with
 | int i=>cases ez;cases (show v=.int i from r1);exact⟨i,rfl,k _ H1 s1 rfl⟩
 | _=>cases ez
def rM1(K:KA)(g:PV->PV->Option PV):V->List V->Hp->VK->Prop:=fun v vs H Q=>∃p q z u,vs=[u]/\bc K H p v/\bc K H q u/\g p q=some z/\∀w H',Same H H'->Rep K H' z w->Q w H'
structure StrM(name:Str)(id:String):Prop where
 slot:Slot "str" name id
 ty:typeOf (.builtin id)=pure (.type "method_descriptor")
theorem Fq{C:Cn}{o e:Expr}{fo fe:PSt->R PV}{g:PV->PV->Option PV}{name:Str}{id:String}{apos cpos:Ma}(S:StrM name id)(hm:MtR C.X id (rM1 C.X.K g))(ho:EV C o fo)(he:EO C e fe)
  (hbase:Pm o name C.X.env (M7 o C.X.env)=M7 o C.X.env:=by rfl) (hline:(apos.endLine == cpos.line)=true:=by rfl) (hs:LA [e] C.X.env=[(false,M7 e C.X.env)]:=by exact cT rfl) :
  EV C (.Call (.Attribute o name apos) [e] [] cpos) (tD fo fe g):=by
 intro pins s σ H Q I ⟨ρ,vw,q⟩;refine E9 PySem.F.plainAttrs_str S.slot S.ty hm ho (sv he hs) hbase (by rw[hs];rfl) hline hs (by rfl) pins s σ H Q I ⟨ρ,vw,q.bind.imp fun p _ k v H1 s1 r1=>?_⟩;cases p with
 | str x=>
  cases (show v=.str x from r1);have k:RQ C H (fe ρ >>= fun q=>R.ofO (g (.str x) q)) fun p=>∀v H',Same H H'->Rep C.X.K H' p v->Q v H':=k;refine⟨rfl,ρ,vw.same s1,(k.bind.same s1).imp fun p2 _ k2 u H2 s2 r2=>?_⟩;obtain⟨z,ez,k3⟩:=k2.ofO;exact⟨.str x,p2,z,u,rfl,rfl,r2,ez,fun w H3 s3 r3=>k3 w H3 ((s1.trans s2).trans s3) r3⟩
 | _=>exact KJ k
theorem jY{K:KA}{H:Hp}:∀{ps:List PV}{xs:List V}{us:List KB}{ys:List Str},kx ps=some ys->aO K H ps xs->Vals xs us->StrsAre us ys
 | [],_,_,_,e,r,rv=>by cases e;cases r;cases rv;exact .nil
 | p::ps,_,_,_,e,⟨x,t,ex,h1,h2⟩,rv=>by
  subst ex;cases p with
  | str y=>
   obtain⟨r,er,ez⟩:=KQ.mp (show (kx ps).map (y::·)=some _ from e);subst ez;cases (show x=.str y from h1);cases rv with
   | cons a b=>
    obtain⟨tt,rfl⟩:=a;exact .cons y tt (jY er h2 b)
  | _=>cases e
theorem Hc:StrM "join" "str.join":=⟨PySem.F.slot_str_join,PySem.F.type_str_join⟩
theorem HN {X:Cx}:MtR X "str.join" (rM1 X.K wk):=by
 intro pins s σ H x xs v us Q I rx rs ⟨p,q,z,u,e1,rp,rq,ez,k⟩;subst e1;obtain⟨u',rfl,ru⟩:=vals1 rs;unfold wk at ez;split at ez
 ·rename_i y ps
  obtain⟨ys,ey,ez⟩:=Kx.mp ez;split at ez
  ·rename_i hl
   cases ez;cases (show x=.str y from rp);obtain⟨t,rfl⟩:=rx;obtain⟨a,zs,rfl,g,rr⟩:=bc.lst_inv rq;cases ru;obtain⟨_,its,n,rv,e⟩:=g.is I;exact join_list (items:=its.toArray) ⟨_,e,rfl,_,rfl⟩ (jY ey rr (by simpa using rv)) hl fun t' k'=>⟨.str _,H,I.tok _,⟨_,rfl⟩,k _ H (Same.refl H) rfl⟩
  ·cases ez
 ·rename_i y ps
  obtain⟨ys,ey,ez⟩:=Kx.mp ez;split at ez
  ·rename_i hl
   cases ez;cases (show x=.str y from rp);obtain⟨t,rfl⟩:=rx;obtain⟨a,zs,rfl,g,rr⟩:=bc.tup_inv rq;cases ru;obtain⟨its,rv,pl,_⟩:=I.tuple g;exact join_tuple (items:=its.toArray) pl (jY ey rr (by simpa using rv)) hl fun t' k'=>⟨.str _,H,I.tok _,⟨_,rfl⟩,k _ H (Same.refl H) rfl⟩
  ·cases ez
 ·cases ez
end PU
namespace PU
open PySem PySem.Spec PyProof.Rows L2 PySem.SeqAt
variable[TW]
def JI(K:KA):V->Option Int->Option Int->Hp->VK->Prop:=fun v lo hi H Q=>∃p z,bc K H p v/\gSl p lo hi=some z/\∀w H',Same H H'->Rep K H' z w->Q w H'
def tOI(C:Cn)(f:PSt->R (Option Int)):TO:=fun σ H Q=>∃ρ,View C.X.K H σ ρ/\RQ C H (f ρ) fun o=>∀H',Same H H'->Q o H'
def EOI(C:Cn)(e:Option Expr)(f:PSt->R (Option Int)):Prop:=PO C.X e (tOI C f)
theorem sF{K:KA}{H:Hp}{ps:List PV}{xs:List V}(r:aO K H ps xs)(lo hi:Option Int):aO K H (kJ ps lo hi) (zg xs lo hi):=by
 unfold kJ zg;rw[r.length];exact(r.drop _).take _
section
variable{C : Cn}{e : Expr}{f : PSt → R PV}{lo hi : Option Expr}{l h : PSt → R (Option Int)}{pos p2 : Ma}
theorem c9:EOI C none bA:=fun pins s σ H Q I ⟨ρ,vw,q⟩=>Bo pins s σ H Q I (q H (Same.refl H))
theorem c8(he:EV C e f):EOI C (some e) (d9 f):=by
 intro pins s σ H Q I ⟨ρ,vw,q⟩;refine Bm he pins s σ H Q I ⟨ρ,vw,q.bind.imp fun p _ k v H1 s1 r1=>?_⟩;cases p with
 | int i=>cases (show v=.int i from r1);exact⟨i,rfl,k H1 s1⟩
 | _=>exact KJ k
theorem slP{X:Cx}:SlR X (JI X.K):=by
 intro pins s σ H x v vl vu lo hi sl Q I rx hs pl pu ⟨p,z,rp,ez,k⟩;cases p with
 | lst ps=>
  cases ez;obtain⟨a,xs,rfl,g,rr⟩:=bc.lst_inv rp;obtain⟨T,id,h1,h2,h3⟩:=B0 pins s σ H _ v vl vu lo hi sl (fun w H'=>∃b,w=.ref b/\H b=none/\H'=upd H b (.lst (zg xs lo hi))) I rx hs pl pu ⟨a,xs,rfl,g.l,fun b hb=>⟨b,rfl,hb,rfl⟩⟩;refine⟨T,id,h1,h2,thn h3 fun u s' ⟨w,H',I',rw',b,ew,nb,eH⟩=>?_⟩;subst ew eH;obtain⟨H2,I2,rp2,oth⟩:=L2.Inv.frz (a:=b) (p:=.lst (kJ ps lo hi)) I' ⟨_,aF,(sF rr lo hi).same (Same.new nb)⟩;refine⟨.ref b,H2,I2,rw',k _ H2 (.of fun c o ec=>?_) rp2⟩;have hc:=bB ec nb;rw[oth c hc,aL hc];exact ec
 | tup ps=>
  simp only[gSl] at ez;obtain⟨a,xs,rfl,g,rr⟩:=bc.tup_inv rp
  by_cases hw:HT.sIx ps.length 0 lo=0/\HT.sIx ps.length ps.length hi=ps.length
  ·rw[if_pos hw] at ez
   cases ez
  ·rw[if_neg hw] at ez
   cases ez;exact DG pins s σ H _ v vl vu lo hi sl Q I rx hs pl pu ⟨a,xs,rfl,g,by rw[← rr.length];exact hw,fun b hb=>k _ _ (Same.new hb) ⟨b,_,rfl,aF,(sF rr lo hi).same (Same.new hb)⟩⟩
 | _=>cases ez
theorem cD(ha:EO C e f)(hl:EOI C lo l)(hh:EOI C hi h):EV C (.Subscript e (.Slice lo hi none p2) pos) (bV f l h):=by
 intro pins s σ H Q I ⟨ρ,vw,q⟩;refine rC slP ha hl hh pins s σ H Q I ⟨ρ,vw,q.bind.imp fun p _ k v H1 s1 r1=>⟨ρ,vw.same s1,(k.bind.same s1).imp fun o1 _ k2 H2 s2=>⟨ρ,(vw.same s1).same s2,(k2.bind.same (s1.trans s2)).imp fun o2 _ k3 H3 s3=>?_⟩⟩⟩;obtain⟨z,ez,k4⟩:=k3.ofO;exact⟨p,z,(r1.same s2).same s3,ez,fun w H4 s4 r4=>k4 w H4 (((s1.trans s2).trans s3).trans s4) r4⟩
end
theorem oU{K:KA}{H:Hp}{k:Key}{p:PV}{v:V}(rp:Rep K H p v):∀{kvs:List (Key×V)}{ps:List PV},aO K H ps (kvs.map (·.2))->aO K H (kC (kvs.map (·.1)) ps k p) ((kvs.map fun kv=>if kv.1=k then (kv.1,v) else kv).map (·.2))
 | [],ps,r=>by
  cases ps with
  | nil=>rfl
  | cons q qs=>obtain⟨x,t,e,_⟩:=r;cases e
 | kv::kvs,ps,r=>by
  cases ps with
  | nil=>cases r
  | cons q qs=>
   obtain⟨x,t,e,h1,h2⟩:=r;simp only[KG,MV] at e;obtain⟨rfl,rfl⟩:=e;have ih:=oU (k:=k) rp h2;simp only[KG,kC,MI]
   by_cases hk:kv.1=k
   ·rw[if_pos hk,if_pos hk];exact⟨_,_,rfl,rp,ih⟩
   ·rw[if_neg hk,if_neg hk];exact⟨_,_,rfl,h1,ih⟩
theorem rd{K:KA}{H:Hp}{kvs:List (Key×V)}{ps:List PV}{k:Key}{p:PV}{v:V}(rr:aO K H ps (kvs.map (·.2)))(rp:Rep K H p v) :
  ∃ks' ps',mK (kvs.map (·.1)) ps k p=.dct ks' ps'/\(putK kvs k v).map (·.1)=ks'/\aO K H ps' ((putK kvs k v).map (·.2)):=by
 unfold mK;have e:((kvs.map (·.1)).any fun j=>decide (j=k))=(kvs.any fun kv=>decide (kv.1=k)):=by rw[NA];rfl
 rw[e];unfold putK
 split
 ·refine⟨_,_,rfl,?_,oU rp rr⟩
  rw[L7];apply Mm;intro kv _;simp only[Mp]
  split <;> rfl
 ·refine⟨_,_,rfl,by simp,?_⟩
  rw[L8];exact aO.append rr ⟨_,_,rfl,rp,rfl⟩
theorem qg{K:KA}{H:Hp}{a:Addr}{kvs:List (Key×V)}{ps:List PV}{k:Key}{p:PV}{v:V}(rr:aO K H ps (kvs.map (·.2)))(rp:Rep K H p v)(ha:H a=some (.dK (putK kvs k v))):cH K H a (mK (kvs.map (·.1)) ps k p):=by
 obtain⟨ks',ps',e,e1,e2⟩:=rd (k:=k) rr rp;rw[e];exact⟨_,ha,e1,e2⟩
theorem oO{C:Cn}(i:Nat){x:Str}{ke e:Expr}{fk fv:PSt->R PV}{np pos' pos:Ma}(hu:C.X.A.units+64<cLine)(hk:EV C ke fk)(hv:EV C e fv)(hN:C.X.N[i]?=some x:=by rfl)(hvis:Vis C.X.env.scope x:=by first | exact PD rfl | exact Oo (PD rfl))
  (hs:NQ e (some (.Subscript (.Name x np) ke pos')) pos.line C.X.env=pure false:=by rfl) (hd:(x == ("__debug__":Str))=false:=by decide) (hcd:(x == ("__classdict__":Str))=false:=by decide) :
  SV C (.Assign [.Subscript (.Name x np) ke pos'] e pos) (uU i fk fv):=by
 intro pins s σ H D I ⟨ρ,B,S,q⟩;unfold uU at q;split at q
 ·rename_i ks ps e1
  obtain⟨a,e2,kvs,hx,ek,rr⟩:=S.vw i _ e1;refine uX (by omega) (gw hN hvis hd hcd) hk hv hs pins s σ H D I ⟨ρ,S.vw,(q.bind S.same).imp fun p _ q1 v H1 s1 r1=>⟨_,e2,ρ,S.vw.same s1,(q1.bind (S.same.trans s1)).imp fun kp _ q2 y H2 s2 r2=>?_⟩⟩;obtain⟨k,e3,q3⟩:=RS.ofO q2
  by_cases hl:ks.length<16777216
  ·rw[if_pos hl] at q3
   have hy:=eL e3 r2.o;subst hy;subst ek;have hx2:H2 a=some (.dK kvs):=s2 _ _ (s1 _ _ hx);refine⟨a,_,rfl,AL.k hx2 (by rw[Li];simpa using hl),?_⟩;have kp:Kp H2 (upd H2 a (.dK (putK kvs k v))):=Kp.upd hx2 rfl;refine q3 σ _ (((S.grow s1).grow s2).turn e1 e2 (fun b hb=>aL hb) ⟨a,rfl,?_⟩);exact qg (aO.kp kp _ ((rr.same s1).same s2)) (Rep.kp kp _ (r1.same s2)) aF
  ·rw[if_neg hl] at q3
   exact KJ q3
 ·exact KJ q
theorem mj{C:Cn}{pos:Ma}:EN C (.Dict [] [] pos) newD:=fun pins s σ H Q I ⟨ρ,vw,q⟩=>yt pins s σ H Q I fun p hp=>q p _ (Same.new hp) hp ⟨[],aF,rfl,rfl⟩
def jZ(K:KA)(H:Hp):List (Key×PV)->List (Key×V)->Prop
 | [],xs=>xs=[]
 | kp::r,xs=>∃v t,xs=(kp.1,v)::t/\Rep K H kp.2 v/\jZ K H r t
theorem jZ.kp{K:KA}{H H':Hp}(k:Kp H H'):∀{kps:List (Key×PV)}{xs:List (Key×V)},jZ K H kps xs->jZ K H' kps xs
 | [],_,h=>h
 | kp::r,_,⟨v,t,e,h1,h2⟩=>⟨v,t,e,Rep.kp k _ h1,jZ.kp k h2⟩
def ED(C:Cn)(pos:Ma)(ks:List (Option Expr))(vs:List Expr)(f:PSt->R (List (Key×PV))):Prop:=∃trs,PPs C.X pos ks vs trs/\
 ∀σ H Q,(∃ρ,View C.X.K H σ ρ/\RQ C H (f ρ) fun kps=>∀kvs H',Same H H'->jZ C.X.K H' kps kvs->Q (kvs.map fun kv=>(kV kv.1,kv.2)) H')->qU trs σ H Q
theorem FE{C:Cn}{pos:Ma}:ED C pos [] [] Gy:=⟨[],uZ,fun σ H Q ⟨ρ,vw,q⟩=>q [] H (Same.refl H) rfl⟩
theorem qI{C:Cn}{pos:Ma}{k v:Expr}{ks:List (Option Expr)}{vs:List Expr}{fk fv:PSt->R PV}{f:PSt->R (List (Key×PV))}(hk:EV C k fk)(hv:EV C v fv)(h:ED C pos ks vs f):ED C pos (some k::ks) (v::vs) (tY fk fv f):=by
 obtain⟨trs,hp,ht⟩:=h;refine⟨_,rA hk hv hp,fun σ H Q ⟨ρ,vw,q⟩=>⟨ρ,vw,q.bind.imp fun kp _ q1 x H1 s1 r1=>?_⟩⟩
 obtain⟨kk,ek,q1⟩:∃kk,fQ kp=some kk/\RQ C H (fv ρ >>= fun p=>f ρ >>= fun r=>R.ok ((kk,p)::r)) _:=by
  cases h:fQ kp with
  | none=>rw[h] at q1;exact KJ q1
  | some kk=>rw[h] at q1;exact⟨kk,rfl,q1⟩
 refine⟨ρ,vw.same s1,(q1.bind.same s1).imp fun p _ q2 y H2 s2 r2=>ht σ H2 _ ⟨ρ,(vw.same s1).same s2,(q2.bind.same (s1.trans s2)).imp fun kps _ q3 kvs H3 s3 r3=>?_⟩⟩;have hx:=eL ek r1.o;subst hx;exact q3 ((kk,y)::kvs) H3 ((s1.trans s2).trans s3) ⟨y,kvs,rfl,r2.same s3,r3⟩
def AH(d:PV)(kp:Key×PV):PV:=match d with
 | .dct ks ps=>mK ks ps kp.1 kp.2
 | d=>d
theorem rO(kps:List (Key×PV)):gL kps=kps.foldl AH (.dct [] []):=rfl
theorem lJ{K:KA}{H:Hp}:∀{kps:List (Key×PV)}{kvs acc:List (Key×V)}{ps:List PV},jZ K H kps kvs->aO K H ps (acc.map (·.2))->
  ∃ks' ps',kps.foldl AH (PV.dct (acc.map (·.1)) ps)=PV.dct ks' ps'/\(fH acc kvs).map (·.1)=ks'/\aO K H ps' ((fH acc kvs).map (·.2))
 | [],kvs,acc,ps,h,r=>by cases h;exact⟨_,_,rfl,rfl,r⟩
 | kp::kps,kvs,acc,ps,⟨v,t,e,h1,h2⟩,r=>by
  subst e;obtain⟨ks',ps',g,g1,g2⟩:=rd (k:=kp.1) r h1;obtain⟨ks2,ps2,f,f1,f2⟩:=lJ (acc:=putK acc kp.1 v) h2 g2;refine⟨ks2,ps2,?_,f1,f2⟩;rw[Om]
  have:AH (PV.dct (acc.map (·.1)) ps) kp=PV.dct ((putK acc kp.1 v).map (·.1)) ps':=by
   show mK _ _ _ _=_;rw[g,g1]
  rw[this];exact f
theorem jZ.length{K:KA}{H:Hp}:∀{kps:List (Key×PV)}{xs:List (Key×V)},jZ K H kps xs->kps.length=xs.length
 | [],_,h=>by cases h;rfl
 | kp::r,_,⟨v,t,e,h1,h2⟩=>by subst e;simp[jZ.length h2]
theorem Cm{C:Cn}{pos:Ma}{ks:List (Option Expr)}{vs:List Expr}{f:PSt->R (List (Key×PV))}(h:ED C pos ks vs f)(hall:ks.all (·.isSome)=true:=by rfl)(hl:ks.length=vs.length:=by rfl)(h0:ks≠[]:=by exact fun z=>nomatch z)
  (h15:ks.length<=15:=by decide):EN C (.Dict ks vs pos) (zc f):=by
 obtain⟨trs,hp,ht⟩:=h;intro pins s σ H Q I ⟨ρ,vw,q⟩;refine Bt hp hall hl h0 h15 pins s σ H Q I fun p hn=>ht σ _ _ ⟨ρ,vw.same (Same.new hn),(q.bind.same (Same.new hn)).imp fun kps _ q1 kvs H3 s3 r3=>?_⟩;have sm:Same H H3:=(Same.new hn).trans s3;have e3:H3 p=some (.dK []):=s3 _ _ aF
 by_cases hk:kps.length<=15
 ·rw[if_pos hk] at q1
  refine⟨e3,kvs,rfl,by rw[← r3.length];exact hk,?_⟩;have kp:Kp H3 (upd H3 p (.dK (fH [] kvs))):=Kp.upd e3 rfl;obtain⟨ks',ps',g,g1,g2⟩:=lJ (acc:=[]) (ps:=[]) (jZ.kp kp r3) aO.nil;refine q1 p _ (sm.but hn (fun u h=>by rw[e3] at h;cases h;rfl) (fun b hb=>aL hb)) hn ?_
  ·rw[rO]
   have g:kps.foldl AH (PV.dct [] [])=PV.dct ks' ps':=g;rw[g];exact⟨_,aF,g1,g2⟩
 ·rw[if_neg hk] at q1
  exact KJ q1
theorem yT{p q z:PV}(e:CZ p q=some z):∃ps qs,p=.lst ps/\q=.lst qs/\ps.length+qs.length<=16777216/\z=.lst (ps++qs):=by
 unfold CZ at e;split at e
 ·split at e
  ·rename_i hc
   cases e;exact⟨_,_,rfl,rfl,hc,rfl⟩
  ·cases e
 ·cases e
theorem Fy{C:Cn}{a b:Expr}{fa fb:PSt->R PV}{pos:Ma}(ha:EO C a fa)(hb:EO C b fb):EN C (.BinOp a .Add b pos) (aj fa fb CZ):=by
 intro pins s σ H Q I ⟨ρ,vw,q⟩
 have ho:OpR C.X (Mr .Add) (fun v u H Q=>∃ps qs,bc C.X.K H (.lst ps) v/\bc C.X.K H (.lst qs) u/\ps.length+qs.length<=16777216/\∀a H',Same H H'->H a=none->cH C.X.K H' a (.lst (ps++qs))->Q (.ref a) H'):=by
  intro pins s σ H x y v u Q I rx ry ⟨ps,qs,hp,hq,hc,k⟩;have hs:=Li;obtain⟨a,xs,rfl,hx,r1⟩:=hp;obtain⟨b,ys,rfl,hy,r2⟩:=hq;cases rx;cases ry;obtain⟨hz,its,n,rv,e1⟩:=hx.is I;obtain⟨hz2,its2,n2,rv2,e2⟩:=hy.is I;have l1:=r1.length;have l2:=r2.length;have l3:=rv.length;have l4:=rv2.length;have ea:its.toArray++its2.toArray=(its++its2).toArray:=by simp
  refine RX e1 e2 ?_ (by simp only[LD];omega);rw[ea];have nf:H s.heap.objs.size=none:=I.fresh;have I1:=I.lnew (t':=s.toks) (rv.append rv2) (by rw[L0];omega);exact⟨.ref _,_,I1,rfl,k _ _ (Same.new nf) nf ⟨_,aF,(r1.append r2).same (Same.new nf)⟩⟩
 refine E4 ho ha hb pins s σ H Q I ⟨ρ,vw,q.bind.imp fun p _ k v H1 s1 r1=>⟨ρ,vw.same s1,(k.bind.same s1).imp fun p2 _ k2 u H2 s2 r2=>?_⟩⟩;obtain⟨z,ez,k3⟩:=k2.ofO;obtain⟨ps,qs,rfl,rfl,hc,rfl⟩:=yT ez;exact⟨ps,qs,r1.same s2,r2,hc,fun a H' s' n' w'=>k3 a H' ((s1.trans s2).trans s') ((s1.trans s2).free n') w'⟩
end PU
namespace PU
open PySem PySem.Spec PyProof.Rows L2 PySem.SeqAt
variable[TW]
structure Con(K:KA)(mg:Str->Option KB)(x:Str)(c:PV):Prop where
 ex:∃v u,mg x=some u/\RelV v u/\∀H,Rep K H c v
theorem sr {C:Cn} {x:Str} {c:PV} {pos:Ma} (hg:Gl C.X x) (h:Con C.X.K C.X.mg x c) (hd:(x == ("__debug__":Str))=false:=by decide):EV C (.Name x pos) (kP c):=by
 obtain⟨v,u,hm,r,rp⟩:=h.ex;exact Cg hg hm r rp hd
def Fw(p:Params)(e:Str×Tok×KB):DictEntry:={ hash:=PyData.keyHash p e.1,key:=.str e.1 e.2.1,val:=e.2.2 }
omit [TW] in
theorem tH(w:LI)(x:Str):PyData.keyHash w.params x=hashStr w x:=rfl
omit [TW] in
theorem mX{P:L6}{w:LI}:∀(es:List (Str×Tok×KB)),Pairs (aB P w) (es.map (Fw w.params)) (es.map fun e=>((ML e.1:Key),e.2.2))
 | []=>.nil
 | e::es=>.cons (g8 P w e.1 e.2.1) rfl (mX es)
omit [TW] in
theorem vK:∀{xs:List V}{es:List (Str×Tok×KB)},Vals xs (es.map (·.2.2))->KV ((es.map fun e=>(ML e.1:Key)).zip xs) (es.map fun e=>((ML e.1:Key),e.2.2))
 | [],[],_=>.nil
 | x::xs,e::es,r=>by
  cases r with
  | cons a b=>exact .cons ⟨rfl,a⟩ (vK b)
 | [],_::_,r=>by cases r
 | _::_,[],r=>by cases r
omit [TW] in
theorem con_dct{w:LI}{tabs:List Addr}{qual:Nat->Nat->Str}{K:KA}{h:Heap}{mg:Str->Option KB}{x:Str}{a:Addr}{o:Obj}(es:List (Str×Tok×KB)){ep:Nat}{ps:List PV}{xs:List V}(X:K.In h)(G:h.Ns mainGlobals mg)
  (n1:Lq K mainGlobals x=some (some (.ref a))) (n2:K.lookup a=some o) (n3:o={ cls:=.type "dict",data:=.dict (es.map (Fw w.params)).toArray ep }) (hs:(a == Lo)=false)
  (nd:(es.map (·.1)).Nodup) (hz:es.length<=sizeLine) (vals:Vals xs (es.map (·.2.2))) (reps:∀H,@aO ⟨w,tabs,qual⟩ K H ps xs):@Con ⟨w,tabs,qual⟩ K mg x (.dct (es.map fun e=>.inr e.1) ps):=by
 letI:TW:=⟨w,tabs,qual⟩
 have hl:xs.length=es.length:=by rw[vals.length,KH]
 have e1:((es.map fun e=>(ML e.1:Key)).zip xs).map (·.1)=es.map fun e=>.inr e.1:=Pv (by rw[KH];omega);have e2:((es.map fun e=>(ML e.1:Key)).zip xs).map (·.2)=xs:=Pu (by rw[KH];omega);refine⟨.ref a,_,OG X G n1,rfl,fun H=>⟨a,(es.map fun e=>(ML e.1:Key)).zip xs,rfl,.inr ⟨?_,hs,o,_,_,n2,?_,by rw[n3],fun P=>⟨es.map fun e=>((ML e.1:Key),e.2.2),vK vals,?_,?_,?_⟩⟩,e1,by rw[e2];exact reps H⟩⟩
 ·rw[List.length_zip,KH,hl]
  omega
 ·rw[n3]
  exact⟨rfl,rfl,rfl⟩
 ·intro e he
  have he:e∈es.map (Fw w.params):=by simpa using he
  obtain⟨z,_,rfl⟩:=KU.mp he;exact⟨.inr z.1,g8 P w z.1 z.2.1,tH w z.1⟩
 ·have e3:(es.map (Fw w.params)).toArray.toList=es.map (Fw w.params):=by simp
  rw[e3];exact mX (P:=P) (w:=w) es
 ·rw[L7]
  have:((·.1) ∘ fun e:Str×Tok×KB=>((ML e.1:Key),e.2.2))=ML ∘ (·.1):=rfl;rw[this,← L7];exact List.Pairwise.map _ (fun a b hab e=>hab (NI e)) nd
theorem HE{P:L6}{w:LI}{K:KA}{mg:Str->Option KB}{base:Heap}{x qual:Str}{st:Stmt}{f:Addr}{fd:FuncData}{N ps:List Str}{k:Nat}{g:PSt->R Fl}(F:Fun K x qual st f fd)(S:FnScope N ps (ar st))
  (hbody:∀(cdv:KB)(A:LR)(outer:List Pn)(s:KC)(H:Hp)(E:XK),Room k (A.deeper (Nw qual (ar st) s.heap.objs.size f cdv))->SVs (D0 P w K mg base N qual (ar st) f cdv A outer s H E) (bM st) g) :
  FnOk P w K mg base CX0 (k+1) f fd ps (spP K ps.length (eZ ps.length N.length g)):=by
 refine F.ok S (fun vs H Q E h=>h.1) (fun cdv A outer s H vs Q E hr h=>?_);obtain⟨hl,tb,qs,p,r,e,k⟩:=h;refine⟨_,hbody cdv A outer s H E hr,start N.length qs,(H,H),kQ tb r,?_⟩;unfold eZ at e;rw[if_pos (by rw[r.length];exact hl)] at e;cases hg:g (start N.length qs) with
 | ok fl=>
  rw[hg] at e;cases fl with
  | next ρ=>cases e;exact fun σ H' S'=>k .non H' S'.same rfl
  | ret q=>cases e;exact fun v H' s' r'=>k v H' s' r'
  | brk ρ=>cases e
  | cont ρ=>cases e
 | er x=>rw[hg] at e;cases e
 | no=>rw[hg] at e;cases e
theorem sY{K:KA}{H:Hp}{a:Addr}{ns:List Int}(h:SqF K H a (ns.map V.int)):aO K H [.lst (ns.map .int)] [.ref a]:=by
 have:∀l:List Int,aO K H (l.map PV.int) (l.map V.int):=by
  intro l
  induction l with
  | nil=>rfl
  | cons x l ih=>exact⟨_,_,rfl,rfl,ih⟩
 exact⟨_,_,rfl,⟨a,_,rfl,h,this ns⟩,rfl⟩
end PU
namespace PU
open PySem PySem.Spec PyProof.Rows L2 PySem.SeqAt
section
variable{P : L6}{w : LI}{A : LR}{E : KB → KC → Prop}{s : KC}{it a : Addr}{i n ep slot : Nat}
def Tells(P:L6)(w:LI)(s:KC)(a:Addr)(slot i ep:Nat)(r:Option (KB×Nat)):Prop:=∀(A:LR)(E:KB->KC->Prop)(Q:Option (KB×Nat)->KC->Prop),Q r s->LC (LU P w) A (setNext a slot i ep) Q E s
end
end PU
section
namespace PU
def whF(t:PSt->R Bool)(g:PSt->R Fl):Nat->PSt->R Fl
 | 0,_=>.no
 | n+1,ρ=>t ρ >>= fun b=>if b=true then g ρ >>= fun fl=>(match fl with
  | .next ρ2=>whF t g n ρ2
  | .cont ρ2=>whF t g n ρ2
  | .brk ρ2=>.ok (.next ρ2)
  | .ret q=>.ok (.ret q)) else .ok (.next ρ)
def whS(n:Nat)(t:PSt->R Bool)(g:PSt->R Fl):PSt->R Fl:=whF t g n
end PU
namespace PU
open PySem PySem.Spec PyProof.Rows L2 PySem.SeqAt
variable[TW]
theorem qV{C:Cn}{c:Expr}{body:List Stmt}{t:PSt->R Bool}{g:PSt->R Fl}{pos:Ma}(n:Nat)(hc:ET C c t)(hb:SVs C body g)(hp:Ri (LU C.X.prog C.X.w) C.X.A C.X.env C.X.xe:=by exact R7):SV C (.While c body [] pos) (whS n t g):=by
 intro pins s σ H D I ⟨ρ,B,S,q⟩;refine yk hp hc hb pins s σ H D I ⟨fun m σ' H'=>∃ρ',StOk C.X.K B H' σ' ρ'/\RS C B D (whF t g m ρ'),⟨n,ρ,S,q⟩,?_⟩;rintro m σ' H' ⟨ρ',S',q'⟩;cases m with
 | zero=>exact KJ q'
 | succ m=>
  have q':RS C B D (t ρ' >>= fun b=>if b=true then g ρ' >>= fun fl=>(match fl with
   | .next ρ2=>whF t g m ρ2
   | .cont ρ2=>whF t g m ρ2
   | .brk ρ2=>.ok (.next ρ2)
   | .ret q=>.ok (.ret q)) else .ok (.next ρ')):=q'
  refine⟨ρ',S'.vw,(q'.bind S'.same).imp fun b _ k H1 s1=>?_⟩;cases b with
  | false=>
   rw[if_neg KW] at k ⊢;exact k σ' H1 (S'.grow s1)
  | true=>
   rw[if_pos rfl] at k ⊢;refine⟨fun σ2 H2=>∃ρ2,StOk C.X.K B H2 σ2 ρ2/\RS C B D (whF t g m ρ2),fun σ2 H2 z=>⟨m,Nat.lt_succ_self m,z⟩,ρ',B,S'.grow s1,?_⟩;cases hgr:g ρ' with
   | ok fl=>
    rw[hgr] at k;cases fl with
    | next ρ2=>exact fun σ4 H4 S4=>⟨ρ2,S4,k⟩
    | cont ρ2=>exact fun σ4 H4 S4=>⟨ρ2,S4,k⟩
    | brk ρ2=>exact fun σ4 H4 S4=>k σ4 H4 S4
    | ret p=>exact k
   | er x=>rw[hgr] at k;exact k
   | no=>rw[hgr] at k;exact k
end PU
end
namespace PU
open PySem PySem.Spec PyProof.Rows L2 PySem.SeqAt
variable[TW]
theorem xS{K:KA}{H:Hp}{p q z:PV}{x u:V}{v:KB}{us:List KB}{g:PV->PV->Option PV}(hg:∀p q z,g p q=some z->∃a b,p=.str a/\q=.str b)(rx:RelV x v)(rs:Vals [u] us)(rp:bc K H p x)(rq:bc K H q u)(ez:g p q=some z) :
  ∃a b t t2,p=.str a/\q=.str b/\v=.str a t/\us=[.str b t2]:=by
 obtain⟨a,b,rfl,rfl⟩:=hg p q z ez;obtain⟨u',rfl,ru⟩:=vals1 rs;cases (show x=.str a from rp);cases (show u=.str b from rq);obtain⟨t,rfl⟩:=rx;obtain⟨t2,rfl⟩:=ru;exact⟨a,b,t,t2,rfl,rfl,rfl,rfl⟩
end PU
namespace PU
open PySem PySem.Spec PyProof.Rows L2 PySem.SeqAt
variable[TW]
theorem ml {C:Cn} {tg a b:Expr} {f f2:PSt->R PV} {p pos:Ma} (hg:Gl C.X "range") (hm:C.X.mg "range"=none) (ha:EV C a f) (hb:EV C b f2) (hs:LA [a,b] C.X.env=[(false,M7 a C.X.env),(false,M7 b C.X.env)]:=by rfl)
  (hs2:LA [b] C.X.env=[(false,M7 b C.X.env)]:=by exact cT rfl):EI C tg (.Call (.Name "range" p) [a,b] [] pos) (CS f f2):=by
 intro pins s σ H Rk I ⟨ρ,vw,q⟩;refine v5 hg hm (cX ha (cX hb iz hs2) (by rw[hs,hs2])) hs hs2 pins s σ H Rk I ⟨ρ,vw,q.bind.imp fun p _ k v H1 s1 r1=>⟨ρ,vw.same s1,(k.bind.same s1).imp fun p2 _ k2 v2 H2 s2 r2=>?_⟩⟩;cases p with
 | int i=>
  cases p2 with
  | int j=>
   cases (show v=.int i from r1);cases (show v2=.int j from r2);have k2:RQ C H (if i.natAbs<1000000000/\j.natAbs<1000000000 then R.ok (cn i (j-i).toNat) else R.no) fun ps=>∀J H',Same H H'->ItP C.X.K J H' ps->Rk J H':=k2
   by_cases hj:i.natAbs<1000000000/\j.natAbs<1000000000
   ·rw[if_pos hj] at k2
    exact⟨i,j,rfl,⟨by omega,by omega,by omega,by omega⟩,k2 _ H2 (s1.trans s2) rX⟩
   ·rw[if_neg hj] at k2
    exact KJ k2
  | _=>exact KJ k2
 | _=>exact KJ k2
end PU
section
namespace PU
def C4:PV->Bool
 | .dct _ _=>true
 | _=>false
end PU
namespace PU
open PySem PySem.Spec PyProof.Rows L2 PySem.SeqAt
variable[TW]
theorem nj{K:KA}{H:Hp}{k:Key}:∀{ks:List Key}{ps:List PV}{kvs:List (Key×V)},kvs.map (·.1)=ks->aO K H ps (kvs.map (·.2))->cq ks ps k=none->mF kvs k=none
 | _,_,[],h1,h2,e=>rfl
 | _,[],kv::kvs,h1,h2,e=>by
  cases h2
 | _,q::ps,kv::kvs,h1,h2,e=>by
  subst h1;obtain⟨x,r,ex,hx,ht⟩:=h2;simp only[KG,MV] at ex;obtain⟨rfl,rfl⟩:=ex;simp only[KG,cq] at e
  by_cases hk:kv.1=k
  ·rw[if_pos hk] at e
   cases e
  ·rw[if_neg hk] at e
   rw[fP hk];exact nj rfl ht e
end PU
end
namespace PU
open PySem PySem.Spec PyProof.Rows L2 PySem.SeqAt
theorem nN:isSubtype (.type "dict") (.type "dict")=pure true:=by rw[isSubtype_type];kernel_rfl
section
variable{P : L6}{w : LI}{A : LR}{E : KB → KC → Prop}{s : KC}{d : Addr}{kvs : List (Key×KB)}{ep : Nat}
theorem pk{Q:KB->KC->Prop}(hh:A.handled=none)(hd:(d == Lo)=false)(m:s.heap.DictAt (aB P w) d kvs ep)(hz:kvs.length<=sizeLine)
  (q:∀(h':Heap) (tk:Nat) (acc:Array KB) (c:Nat),(∀b o,s.heap.get? b=some o->h'.get? b=some o)->h'.get? s.heap.objs.size=some { cls:=.type "list",data:=.seq acc c }->
   ItemsOf (fun i v=>∃k x,kvs[i]?=some (k,x)/\(aB P w).is k v=true) acc kvs.length->Q (.ref s.heap.objs.size) { s with heap:=h',toks:=tk }):LC (LU P w) A (call (.type "list") [.ref d]) Q E s:=by
 have ld:d<s.heap.objs.size:=by obtain⟨o,es,ho,_⟩:=m;exact KZ ho
 refine callType_codes (Q₁:=fun obj s₁=>obj=.ref s.heap.objs.size/\s₁={ s with heap:=s.heap.push { cls:=.type "list",data:=.seq #[] } }) PySem.F.called_list (PySem.F.typeCall_list_1 _) PySem.F.entry_list_init (code_list_new _ ⟨rfl,rfl⟩) fun obj s₁ h₁=>?_;obtain⟨rfl,rfl⟩:=h₁;have g0:(s.heap.push { cls:=.type "list",data:=.seq #[] }).get? s.heap.objs.size=some { cls:=.type "list",data:=.seq #[] }:=LM _ rfl;refine⟨⟨_,g0,rfl⟩,PySem.F.args_list_init_2 _ _,?_⟩;show LC _ _ (do let old<- Po (.ref s.heap.objs.size);Builtin.List.listUpdate (.ref s.heap.objs.size) (fun _=>#[]);letGo old.toList.reverse;Nk (.ref s.heap.objs.size) (.ref d) .none) _ _ _;refine KF ?_;unfold Po;refine KF (wpAny_seqItems g0 rfl (KO ?_));show LC _ _ (updateSeq s.heap.objs.size (fun _=>#[]) >>= fun _=>letGo (#[]:Array KB).toList.reverse >>= fun _=>Nk (.ref s.heap.objs.size) (.ref d) .none) _ _ _;refine KF (QY g0 rfl ?_ (MQ _) (MQ _));have g1:=On (MD (fun _=>(#[]:Array KB))) g0 rfl
 have k1:∀b o,s.heap.get? b=some o->((s.heap.push { cls:=.type "list",data:=.seq #[] }).update s.heap.objs.size (MD (fun _=>(#[]:Array KB)))).get? b=some o:=
  fun b o e=>(Nc _ _ (Mt (KZ e))).trans (KL _ e)
 have z1:((s.heap.push { cls:=.type "list",data:=.seq #[] }).update s.heap.objs.size (MD (fun _=>(#[]:Array KB)))).objs.size=s.heap.objs.size+1:=by rw[Heap.size_update,Heap.size_push]
 refine KF (wpAny_letGo ?_);generalize (s.heap.push { cls:=.type "list",data:=.seq #[] }).update s.heap.objs.size (MD (fun _=>(#[]:Array KB)))=h1 at g1 k1 z1 ⊢
 have m1:h1.DictAt (aB P w) d kvs ep:=by
  obtain⟨o,es,ho,r⟩:=m;exact⟨o,es,k1 _ _ ho,r⟩
 have t1:({ s with heap:=h1 }:KC).TypeIs (.ref d) "dict":=m1.dictOf.typeIs;unfold Nk;refine KF (Oy (T:="dict") t1 ?_)
 have r1:Builtin.List.listSameRef (.ref s.heap.objs.size) (.ref d)=false:=by
  show (s.heap.objs.size == d)=false;simpa using Mt ld
 have r2:(Nl "dict" == Nl "list")=false:=by decide
 have r3:(Nl "dict" == Nl "tuple")=false:=by decide
 simp only[r1,r2,r3,Bool.or_false,LV,if_false];refine KF (wpAny_pyIter_dict (knd:=aB P w) (s:={ s with heap:=h1 }) hd m1 ?_);refine KF (N4 ?_)
 have m2:(h1.push { cls:=.type "dict_keyiterator",data:=.fields #[.ref d,.int 0 0,.int kvs.length 0,.int ep 0] }).DictAt (aB P w) d kvs ep:=by
  obtain⟨o,es,ho,r⟩:=m1;exact⟨o,es,KL _ ho,r⟩
 have t2:=(show ({ s with heap:=h1.push { cls:=.type "dict_keyiterator",data:=.fields #[.ref d,.int 0 0,.int kvs.length 0,.int ep 0] } }:KC).TypeIs (.ref d) "dict" from m2.dictOf.typeIs);unfold Builtin.List.listLengthHint;refine KF (P8 (T:="dict") (v:=.ref d) t2 PySem.F.slot_dict_len.lookup ?_)
 wp_delta
 refine KF (QF (T:="dict") (v:=.ref d) (b:=true) t2 nN ?_);show LC _ _ (typeOf (M5 d) >>= _) _ _ _;refine KF (Oy (T:="dict") (v:=.ref d) t2 (KO ?_));rw[if_pos (by decide)];refine KF (Qn (KF ?_));unfold Builtin.List.listTouch;have nI:h1.objs.size≠s.heap.objs.size:=by rw[z1];exact Nat.succ_ne_self _
 have gL2:(h1.push { cls:=.type "dict_keyiterator",data:=.fields #[.ref d,.int 0 0,.int kvs.length 0,.int ep 0] }).get? s.heap.objs.size=some _:=KL _ g1;have gI2:(h1.push { cls:=.type "dict_keyiterator",data:=.fields #[.ref d,.int 0 0,.int kvs.length 0,.int ep 0] }).get? h1.objs.size=some _:=LM _ rfl;have k2:∀b o,s.heap.get? b=some o->(h1.push { cls:=.type "dict_keyiterator",data:=.fields #[.ref d,.int 0 0,.int kvs.length 0,.int ep 0] }).get? b=some o:=fun b o e=>KL _ (k1 b o e);refine KF (QY gL2 rfl ?_ (MQ _) (by show 1<=_;rw[Li];decide));have g3:=On (MD (·.push OD)) gL2 rfl;refine QY g3 rfl ?_ (by show 1<=_;rw[Li];decide) (MQ _);have g4:=On (MD (·.pop)) g3 rfl
 have k4:∀b ob,b≠s.heap.objs.size->(h1.push { cls:=.type "dict_keyiterator",data:=.fields #[.ref d,.int 0 0,.int kvs.length 0,.int ep 0] }).get? b=some ob->(((h1.push { cls:=.type "dict_keyiterator",data:=.fields #[.ref d,.int 0 0,.int kvs.length 0,.int ep 0] }).update s.heap.objs.size (MD (·.push OD))).update s.heap.objs.size (MD (·.pop))).get? b=some ob:=fun b ob hb e=>
  (Nc _ _ (N3 hb)).trans ((Nc _ _ (N3 hb)).trans e)
 show LC _ _ _ _ _ { s with heap:=(((h1.push { cls:=.type "dict_keyiterator",data:=.fields #[.ref d,.int 0 0,.int kvs.length 0,.int ep 0] }).update s.heap.objs.size (MD (·.push OD))).update s.heap.objs.size (MD (·.pop))) };generalize ((h1.push { cls:=.type "dict_keyiterator",data:=.fields #[.ref d,.int 0 0,.int kvs.length 0,.int ep 0] }).update s.heap.objs.size (MD (·.push OD))).update s.heap.objs.size (MD (·.pop))=h4 at g4 k4 ⊢;have nd:d≠s.heap.objs.size:=LQ ld;have ndI:d≠h1.objs.size:=by rw[z1];exact LQ (OP ld)
 have st4:h4.IsKeyIter h1.objs.size d 0 kvs.length ep/\h4.DictAt (aB P w) d kvs ep:=by
  refine⟨⟨_,k4 _ _ nI gI2,rfl,rfl⟩,?_⟩;obtain⟨o,es,ho,r⟩:=m2;exact⟨o,es,k4 _ _ nd ho,r⟩
 have nL:s.heap.objs.size ∉ [h1.objs.size,d]:=fun z=>by
  rcases L4.mp z with e | z
  ·exact nI e.symm
  ·exact nd (Ky.mp z).symm
 have W:∀A':LR,A'.handled=none->Walks P w A' h1.objs.size [h1.objs.size,d] [h1.objs.size] kvs.length _ _:=fun A' hA=>Walks.dictKeys (knd:=aB P w) hA h1.objs.size d ndI kvs ep;refine KO ⟨Nb PySem.F.plain_extend_loop _,codeAny_extend_loopS (W A.in1.in1 hh).toS hz _ nL _ kvs.length 0 _ _ _ rfl (MQ _) st4 g4 (ItemsOf.nil _) fun s' acc c mm gA it'=>?_⟩;rw[Moved.eq_with mm];refine⟨rfl,q s'.heap s'.toks acc c (fun b o e=>mm.heap b o (fun hb=>?_) (k4 b o (LQ (KZ e)) (k2 b o e))) gA it'⟩;have lt:=KZ e;rcases L4.mp hb with z | z
 ·exact absurd lt (z▸Lx _)
 ·rw[Ky.mp z,z1] at lt
  exact absurd lt (QK.mpr (RZ _))
end
end PU
section
namespace PU
def nA:PV->Option PV
 | .lst ps=>some (.lst ps)
 | .tup ps=>some (.lst ps)
 | .dct ks _=>some (.lst (ks.map yE))
 | _=>none
end PU
namespace PU
open PySem PySem.Spec PyProof.Rows L2 PySem.SeqAt
variable[TW]
theorem pB{K:KA}{H:Hp}:∀ks:List Key,aO K H (ks.map yE) (ks.map kV)
 | []=>rfl
 | k::ks=>by
  refine⟨kV k,ks.map kV,rfl,?_,pB ks⟩;cases k <;> exact rfl
omit [TW] in
theorem BW{P:L6}{w:LI}{k:Key}{v:KB}(h:(aB P w).is k v=true):RelV (kV k) v:=by
 rcases bj (show qx k v=true from h) with⟨i,t,rfl,rfl⟩|⟨x,t,rfl,rfl⟩
 ·exact⟨t,rfl⟩
 ·exact⟨t,rfl⟩
omit [TW] in
theorem uw{P:L6}{w:LI}:∀(kvs:List (Key×KB))(us:List KB),us.length=kvs.length->(∀(i:Nat)(v:KB),us[i]?=some v->∃k x,kvs[i]?=some (k,x)/\(aB P w).is k v=true)->Vals ((kvs.map (·.1)).map kV) us
 | [],us,hl,_=>by
  cases us with
  | nil=>exact .nil
  | cons a r=>cases hl
 | kv::kvs,us,hl,h=>by
  cases us with
  | nil=>cases hl
  | cons a r=>
   obtain⟨k,x,e,hk⟩:=h 0 a rfl;cases e;exact .cons (BW hk) (uw kvs r (by simpa using hl) fun i v e=>h (i+1) v e)
theorem AD {X:Cx} (hc:X.calm=true:=by rfl) (hw:X.w=TW.w:=by rfl):iZ X (.type "list") (rn1 X.K nA):=by
 intro pins s σ H xs us Q I r ⟨v,p,z,e1,rp,ez,k⟩;subst e1;cases p with
 | lst ps=>
  obtain⟨a,xs,rfl,g,rr⟩:=bc.lst_inv rp;cases ez;exact ku pins s σ H _ us Q I r ⟨a,xs,rfl,.inl g.l,fun l hl=>k _ _ (Same.new hl) hl ⟨xs,aF,rr.same (Same.new hl)⟩⟩
 | tup ps=>
  obtain⟨a,xs,rfl,g,rr⟩:=bc.tup_inv rp;cases ez;exact ku pins s σ H _ us Q I r ⟨a,xs,rfl,.inr g,fun l hl=>k _ _ (Same.new hl) hl ⟨xs,aF,rr.same (Same.new hl)⟩⟩
 | dct ks ps=>
  obtain⟨a,kvs,rfl,g,e1,rr⟩:=rp;cases ez;obtain⟨u,rfl,ru⟩:=vals1 r;cases ru;obtain⟨hz,hS,vs,rel,o,es,ep,ho,x1,d1,rest⟩:=DkR.at hw I g;have hl:kvs.length=vs.length:=Ln rel
  have hk:kvs.map (·.1)=vs.map (·.1):=by
   clear hl hz e1 rr g rest
   induction rel with
   | nil=>rfl
   | cons a b ih=>rw[KG,KG,ih,a.1]
  refine pk (kvs:=vs) (ep:=ep) (I.ok.hd hc) hS ⟨o,es,ho,x1,d1,rest⟩ (by omega) fun h' tk acc c keep gA it'=>?_;obtain⟨i1,i2⟩:=it'
  have rv:Vals (ks.map kV) acc.toList:=by
   rw[← e1,hk];exact uw (P:=X.prog) (w:=X.w) vs acc.toList (by simpa using i1) fun i v e=>i2 i v (by simpa using e)
  have hlk:ks.length=kvs.length:=by rw[← e1,KH]
  have I2:=I.laid (a:=s.heap.objs.size) (o:=.lst (ks.map kV)) (h':=h') (t':=tk) keep (L9 _) ⟨by rw[KH];omega,acc.toList,c,rv,by rw[Array.toArray_toList];exact gA⟩;have nf:H s.heap.objs.size=none:=I.fresh;exact⟨.ref _,_,I2,rfl,k _ _ (Same.new nf) nf ⟨_,aF,pB ks⟩⟩
 | _=>cases ez
end PU
end
section
namespace PU
def rN(fo fe fd:PSt->R PV)(g:PV->PV->PV->Option PV):PSt->R PV:=fun ρ=>fo ρ >>= fun p=>if C4 p=true then fe ρ >>= fun q=>fd ρ >>= fun y=>R.ofO (g p q y) else .no
def tR:PV->PV->PV->Option PV
 | .dct ks ps,q,y=>(fQ q).bind fun k=>some ((cq ks ps k).getD y)
 | _,_,_=>none
end PU
namespace PU
open PySem PySem.Spec PyProof.Rows L2 PySem.SeqAt
variable[TW]
theorem Ci{C:Cn}{o e d:Expr}{fo fe fd:PSt->R PV}{apos cpos:Ma}(ho:EO C o fo)(he:EV C e fe)(hd:EV C d fd)(hw:C.X.w=TW.w:=by rfl)
  (hbase:Pm o "get" C.X.env (M7 o C.X.env)=M7 o C.X.env:=by rfl) (hline:(apos.endLine == cpos.line)=true:=by rfl) (hs:LA [e,d] C.X.env=[(false,M7 e C.X.env),(false,M7 d C.X.env)]:=by rfl) (hs2:LA [d] C.X.env=[(false,M7 d C.X.env)]:=by exact cT rfl) :
  EV C (.Call (.Attribute o "get" apos) [e,d] [] cpos) (rN fo fe fd tR):=by
 intro pins s σ H Q I ⟨ρ,vw,q⟩;refine Rp hbase (by rw[hs];rfl) hline rfl (thn (ho pins s σ H (fun v H1=>∃p,bc C.X.K H1 p v/\Same H H1/\RQ C H (if C4 p=true then fe ρ >>= fun q=>fd ρ >>= fun y=>R.ofO (tR p q y) else .no) fun p=>∀v H',Same H H'->Rep C.X.K H' p v->Q v H') I ⟨ρ,vw,q.bind.imp fun p _ k v H1 s1 r1=>⟨p,r1,s1,k⟩⟩) fun v s1 ⟨x,H1,I1,r1,p,ro,sm,k⟩=>?_);cases p with
 | dct ks ps=>
  have ro':=ro;obtain⟨a,kvs,rfl,g,e1,r⟩:=ro;cases r1;obtain⟨hz,hdd,vs,rel,dd⟩:=DkR.at hw I1 g;have k:RQ C H (fe ρ >>= fun q=>fd ρ >>= fun y=>R.ofO (tR (.dct ks ps) q y)) fun p=>∀v H',Same H H'->Rep C.X.K H' p v->Q v H':=k;refine⟨"dict","dict.get",PySem.F.plainAttrs_dict,QT,PySem.F.type_dict_get,dd.typeIs,dd.mapOf.noDict,?_⟩
  have hA:=(cX he (cX hd iz hs2) (by rw[hs,hs2])) cpos pins s1 σ H1 (fun xs H2=>∃q y z u x,xs=[u,x]/\Rep C.X.K H2 q u/\Rep C.X.K H2 y x/\tR (.dct ks ps) q y=some z/\Same H1 H2/\∀v H',Same H H'->Rep C.X.K H' z v->Q v H') I1 ⟨ρ,vw.same sm,(k.bind.same sm).imp fun q _ k2 u H2 s2 r2=>⟨ρ,vw.same (sm.trans s2),(k2.bind.same (sm.trans s2)).imp fun y _ k4 x H3 s3 r3=>by
   obtain⟨z,ez,k3⟩:=k4.ofO;exact⟨q,y,z,u,x,rfl,r2.same s3,r3,ez,s2.trans s3,k3⟩⟩⟩
  rw[hs] at hA ⊢;refine Qb rfl (Qx ?_);refine thn hA fun us s2 ⟨xs,H2,I2,r2,q,y,z,u,x,eu,rq,ry,ez,s2',k3⟩=>?_;subst eu
  obtain⟨u',x',rfl,ru,rx⟩:∃u' x',us=[u',x']/\RelV u u'/\RelV x x':=by
   cases r2 with
   | cons a b=>
    obtain⟨x',e,rx⟩:=vals1 b;subst e;exact⟨_,x',rfl,a,rx⟩
  obtain⟨kk,ek,ez⟩:=Kx.mp (show (fQ q).bind (fun k=>some ((cq ks ps k).getD y))=some z from ez);cases ez;have hy:=eL ek rq.o;subst hy;obtain⟨a2,kvs2,ea,g2,e2,rr2⟩:=ro'.same s2';cases ea;obtain⟨_,hd2,vs2,rel2,dd2⟩:=DkR.at hw I2 g2;refine call_meetsIn QT dd2.typeIs PySem.F.entry_dict_get (PySem.F.args_dict_get_3 _ _ _) (meets_dict_get_default (aB C.X.prog C.X.w) a (lR ru) hd2 x') ⟨_,dd2.mapOf,?_⟩;cases el:cq ks ps kk with
  | some p'=>
   obtain⟨w,ew,rp⟩:=jg e2 rr2 el;obtain⟨w',hw',rw'⟩:=qO.some_of (v:=w) (o:=MG vs2 kk) (by rw[← ew];exact rel2.val kk);rw[hw'];rw[el] at k3;exact⟨w,H2,I2.tok _,rw',k3 w H2 (sm.trans s2') rp⟩
  | none=>
   have ew:=nj (k:=kk) e2 rr2 el;have hn:MG vs2 kk=none:=qO.none_of (by rw[← ew];exact rel2.val kk);rw[hn];rw[el] at k3;exact⟨x,H2,I2.tok _,rx,k3 x H2 (sm.trans s2') ry⟩
 | _=>exact KJ k
end PU
end
section
namespace PU
open PySem
def nB:PV->PV->Option PV
 | .str x,.str y=>match MA x y 0 x.length 1 with
  | i::_=>some (.int i)
  | []=>none
 | _,_=>none
end PU
namespace PU
open PySem PySem.Spec PyProof.Rows L2 PySem.SeqAt
variable[TW]
theorem DM:StrM "index" "str.index":=⟨PySem.F.slot_str_index,PySem.F.type_str_index⟩
theorem Ey {X:Cx}:MtR X "str.index" (rM1 X.K nB):=by
 intro pins s σ H x xs v us Q I rx rs ⟨p,q,z,u,e1,rp,rq,ez,k⟩;subst e1;obtain⟨a,b,t,t2,rfl,rfl,rfl,rfl⟩:=xS (g:=nB) (fun p q z e=>by unfold nB at e;split at e;exact⟨_,_,rfl,rfl⟩;cases e) rx rs rp rq ez
 have ez:(match MA a b 0 a.length 1 with
  | i::_=>some (PV.int i)
  | []=>none)=some z:=ez
 cases ho:MA a b 0 a.length 1 with
 | nil=>rw[ho] at ez;cases ez
 | cons i r=>
  rw[ho] at ez;cases ez;exact SC.index ho ⟨.int _,H,I.tok _,⟨_,rfl⟩,k _ H (Same.refl H) rfl⟩
end PU
end
namespace PU
open PySem PySem.Spec PyProof.Rows L2 PySem.SeqAt
theorem con_str{w:LI}{tabs:List Addr}{qual:Nat->Nat->Str}{K:KA}{h:Heap}{mg:Str->Option KB}{x:Str}{i:Str}{t:Tok}(X:K.In h)(G:h.Ns mainGlobals mg)(n1:Lq K mainGlobals x=some (some (.str i t))):@Con ⟨w,tabs,qual⟩ K mg x (.str i):=by
 letI:TW:=⟨w,tabs,qual⟩
 exact⟨.str i,.str i t,OG X G n1,⟨t,rfl⟩,fun H=>rfl⟩
end PU
namespace PU
open PySem PySem.Spec PyProof.Rows L2 PySem.SeqAt
variable[TW]
theorem yY{C:Cn}{a b c:Expr}{fa fb fc:PSt->R PV}{pos:Ma}{op op':CmpOp}{g g':PV->PV->Option PV}(ho:OpR C.X (LZ op) (rP C.X.K g))(ho':OpR C.X (LZ op') (rP C.X.K g'))(hg:pE g)(hg':pE g')(ha:EO C a fa)(hb:EO C b fb)(hc:EO C c fc)
  (hm:lastMarks [op,op'] [b,c]=false:=by with_unfolding_all rfl):ET C (.Compare a [op,op'] [b,c] pos) (bq (sH fa fb fc g g')):=by
 intro pins s σ H Q I ⟨ρ,vw,q⟩;refine yj ho ho' ha hb hc hm pins s σ H Q I ?_;have q1:=q.bind;refine⟨ρ,vw,q1.bind.imp fun p _ k v H1 s1 r1=>⟨ρ,vw.same s1,(k.bind.same s1).imp fun p2 _ k2 u H2 s2 r2=>?_⟩⟩;obtain⟨z,ez,k3⟩:=k2.bind.ofO;obtain⟨bb,rfl⟩:=hg _ _ _ ez;refine⟨p,p2,.bl bb,r1.same s2,r2,ez,fun w H3 s3 r3=>?_⟩;cases (show w=.bl bb from r3);refine⟨bb,rfl,?_⟩;have s13:=(s1.trans s2).trans s3;cases bb with
 | true=>
  refine CV ⟨ρ,vw.same s13,?_⟩;refine(RQ.same (RQ.bind k3) s13).imp fun p3 _ k4 w4 H4 s4 r4=>?_;obtain⟨z2,ez2,k5⟩:=k4.ofO;obtain⟨b2,rfl⟩:=hg' _ _ _ ez2;refine⟨p2,p3,.bl b2,(r2.same s3).same s4,r4,ez2,fun w5 H5 s5 r5=>?_⟩;cases (show w5=.bl b2 from r5);obtain⟨b3,eb,k6⟩:=k5.ofO;cases eb;exact⟨b2,rfl,k6 H5 ((s13.trans s4).trans s5)⟩
 | false=>
  have k3:RQ C H (R.ofO (ub (.bl false))) (fun b=>∀H',Same H H'->Q b H'):=k3;obtain⟨b3,eb,k6⟩:=RQ.ofO k3;cases eb;exact CW ⟨false,rfl,k6 H3 s13⟩
end PU
namespace PU
open PySem PySem.Spec PyProof.Rows L2 PySem.SeqAt
def yP:PV->Option Int->Option Int->Option PV
 | .str x,lo,hi=>if x.length<=16777216 then some (.str (M3 x lo hi)) else none
 | .lst ps,lo,hi=>gSl (.lst ps) lo hi
 | .tup ps,lo,hi=>gSl (.tup ps) lo hi
 | _,_,_=>none
def k8(f:PSt->R PV)(l h:PSt->R (Option Int)):PSt->R PV:=fun ρ=>f ρ >>= fun p=>l ρ >>= fun lo=>h ρ >>= fun hi=>R.ofO (yP p lo hi)
variable[TW]
def JK(K:KA):V->Option Int->Option Int->Hp->VK->Prop:=fun v lo hi H Q=>∃p z,bc K H p v/\yP p lo hi=some z/\∀w H',Same H H'->Rep K H' z w->Q w H'
theorem slA{X:Cx}:SlR X (JK X.K):=by
 intro pins s σ H x v vl vu lo hi sl Q I rx hs pl pu ⟨p,z,rp,ez,k⟩;cases p with
 | lst ps=>exact slP pins s σ H x v vl vu lo hi sl Q I rx hs pl pu ⟨_,z,rp,ez,k⟩
 | tup ps=>exact slP pins s σ H x v vl vu lo hi sl Q I rx hs pl pu ⟨_,z,rp,ez,k⟩
 | str y=>
  simp only[yP] at ez;split at ez
  ·rename_i hz
   cases ez;cases (show x=.str y from rp);obtain⟨t,rfl⟩:=rx;have fin:∀(lo hi:Option Int) t' kk,(∀w H',Same H H'->Rep X.K H' (.str (M3 y lo hi)) w->Q w H')->EP X pins σ Q (.str (M3 y lo hi) t') { s with toks:=kk }:=fun lo hi t' kk k=>⟨.str _,H,I.tok _,⟨t',rfl⟩,k _ H (Same.refl H) rfl⟩;obtain⟨o,e1,e2,e3⟩:=hs;have hz:y.length<=sizeLine:=by rw[Li];exact hz
   refine⟨"str",_,PySem.F.slot_str_getitem.lookup,typeIs_str _ _ _,?_⟩;cases pl with
   | none=>
    cases pu with
    | none=>exact Ni (l:=none) (u:=none) (st:=none) ⟨o,e1,e2,e3⟩ rfl (PB ⟨Lk (O2 y _ _) hz,fun t' kk=>fin none none t' kk k⟩)
    | int j uj=>exact Ni (l:=none) (u:=some (j,uj)) (st:=none) ⟨o,e1,e2,e3⟩ rfl (PB ⟨Lk (O2 y _ _) hz,fun t' kk=>fin none (some j) t' kk k⟩)
   | int i ui=>
    cases pu with
    | none=>exact Ni (l:=some (i,ui)) (u:=none) (st:=none) ⟨o,e1,e2,e3⟩ rfl (PB ⟨Lk (O2 y _ _) hz,fun t' kk=>fin (some i) none t' kk k⟩)
    | int j uj=>exact Ni (l:=some (i,ui)) (u:=some (j,uj)) (st:=none) ⟨o,e1,e2,e3⟩ rfl (PB ⟨Lk (O2 y _ _) hz,fun t' kk=>fin (some i) (some j) t' kk k⟩)
  ·cases ez
 | _=>cases ez
theorem gV{C:Cn}{e:Expr}{f:PSt->R PV}{lo hi:Option Expr}{l h:PSt->R (Option Int)}{pos p2:Ma}(ha:EO C e f)(hl:EOI C lo l)(hh:EOI C hi h):EV C (.Subscript e (.Slice lo hi none p2) pos) (k8 f l h):=by
 intro pins s σ H Q I ⟨ρ,vw,q⟩;refine rC slA ha hl hh pins s σ H Q I ⟨ρ,vw,q.bind.imp fun p _ k v H1 s1 r1=>⟨ρ,vw.same s1,(k.bind.same s1).imp fun o1 _ k2 H2 s2=>⟨ρ,(vw.same s1).same s2,(k2.bind.same (s1.trans s2)).imp fun o2 _ k3 H3 s3=>?_⟩⟩⟩;obtain⟨z,ez,k4⟩:=k3.ofO;exact⟨p,z,(r1.same s2).same s3,ez,fun w H4 s4 r4=>k4 w H4 (((s1.trans s2).trans s3).trans s4) r4⟩
end PU
namespace PU
open PySem PySem.Spec PyProof.Rows L2 PySem.SeqAt
def xI(ps qs:List PV):List (List PV):=ps.zipWith (fun a b=>[a,b]) qs
def iW:PV->Bool
 | .non | .bl _ | .int _ | .str _=>true
 | _=>false
def FZ(f g:PSt->R PV):PSt->R (List PV):=fun ρ=>f ρ >>= fun p=>g ρ >>= fun q=>(match p,q with
 | .lst ps,.lst qs=>if (ps.all iW || qs.all iW)=true then .ok ((xI ps qs).map .tup) else .no
 | _,_=>.no)
variable[TW]
section
variable{P : L6}{w : LI}{K : KA}{elts : List Expr}{kk : Nat}{tp : Ma}
def FY(xs ys:List V):List (List V):=xs.zipWith (fun a b=>[a,b]) ys
theorem so{x:V}{u:KB}(r:RelV x u)(h:∀b,x≠.ref b):¬ ∃b,u=M5 b:=fun ⟨b,e⟩=>by
 subst e;cases x with
 | ref a=>exact h a rfl
 | non=>cases r
 | bl b=>cases r
 | ty n=>cases r
 | int i=>obtain⟨t,r⟩:=r;cases r
 | str i=>obtain⟨t,r⟩:=r;cases r
 | byt i=>obtain⟨t,r⟩:=r;cases r
 | flt i=>obtain⟨t,r⟩:=r;cases r
theorem yV{K:KA}{H:Hp}{p:PV}{x:V}(hf:iW p=true)(r:Rep K H p x):∀b,x≠.ref b:=fun b e=>by
 subst e;cases p with
 | non=>cases (show V.ref b=_ from r)
 | bl _=>cases (show V.ref b=_ from r)
 | int _=>cases (show V.ref b=_ from r)
 | str _=>cases (show V.ref b=_ from r)
 | _=>cases hf
theorem pK{K:KA}{H:Hp}{ps:List PV}{xs:List V}(hf:ps.all iW=true)(r:aO K H ps xs):∀x∈xs,∀b,x≠.ref b:=fun x hx=>by
 obtain⟨i,hi⟩:=Np.mp hx;have hl:=r.length;have hlt:i<ps.length:=by rw[hl];exact(KN.mp hi).1
 have e1:ps[i]?=some ps[i]:=by simp[hlt]
 obtain⟨y,ey,ry⟩:=r.get e1;rw[hi] at ey;cases ey;exact yV (Nq.mp hf _ (N8 hlt)) ry
theorem xT(z TI TO i1 i2 a b:Addr)(D:ZipApart z TI TO i1 i2 a b)(xs ys:List V)(hfl:(∀x∈xs,∀b,x≠V.ref b)\/(∀y∈ys,∀b,y≠V.ref b)) :
  Turn P w K (.Tuple elts kk tp) (oE (min xs.length ys.length) (fun H=>SqL K H a xs/\SqL K H b ys) (FY xs ys)) [z,TI,TO,i1,i2] z
   (fun i h=>IsZip h z TI TO .none/\IsPair h TI (.ref i1) (.ref i2)/\(∃a b,IsPair h TO a b)/\h.IsListIter i1 a i/\h.IsListIter i2 b i):=by
 refine uD (wr:=[z,TO,i1,i2]) (n:=min xs.length ys.length) (fun X pins σ H s i hP hw hK hc I st hg=>?_) (by simp) (fun b hb=>by simp at hb ⊢;rcases hb with rfl | rfl | rfl | rfl <;> simp) (fun i h st b hb=>?_) (fun i h h' st k=>?_) (fun i H h=>h.1) (fun i H h=>h.1) fun A i s Q E st h=>wpAny_pyIter_zip st.1 h
 ·subst hP hw hK
  obtain⟨hq1,hq2⟩:SqL X.K H a xs/\SqL X.K H b ys:=by rcases hg with h | h <;> exact h.2
  obtain⟨its1,rv1,pl1,hz1⟩:=I.list hq1;obtain⟨its2,rv2,pl2,hz2⟩:=I.list hq2;have hl1:=rv1.length;have hl2:=rv2.length;have W:=WalksT.zip2 (prog:=X.prog) (w:=X.w) (A:=X.A) (I.ok.hd hc) z TI TO i1 i2 a b D its1.toArray its2.toArray;rw[show min its1.toArray.size its2.toArray.size=min xs.length ys.length by simp[hl1,hl2]] at W;refine⟨_,_,_,_,W,⟨st.1,st.2.1,st.2.2.1,st.2.2.2.1,st.2.2.2.2,pl1.isList,pl2.isList⟩,fun j h st=>⟨st.1,st.2.1,st.2.2.1,st.2.2.2.1,st.2.2.2.2.1⟩,fun vals hv=>?_⟩;obtain⟨x,y,hx,hy,rfl⟩:=hv;have hx:its1[i]?=some x:=by simpa using hx
  have hy:its2[i]?=some y:=by simpa using hy
  have h1:i<xs.length:=by rw[hl1];exact(KN.mp hx).1
  have h2:i<ys.length:=by rw[hl2];exact(KN.mp hy).1
  have e1:xs[i]?=some xs[i]:=by simp[h1]
  have e2:ys[i]?=some ys[i]:=by simp[h2]
  obtain⟨u,eu,ru⟩:=rv1.get e1;rw[hx] at eu;cases eu;obtain⟨v,ev,rv⟩:=rv2.get e2;rw[hy] at ev;cases ev;refine⟨[xs[i],ys[i]],.cons ru (.cons rv .nil),by show 2<=sizeLine;decide,fun z=>?_,fun T hT=>⟨T,_,rfl,hT,?_,rfl⟩⟩
  ·rcases hfl with g | g
   ·exact so ru (g _ (N8 h1)) (z _ LO)
   ·exact so rv (g _ (N8 h2)) (z _ (LG _ LO))
  unfold FY;rw[Oq,e1,e2]
 ·obtain⟨hz,hTI,⟨u,v,hTO⟩,⟨o1,ho1,_,hd1⟩,o2,ho2,_,hd2⟩:=st
  simp only[L4,MC,or_false] at hb;rcases hb with rfl | rfl | rfl | rfl | rfl
  ·exact⟨_,hz,fun v z=>by cases (show Q1 _=P6 v from z)⟩
  ·exact⟨_,hTI,fun v z=>by cases (show Data.seq _ _=P6 v from z)⟩
  ·exact⟨_,hTO,fun v z=>by cases (show Data.seq _ _=P6 v from z)⟩
  ·exact⟨o1,ho1,fun v z=>by rw[hd1] at z;cases z⟩
  ·exact⟨o2,ho2,fun v z=>by rw[hd2] at z;cases z⟩
 ·obtain⟨hz,hTI,⟨u,v,hTO⟩,h1,h2⟩:=st
  exact⟨k z (by simp) _ hz,k TI (by simp) _ hTI,⟨u,v,k TO (by simp) _ hTO⟩,h1.at fun o x=>k i1 (by simp) o x,h2.at fun o x=>k i2 (by simp) o x⟩
end
theorem xH{K:KA}{H:Hp}{ps qs:List PV}{xs ys:List V}(r1:aO K H ps xs)(r2:aO K H qs ys):∀(i:Nat)(zs:List PV)(ws:List V),(xI ps qs)[i]?=some zs->(FY xs ys)[i]?=some ws->aO K H zs ws:=fun i zs ws h1 h2=>by
 unfold xI at h1;unfold FY at h2;rw[Oq] at h1 h2;cases e:ps[i]? with
 | none=>rw[e] at h1;cases h1
 | some p=>
  cases e2:qs[i]? with
  | none=>rw[e,e2] at h1;cases h1
  | some q=>
   rw[e,e2] at h1;obtain⟨x,ex,rp⟩:=r1.get e;obtain⟨y,ey,rq⟩:=r2.get e2;rw[ex,ey] at h2;cases h1;cases h2;exact⟨_,_,rfl,rp,_,_,rfl,rq,rfl⟩
theorem FD {C:Cn} {e e2:Expr} {elts:List Expr} {kk:Nat} {tp p pos:Ma} {f g:PSt->R PV} (hg:Gl C.X "zip") (hm:C.X.mg "zip"=none) (he:EV C e f) (he2:EV C e2 g)
  (hs:LA [e,e2] C.X.env=[(false,M7 e C.X.env),(false,M7 e2 C.X.env)]:=by exact qW rfl rfl) (hs2:LA [e2] C.X.env=[(false,M7 e2 C.X.env)]:=by exact cT rfl) :
  EI C (.Tuple elts kk tp) (.Call (.Name "zip" p) [e,e2] [] pos) (FZ f g):=by
 intro pins s σ H Rk I ⟨ρ,vw,q⟩
 refine Call_ (lL I hg hm PyProof.Rows.boot_zip (MF (thn ((cX he (cX he2 iz hs2) (by rw[hs,hs2])) pos pins s σ H (fun vs H'=>∃v u ps qs,vs=[v,u]/\Same H H'/\Rep C.X.K H' (.lst ps) v/\Rep C.X.K H' (.lst qs) u/\(ps.all iW || qs.all iW)=true/\∀J H2,Same H' H2->ItP C.X.K J H2 ((xI ps qs).map .tup)->Rk J H2) I ⟨ρ,vw,q.bind.imp fun p _ k v H1 s1 r1=>⟨ρ,vw.same s1,(k.bind.same s1).imp fun p2 _ k2 u H2 s2 r2=>?_⟩⟩)
  fun us s1 ⟨vs,H1,I1,r1,v,u,ps,qs,ev,sm,rp,rq,hfl,k⟩=>?_) (by rw[hs,hs2]) (by rw[hs2];rfl)))
 ·cases p with
  | lst ps=>
   cases p2 with
   | lst qs=>
    by_cases hfl:(ps.all iW || qs.all iW)=true
    ·simp only[if_pos hfl] at k2
     exact⟨v,u,ps,qs,rfl,s1.trans s2,r1.same s2,r2,hfl,fun J H3 s3 it=>k2 J H3 ((s1.trans s2).trans s3) it⟩
    ·simp only[if_neg hfl] at k2
     exact KJ k2
   | _=>exact KJ k2
  | _=>exact KJ k2
 ·subst ev
  obtain⟨w1,w2,rfl,rw1,rw2⟩:=vals2 r1;obtain⟨a,xs,rfl,g1,rr1⟩:=rp;obtain⟨b,ys,rfl,g2,rr2⟩:=rq;cases rw1;cases rw2;obtain⟨its1,rv1,pl1,hz1⟩:=I1.list g1.l.l;obtain⟨its2,rv2,pl2,hz2⟩:=I1.list g2.l.l;have ha:a<s1.heap.objs.size:=by obtain⟨o,n,ho,_⟩:=pl1;exact KZ ho
  have hb:b<s1.heap.objs.size:=by obtain⟨o,n,ho,_⟩:=pl2;exact KZ ho
  have hfl2:(∀x∈xs,∀b,x≠V.ref b)\/(∀y∈ys,∀b,y≠V.ref b):=by
   cases hA:ps.all iW with
   | true=>exact .inl (pK hA rr1)
   | false=>
    rw[hA,Bool.false_or] at hfl;exact .inr (pK hfl rr2)
  refine call_zip_2 pl1.isList pl2.isList fun h' z1 z2 z3 z4 z5 hsz hk=>wpAny_pyIter_zip z1 ?_;refine⟨_,[s1.heap.objs.size+4,s1.heap.objs.size+2,s1.heap.objs.size+3,s1.heap.objs.size,s1.heap.objs.size+1],_,_,H1,rfl,I1.kept (t':=s1.toks) hk,xT (s1.heap.objs.size+4) (s1.heap.objs.size+2) (s1.heap.objs.size+3) s1.heap.objs.size (s1.heap.objs.size+1) a b (zipApart_new ha hb) xs ys hfl2,⟨z1,z2,⟨_,_,z3⟩,z4,z5⟩,fun c hc=>?_,k _ H1 (Same.refl H1) ?_⟩
  ·have hc:s1.heap.objs.size<=c:=by
    simp only[L4,MC,or_false] at hc;rcases hc with rfl | rfl | rfl | rfl | rfl <;> omega
   exact I1.fpOk hc (I1.hok.fresh hc)
  ·refine qy ?_ (fun H2 k2=>⟨(k2.sqF g1).l.l,(k2.sqF g2).l.l⟩) (xH rr1 rr2)
   unfold xI;rw[List.length_zipWith,rr1.length,rr2.length]
end PU
namespace PU
open PySem PySem.Spec PyProof.Rows L2
variable[TW]
def spN(K:KA)(n:Nat)(F:List PV->Option PV):Sp:=fun vs H Q _=>vs.length=n/\ua H/\∃ps p,aO K H ps vs/\F ps=some p/\∀a H',Same H H'->H a=none->cH K H' a p->Q (.ref a) H'
structure PFN(P:L6)(w:LI)(K:KA)(mg:Str->Option KB)(base:Heap)(k:Nat)(x:Str)(F:List PV->Option PV):Prop where
 ex:∃(f:Addr)(fd:FuncData)(ps:List Str),FnOk P w K mg base CX0 k f fd ps (spN K ps.length F)/\mg x=some (.ref f)/\MP K (.ref f)=true/\Binds K fd ps []/\∀qs p,F qs=some p->qs.length=ps.length
end PU
namespace PU
open PySem PySem.Spec PyProof.Rows L2
variable[TW]
def RN(C:Cn)(B:Hp×Hp)(D:Ends):R Fl->Prop
 | .ok (.ret p)=>∀a H,Same B.1 H->B.1 a=none->cH C.X.K H a p->D.rt (.ref a) H
 | _=>False
def tSN(C:Cn)(g:PSt->R Fl):TS:=fun D σ H=>∃ρ B,StOk C.X.K B H σ ρ/\RN C B D (g ρ)
def SVN(C:Cn)(st:List Stmt)(g:PSt->R Fl):Prop:=PSs C.X st (tSN C g)
section
variable{C : Cn}{st : Stmt}{sts : List Stmt}{e : Expr}{f : PSt → R PV}{g g' : PSt → R Fl}{pos : Ma}
theorem kM(hn:∀ρ p,g ρ≠.ok (.ret p))(h1:SV C st g)(h2:SVN C sts g'):SVN C (st::sts) (aH g g'):=by
 intro pins s σ H D I ⟨ρ,B,S,h⟩;refine i5 h1 h2 pins s σ H D I ⟨ρ,B,S,?_⟩;unfold aH at h;cases hg:g ρ with
 | ok fl=>
  rw[hg] at h;cases fl with
  | next ρ'=>exact fun σ' H' S'=>⟨ρ',B,S',h⟩
  | brk ρ'=>exact KJ h
  | cont ρ'=>exact KJ h
  | ret p=>exact absurd hg (hn ρ p)
 | er x=>rw[hg] at h;exact KJ h
 | no=>rw[hg] at h;exact KJ h
omit [TW] in
theorem ll(i:Nat)(f:PSt->R PV)(ρ:PSt)(p:PV):bS i f ρ≠.ok (.ret p):=by
 unfold bS;cases f ρ with
 | ok q=>intro h;cases h
 | er x=>intro h;cases h
 | no=>intro h;cases h
end
end PU
namespace PU
open PySem PySem.Spec PyProof.Rows L2
variable[TW]
def eA(i:Nat)(fk fv:PSt->R PV):PSt->R Fl:=fun ρ=>match ρ[i]? with
 | some (.own (.lst ps))=>fv ρ >>= fun p=>fk ρ >>= fun kp=>(match kp with
  | .int j=>if 0<=j/\j<ps.length then .ok (.next (ρ.set i (.own (.lst (ps.set j.toNat p))))) else .no
  | _=>.no)
 | _=>.no
omit [TW] in
theorem Vals.setAt{v:V}{u:KB}(ru:RelV v u):∀{xs:List V}{its:List KB}(n:Nat),Vals xs its->Vals (xs.set n v) (its.set n u)
 | _,_,n,.nil=>.nil
 | _,_,0,.cons r rs=>.cons ru rs
 | _,_,n+1,.cons r rs=>.cons r (Vals.setAt ru n rs)
omit [TW] in
theorem nR {prog:L6} {w:LI} {A:LR} {E:KB->KC->Prop} {s:KC} {l:Addr} {items:Array KB} {n:Nat} {k:Int} {t:Tok} {v:KB} {Q:Unit->KC->Prop} (ho:s.heap.get? l=some { cls:=.type "list",data:=.seq items n }) (h0:0<=k) (hfit:k<2 ^ 63) (hn:k<items.size)
  (hQ:Q () { s with heap:=s.heap.update l (MD (·.setIfInBounds k.toNat v)) }):LC (LU prog w) A (setItem (.ref l) (.int k t) v) Q E s:=by
 have hl:s.heap.IsList l items:=⟨_,ho,rfl,n,rfl⟩;unfold setItem
 try with_reducible refine N4 ?_
 first | refine KF (KO ?_) | skip
 refine KF (wpAny_sequenceKey hl.typeIs (by decide) ?_)
 refine KF (Re (name:=KI "__setitem__") hl.typeIs Q3
  (Ot Q3 hl.typeIs PySem.F.entry_list_setitem ?_ (PySem.F.args_list_setitem_3 _ _ _)))
 show LC _ _ (Builtin.List.listSubscript? (.int k t) >>= _) _ _ s;refine KF (wpAny_listSubscript_int (fitsIndex_of h0 hfit) ?_);clear hfit;obtain⟨j,rfl⟩:=Ql h0;have hj:j<items.size:=by omega
 have hx':items[j]?=some items[j]:=Mb hj;show LC _ _ ((seqItemAt l j >>= fun r=>pure (r.map (j,·))) >>= _) _ _ s;refine KF (KF (wpAny_seqItemAt ho rfl (KO ?_)));rw[hx'];show LC _ _ (setSeqItemAt l j v >>= _) _ _ s;refine KF (wpAny_setSeqItemAt ho rfl ?_)
 first
  | exact KF (KO (KO ⟨.none,rfl,KO hQ⟩))
  | exact KO ⟨.none,rfl,KO hQ⟩
theorem fw{C:Cn}(i:Nat){x:Str}{ke e:Expr}{fk fv:PSt->R PV}{np pos' pos:Ma}(hk:EV C ke fk)(hv:EV C e fv)(hN:C.X.N[i]?=some x:=by rfl)(hvis:Vis C.X.env.scope x:=by first | exact PD rfl | exact Oo (PD rfl))
  (hs:NQ e (some (.Subscript (.Name x np) ke pos')) pos.line C.X.env=pure false:=by rfl) (hd:(x == ("__debug__":Str))=false:=by decide) (hcd:(x == ("__classdict__":Str))=false:=by decide) :
  SV C (.Assign [.Subscript (.Name x np) ke pos'] e pos) (eA i fk fv):=by
 intro pins s σ H D I ⟨ρ,B,S,q⟩;unfold eA at q;split at q
 ·rename_i ps e1
  obtain⟨a,e2,xs,hx,rr⟩:=S.vw i _ e1
  refine Rq (thn (hv pins s σ H (fun v H1=>∃p,Same H H1/\Rep C.X.K H1 p v/\RQ C H1 (fk ρ) (fun kp=>RS C B D (match kp with
   | .int j=>if 0<=j/\j<ps.length then R.ok (.next (ρ.set i (.own (.lst (ps.set j.toNat p))))) else .no
   | _=>.no))) I ⟨ρ,S.vw,(RS.bind q S.same).imp fun p _ q1 v H1 s1 r1=>⟨p,s1,r1,RS.bind q1 (S.same.trans s1)⟩⟩) fun uv s1 ⟨v,H1,I1,rv,p,sm1,rp1,q1⟩=>?_) hs
  refine thn ((gw hN hvis hd hcd) pins s1 σ H1 (fun u H2=>u=.ref a/\H2=H1) I1 ⟨_,e2,rfl,rfl⟩) fun u s2 ⟨x2,H2,I2,rx,ex2,eh2⟩=>?_;subst ex2 eh2;refine thn (hk pins s2 σ H2 (fun y H3=>∃j:Int,Same H2 H3/\y=.int j/\RS C B D (if 0<=j/\j<ps.length then R.ok (.next (ρ.set i (.own (.lst (ps.set j.toNat p))))) else .no)) I2 ⟨ρ,S.vw.same sm1,q1.imp fun kp _ q2 y H3 s3 r3=>?_⟩) fun iv s3 ⟨y,H3,I3,ry,j,sm3,ey,q3⟩=>?_
  ·cases kp with
   | int j=>exact⟨j,s3,r3,q2⟩
   | _=>exact KJ q2
  ·subst ey
   cases rx;obtain⟨t,rfl⟩:=ry
   by_cases hj:0<=j/\j<ps.length
   ·rw[if_pos hj] at q3
    have hx3:H3 a=some (.lst xs):=sm3 _ _ (sm1 _ _ hx);obtain⟨z,its,n,r,hl,eo⟩:=I3.lstM hx3;obtain⟨m,rfl⟩:=Ql hj.1;have hm:m<ps.length:=by have:=hj.2;omega
    have hps:=rr.length;have hsz:=Li;refine nR eo hj.1 (by omega) (by rw[LD];omega) ?_;have I4:=I3.lset (its':=its.set m uv) (ys:=xs.set m v) (t':=s3.toks) (f:=fun y=>y.setIfInBounds m uv) hx3 eo (by simp) (Vals.setAt rv m r) (by rw[Ol];exact z);refine⟨σ,_,I4,q3 σ _ (((S.grow sm1).grow sm3).turn e1 e2 (fun b hb=>aL hb) ?_)⟩;have kp:Kp H3 (upd H3 a (.lst (xs.set m v))):=Kp.upd hx3 rfl;exact⟨a,rfl,xs.set m v,aF,aO.set m (aO.kp kp _ ((rr.same sm1).same sm3)) (Rep.kp kp _ (rp1.same sm3))⟩
   ·rw[if_neg hj] at q3
    exact KJ q3
 ·exact KJ q
end PU
namespace PU
open PySem PySem.Spec PyProof.Rows L2 PySem.SeqAt
theorem l9:typeLookup (.type "tuple") "keys"=pure none:=by rw[typeLookup_type,builtinLookup_eq_fast];kernel_rfl
theorem jA{prog:L6}{w:LI}{A:LR}{E:KB->KC->Prop}{s:KC}{a:Addr}{o:Obj}{xs:Array KB}{k:Nat}{name:Str}{Q:Option KB->KC->Prop}
  (hx:s.heap.get? a=some o) (hc:o.cls=.type "tuple") (hdat:o.data=.seq xs k) (hd:o.dict=none) (hmiss:typeLookup (.type "tuple") name=pure none) (hname:(["__module__","__name__","__qualname__","__doc__","__annotations__"]:List Str).contains name=false) (hA:A.handled=none)
  (h:∀h' tk e,Heap.NewExcOf s.heap h' e "AttributeError"->Q none { s with heap:=h',toks:=tk }) (hsz:name.length+100<=sizeLine:=by size_fits) :
  LC (LU prog w) A (getAttr? (.ref a) name) Q E s:=by
 obtain⟨c,dct,dat,sl⟩:=o;simp only at hc hdat hd;subst hc hdat hd;obtain⟨hp,g,d,tk,os⟩:=s;have hT:∀tk',(⟨hp,g,d,tk',os⟩:KC).TypeIs (.ref a) "tuple":=fun _=>⟨_,hx,rfl⟩;have f1:=sub_AttributeError;have f3:=OQ.lookup;have f4:=OQ.bind (.ref a);have f5:=am_tuple_getattr_none;unfold getAttr? getAttrBy? getAttrBy
 repeat (any_goals (first | assumption | exact hT _ | ((with_reducible show LC _ _ (call (Value.builtin "tuple.__getattribute__") _ _) _ _ _);refine call_meets OQ (hT _) am_entry_tuple_getattribute (F.args_tuple_getattribute_2 _ _) (meets_getattribute_miss_tuple a xs k sl name _ hmiss hname hsz) ⟨hx,hA,fun h' tk' e hx'=>?_⟩) | wp_step))
 obtain⟨t',u',he⟩:=hx'.there;show LC _ _ (getattributeRaised _ _ _ _ _ _ _) _ _ _;unfold getattributeRaised
 repeat (any_goals (first | assumption | wp_step))
 exact h _ _ _ hx'.of
theorem iD:entryFor table "dict.update.loop"=some Nv.«dict.update.loop»:=entryFor_of_tree (by kernel_rfl)
section
variable{prog : L6}{w : LI}{K : Type}[DecidableEq K]{knd : KeyKind prog w K}{A : LR}
def storeAll(acc:List (K×KB))(l:List (K×KB)):List (K×KB):=l.foldl (fun a p=>Qp a p.1 p.2) acc
theorem qQ{R:Result->KC->Prop}{h0:Heap}{d it a:Addr}{items:Array KB}{kvs:List (K×KB)}{result:KB}(hh:A.handled=none)(hda:a≠d)(hia:a≠it)(hdi:d≠it)(ha:h0.IsTuple a items)(hn:items.size=kvs.length)
  (hp:∀(j:Nat)(x:KB),items[j]?=some x->∃(p:Addr)(key:KB)(k:K)(v:KB),x=.ref p/\kvs[j]?=some (k,v)/\p≠d/\p≠it/\h0.IsTuple p #[key,v]/\knd.is k key=true) :
  ∀(m i:Nat)(s:KC)(acc:List (K×KB)),m=items.size-i->i<=items.size->(∀b o,b≠d->b≠it->h0.get? b=some o->s.heap.get? b=some o)->s.heap.IsTupleIter it a i->s.heap.DictOf knd d acc->acc.length+m<=sizeLine->
   (∀h' tk,(∀b o,b≠d->b≠it->h0.get? b=some o->h'.get? b=some o)->h'.DictOf knd d (storeAll acc (kvs.drop i))->R (.ok (.ret result)) { s with heap:=h',toks:=tk })->
   Oe (LU prog w) A (.builtin "dict.update.loop" ⟨[.ref d,.ref it,NU (i:Int),result],[]⟩) R s
 | 0,i,s,acc,hm,hi,hk,hit,hd,hz,hR=>by
  have e:i=items.size:=by omega
  have hq:s.heap.IsTuple a items:=ha.at fun o e=>hk a o hda hia e;refine Mk iD ?_;unfold Nv.«dict.update.loop»;show LC _ _ (pyNext (.ref it) >>= _) _ _ s;refine KF (Ro (by exact hh) hit hq (by rw[e];simp) fun h' eb=>?_);have hd':h'.DictOf knd d acc:=hd.extBut eb hdi;show LC _ _ (Builtin.Dict.addKeywords d [] >>= _) _ _ _;refine KF (KO (KO (hR h' s.toks (fun b o hb1 hb2 q=>eb b o hb2 (hk b o hb1 hb2 q)) ?_)));rw[e,hn,OZ];exact hd'
 | m+1,i,s,acc,hm,hi,hk,hit,hd,hz,hR=>by
  have hlt:i<items.size:=by omega
  have hq:s.heap.IsTuple a items:=ha.at fun o e=>hk a o hda hia e;have hx:items[i]?=some items[i]:=by simp[hlt]
  obtain⟨p,key,k,v,ex,ek,h1,h2,h3,h4⟩:=hp i _ hx;refine Mk iD ?_;unfold Nv.«dict.update.loop»;show LC _ _ (pyNext (.ref it) >>= _) _ _ s;refine KF (Rc hit hq hx fun h' hit' sb=>?_);rw[ex];have hd':h'.DictOf knd d acc:=hd.extBut sb.extBut hdi;have hpt:h'.IsTuple p #[key,v]:=h3.at fun o e=>(sb.2 p h2).trans (hk p o h1 h2 e);obtain⟨op,hop,hcp,np,hdp⟩:=id hpt;dsimp only;refine KF (N4 (KF (wpAny_tryCatch ?_)));unfold Builtin.Dict.pairItems;refine KF (Oy hpt.typeIs ?_);rw[if_pos (by decide)];refine KF ?_
  have hsi:LC (LU prog w) (A.under (Code.builtin "dict.update.loop" ⟨[.ref d,.ref it,NU (i:Int),result],[]⟩)) (seqItems? (.ref p)) (fun r s'=>r=some #[key,v]/\s'={ s with heap:=h' }) (fun _ _=>False) { s with heap:=h' }:=by
   repeat (any_goals (first | assumption | wp_step))
   rw[hdp];exact KO ⟨rfl,rfl⟩
  refine MO hsi (fun r s' hr=>?_) fun _ _ h=>h.elim;obtain⟨rfl,rfl⟩:=hr;refine KO ?_;show LC _ _ (holding [key,v] (dictSet d key v)) _ _ _;refine N4 (wpAny_dictSet_pairs h4 hd' (fun h'' hd'' sb'=>?_) (by omega));refine KO ⟨Code.quiet_builtin _ (by decide +kernel),?_⟩;have ei:((i:Int)+1)=((i+1:Nat):Int):=by omega
  rw[ei];have hlen:=stored_length_le acc k v;refine qQ hh hda hia hdi ha hn hp m (i+1) _ (Qp acc k v) (by omega) hlt (fun b o hb1 hb2 q=>?_) ?_ hd'' (by omega) fun h3 tk hk3 hd3=>hR h3 tk hk3 ?_
  ·exact(sb'.2 b hb1).trans ((sb.2 b hb2).trans (hk b o hb1 hb2 q))
  ·exact hit'.at fun o e=>(sb'.2 it (N3 hdi)).trans e
  ·have hdr:kvs.drop i=(k,v)::kvs.drop (i+1):=by
    obtain⟨hl,e⟩:=KN.mp ek;rw[LH hl,e]
   rw[hdr];exact hd3
theorem mB {E:KB->KC->Prop} {s:KC} {a:Addr} {o:Obj} {items:Array KB} {n0:Nat} {kvs:List (K×KB)} {Q:KB->KC->Prop} (hA:A.handled=none) (hx:s.heap.get? a=some o) (hc:o.cls=.type "tuple") (hdat:o.data=.seq items n0) (hdn:o.dict=none)
  (hn:items.size=kvs.length) (hz:kvs.length<=sizeLine)
  (hp:∀(j:Nat)(x:KB),items[j]?=some x->∃(p:Addr)(key:KB)(k:K)(v:KB),x=.ref p/\kvs[j]?=some (k,v)/\s.heap.IsTuple p #[key,v]/\knd.is k key=true)
  (h:∀h' tk,(∀b o,s.heap.get? b=some o->h'.get? b=some o)->h'.DictOf knd s.heap.objs.size (storeAll [] kvs)->Q (.ref s.heap.objs.size) { s with heap:=h',toks:=tk }) :
  LC (LU prog w) A (call (.type "dict") [.ref a]) Q E s:=by
 refine callType_codes (Q₁:=fun obj s₁=>obj=.ref s.heap.objs.size/\s₁={ s with heap:=s.heap.push { cls:=.type "dict",data:=.dict #[] } }) F.kt_called_dict (F.kt_typeCall_dict_1 _) F.entry_dict_init (kt_code_dict_new _ ⟨rfl,rfl⟩) ?_;rintro obj s₁ ⟨rfl,rfl⟩;have hnew:(s.heap.push { cls:=.type "dict",data:=.dict #[] }).DictOf knd s.heap.objs.size []:=Qd s.heap;have hx':(s.heap.push { cls:=.type "dict",data:=.dict #[] }).get? a=some o:=KL _ hx;have hT:Shared.TypeIs { s with heap:=s.heap.push { cls:=.type "dict",data:=.dict #[] } } (.ref a) "tuple":=⟨o,hx',hc⟩;refine⟨hnew.typeIs,F.args_dict_init_2 _ _,?_⟩;unfold Nv.«dict.__init__»;refine KF ?_;unfold Builtin.Dict.selfAndRest;refine KF (wpAny_notOrdered_dict hnew.typeIs ?_);show LC _ _ (pure (s.heap.objs.size,[M5 a])) _ _ _;refine KO ?_;show LC _ _ (Pi "dict.__init__" s.heap.objs.size (.ref a) [] .none) _ _ _;unfold Pi;refine KF (Oy hT ?_);rw[if_pos (by decide)];refine KF (jA hx' hc hdat hdn l9 (by decide +kernel) (by exact hA) fun h1 tk1 e1 ne=>?_);have k1:∀b u,(s.heap.push { cls:=.type "dict",data:=.dict #[] }).get? b=some u->h1.get? b=some u:=fun b u q=>ne.keeps b u q;rw[if_pos (show (none:Option KB).isNone=true from rfl)];have ht:h1.IsTuple a items:=⟨o,k1 a o hx',hc,n0,hdat⟩;refine KF (Qn (KF (wpAny_pyIter_tuple ht ?_)))
 have sD:s.heap.objs.size<h1.objs.size:=by
  obtain⟨od,_,_,hod,_⟩:=hnew;exact KZ (k1 _ _ hod)
 have k2:∀b u,s.heap.get? b=some u->(h1.push { cls:=.type "tuple_iterator",data:=.fields #[.ref a,.int 0 0] }).get? b=some u:=fun b u q=>KL _ (k1 b u (KL _ q));refine KO ⟨Code.quiet_builtin _ (by decide +kernel),?_⟩;have lts:∀b u,s.heap.get? b=some u->b≠s.heap.objs.size/\b≠h1.objs.size:=fun b u q=>⟨LQ (KZ q),LQ (Nat.lt_trans (KZ q) sD)⟩;refine qQ (knd:=knd) (h0:=h1.push { cls:=.type "tuple_iterator",data:=.fields #[.ref a,.int 0 0] }) (kvs:=kvs) (by exact hA) (lts a o hx).1 (lts a o hx).2 (LQ sD) (ht.push _) hn (fun j x hj=>?_) items.size 0 _ [] (by omega) (MQ _) (fun b u _ _ q=>q) ⟨_,LM _ rfl,rfl,rfl⟩ ?_ (by simp;omega) fun h' tk hk' hd'=>?_
 ·obtain⟨p,key,k,v,e1,e2,e3,e4⟩:=hp j x hj
  obtain⟨op,hop,r⟩:=id e3;exact⟨p,key,k,v,e1,e2,(lts p op hop).1,(lts p op hop).2,⟨op,k2 p op hop,r⟩,e4⟩
 ·obtain⟨od,es,ep,hod,r⟩:=hnew
  exact⟨od,es,ep,KL _ (k1 _ _ hod),r⟩
 ·exact⟨rfl,h h' tk (fun b u q=>hk' b u (lts b u q).1 (lts b u q).2 (k2 b u q)) hd'⟩
end
end PU
namespace PU
open PySem L2
def kc:List PV->Option (List (Key×PV))
 | []=>some []
 | .tup [.str k,v]::r=>(kc r).map fun l=>(.inr k,v)::l
 | _=>none
def pJ:PV->Option PV
 | .tup ps=>if ps.length<=1000 then (kc ps).map gL else none
 | _=>none
end PU
namespace PU
open PySem PySem.Spec PyProof.Rows L2 PySem.SeqAt
variable[TW]
theorem rF{X:Cx}{pins:List (Addr×Obj)}{σ:L2.St}{H:Hp}{s:KC}(I:L2.Inv X pins σ H s):∀{ps:List PV}{kps:List (Key×PV)}{xs:List V}{its:List KB},kc ps=some kps->aO X.K H ps xs->Vals xs its->
  ∃(kvs:List (Key×V))(vs:List (Key×KB)),jZ X.K H kps kvs/\KV kvs vs/\its.length=vs.length/\∀(j:Nat)(x:KB),its[j]?=some x->∃(p:Addr)(key:KB)(k:Key)(v:KB),x=.ref p/\vs[j]?=some (k,v)/\s.heap.IsTuple p #[key,v]/\(aB X.prog X.w).is k key=true
 | [],kps,xs,its,e,r,rv=>by
  cases e;cases r;cases rv;exact⟨[],[],rfl,.nil,rfl,fun j x h=>by simp at h⟩
 | p::ps,kps,xs,its,e,r,rv=>by
  obtain⟨x,t,rfl,r1,r2⟩:=r;cases rv with
  | cons ru rv=>
  unfold kc at e;split at e
  ·rename_i h;cases h
  ·rename_i k v r' h
   cases h;obtain⟨l,el,ez⟩:=KQ.mp e;cases ez;obtain⟨kvs,vs,q1,q2,q3,q4⟩:=rF I el r2 rv;obtain⟨a,ys,rfl,g,rr⟩:=r1;obtain⟨y1,t1,rfl,h1,y2,t2,rfl,h2,h3⟩:=rr;cases h3;cases h1;cases ru;obtain⟨its2,rv2,pl,hz⟩:=I.tuple (tq g);cases rv2 with
   | cons ra rv2=>
   cases rv2 with
   | cons rb rv2=>
   cases rv2;obtain⟨tk,rfl⟩:=ra;refine⟨(.inr k,y2)::kvs,(.inr k,_)::vs,⟨y2,kvs,rfl,h2,q1⟩,.cons ⟨rfl,rb⟩ q2,by simp[q3],fun j x hj=>?_⟩;cases j with
   | zero=>
    simp at hj;subst hj;exact⟨a,_,_,_,rfl,rfl,pl,g8 _ _ _ _⟩
   | succ j=>
    obtain⟨p,key,k',v',e1,e2,e3,e4⟩:=q4 j x (by simpa using hj);exact⟨p,key,k',v',e1,by simpa using e2,e3,e4⟩
  ·cases e
omit [TW] in
theorem k7{K:Type}[DecidableEq K]:∀(l acc:List (K×KB)),(storeAll acc l).length<=acc.length+l.length
 | [],acc=>by simp[storeAll]
 | p::l,acc=>by
  have h1:=k7 l (Qp acc p.1 p.2);have h2:=stored_length_le acc p.1 p.2;have e:storeAll acc (p::l)=storeAll (Qp acc p.1 p.2) l:=rfl;rw[e,LK];omega
theorem AE {X:Cx} (hc:X.calm=true:=by rfl) (hw:X.w=TW.w:=by rfl):iZ X (.type "dict") (rn1 X.K pJ):=by
 intro pins s σ H xs us Q I r ⟨v,p,z,e1,rp,ez,k⟩;subst e1;cases p with
 | tup ps=>
  have ez:(if ps.length<=1000 then (kc ps).map gL else none)=some z:=ez
  by_cases hlen:ps.length<=1000
  ·rw[if_pos hlen] at ez
   obtain⟨kps,ek,rfl⟩:=KQ.mp ez;obtain⟨a,xs,rfl,g,rr⟩:=rp;obtain⟨u,rfl,ru⟩:=vals1 r;cases ru;obtain⟨its,rv,⟨o,ho,hcl,⟨n0,hdat⟩,hdn⟩,hz⟩:=I.tupleX (tq g);obtain⟨kvs,vs,q1,q2,q3,q4⟩:=rF I ek rr rv;have hl1:=rr.length;have hl2:=rv.length;have hs:=Li;refine mB (knd:=aB X.prog X.w) (kvs:=vs) (I.ok.hd hc) ho hcl hdat (hdn fun v hv=>(by obtain⟨j,hj⟩:=Np.mp hv;obtain⟨p,_,_,_,e,_⟩:=q4 j v (by simpa using hj);exact⟨p,e⟩)) (by rw[LD];exact q3) (by omega) (fun j x hj=>q4 j x (by simpa using hj)) fun h' tk keep D'=>?_;have nf:H s.heap.objs.size=none:=I.fresh
   have hne:(s.heap.objs.size == Lo)=false:=by
    have hb:=I.big;refine beq_eq_false_iff_ne.mpr fun e=>?_;rw[e] at hb;exact Lx _ hb
   have hm:KV (fH [] kvs) (storeAll [] vs):=KV.merge q2 .nil
   have hml:(fH [] kvs).length<=sizeLine:=by
    have a1:(fH [] kvs).length=(storeAll [] vs).length:=Ln hm;have a2:=k7 vs [];simp only[Mg] at a2;omega
   have I2:=I.laid (a:=s.heap.objs.size) (o:=.dK (fH [] kvs)) (h':=h') (t':=tk) keep (L9 _) ⟨hml,hne,_,hm,D'⟩;have kp:Kp H (upd H s.heap.objs.size (.dK (fH [] kvs))):=Same.kp (Same.new nf);obtain⟨ks',ps',g1,g2,g3⟩:=lJ (acc:=[]) (ps:=[]) (jZ.kp kp q1) aO.nil;refine⟨.ref _,_,I2,rfl,k _ _ (Same.new nf) nf ?_⟩;rw[rO];have g1:kps.foldl AH (PV.dct [] [])=PV.dct ks' ps':=g1;rw[g1];exact⟨_,aF,g2,g3⟩
  ·rw[if_neg hlen] at ez
   cases ez
 | _=>cases ez
end PU
namespace PU
open PySem PySem.Spec PyProof.Rows L2 PySem.SeqAt
def iR:List PV->Option (List Int)
 | []=>some []
 | .int i::r=>(iR r).map (i::·)
 | _=>none
def ltL:List Int->List Int->Bool
 | x::xs,y::ys=>if x=y then ltL xs ys else decide (x<y)
 | _,_=>false
def yR:PV->PV->Option PV
 | .tup [.int i,.lst ps],.tup [.int j,.lst qs]=>
  (match iR ps,iR qs with
  | some xs,some ys=>if i=j/\¬ xs.length=ys.length then none else some (.bl (if i=j then ltL xs ys else decide (i<j)))
  | _,_=>none)
 | _,_=>none
section
open AutoSeq1 (wpAny_loadPart')
open MeetsSeq MeetsSeq2 MeetsSeq3
def fL(A:LR)(s:KC)(y x:KB)(b:Bool):Prop:=
 ∀(prog:L6)(w:LI)(E:KB->KC->Prop)(Q:KB->KC->Prop),Q (.bool b) s->LC (LU prog w) A (OC .Lt y x) Q E s
def ltR(e l:Nat->Bool):List Nat->Bool
 | []=>false
 | i::r=>if e i=true then ltR e l r else l i
theorem vm(l b:Addr)(items items2:Array KB)(n n2:Nat)(dd dd2:Option Addr)(sl sl2:Array (Option KB))(hsz:items.size=items2.size)(e lt:Nat->Bool)(k:Nat) :
  ∀i:Nat,items.size-i=k->Qv (Nv.«list.__eq__.loop» ⟨[.ref l,.ref b,NU i,NU 0],[]⟩)
   (fun A R s=>s.heap.get? l=some { cls:=.type "list",dict:=dd,data:=.seq items n,slots:=sl }/\s.heap.get? b=some { cls:=.type "list",dict:=dd2,data:=.seq items2 n2,slots:=sl2 }/\
    (∀j (h1:j<items.size) (h2:j<items2.size),EqAt A.in1 s items[j] items2[j] (e j)/\fL A.in1 s items[j] items2[j] (lt j))/\
    R (.ok (.ret (.bool (ltR e lt ((KM items.size).drop i))))) s):=by
 induction k with
 | zero=>
  intro i hk prog w A R s h;obtain⟨hp,g,d,tk,os⟩:=s;obtain⟨hl,hb,he,h⟩:=h
  wp_walk using Kz hl,Kz hb
  have hi1:items[((i:Nat):Int).toNat]?=none:=by simp;omega
  have hi2:items2[((i:Nat):Int).toNat]?=none:=by simp;omega
  have hd:(KM items.size).drop i=[]:=by simp;omega
  rw[hd] at h;rw[hi1,hi2]
  wp_walk using Kz hl,Kz hb
  show R (.ok (.ret (.bool (decide (items.size<items2.size))))) _;rw[hsz];simpa [ltR] using h
 | succ k ih=>
  intro i hk prog w A R s h;obtain⟨hp,g,d,tk,os⟩:=s;obtain⟨hl,hb,he,h⟩:=h
  wp_walk using Kz hl,Kz hb
  have hlt:i<items.size:=by omega
  have hlt2:i<items2.size:=by omega
  have hi1:items[((i:Nat):Int).toNat]?=some items[i]:=by simp[hlt]
  have hi2:items2[((i:Nat):Int).toNat]?=some items2[i]:=by simp[hlt2]
  have hd:(KM items.size).drop i=i::(KM items.size).drop (i+1):=by simp[LH,hlt]
  have hc:((i:Int)+1)=((i+1:Nat):Int):=by push_cast;rfl
  rw[hd] at h;rw[hi1,hi2];refine KF ((he i hlt hlt2).1 prog w _ _ ?_);cases hb':e i with
  | true=>
   simp only[ltR,hb',if_true] at h
   wp_walk
   rw[hc]
   exact⟨Nb plain_eq_loop _,Mk entry_eq_loop (by
    rw[Mc plain_eq_loop _];exact ih (i+1) (by omega) prog w A R _ ⟨hl,hb,he,by simpa using h⟩)⟩
  | false=>
   simp only[ltR,hb',LV,if_false] at h
   wp_walk using Kz hl,Kz hb
   rw[hi1,hi2];refine KF ((he i hlt hlt2).2 prog w _ _ ?_)
   wp_walk
   simpa using h
theorem vy(l b:Addr)(items items2:Array KB)(n n2:Nat)(dd dd2:Option Addr)(sl sl2:Array (Option KB))(hsz:items.size=items2.size)(e lt:Nat->Bool) :
  Qv (Nv.«list.__lt__» ⟨[.ref l,.ref b],[]⟩)
   (fun A R s=>s.heap.get? l=some { cls:=.type "list",dict:=dd,data:=.seq items n,slots:=sl }/\s.heap.get? b=some { cls:=.type "list",dict:=dd2,data:=.seq items2 n2,slots:=sl2 }/\
    (∀j (h1:j<items.size) (h2:j<items2.size),EqAt A.in1 s items[j] items2[j] (e j)/\fL A.in1 s items[j] items2[j] (lt j))/\
    R (.ok (.ret (.bool (ltR e lt (KM items.size))))) s):=by
 intro prog w A R s h;obtain⟨hp,g,d,tk,os⟩:=s;obtain⟨hl,hb,he,h⟩:=h;have f3:=OO
 wp_walk using Kz hl,Kz hb
 exact⟨Nb plain_eq_loop _,Mk entry_eq_loop (by
  rw[Mc plain_eq_loop _];exact vm l b items items2 n n2 dd dd2 sl sl2 hsz e lt _ 0 rfl prog w A R _ ⟨hl,hb,he,by simpa using h⟩)⟩
theorem sU(l b:Addr)(items items2:Array KB)(n n2:Nat)(dd dd2:Option Addr)(sl sl2:Array (Option KB))(e lt:Nat->Bool)(hsz:items.size=items2.size) :
  Qv (Nv.«tuple.__lt__» ⟨[.ref l,.ref b],[]⟩)
   (fun A R s=>s.heap.get? l=some { cls:=.type "tuple",dict:=dd,data:=.seq items n,slots:=sl }/\s.heap.get? b=some { cls:=.type "tuple",dict:=dd2,data:=.seq items2 n2,slots:=sl2 }/\
    (∀j (h1:j<items.size) (h2:j<items2.size),(∀m,m<j->e m=true)->EqAt A.in1 s items[j] items2[j] (e j)/\(e j=false->fL A.in1 s items[j] items2[j] (lt j)))/\
    R (.ok (.ret (.bool (ltR e lt (KM items.size))))) s):=
 .of_wp fun prog w A R s h=>by
  obtain⟨hp,g,d,tk,os⟩:=s;obtain⟨hl,hb,he,h⟩:=h;have f2:=OF;have hZ:(items.toList.zip items2.toList).length=items.size:=by simp[hsz]
  wp_walk using Kz hl,Kz hb,NO _ (fun rest b s'=>b.1=none/\s'=⟨hp,g,d,tk,os⟩/\∃i,rest=(items.toList.zip items2.toList).drop i/\(∀m,m<i->m<items.size->e m=true)/\
   R (.ok (.ret (.bool (ltR e lt ((KM items.size).drop i))))) ⟨hp,g,d,tk,os⟩) _
  case turn=>
   rintro⟨y,x⟩ rest b s' ⟨hb',rfl,i,hz,hm,hR⟩
   have hlt:i<(items.toList.zip items2.toList).length:=by
    rcases Lr i (items.toList.zip items2.toList).length with h' | h'
    ·exact h'
    ·rw[MK h'] at hz;cases hz
   have h1:i<items.size:=hZ▸hlt;have h2:i<items2.size:=hsz▸h1;rw[LH hlt] at hz;injection hz with hyx hrest;have hy:y=items[i]:=by have:=congrArg Prod.fst hyx;simpa using this
   have hx:x=items2[i]:=by have:=congrArg Prod.snd hyx;simpa using this
   subst hy hx;have hd:(KM items.size).drop i=i::(KM items.size).drop (i+1):=by simp[LH,h1]
   rw[hd] at hR;have hei:=he i h1 h2 fun m hmi=>hm m hmi (by omega);refine KF (hei.1 prog w _ _ ?_);cases hy:e i with
   | true=>
    simp only[ltR,hy,if_true] at hR
    wp_walk
    exact⟨rfl,rfl,i+1,hrest,fun m hm1 hm2=>by
     rcases Lr m i with z | z
     ·exact hm m z hm2
     ·have:m=i:=by omega
      rw[this];exact hy,by simpa using hR⟩
   | false=>
    simp only[ltR,hy,LV,if_false] at hR;have hrc:=hei.2 hy prog w;generalize OC CmpOp.Lt items[i] items2[i]=M at hrc ⊢
    wp_walk
    refine hrc _ _ ?_
    wp_walk
    exact⟨_,rfl,by simpa using hR⟩
  case fin=>
   rintro⟨b1,b2⟩ s' ⟨hb',rfl,i,hz,hm,hR⟩;simp only at hb';subst hb'
   have hge:items.size<=i:=by
    rcases Lr i (items.toList.zip items2.toList).length with h' | h'
    ·rw[LH h'] at hz;cases hz
    ·exact hZ▸h'
   rw[MK (by simpa using hge)] at hR
   wp_walk
   exact⟨_,rfl,by simpa [NG,ltR,hsz] using hR⟩
  case h=>
   exact⟨rfl,rfl,0,rfl,fun m hm=>by omega,by simpa using h⟩
theorem fL.lists{A:LR}{s:KC}{l b:Addr}{items items2:Array KB}{e lt:Nat->Bool}(hl:s.heap.IsList l items)(hb:s.heap.IsList b items2)(hsz:items.size=items2.size)(hu:A.units<cLine)
  (he:∀j (h1:j<items.size) (h2:j<items2.size),EqAt A.in1 s items[j] items2[j] (e j)/\fL A.in1 s items[j] items2[j] (lt j)):fL A s (.ref l) (.ref b) (ltR e lt (KM items.size)):=fun prog w E Q h=>by
 obtain⟨⟨cls,dd,data,sl⟩,ho,hc,n,hd⟩:=id hl;obtain⟨⟨cls2,dd2,data2,sl2⟩,ho2,hc2,n2,hd2⟩:=id hb;simp only at hc hd hc2 hd2;subst hc hd hc2 hd2
 exact MX (op:=.Lt) ⟨_,ho,rfl⟩ ⟨_,ho2,rfl⟩ F.slot_list_lt F.entry_list_lt (F.args_list_lt_2 _ _) (vy l b items items2 n n2 dd dd2 sl sl2 hsz e lt)
  ⟨ho,ho2,he,show Nm _≠Mf/\Q (.bool _) s from ⟨(fun x=>nomatch x),h⟩⟩ hu
theorem fL.tuples{A:LR}{s:KC}{l b:Addr}{items items2:Array KB}{e lt:Nat->Bool}(hl:s.heap.IsTuple l items)(hb:s.heap.IsTuple b items2)(hsz:items.size=items2.size)(hu:A.units<cLine)
  (he:∀j (h1:j<items.size) (h2:j<items2.size),(∀m,m<j->e m=true)->EqAt A.in1 s items[j] items2[j] (e j)/\(e j=false->fL A.in1 s items[j] items2[j] (lt j))):fL A s (.ref l) (.ref b) (ltR e lt (KM items.size)):=fun prog w E Q h=>by
 obtain⟨⟨cls,dd,data,sl⟩,ho,hc,n,hd⟩:=id hl;obtain⟨⟨cls2,dd2,data2,sl2⟩,ho2,hc2,n2,hd2⟩:=id hb;simp only at hc hd hc2 hd2;subst hc hd hc2 hd2
 exact MX (op:=.Lt) ⟨_,ho,rfl⟩ ⟨_,ho2,rfl⟩ F.slot_tuple_lt F.entry_tuple_lt (F.args_tuple_lt_2 _ _) (sU l b items items2 n n2 dd dd2 sl sl2 e lt hsz)
  ⟨ho,ho2,he,show Nm _≠Mf/\Q (.bool _) s from ⟨(fun x=>nomatch x),h⟩⟩ hu
end
theorem vo(e l:Nat->Bool)(f:Nat->Nat):∀r:List Nat,ltR e l (r.map f)=ltR (fun i=>e (f i)) (fun i=>l (f i)) r
 | []=>rfl
 | i::r=>by simp only[KG,ltR,vo e l f r]
theorem vp:∀xs ys:List Int,xs.length=ys.length->ltR (fun i=>decide (xs.getD i 0=ys.getD i 0)) (fun i=>decide (xs.getD i 0<ys.getD i 0)) (KM xs.length)=ltL xs ys
 | [],[],_=>rfl
 | [],_::_,h=>by simp at h
 | _::_,[],h=>by simp at h
 | x::xs,y::ys,h=>by
  rw[LK,MJ];simp only[ltR,O8,vo,O9];rw[vp xs ys (by simpa using h)];simp only[ltL,decide_eq_true_eq]
theorem rR:∀xs:List Int,ltL xs xs=false
 | []=>rfl
 | x::xs=>by simp only[ltL,if_true];exact rR xs
theorem eR:∀{ps:List PV}{xs:List Int},iR ps=some xs->ps=xs.map .int
 | [],_,e=>by cases e;rfl
 | p::ps,xs,e=>by
  cases p with
  | int i=>
   simp only[iR] at e;obtain⟨r,er,rfl⟩:=KQ.mp e;rw[eR er];rfl
  | _=>cases e
theorem oD:∀xs ys:List Int,xs.length=ys.length->(KM xs.length).all (fun m=>decide (xs.getD m 0=ys.getD m 0))=decide (xs=ys)
 | [],[],_=>rfl
 | [],_::_,h=>by simp at h
 | _::_,[],h=>by simp at h
 | x::xs,y::ys,h=>by
  have ih:=oD xs ys (by simpa using h);rw[LK,MJ,Mi,Qk]
  have e:((fun m=>decide ((x::xs).getD m 0=(y::ys).getD m 0)) ∘ Nat.succ)=fun m=>decide (xs.getD m 0=ys.getD m 0):=by
   funext m
   simp only[Mp,Nat.succ_eq_add_one,O9]
  rw[e,ih];simp only[O8,MV,Bool.decide_and]
theorem yJ:pE yR:=fun p q z e=>by
 unfold yR at e;split at e
 ·split at e
  ·split at e
   ·cases e
   ·cases e;exact⟨_,rfl⟩
  ·cases e
 ·cases e
variable[TW]
theorem gb{K:KA}{H:Hp}:∀{ns:List Int}{xs:List V}{us:List KB},aO K H (ns.map .int) xs->Vals xs us->∀j (h:j<us.length),∃t,us[j]=.int (ns.getD j 0) t
 | [],xs,us,r,v,j,h=>by
  cases r;cases v;simp at h
 | n::ns,xs,us,r,v,j,h=>by
  obtain⟨x,xs',rfl,r1,r2⟩:∃x xs',xs=x::xs'/\Rep K H (.int n) x/\aO K H (ns.map .int) xs':=by
   cases xs with
   | nil=>have:=r.length;simp at this
   | cons x xs'=>
    obtain⟨a,b,e,c,d⟩:=r;cases e;exact⟨x,xs',rfl,c,d⟩
  cases v with
  | cons v1 v2=>
   cases (show x=.int n from r1);cases j with
   | zero=>obtain⟨t,e⟩:=v1;exact⟨t,by simpa using e⟩
   | succ j=>simpa using gb r2 v2 j (by simpa using h)
theorem fV{K:KA}{H:Hp}:∀{ns:List Int}{xs:List V},aO K H (ns.map .int) xs->xs=ns.map V.int
 | [],xs,r=>by
  cases xs with
  | nil=>rfl
  | cons x xs=>have:=r.length;simp at this
 | n::ns,xs,r=>by
  cases xs with
  | nil=>have:=r.length;simp at this
  | cons x xs'=>
   obtain⟨a,b,e,c,d⟩:=r;cases e;cases (show x=.int n from c);rw[fV d];rfl
theorem Hx{X:Cx}(hu:X.A.units+64<cLine):OpR X (LZ .Lt) (rP X.K yR):=by
 intro pins s σ H x y v u Q I rx ry ⟨p,q,z,hp,hq,e,k⟩;unfold yR at e;split at e
 ·rename_i i ps j qs
  split at e
  ·rename_i xs ys ex ey
   have ex:=eR ex;have ey:=eR ey;subst ex ey;split at e
   ·cases e
   ·rename_i hne
    cases e;obtain⟨a,vs,rfl,g1,r1⟩:=bc.tup_inv hp;obtain⟨b,us,rfl,g2,r2⟩:=bc.tup_inv hq;cases rx;cases ry;obtain⟨v1,vs1,rfl,q1,v2,vs2,rfl,q2,rfl⟩:=r1;obtain⟨u1,us1,rfl,q3,u2,us2,rfl,q4,rfl⟩:=r2;cases (show v1=.int i from q1);cases (show u1=.int j from q3);obtain⟨c,as,rfl,g3,r3⟩:=q2;obtain⟨d,bs,rfl,g4,r4⟩:=q4;obtain⟨its,rv,pl,_⟩:=I.tuple g1;obtain⟨its2,rv2,pl2,_⟩:=I.tuple g2;obtain⟨w1,w2,rfl,e1,e2⟩:=vals2 rv;obtain⟨w3,w4,rfl,e3,e4⟩:=vals2 rv2;obtain⟨t1,rfl⟩:=e1;obtain⟨t2,rfl⟩:=e3;cases e2;cases e4;obtain⟨is1,rw1,pl3,_⟩:=I.list g3.l.l;obtain⟨is2,rw2,pl4,_⟩:=I.list g4.l.l;have n1:is1.length=xs.length:=by rw[← rw1.length,← r3.length,KH]
    have n2:is2.length=ys.length:=by rw[← rw2.length,← r4.length,KH]
    have fin:∀b:Bool,b=(if i=j then ltL xs ys else decide (i<j))->EP X pins σ Q (.bool b) s:=fun b hb=>by
     subst hb;exact⟨.bl _,H,I,rfl,k _ H (Same.refl H) rfl⟩
    let ee:Nat->Bool:=fun m=>match m with
     | 0=>decide (i=j)
     | _=>decide (xs=ys)
    let lt:Nat->Bool:=fun m=>match m with
     | 0=>decide (i<j)
     | _=>ltL xs ys
    refine fL.tuples (e:=ee) (lt:=lt) (show s.heap.IsTuple a #[.int i t1,.ref c] from pl) (show s.heap.IsTuple b #[.int j t2,.ref d] from pl2) rfl (by omega) (fun m h1 h2 hm=>?_) X.prog X.w X.xe _ (fin _ ?_)
    ·match m,h1,h2,hm with
     | 0,h1,h2,hm=>exact⟨EqAt.int_int i t1 j t2,fun _ prog w E Q q=>lt_int q⟩
     | 1,h1,h2,hm=>
      have hij:i=j:=of_decide_eq_true (hm 0 (by omega))
      have hl:xs.length=ys.length:=by
       rcases QC (xs.length=ys.length) with z | z
       ·exact z
       ·exact absurd ⟨hij,z⟩ hne
      have hsz:is1.toArray.size=is2.toArray.size:=by simp;omega
      have he:∀(A:LR) m (h1:m<is1.toArray.size) (h2:m<is2.toArray.size),EqAt A s is1.toArray[m] is2.toArray[m] (decide (xs.getD m 0=ys.getD m 0))/\fL A s is1.toArray[m] is2.toArray[m] (decide (xs.getD m 0<ys.getD m 0)):=fun A m h1 h2=>by
       obtain⟨t3,e3⟩:=gb r3 rw1 m (by simpa using h1);obtain⟨t4,e4⟩:=gb r4 rw2 m (by simpa using h2);simp only[Ow,e3,e4];exact⟨EqAt.int_int _ t3 _ t4,fun prog w E Q q=>lt_int q⟩
      refine⟨?_,fun _=>?_⟩
      ·by_cases hcd:c=d
       ·subst hcd
        have exy:xs=ys:=by
         have e5:=I.list_inj g3.l.l g4.l.l;rw[fV r3,fV r4] at e5;have:=congrArg (Pf fun v:V=>match v with | .int i=>i | _=>0) e5;rw[L7,L7] at this;simpa [OE] using this
        show EqAt _ s (.ref c) (.ref c) (decide (xs=ys));rw[decide_eq_true exy];exact EqAt.same _
       ·show EqAt _ s (.ref c) (.ref d) (decide (xs=ys))
        have:=EqAt.of_refs hcd (RcAt.lists (A:=X.A.in1) (e:=fun m=>decide (xs.getD m 0=ys.getD m 0)) pl3.isList pl4.isList hsz (by show X.A.units+1<cLine;omega) fun m h1 h2=>(he _ m h1 h2).1)
        have eb:(KM is1.toArray.size).all (fun m=>decide (xs.getD m 0=ys.getD m 0))=decide (xs=ys):=by
         rw[show is1.toArray.size=xs.length by simp[n1]];exact oD xs ys hl
        rw[eb] at this;exact this
      ·show fL _ s (.ref c) (.ref d) (ltL xs ys)
       have:=fL.lists (A:=X.A.in1) (e:=fun m=>decide (xs.getD m 0=ys.getD m 0)) (lt:=fun m=>decide (xs.getD m 0<ys.getD m 0)) pl3.isList pl4.isList hsz (by show X.A.units+1<cLine;omega) fun m h1 h2=>he _ m h1 h2;rw[show is1.toArray.size=xs.length by simp[n1],vp xs ys hl] at this;exact this
     | m+2,h1,h2,hm=>exact absurd h1 (by simp)
    ·show ltR ee lt [0,1]=_
     simp only[ltR,ee,lt,decide_eq_true_eq]
     by_cases hij:i=j
     ·rw[if_pos hij,if_pos hij]
      by_cases hxy:xs=ys
      ·rw[if_pos hxy,hxy,rR]
      ·rw[if_neg hxy]
     ·rw[if_neg hij,if_neg hij]
  ·cases e
 ·cases e
end PU
namespace PU
open PySem PySem.Spec PyProof.Rows L2
def zM(i:Nat):PSt->R Fl:=fun ρ=>match ρ[i]? with
 | some (.own p)=>.ok (.ret p)
 | _=>.no
def runN(m n:Nat)(g:PSt->R Fl)(ps:List PV):Option PV:=if ps.length=m then (match g (start n ps) with
 | .ok (.ret p)=>some p
 | _=>none) else none
section
variable{g g' : PSt → R Fl}{t : PSt → R Bool}{f fk fv : PSt → R PV}{i : Nat}
theorem p4(i:Nat)(f:PSt->R PV)(ρ:PSt)(p:PV):lG i f ρ≠.ok (.ret p):=by
 unfold lG;cases f ρ with
 | ok q=>intro h;cases h
 | er x=>intro h;cases h
 | no=>intro h;cases h
theorem xm(i:Nat)(f:PSt->R PV)(ρ:PSt)(p:PV):oG i f ρ≠.ok (.ret p):=by
 unfold oG;intro h;split at h
 ·cases hf:f ρ with
  | ok q=>
   rw[hf,R.ok_bind] at h
   repeat' split at h
   all_goals cases h
  | er x=>rw[hf] at h;cases h
  | no=>rw[hf] at h;cases h
 ·cases h
theorem wA{h:Tgt}{fi:PSt->R (List PV)}(hg:∀ρ p,g ρ≠.ok (.ret p))(ρ:PSt)(p:PV):kG fi h g ρ≠.ok (.ret p):=by
 have go:∀(ps:List PV)(ρ:PSt),ic h g ps ρ≠.ok (.ret p):=by
  intro ps
  induction ps with
  | nil=>intro ρ h;cases h
  | cons x ps ih=>
   intro ρ e;unfold ic at e;cases h1:h x ρ with
   | none=>rw[h1] at e;cases e
   | some ρ1=>
    rw[h1,R.ofO_some,R.ok_bind] at e;cases h2:g ρ1 with
    | ok fl=>
     rw[h2,R.ok_bind] at e;cases fl with
     | next ρ2=>exact ih ρ2 e
     | cont ρ2=>exact ih ρ2 e
     | brk ρ2=>cases e
     | ret q=>exact hg ρ1 q h2
    | er x=>rw[h2] at e;cases e
    | no=>rw[h2] at e;cases e
 unfold kG;intro e;cases h1:fi ρ with
 | ok ps=>rw[h1,R.ok_bind] at e;exact go ps ρ e
 | er x=>rw[h1] at e;cases e
 | no=>rw[h1] at e;cases e
end
variable[TW]
section
variable{C : Cn}
theorem xV(i:Nat){x:Str}{np pos:Ma}(hN:C.X.N[i]?=some x:=by rfl)(hv:Vis C.X.env.scope x:=by first | exact PD rfl | exact Oo (PD rfl) | exact Oo (Oo rfl))
  (hd:(x == ("__debug__":Str))=false:=by decide) (hcd:(x == ("__classdict__":Str))=false:=by decide):SVN C [.Return (some (.Name x np)) pos] (zM i):=by
 intro pins s σ H D I ⟨ρ,B,S,h⟩;unfold zM at h;split at h
 ·rename_i p e1
  obtain⟨a,ea,nw⟩:=S.vw i _ e1;exact o5 (rj (gw hN hv hd hcd)) pins s σ H D I ⟨.ref a,ea,h a H S.same (S.fresh i p a e1 ea) nw⟩
 ·exact KJ h
end
section
variable{P : L6}{w : LI}{K : KA}{mg : Str → Option KB}{base : Heap}
theorem Bq{x qual:Str}{st:Stmt}{f:Addr}{fd:FuncData}{N ps:List Str}{k:Nat}{g:PSt->R Fl}(F:Fun K x qual st f fd)(S:FnScope N ps (ar st))(hm:mg x=some (.ref f))(hb:Binds K fd ps [])
  (hbody:∀(cdv:KB)(A:LR)(outer:List Pn)(s:KC)(H:Hp)(E:XK),Room k (A.deeper (Nw qual (ar st) s.heap.objs.size f cdv))->SVN (D0 P w K mg base N qual (ar st) f cdv A outer s H E) (bM st) g) :
  PFN P w K mg base (k+1) x (runN ps.length N.length g):=by
 refine⟨f,fd,ps,F.ok S (fun vs H Q E h=>h.1) (fun cdv A outer s H vs Q E hr' h=>?_),hm,F.kp,hb,fun qs p h=>?_⟩
 ·obtain⟨hl,tb,qs,p,r,e0,k⟩:=h
  refine⟨_,hbody cdv A outer s H E hr',start N.length qs,(H,H),kQ tb r,?_⟩;unfold runN at e0;rw[if_pos (by rw[r.length];exact hl)] at e0;split at e0
  ·rename_i q hq
   rw[hq];cases e0;exact fun a H' s' n' w'=>k a H' s' n' w'
  ·cases e0
 ·unfold runN at h
  split at h
  ·rename_i hl;exact hl
  ·cases h
end
end PU
namespace PU
open PySem L2
def Gr(p:PV):R (List PV):=match p with
 | .int j=>if j.natAbs<1000000000 then .ok (cn 0 j.toNat) else .no
 | _=>.no
def CQ(p q:PV):R (List PV):=match p,q with
 | .int i,.int j=>if i.natAbs<1000000000/\j.natAbs<1000000000 then .ok (cn i (j-i).toNat) else .no
 | _,_=>.no
theorem uy{j:Int}(h0:0<=j)(h1:j<1000000000):Gr (.int j)=.ok (cn 0 j.toNat):=by
 unfold Gr;exact if_pos (by omega)
theorem ux{i j:Int}(h0:0<=i)(h1:i<1000000000)(h2:0<=j)(h3:j<1000000000):CQ (.int i) (.int j)=.ok (cn i (j-i).toNat):=by
 unfold CQ;exact if_pos ⟨by omega,by omega⟩
section
def DI(g':PSt->R Fl):R Fl->R Fl
 | .ok (.next ρ)=>g' ρ
 | .ok (.brk ρ)=>.ok (.brk ρ)
 | .ok (.cont ρ)=>.ok (.cont ρ)
 | .ok (.ret p)=>.ok (.ret p)
 | .er x=>.er x
 | .no=>.no
def uh{α β:Type}(f:α->β):R α->R β
 | .ok a=>.ok (f a)
 | .er x=>.er x
 | .no=>.no
def jz{α β:Type}(f:α->R β):R α->R β
 | .ok a=>f a
 | .er x=>.er x
 | .no=>.no
def ifK{α:Type}(g g':PSt->R α)(ρ:PSt):R Bool->R α
 | .ok true=>g ρ
 | .ok false=>g' ρ
 | .er x=>.er x
 | .no=>.no
def oK{α β γ:Type}(f:α->β->R γ):R α->R β->R γ
 | .ok a,.ok b=>f a b
 | .ok _,.er x=>.er x
 | .ok _,.no=>.no
 | .er x,_=>.er x
 | .no,_=>.no
variable{α : Type}{ρ : PSt}{f fa fb fc : PSt → R PV}{g g' : PSt → R Fl}{t u : PSt → R Bool}{i : Nat}
@[simp] theorem nu:DI g' (.ok (.next ρ))=g' ρ:=by unfold DI;exact LP _
@[simp] theorem vO(p:PV):DI g' (.ok (.ret p))=.ok (.ret p):=by unfold DI;exact LP _
@[simp] theorem EX{β:Type}(f:α->β)(a:α):uh f (.ok a)=.ok (f a):=by unfold uh;exact LP _
@[simp] theorem lQ{β:Type}(f:α->R β)(a:α):jz f (.ok a)=f a:=by unfold jz;exact LP _
@[simp] theorem Jb(g g':PSt->R α):ifK g g' ρ (.ok true)=g ρ:=by unfold ifK;exact LP _
@[simp] theorem Jc(g g':PSt->R α):ifK g g' ρ (.ok false)=g' ρ:=by unfold ifK;exact LP _
@[simp] theorem vN{β γ:Type}(f:α->β->R γ)(a:α)(b:β):oK f (.ok a) (.ok b)=f a b:=by unfold oK;exact LP _
@[simp] theorem uq:aH g g' ρ=DI g' (g ρ):=by
 unfold aH;cases g ρ with
 | ok fl=>cases fl <;> rfl
 | er x=>rfl
 | no=>rfl
@[simp] theorem GF:b0 ρ=.ok (.next ρ):=by unfold b0;exact LP _
@[simp] theorem zC:ck f ρ=uh .ret (f ρ):=by unfold ck;cases f ρ <;> rfl
@[simp] theorem Jq:ifF t g g' ρ=ifK g g' ρ (t ρ):=by
 unfold ifF;cases t ρ with
 | ok b=>cases b <;> rfl
 | er x=>rfl
 | no=>rfl
def Hb(i:Nat)(ρ:PSt)(p:PV):Fl:=.next (ρ.set i (.val p))
def Hn(i:Nat)(ρ:PSt)(p:PV):Fl:=.next (ρ.set i (.own p))
@[simp] theorem HU(p:PV):Hb i ρ p=.next (ρ.set i (.val p)):=by unfold Hb;exact LP _
@[simp] theorem JX(p:PV):Hn i ρ p=.next (ρ.set i (.own p)):=by unfold Hn;exact LP _
@[simp] theorem D8:bS i f ρ=uh (Hb i ρ) (f ρ):=by unfold bS;cases f ρ <;> rfl
@[simp] theorem IG:lG i f ρ=uh (Hn i ρ) (f ρ):=by unfold lG;cases f ρ <;> rfl
@[simp] theorem IV:FP ρ=.ok (.brk ρ):=by unfold FP;exact LP _
@[simp] theorem IR:qE i g ρ=g (wy i ρ):=by unfold qE;exact LP _
@[simp] theorem IM(j:Int):kI j ρ=.ok (.int j):=by unfold kI;exact LP _
@[simp] theorem Jn(j:Bool):kB j ρ=.ok (.bl j):=by unfold kB;exact LP _
@[simp] theorem Ko:kN ρ=.ok .non:=by unfold kN;exact LP _
@[simp] theorem Km(j:Str):kS j ρ=.ok (.str j):=by unfold kS;exact LP _
@[simp] theorem Kn(j:PV):kP j ρ=.ok j:=by unfold kP;exact LP _
@[simp] theorem IJ:ay ρ=.ok []:=by unfold ay;exact LP _
def Cu(p:PV)(ps:List PV):R (List PV):=.ok (p::ps)
@[simp] theorem Jf(p:PV)(ps:List PV):Cu p ps=.ok (p::ps):=by unfold Cu;exact LP _
@[simp] theorem GK{fs:PSt->R (List PV)}:ab f fs ρ=oK Cu (f ρ) (fs ρ):=by unfold ab;cases f ρ <;> cases fs ρ <;> rfl
def tupP(ps:List PV):R PV:=if ps.length<=16777216 then .ok (.tup ps) else .no
def lstP(ps:List PV):R PV:=if ps.length<=16777216 then .ok (.lst ps) else .no
@[simp] theorem HS(ps:List PV):tupP ps=if ps.length<=16777216 then .ok (.tup ps) else .no:=by unfold tupP;exact LP _
@[simp] theorem EY(ps:List PV):lstP ps=if ps.length<=16777216 then .ok (.lst ps) else .no:=by unfold lstP;exact LP _
@[simp] theorem IC{fs:PSt->R (List PV)}:cg fs ρ=jz tupP (fs ρ):=by
 unfold cg;cases fs ρ with
 | ok ps=>simp only[R.ok_bind,gy,lQ,HS];split <;> rfl
 | er x=>rfl
 | no=>rfl
@[simp] theorem IL{fs:PSt->R (List PV)}:cI fs ρ=jz lstP (fs ρ):=by
 unfold cI;cases fs ρ with
 | ok ps=>simp only[R.ok_bind,gy,lQ,EY];split <;> rfl
 | er x=>rfl
 | no=>rfl
def opP(g:PV->PV->Option PV)(p q:PV):R PV:=R.ofO (g p q)
def op1(g:PV->Option PV)(p:PV):R PV:=R.ofO (g p)
@[simp] theorem Ku(g:PV->PV->Option PV)(p q:PV):opP g p q=R.ofO (g p q):=by unfold opP;exact LP _
@[simp] theorem EU(g:PV->Option PV)(p:PV):op1 g p=R.ofO (g p):=by unfold op1;exact LP _
@[simp] theorem IW{g:PV->PV->Option PV}:aj fa fb g ρ=oK (opP g) (fa ρ) (fb ρ):=by unfold aj;cases fa ρ <;> cases fb ρ <;> rfl
@[simp] theorem D7{g:PV->Option PV}:un1 f g ρ=jz (op1 g) (f ρ):=by unfold un1;cases f ρ <;> rfl
def GR(p:PV):R Bool:=R.ofO (ub p)
@[simp] theorem JT(p:PV):GR p=R.ofO (ub p):=by unfold GR;exact LP _
@[simp] theorem ID:bq f ρ=jz GR (f ρ):=by unfold bq;cases f ρ <;> rfl
@[simp] theorem IZ:pW t u ρ=ifK u (fun _=>.ok false) ρ (t ρ):=by
 unfold pW;cases t ρ with
 | ok b=>cases b <;> rfl
 | er x=>rfl
 | no=>rfl
@[simp] theorem Jm:orB t u ρ=ifK (fun _=>.ok true) u ρ (t ρ):=by
 unfold orB;cases t ρ with
 | ok b=>cases b <;> rfl
 | er x=>rfl
 | no=>rfl
@[simp] theorem IH:vg t ρ=uh not (t ρ):=by unfold vg;cases t ρ <;> rfl
def Iy(fb:PSt->R PV)(ρ:PSt)(p:PV):R PV:=match p with
 | .bl true=>fb ρ
 | .bl false=>.ok (.bl false)
 | _=>.no
@[simp] theorem Ia:Iy fb ρ (.bl true)=fb ρ:=by unfold Iy;exact LP _
@[simp] theorem IY:D4 fa fb ρ=jz (Iy fb ρ) (fa ρ):=by unfold D4;cases fa ρ <;> rfl
@[simp] theorem Jp:ifV t fa fb ρ=ifK fa fb ρ (t ρ):=by
 unfold ifV;cases t ρ with
 | ok b=>cases b <;> rfl
 | er x=>rfl
 | no=>rfl
@[simp] theorem zA:mG ρ=.ok true:=by unfold mG;exact LP _
def CB(F:List PV->Option PV)(ps:List PV):R PV:=R.ofO (F ps)
@[simp] theorem Jg(F:List PV->Option PV)(ps:List PV):CB F ps=R.ofO (F ps):=by unfold CB;exact LP _
@[simp] theorem GM{fs:PSt->R (List PV)}{F:List PV->Option PV}:aD fs F ρ=jz (CB F) (fs ρ):=by unfold aD;cases fs ρ <;> rfl
def itQ(F:PV->Option (List PV))(p:PV):R (List PV):=R.ofO (F p)
@[simp] theorem Kv(F:PV->Option (List PV))(p:PV):itQ F p=R.ofO (F p):=by unfold itQ;exact LP _
@[simp] theorem Jo:itF f ρ=jz (itQ f6) (f ρ):=by unfold itF;cases f ρ <;> rfl
@[simp] theorem GH:wL f ρ=jz (itQ pO) (f ρ):=by unfold wL;cases f ρ <;> rfl
def Ik(h:Tgt)(g:PSt->R Fl)(ρ:PSt)(ps:List PV):R Fl:=ic h g ps ρ
@[simp] theorem EZ(h:Tgt)(ps:List PV):Ik h g ρ ps=ic h g ps ρ:=by unfold Ik;exact LP _
@[simp] theorem zD{fi:PSt->R (List PV)}{h:Tgt}:kG fi h g ρ=jz (Ik h g ρ) (fi ρ):=by unfold kG;cases fi ρ <;> rfl
@[simp] theorem IE:zL f ρ=jz Gr (f ρ):=by unfold zL;cases f ρ <;> rfl
@[simp] theorem zB:CS fa fb ρ=oK CQ (fa ρ) (fb ρ):=by unfold CS;cases fa ρ <;> cases fb ρ <;> rfl
@[simp] theorem G7{g:PV->PV->Option PV}(x:Str):tD (kS x) fb g ρ=jz (opP g (.str x)) (fb ρ):=by unfold tD;cases fb ρ <;> rfl
@[simp] theorem G4:bA ρ=.ok none:=by unfold bA;exact LP _
def aP(p:PV):R (Option Int):=match p with
 | .int i=>.ok (some i)
 | _=>.no
@[simp] theorem Kw(i:Int):aP (.int i)=.ok (some i):=by unfold aP;exact LP _
@[simp] theorem GN:d9 f ρ=jz aP (f ρ):=by unfold d9;cases f ρ <;> rfl
def slQ(p:PV)(lh:Option Int×Option Int):R PV:=R.ofO (gSl p lh.1 lh.2)
def kD(a b:Option Int):R (Option Int×Option Int):=.ok (a,b)
@[simp] theorem Kt(p:PV)(a b:Option Int):slQ p (a,b)=R.ofO (gSl p a b):=by unfold slQ;exact LP _
@[simp] theorem J9(a b:Option Int):kD a b=.ok (a,b):=by unfold kD;exact LP _
@[simp] theorem G0{l h:PSt->R (Option Int)}:bV f l h ρ=oK slQ (f ρ) (oK kD (l ρ) (h ρ)):=by unfold bV;cases f ρ <;> cases l ρ <;> cases h ρ <;> rfl
@[simp] theorem IK:newD ρ=.ok (.dct [] []):=by unfold newD;exact LP _
@[simp] theorem II:Gy ρ=.ok []:=by unfold Gy;exact LP _
def EL(p:PV):R Key:=R.ofO (fQ p)
@[simp] theorem Ap(p:PV):EL p=R.ofO (fQ p):=by unfold EL;exact LP _
def kvQ(k:Key)(p:PV):R (Key×PV):=.ok (k,p)
@[simp] theorem JY(k:Key)(p:PV):kvQ k p=.ok (k,p):=by unfold kvQ;exact LP _
def Ct(a:Key×PV)(r:List (Key×PV)):R (List (Key×PV)):=.ok (a::r)
@[simp] theorem HZ(a:Key×PV)(r:List (Key×PV)):Ct a r=.ok (a::r):=by unfold Ct;exact LP _
@[simp] theorem GJ{fd:PSt->R (List (Key×PV))}:tY fa fb fd ρ=oK Ct (oK kvQ (jz EL (fa ρ)) (fb ρ)) (fd ρ):=by
 unfold tY;cases fa ρ with
 | ok p=>simp only[R.ok_bind,lQ,Ap];cases fQ p <;> cases fb ρ <;> cases fd ρ <;> rfl
 | er x=>cases fb ρ <;> cases fd ρ <;> rfl
 | no=>cases fb ρ <;> cases fd ρ <;> rfl
def Co(kps:List (Key×PV)):R PV:=if kps.length<=15 then .ok (gL kps) else .no
@[simp] theorem HX(kps:List (Key×PV)):Co kps=if kps.length<=15 then .ok (gL kps) else .no:=by unfold Co;exact LP _
@[simp] theorem GI{fd:PSt->R (List (Key×PV))}:zc fd ρ=jz Co (fd ρ):=by unfold zc;cases fd ρ <;> rfl
def Cv(h:Tgt)(t:PSt->R Bool)(fe:PSt->R PV)(ρ:PSt)(ps:List PV):R PV:=jz lstP (BK (cQ h t fe ρ ps))
@[simp] theorem F0(h:Tgt)(ps:List PV):Cv h t f ρ ps=jz lstP (BK (cQ h t f ρ ps)):=by unfold Cv;exact LP _
@[simp] theorem GL{fi:PSt->R (List PV)}{h:Tgt}{nt:Nat}{idx:List Nat}:gZ fi h t f nt idx ρ=jz (Cv h t f (cE nt idx ρ)) (fi ρ):=by
 unfold gZ;cases fi ρ with
 | ok ps=>
  simp only[R.ok_bind,lQ,F0];cases cQ h t f (cE nt idx ρ) ps with
  | ok qs=>simp only[BK,R.ok_bind,lQ,EY,gy];split <;> rfl
  | er x=>rfl
  | no=>rfl
 | er x=>rfl
 | no=>rfl
@[simp] theorem pY(p:PV):az i p ρ=some (ρ.set i (.val p)):=by unfold az;exact LP _
@[simp] theorem G5(a:α):BK (.ok a)=.ok a:=by unfold BK;exact LP _
end
section
variable{p : PV}{l : Sl}{ρ : PSt}{i : Nat}
@[simp] theorem pZ:ai 0 (.val p::ρ)=.ok p:=by unfold ai;exact LP _
@[simp] theorem AM:ai (i+1) (l::ρ)=ai i ρ:=by unfold ai;rw[LB]
@[simp] theorem G8:dz 0 (.own p::ρ)=.ok p:=by unfold dz;exact LP _
@[simp] theorem GG:dz (i+1) (l::ρ)=dz i ρ:=by unfold dz;rw[LB]
@[simp] theorem IS:wy 0 (.own p::ρ)=.val p::ρ:=by unfold wy;exact LP _
theorem wx:wy (i+1) (l::ρ)=l::wy i ρ:=by
 unfold wy;simp only[LB];cases ρ[i]? with
 | none=>rfl
 | some x=>cases x <;> rfl
@[simp] theorem IQ:wy (i+1) (l::ρ)=l::wy i ρ:=wx
def roA(i:Nat)(ρ:PSt):Sl:=roS ρ[i]?
@[simp] theorem JW:roA 0 (.val p::ρ)=.val p:=by unfold roA roS;exact LP _
@[simp] theorem JV:roA (i+1) (l::ρ)=roA i ρ:=by unfold roA;rw[LB]
theorem ur(nt:Nat)(idx:List Nat):cE nt idx ρ=La nt .no++idx.map fun i=>roA i ρ:=by unfold cE roA;exact LP _
def AF(i:Nat)(ρ:PSt)(p:PV):R PSt:=match ρ[i]? with
 | some (.own (.lst ps))=>if ps.length<16777216 then .ok (ρ.set i (.own (.lst (ps++[p])))) else .no
 | _=>.no
def xF(i:Nat)(ρ:PSt):Bool:=match ρ[i]? with
 | some (.own (.lst _))=>true
 | _=>false
def zh(l:Sl)(ρ:PSt):PSt:=l::ρ
@[simp] theorem HY:zh l ρ=l::ρ:=by unfold zh;exact LP _
@[simp] theorem Ji(ps:List PV):AF 0 (.own (.lst ps)::ρ) p=if ps.length<16777216 then .ok (.own (.lst (ps++[p]))::ρ) else .no:=by unfold AF;exact LP _
@[simp] theorem Jh:AF (i+1) (l::ρ) p=uh (zh l) (AF i ρ p):=by
 unfold AF;rw[LB];cases ρ[i]? with
 | none=>rfl
 | some x=>
  cases x with
  | own q=>
   cases q with
   | lst ps=>dsimp only;split <;> rfl
   | _=>rfl
  | _=>rfl
@[simp] theorem Je(ps:List PV):xF 0 (.own (.lst ps)::ρ)=true:=by unfold xF;exact LP _
@[simp] theorem Jd:xF (i+1) (l::ρ)=xF i ρ:=by unfold xF;rw[LB]
def FR(i:Nat)(ρ:PSt)(p:PV):R Fl:=uh .next (AF i ρ p)
@[simp] theorem F3:FR i ρ p=uh .next (AF i ρ p):=by unfold FR;exact LP _
theorem CF(f:PSt->R PV)(h:xF i ρ=true):oG i f ρ=jz (FR i ρ) (f ρ):=by
 unfold xF at h;unfold oG;cases e:ρ[i]? with
 | none=>rw[e] at h;cases h
 | some x=>
  rw[e] at h;cases x with
  | own q=>
   cases q with
   | lst ps=>
    dsimp only;cases f ρ with
    | ok p=>
     simp only[R.ok_bind,lQ,F3];unfold AF;rw[e];dsimp only
     split <;> rfl
    | er x=>rfl
    | no=>rfl
   | _=>cases h
  | _=>cases h
def GA(b:Bool)(i:Nat)(ρ:PSt)(r:R PV):R Fl:=if b=true then jz (FR i ρ) r else .no
@[simp] theorem F4(r:R PV):GA true i ρ r=jz (FR i ρ) r:=by unfold GA;exact if_pos rfl
@[simp] theorem IX(f:PSt->R PV):oG i f ρ=GA (xF i ρ) i ρ (f ρ):=by
 cases h:xF i ρ with
 | true=>rw[CF f h,F4]
 | false=>
  unfold GA;rw[if_neg KW];unfold xF at h;unfold oG
  split
  ·rename_i ps e
   rw[e] at h;cases h
  ·rfl
def zS(i:Nat)(ρ:PSt)(k:Key)(p:PV):R PSt:=match ρ[i]? with
 | some (.own (.dct ks ps))=>if ks.length<16777216 then .ok (ρ.set i (.own (mK ks ps k p))) else .no
 | _=>.no
def Ca(i:Nat)(ρ:PSt):Bool:=match ρ[i]? with
 | some (.own (.dct _ _))=>true
 | _=>false
@[simp] theorem J8(ks:List Key)(ps:List PV)(k:Key):zS 0 (.own (.dct ks ps)::ρ) k p=if ks.length<16777216 then .ok (.own (mK ks ps k p)::ρ) else .no:=by unfold zS;exact LP _
@[simp] theorem J6(k:Key):zS (i+1) (l::ρ) k p=uh (zh l) (zS i ρ k p):=by
 unfold zS;rw[LB];cases ρ[i]? with
 | none=>rfl
 | some x=>
  cases x with
  | own q=>
   cases q with
   | dct ks ps=>dsimp only;split <;> rfl
   | _=>rfl
  | _=>rfl
@[simp] theorem HW(ks:List Key)(ps:List PV):Ca 0 (.own (.dct ks ps)::ρ)=true:=by unfold Ca;exact LP _
@[simp] theorem HV:Ca (i+1) (l::ρ)=Ca i ρ:=by unfold Ca;rw[LB]
def Gs(i:Nat)(ρ:PSt)(p:PV)(k:Key):R Fl:=uh .next (zS i ρ k p)
@[simp] theorem ER(k:Key):Gs i ρ p k=uh .next (zS i ρ k p):=by unfold Gs;exact LP _
def Hg(b:Bool)(i:Nat)(ρ:PSt)(v:R PV)(k:R PV):R Fl:=if b=true then oK (Gs i ρ) v (jz EL k) else .no
@[simp] theorem ES(v k:R PV):Hg true i ρ v k=oK (Gs i ρ) v (jz EL k):=by unfold Hg;exact if_pos rfl
@[simp] theorem IF(fk fv:PSt->R PV):uU i fk fv ρ=Hg (Ca i ρ) i ρ (fv ρ) (fk ρ):=by
 unfold uU Ca;cases e:ρ[i]? with
 | none=>rfl
 | some x=>
  cases x with
  | own q=>
   cases q with
   | dct ks ps=>
    dsimp only;rw[ES];cases fv ρ with
    | ok p=>
     simp only[R.ok_bind];cases fk ρ with
     | ok kp=>
      simp only[R.ok_bind,lQ,Ap];cases fQ kp with
      | none=>rfl
      | some k=>
       simp only[R.ofO_some,R.ok_bind,vN,ER];unfold zS;rw[e];dsimp only
       split <;> rfl
     | er x=>rfl
     | no=>rfl
    | er x=>rfl
    | no=>rfl
   | _=>rfl
  | _=>rfl
end
@[simp] theorem Ds(a b:Int):cj (.int a) (.int b)=some (.int (a+b)):=rfl
theorem l8{a b:Str}(h:a.length+b.length<=16777216):cj (.str a) (.str b)=some (.str (a++b)):=if_pos h
theorem fF{a b:List PV}(h:a.length+b.length<=16777216):cj (.lst a) (.lst b)=some (.lst (a++b)):=if_pos h
@[simp] theorem Dr(a b:List PV):cj (.tup a) (.tup b)=if a.length+b.length<=16777216 then some (.tup (a++b)) else none:=rfl
@[simp] theorem Js(a b:Int):um (.int a) (.int b)=some (.int (a-b)):=rfl
theorem xN{a b:Int}(h:a.natAbs<18446744073709551616\/b.natAbs<18446744073709551616):wj (.int a) (.int b)=some (.int (a * b)):=if_pos h
theorem mH{a b:Int}(h:0<b/\b<1073741824):ki (.int a) (.int b)=some (.int (a / b)):=if_pos h
theorem dH{a b:Int}(h:0<b):bz (.int a) (.int b)=some (.int (a % b)):=if_pos h
@[simp] theorem v_lt(a b:Int):gLt (.int a) (.int b)=some (.bl (decide (a<b))):=rfl
@[simp] theorem Kq(a b:Int):gLe (.int a) (.int b)=some (.bl (decide (a<=b))):=rfl
@[simp] theorem Kr(a b:Int):gGt (.int a) (.int b)=some (.bl (decide (b<a))):=rfl
@[simp] theorem Ks(a b:Int):gGe (.int a) (.int b)=some (.bl (decide (b<=a))):=rfl
@[simp] theorem Gc(x y:Str):gLt (.str x) (.str y)=some (.bl (decide (x.cps.toList<y.cps.toList))):=rfl
@[simp] theorem Gm(a b:Int):gEq (.int a) (.int b)=some (.bl (decide (a=b))):=by simp[gEq,pX,scV,CO]
@[simp] theorem hJ(a b:Str):gEq (.str a) (.str b)=some (.bl (decide (a=b))):=by simp[gEq,pX,scV,CO]
@[simp] theorem Ga(b:Bool):ub (.bl b)=some b:=rfl
@[simp] theorem Df(ps:List PV):ub (.lst ps)=some (!ps.isEmpty):=rfl
@[simp] theorem Dg(ks:List Key)(ps:List PV):ub (.dct ks ps)=some (!ks.isEmpty):=rfl
@[simp] theorem Dl(ps:List PV):gT (.lst ps)=some (.int ps.length):=rfl
@[simp] theorem Dk(ps:List PV):gT (.tup ps)=some (.int ps.length):=rfl
theorem ja{x:Str}(h:x.length<=16777216):gT (.str x)=some (.int x.length):=if_pos h
@[simp] theorem Gf(ps:List PV)(i:Int):gIx (.lst ps) (.int i)=atI ps i:=rfl
@[simp] theorem Ge(ps:List PV)(i:Int):gIx (.tup ps) (.int i)=atI ps i:=rfl
theorem xO{z:Str}{i:Int}{c:Nat}(h:z.length<=16777216)(e:atI z.cps.toList i=some c):gIx (.str z) (.int i)=some (.str ⟨#[c]⟩):=by
 show (if z.length<=16777216 then (atI z.cps.toList i).map fun c=>PV.str ⟨#[c]⟩ else none)=_;rw[if_pos h,e];rfl
@[simp] theorem Gg(ks:List Key)(ps:List PV)(k:PV):gIx (.dct ks ps) k=(fQ k).bind fun k=>cq ks ps k:=rfl
@[simp] theorem Do(i:Int):fQ (.int i)=some (.inl i):=rfl
@[simp] theorem Dm(x:Str):fQ (.str x)=some (.inr x):=rfl
@[simp] theorem mP(k j:Key)(ks:List Key)(p:PV)(ps:List PV):cq (k::ks) (p::ps) j=if k=j then some p else cq ks ps j:=rfl
@[simp] theorem Gk(b:Bool):wm (.bl b)=some (.int (if b then 1 else 0)):=rfl
@[simp] theorem Dq(b:Int):wm (.int b)=some (.int b):=rfl
@[simp] theorem De(ps:List PV):pH (.lst ps)=some (.tup ps):=rfl
@[simp] theorem Dd(ps:List PV):pH (.tup ps)=some (.tup ps):=rfl
@[simp] theorem Gi(ps:List PV):f6 (.lst ps)=some ps:=rfl
@[simp] theorem Gh(ps:List PV):f6 (.tup ps)=some ps:=rfl
@[simp] theorem Gj(ks:List Key)(ps:List PV):f6 (.dct ks ps)=some (ks.map yE):=rfl
@[simp] theorem J0(x:Str):yE (.inr x)=.str x:=rfl
@[simp] theorem CN(ps:List PV):pO (.lst ps)=some ((A0 ps).map .tup):=rfl
@[simp] theorem CM(x:Str):pO (.str x)=some ((A0 (gB x)).map .tup):=rfl
@[simp] theorem Di(i:Int):Jj (.int i)=if i.natAbs.log2<1920 then some (.str (toString i)) else none:=rfl
@[simp] theorem Dh(x:Str):Jj (.str x)=some (.str x):=rfl
@[simp] theorem GQ(x:Str):Fd (.str x)=true:=rfl
@[simp] theorem Gb(ps:List PV)(lo hi:Option Int):gSl (.lst ps) lo hi=some (.lst (kJ ps lo hi)):=rfl
theorem bY{α:Type}{xs:List α}{i:Int}{n:Nat}{x:α}(hi:i=n)(h:xs[n]?=some x):atI xs i=some x:=by
 subst hi;have hl:=(KN.mp h).1;unfold atI ixN;rw[if_pos (by omega),if_pos (by omega)];simpa using h
@[simp] theorem Ke{α:Type}(x:α)(xs:List α):atI (x::xs) 0=some x:=bY (n:=0) rfl rfl
@[simp] theorem Kd{α:Type}(x y:α)(xs:List α):atI (x::y::xs) 1=some y:=bY (n:=1) rfl rfl
@[simp] theorem Kc{α:Type}(x y z:α)(xs:List α):atI (x::y::z::xs) 2=some z:=bY (n:=2) rfl rfl
@[simp] theorem Kb{α:Type}(x y z u:α)(xs:List α):atI (x::y::z::u::xs) 3=some u:=bY (n:=3) rfl rfl
theorem wC{h:Tgt}{g:PSt->R Fl}(I:Nat->PSt->Prop):∀(ps:List PV)(n:Nat)(ρ:PSt),I n ρ->
  (∀(i:Nat)(p:PV)(ρ:PSt),ps[i]?=some p->I (n+i) ρ->∃ρ1 ρ2,h p ρ=some ρ1/\(g ρ1=.ok (.next ρ2)\/g ρ1=.ok (.cont ρ2))/\I (n+i+1) ρ2)->
  ∃ρ',ic h g ps ρ=.ok (.next ρ')/\I (n+ps.length) ρ'
 | [],n,ρ,h0,_=>⟨ρ,rfl,h0⟩
 | p::ps,n,ρ,h0,hs=>by
  obtain⟨ρ1,ρ2,e1,e2,i2⟩:=hs 0 p ρ rfl h0
  obtain⟨ρ3,e3,i3⟩:=wC I ps (n+1) ρ2 i2 fun i q ρ' hq hi=>by
   have:=hs (i+1) q ρ' (by simpa using hq) (by rw[show n+(i+1)=n+1+i by omega];exact hi);rw[show n+(i+1)+1=n+1+i+1 by omega] at this;exact this
  refine⟨ρ3,?_,by rw[LK,show n+(ps.length+1)=n+1+ps.length by omega];exact i3⟩;unfold ic;rw[e1];rcases e2 with e2 | e2 <;> (simp only[R.ofO_some,R.ok_bind,e2];exact e3)
theorem yU{h:Tgt}{g:PSt->R Fl}{ps:List PV}{ρ:PSt}(I:Nat->PSt->Prop)(h0:I 0 ρ)
  (hs:∀(i:Nat)(p:PV)(ρ:PSt),ps[i]?=some p->I i ρ->∃ρ1 ρ2,h p ρ=some ρ1/\(g ρ1=.ok (.next ρ2)\/g ρ1=.ok (.cont ρ2))/\I (i+1) ρ2) :
  ∃ρ',ic h g ps ρ=.ok (.next ρ')/\I ps.length ρ':=by
 have:=wC I ps 0 ρ h0 fun i p ρ hp hi=>by
  rw[Nat.zero_add] at hi ⊢;exact hs i p ρ hp hi
 simpa using this
theorem t6(lo:Int)(n:Nat):(cn lo n).length=n:=by simp[cn]
theorem t7{lo:Int}{n i:Nat}{p:PV}(h:(cn lo n)[i]?=some p):i<n/\p=.int (lo+i):=by
 unfold cn at h;rw[L3] at h
 by_cases hi:i<n
 ·rw[O7 hi] at h
  exact⟨hi,(Lh h).symm⟩
 ·rw[Os (by simpa using hi)] at h
  cases h
theorem forR{h:Tgt}{g:PSt->R Fl}{lo:Int}{n:Nat}{ρ:PSt}(I:Nat->PSt->Prop)(h0:I 0 ρ)
  (hs:∀(i:Nat)(ρ:PSt),i<n->I i ρ->∃ρ1 ρ2,h (.int (lo+i)) ρ=some ρ1/\(g ρ1=.ok (.next ρ2)\/g ρ1=.ok (.cont ρ2))/\I (i+1) ρ2) :
  ∃ρ',ic h g (cn lo n) ρ=.ok (.next ρ')/\I n ρ':=by
 obtain⟨ρ',e,i'⟩:=yU (ps:=cn lo n) I h0 fun i p ρ hp hi=>by
  obtain⟨hn,rfl⟩:=t7 hp;exact hs i ρ hn hi
 rw[t6] at i';exact⟨ρ',e,i'⟩
theorem wB{α:Type}{enc:α->PV}{h:Tgt}{g:PSt->R Fl}{xs:List α}(I:List α->PSt->Prop)
  (hs:∀(pre:List α)(x:α)(post:List α)(ρ:PSt),xs=pre++x::post->I pre ρ->∃ρ1 ρ2,h (enc x) ρ=some ρ1/\(g ρ1=.ok (.next ρ2)\/g ρ1=.ok (.cont ρ2))/\I (pre++[x]) ρ2) :
  ∀(ys pre:List α)(ρ:PSt),xs=pre++ys->I pre ρ->∃ρ',ic h g (ys.map enc) ρ=.ok (.next ρ')/\I xs ρ'
 | [],pre,ρ,e,h0=>⟨ρ,rfl,by rw[e,Ly];exact h0⟩
 | y::ys,pre,ρ,e,h0=>by
  obtain⟨ρ1,ρ2,e1,e2,i2⟩:=hs pre y ys ρ e h0;obtain⟨ρ3,e3,i3⟩:=wB I hs ys (pre++[y]) ρ2 (by rw[e];simp) i2;refine⟨ρ3,?_,i3⟩;rw[KG];unfold ic;rw[e1];rcases e2 with e2 | e2 <;> (simp only[R.ofO_some,R.ok_bind,e2];exact e3)
theorem forM{α:Type}{enc:α->PV}{h:Tgt}{g:PSt->R Fl}{xs:List α}{ρ:PSt}(I:List α->PSt->Prop)(h0:I [] ρ)
  (hs:∀(pre:List α)(x:α)(post:List α)(ρ:PSt),xs=pre++x::post->I pre ρ->∃ρ1 ρ2,h (enc x) ρ=some ρ1/\(g ρ1=.ok (.next ρ2)\/g ρ1=.ok (.cont ρ2))/\I (pre++[x]) ρ2) :
  ∃ρ',ic h g (xs.map enc) ρ=.ok (.next ρ')/\I xs ρ':=wB I hs xs [] ρ rfl h0
end PU
namespace PU
open PySem PySem.Spec PyProof.Rows L2 PySem.SeqAt
def Gp:List PV->Option (List Key)
 | []=>some []
 | p::r=>(fQ p).bind fun k=>(Gp r).map fun l=>k::l
def Jt:PV->Option (Key ⊕ List Key)
 | .tup qs=>(Gp qs).map .inr
 | p=>(fQ p).map .inl
def Gn:List PV->Option cV
 | []=>some []
 | p::r=>(Jt p).bind fun k=>(Gn r).map fun l=>k::l
def q8:PV->Option cV
 | .tup ps=>Gn ps
 | _=>none
def pj:List cV->List PV->cV->Option PV
 | k::ks,p::ps,j=>if k=j then some p else pj ks ps j
 | _,_,_=>none
def Fk:PV->PV->Option PV
 | .dtt ks ps,q=>(q8 q).bind fun k=>pj ks ps k
 | _,_=>none
def Cc:PV->PV->Option PV
 | q,.dtt ks _=>(q8 q).map fun k=>.bl (ks.any fun j=>decide (j=k))
 | _,_=>none
def gd:PV->PV->Option PV
 | q,.dtt ks _=>(q8 q).map fun k=>.bl (!(ks.any fun j=>decide (j=k)))
 | _,_=>none
def B8(ks:List cV)(ps:List PV)(k:cV)(p:PV):List PV:=List.zipWith (fun j q=>if j=k then p else q) ks ps
def xA(ks:List cV)(ps:List PV)(k:cV)(p:PV):PV:=if (ks.any fun j=>decide (j=k))=true then .dtt ks (B8 ks ps k p) else .dtt (ks++[k]) (ps++[p])
def mJ(i:Nat)(fk fv:PSt->R PV):PSt->R Fl:=fun ρ=>match ρ[i]? with
 | some (.own (.dtt ks ps))=>fv ρ >>= fun p=>fk ρ >>= fun kp=>R.ofO (q8 kp) >>= fun k=>if ks.length<16777216 then .ok (.next (ρ.set i (.own (xA ks ps k p)))) else .no
 | _=>.no
def zb(fk fv:PSt->R PV):PSt->R PV:=fun ρ=>fk ρ >>= fun kp=>fv ρ >>= fun p=>R.ofO (q8 kp) >>= fun k=>.ok (.dtt [k] [p])
def HJ:PSt->R PV:=fun _=>.ok (.dtt [] [])
variable[TW]
theorem oN{K:KA}{H:Hp}:∀{ps:List PV}{xs:List V}{ks:List Key},Gp ps=some ks->aO K H ps xs->xs=ks.map kV
 | [],_,_,e,r=>by cases e;cases r;rfl
 | p::ps,_,_,e,⟨x,t,ex,h1,h2⟩=>by
  obtain⟨k,ek,e⟩:=Kx.mp e;obtain⟨l,el,e⟩:=KQ.mp e;subst e ex;rw[KG,← eL ek h1.o,← oN el h2]
theorem oM{K:KA}{H:Hp}:∀{ps:List PV}{xs:List V}{ks:cV},Gn ps=some ks->aO K H ps xs->NV H ks xs
 | [],xs,ks,e,r=>by cases e;exact r
 | p::ps,xs,ks,e,r=>by
  obtain⟨x,t,rfl,r1,r2⟩:=r;unfold Gn at e;obtain⟨k,e1,e⟩:=Kx.mp e;obtain⟨l,e2,e⟩:=KQ.mp e;cases e;have ih:=oM e2 r2;cases p with
  | tup qs=>
   obtain⟨j,e3,e4⟩:=KQ.mp (show (Gp qs).map ML=some k from e1);subst e4;obtain⟨c,ys,rfl,hc,rr⟩:=r1;rw[oN e3 rr] at hc;exact⟨c,t,rfl,hc,ih⟩
  | int i=>
   cases e1;cases (show x=.int i from r1);exact⟨t,rfl,ih⟩
  | str i=>
   cases e1;cases (show x=.str i from r1);exact⟨t,rfl,ih⟩
  | _=>cases e1
theorem jb{K:KA}{H:Hp}{p:PV}{v:V}{k:cV}(e:q8 p=some k)(r:bc K H p v):∃b,v=.ref b/\fO H b k:=by
 cases p with
 | tup ps=>
  obtain⟨a,xs,rfl,g,rr⟩:=r;exact⟨a,rfl,xs,g,oM e rr⟩
 | _=>cases e
theorem pd{K:KA}{H:Hp}{k:cV}:∀{ks:List cV}{ps:List PV}{kvs:List (cV×V)}{p:PV},kvs.map (·.1)=ks->aO K H ps (kvs.map (·.2))->pj ks ps k=some p->∃v,mF kvs k=some v/\Rep K H p v
 | _,_,[],_,h1,h2,e=>by
  subst h1;simp only[Mh,pj] at e;cases e
 | _,[],kv::kvs,_,h1,h2,e=>by
  cases h2
 | _,q::ps,kv::kvs,p,h1,h2,e=>by
  subst h1;obtain⟨x,r,ex,hx,ht⟩:=h2;simp only[KG,MV] at ex;obtain⟨rfl,rfl⟩:=ex;simp only[KG,pj] at e
  by_cases hk:kv.1=k
  ·rw[if_pos hk] at e
   cases e;exact⟨_,by simp[mF,hk],hx⟩
  ·rw[if_neg hk] at e
   obtain⟨v,ev,rv⟩:=pd rfl ht e;exact⟨v,by unfold mF at ev ⊢;rw[Ng (by simp[hk])];exact ev,rv⟩
theorem qP{kvs:List (cV×V)}{k:cV}:(mF kvs k).isSome=((kvs.map (·.1)).any fun j=>decide (j=k)):=by
 rw[NA];unfold mF;rw[OI]
 induction kvs with
 | nil=>rfl
 | cons kv r ih=>
  rw[M4,MH];simp only[Mp];cases decide (kv.1=k) with
  | true=>rfl
  | false=>exact ih
section
variable{X : Cx}
theorem ixT(hu:X.A.units+64<cLine):IxR X (rP X.K Fk):=by
 intro value slice pins s σ H x y v u Q I rx ry ⟨p,q,z,hp,hq,e,k⟩ hs;unfold Fk at e;split at e
 ·rename_i ks ps
  obtain⟨kk,ek,e⟩:=Kx.mp e;obtain⟨a,kvs,rfl,g,e1,r⟩:=hp;cases rx;obtain⟨b,rfl,hb⟩:=jb ek hq;obtain⟨w,ew,rp⟩:=pd e1 r e;have dg:CL H a (.ref b) (some w):=.inr ⟨kvs,kk,b,g,rfl,hb,ew.symm⟩;obtain⟨_,_,_,_,dd⟩:=qJ I.hok g;exact tail_any (qK I dg) Q4.lookup (wY (by omega) I dg ry fun w' s' I' rw'=>⟨w,H,I',rw',k w H (Same.refl H) rp⟩) hs
 ·cases e
theorem Hz(hu:X.A.units+64<cLine):OpR X (LZ .In) (rP X.K Cc):=by
 intro pins s σ H x y v u Q I rx ry ⟨p,q,z,hp,hq,e,k⟩;unfold Cc at e;split at e
 ·rename_i ks ps
  obtain⟨kk,ek,ez⟩:=KQ.mp e;subst ez;obtain⟨a,kvs,rfl,g,e1,r⟩:=hq;cases ry;obtain⟨b,rfl,hb⟩:=jb ek hp;have dg:CL H a (.ref b) (mF kvs kk):=.inr ⟨kvs,kk,b,g,rfl,hb,rfl⟩;refine K9 (by omega) I dg rx fun s' I'=>⟨.bl _,H,I',rfl,k _ H (Same.refl H) ?_⟩;subst e1;rw[qP];rfl
 ·cases e
theorem rG(hu:X.A.units+64<cLine):OpR X (LZ .NotIn) (rP X.K gd):=by
 intro pins s σ H x y v u Q I rx ry ⟨p,q,z,hp,hq,e,k⟩;unfold gd at e;split at e
 ·rename_i ks ps
  obtain⟨kk,ek,ez⟩:=KQ.mp e;subst ez;obtain⟨a,kvs,rfl,g,e1,r⟩:=hq;cases ry;obtain⟨b,rfl,hb⟩:=jb ek hp;have dg:CL H a (.ref b) (mF kvs kk):=.inr ⟨kvs,kk,b,g,rfl,hb,rfl⟩;refine Cq (by omega) I dg rx fun s' I'=>⟨.bl _,H,I',rfl,k _ H (Same.refl H) ?_⟩;subst e1;rw[qP];rfl
 ·cases e
end
theorem yK:pE Cc:=fun p q z e=>by
 unfold Cc at e;split at e
 ·obtain⟨b,_,ez⟩:=KQ.mp e;exact⟨_,ez.symm⟩
 ·cases e
theorem lS:pE gd:=fun p q z e=>by
 unfold gd at e;split at e
 ·obtain⟨b,_,ez⟩:=KQ.mp e;exact⟨_,ez.symm⟩
 ·cases e
theorem mU{K:KA}{H:Hp}{k:cV}{p:PV}{v:V}(rp:Rep K H p v):∀{kvs:List (cV×V)}{ps:List PV},aO K H ps (kvs.map (·.2))->aO K H (B8 (kvs.map (·.1)) ps k p) ((kvs.map fun kv=>if kv.1=k then (kv.1,v) else kv).map (·.2))
 | [],ps,r=>by
  cases ps with
  | nil=>rfl
  | cons q qs=>obtain⟨x,t,e,_⟩:=r;cases e
 | kv::kvs,ps,r=>by
  cases ps with
  | nil=>cases r
  | cons q qs=>
   obtain⟨x,t,e,h1,h2⟩:=r;simp only[KG,MV] at e;obtain⟨rfl,rfl⟩:=e;have ih:=mU (k:=k) rp h2;simp only[KG,B8,MI]
   by_cases hk:kv.1=k
   ·rw[if_pos hk,if_pos hk];exact⟨_,_,rfl,rp,ih⟩
   ·rw[if_neg hk,if_neg hk];exact⟨_,_,rfl,h1,ih⟩
theorem uS{K:KA}{H:Hp}{kvs:List (cV×V)}{ps:List PV}{k:cV}{p:PV}{v:V}(rr:aO K H ps (kvs.map (·.2)))(rp:Rep K H p v) :
  ∃ks' ps',xA (kvs.map (·.1)) ps k p=.dtt ks' ps'/\(putK kvs k v).map (·.1)=ks'/\aO K H ps' ((putK kvs k v).map (·.2)):=by
 unfold xA;have e:((kvs.map (·.1)).any fun j=>decide (j=k))=(kvs.any fun kv=>decide (kv.1=k)):=by rw[NA];rfl
 rw[e];unfold putK
 split
 ·refine⟨_,_,rfl,?_,mU rp rr⟩
  rw[L7];apply Mm;intro kv _;simp only[Mp]
  split <;> rfl
 ·refine⟨_,_,rfl,by simp,?_⟩
  rw[L8];exact aO.append rr ⟨_,_,rfl,rp,rfl⟩
theorem yi{K:KA}{H:Hp}{a:Addr}{kvs:List (cV×V)}{ps:List PV}{k:cV}{p:PV}{v:V}(rr:aO K H ps (kvs.map (·.2)))(rp:Rep K H p v)(ha:H a=some (.dT (putK kvs k v))):cH K H a (xA (kvs.map (·.1)) ps k p):=by
 obtain⟨ks',ps',e,e1,e2⟩:=uS (k:=k) rr rp;rw[e];exact⟨_,ha,e1,e2⟩
theorem uI{C:Cn}(i:Nat){x:Str}{ke e:Expr}{fk fv:PSt->R PV}{np pos' pos:Ma}(hu:C.X.A.units+64<cLine)(hk:EV C ke fk)(hv:EV C e fv)(hN:C.X.N[i]?=some x:=by rfl)(hvis:Vis C.X.env.scope x:=by first | exact .inl rfl | exact .inr (.inl rfl) | exact .inr (.inr rfl))
  (hs:NQ e (some (.Subscript (.Name x np) ke pos')) pos.line C.X.env=pure false:=by rfl) (hd:(x == ("__debug__":Str))=false:=by decide) (hcd:(x == ("__classdict__":Str))=false:=by decide) :
  SV C (.Assign [.Subscript (.Name x np) ke pos'] e pos) (mJ i fk fv):=by
 intro pins s σ H D I ⟨ρ,B,S,q⟩;unfold mJ at q;split at q
 ·rename_i ks ps e1
  obtain⟨a,e2,kvs,hx,ek,rr⟩:=S.vw i _ e1;refine uX (by omega) (gw hN hvis hd hcd) hk hv hs pins s σ H D I ⟨ρ,S.vw,(q.bind S.same).imp fun p _ q1 v H1 s1 r1=>⟨_,e2,ρ,S.vw.same s1,(q1.bind (S.same.trans s1)).imp fun kp _ q2 y H2 s2 r2=>?_⟩⟩;obtain⟨k,e3,q3⟩:=RS.ofO q2
  by_cases hl:ks.length<16777216
  ·rw[if_pos hl] at q3
   obtain⟨b,rfl,hb⟩:=jb e3 r2.o;subst ek;have hx2:H2 a=some (.dT kvs):=s2 _ _ (s1 _ _ hx);refine⟨a,_,rfl,AL.t hx2 hb (by rw[Li];simpa using hl),?_⟩;have kp:Kp H2 (upd H2 a (.dT (putK kvs k v))):=Kp.upd hx2 rfl;refine q3 σ _ (((S.grow s1).grow s2).turn e1 e2 (fun b hb=>aL hb) ⟨a,rfl,?_⟩);exact yi (aO.kp kp _ ((rr.same s1).same s2)) (Rep.kp kp _ (r1.same s2)) aF
  ·rw[if_neg hl] at q3
   exact KJ q3
 ·exact KJ q
theorem FK{X:Cx}{pins:List (Addr×Obj)}{σ:L2.St}{H:Hp}{s:KC}{a b:Addr}{v:V}{r:KB}{A:LR}{E:KB->KC->Prop}{kvs:List (cV×V)}{k:cV}{Q:Unit->KC->Prop}(hu:A.units+16<cLine)(I:Inv X pins σ H s)
  (e:H a=some (.dT kvs)) (eb:fO H b k) (l:kvs.length<sizeLine) (rv:RelV v r) (h:∀s',Inv X pins σ (upd H a (.dT (putK kvs k v))) s'->Q () s') :
  LC (LU X.prog X.w) A (dictSet a (.ref b) r) Q E s:=by
 obtain⟨z,hd,xs,rel,dd⟩:=FH I.hok e;have hz:xs.length<=sizeLine:=by rw[← Ln rel];exact z
 have hl:(putK kvs k v).length<=sizeLine:=by have:=g9 kvs k v;omega
 refine wpAny_dictSet_heap (hsz:=hz) (knd:=i7 X.prog X.w) (show A.units+8<cLine by omega) (key_of I.hok eb) dd fun h' dd' hs=>h _ ?_;obtain⟨q,es,ep,hq,h2,h3,h4,_,h5⟩:=dd';refine ow I (by rw[e];exact Mq) hs ⟨q,hq⟩ ⟨hl,hd,_,(rel.put k eb rv).keeps fun c ys ec=>?_,q,es,ep,hq,h2,h3,h4,h5⟩;rw[aL (Es ec e (fun z=>nomatch z))];exact ec
theorem za{C:Cn}{k v:Expr}{fk fv:PSt->R PV}{pos:Ma}(hu:C.X.A.units+64<cLine)(hk:EV C k fk)(hv:EV C v fv):EN C (.Dict [some k] [v] pos) (zb fk fv):=by
 intro pins s σ H Q I ⟨ρ,vw,q⟩;have hn:=I.hok.fresh (L9 s.heap.objs.size);have I1:=I.laid (a:=s.heap.objs.size) (o:=.dT []) (h':=s.heap.push { cls:=.type "dict",data:=.dict #[] }) (t':=s.toks) (fun _ _ q=>KL _ q) (L9 _) (sx s.heap I.big)
 refine wpAny_Dict_any rfl rfl (by simp) (show 1<=15 by decide) (thn (rA hk hv uZ pins _ σ _ (fun ps H3=>∃b k y,ps=[(.ref b,y)]/\fO H3 b k/\H3 s.heap.objs.size=some (.dT [])/\Q (.ref s.heap.objs.size) (upd H3 s.heap.objs.size (.dT (putK [] k y)))) I1
  ⟨ρ,vw.same (Same.new hn),(q.bind.same (Same.new hn)).imp fun kp _ q1 x H1 s1 r1=>⟨ρ,vw.same ((Same.new hn).trans s1),(q1.bind.same ((Same.new hn).trans s1)).imp fun p _ q2 y H2 s2 r2=>?_⟩⟩) fun ws s2 ⟨ps,H2,I2,rel,b,k,y,ep,hb,hd,q2⟩=>?_)
 ·obtain⟨k,ek,q3⟩:=q2.bind.ofO
  obtain⟨b,rfl,hb⟩:=jb ek (r1.same s2).o;have hd:H2 s.heap.objs.size=some (.dT []):=s2 _ _ (s1 _ _ aF);refine⟨b,k,y,rfl,hb,hd,?_⟩;have kp:Kp H2 (upd H2 s.heap.objs.size (.dT (putK [] k y))):=Kp.upd hd rfl;exact q3 s.heap.objs.size _ ((((Same.new hn).trans s1).trans s2).but hn (fun u h=>by rw[hd] at h;cases h;rfl) (fun b hb=>aL hb)) hn ⟨_,aF,rfl,⟨_,_,rfl,Rep.kp kp _ r2,rfl⟩⟩
 ·subst ep
  cases rel with
  | @cons _ w _ ws h t=>
  cases t;obtain⟨w1,w2⟩:=w;cases (show w1=M5 b from h.1);unfold PySem.storeAll;rw[List.forIn_cons];refine KF (KF (FK (by omega) I2 hd hb (by rw[Li];decide) h.2 fun s' I'=>KO ?_));dsimp only;rw[List.forIn_nil];exact KO ⟨.ref s.heap.objs.size,_,I',rfl,q2⟩
theorem Ck{C:Cn}{pos:Ma}:EN C (.Dict [] [] pos) HJ:=fun pins s σ H Q I ⟨ρ,vw,q⟩=>yr pins s σ H Q I fun p hp=>q p _ (Same.new hp) hp ⟨[],aF,rfl,rfl⟩
end PU
namespace PU
open PySem PySem.Spec PyProof.Rows L2 PySem.SeqAt
def D3(i:Nat)(f:PSt->R PV):PSt->R Fl:=fun ρ=>match ρ[i]? with
 | some (.val (.int a))=>f ρ >>= fun q=>match q with
  | .int b=>.ok (.next (ρ.set i (.val (.int (a+b)))))
  | _=>.no
 | _=>.no
variable[TW]
theorem DF{C:Cn}{e:Expr}{f:PSt->R PV}{pos:Ma}(i:Nat){x:Str}{pos':Ma}(hN:C.X.N.Nodup)(he:EV C e f)
  (hf:C.X.fn x=true\/C.X.env.scope.names.lookup x=some .local:=by first | exact .inl rfl | exact .inr rfl | assumption) (hi:C.X.N[i]?=some x:=by rfl) (hx:Loc C.X.env.scope x:=by first | exact .inl rfl | exact .inr rfl) :
  SV C (.AugAssign (.Name x pos') .Add e pos) (D3 i f):=by
 intro pins s σ H D I ⟨ρ,B,S,h⟩;unfold D3 at h;split at h
 ·rename_i a e1
  obtain⟨v,ev,rv⟩:=S.vw i _ e1;cases (show v=.int a from rv);refine DX hN hi hx he Ff hf pins s σ H D I ⟨_,ev,ρ,S.vw,(h.bind S.same).imp fun q _ k w H1 s1 r1=>?_⟩;cases q with
  | int b=>
   cases (show w=.int b from r1);exact⟨a,b,rfl,rfl,k _ H1 ((S.grow s1).setV rfl)⟩
  | _=>exact KJ k
 ·exact KJ h
end PU
namespace PU
open PySem PySem.Spec PyProof.Rows L2 PySem.SeqAt
variable[TW]
def trC(H:Hp)(l:List (Addr×Obj)):Hp:=fun b=>match l.lookup b with
 | some o=>some (.frz o (.own 0))
 | none=>H b
def drC(H:Hp)(l:List (Addr×Obj)):Hp:=fun b=>match l.lookup b with
 | some _=>none
 | none=>H b
theorem lg{H:Hp}{l:List (Addr×Obj)}{b:Addr}{o:Obj}(h:l.lookup b=some o):trC H l b=some (.frz o (.own 0)):=by unfold trC;rw[h]
theorem b8{H:Hp}{l:List (Addr×Obj)}{b:Addr}(h:l.lookup b=none):trC H l b=H b:=by unfold trC;rw[h]
theorem mr{H:Hp}{l:List (Addr×Obj)}{b:Addr}{o:Obj}(h:l.lookup b=some o):drC H l b=none:=by unfold drC;rw[h]
theorem bg{H:Hp}{l:List (Addr×Obj)}{b:Addr}(h:l.lookup b=none):drC H l b=H b:=by unfold drC;rw[h]
structure Cls(X:Cx)(H:Hp)(s:KC)(l:List (Addr×Obj)):Prop where
 at_:∀c o,l.lookup c=some o->s.heap.get? c=some o
 fr:∀c o,l.lookup c=some o->H c=none
 bs:∀c o,l.lookup c=some o->X.base.get? c=none
 st:∀c o,l.lookup c=some o->c ∉ frs X.stack
section
variable{X : Cx}{pins : List (Addr×Obj)}{σ : L2.St}{H H' : Hp}{s s' : KC}{l : List (Addr×Obj)}
theorem Cls.out(hc:Cls X H s l){b:Addr}{o:HO}(e:H b=some o):l.lookup b=none:=by
 cases q:l.lookup b with
 | none=>rfl
 | some u=>rw[hc.fr b u q] at e;cases e
theorem Fv(I:L2.Inv X pins σ H s)(hc:Cls X H s l):Env0 X.prog X.w X.K X.mg X.base X.A X.stack s (trC H l):=by
 have e:=I.env0;refine⟨e.frames,e.mod,fun b o h=>⟨(e.bs b o h).1,?_⟩,e.bsz,e.funs,fun b hb=>?_,fun b o h=>?_,e.bare⟩
 ·cases q:l.lookup b with
  | none=>rw[b8 q];exact(e.bs b o h).2
  | some u=>rw[hc.bs b u q] at h;cases h
 ·cases q:l.lookup b with
  | none=>rw[b8 q];exact e.frf b hb
  | some u=>exact absurd hb (hc.st b u q)
 ·cases q:l.lookup b with
  | some u=>
   rw[lg q] at h;cases h;exact⟨hc.at_ b u q,u,hc.at_ b u q⟩
  | none=>
   rw[b8 q] at h;exact(e.hok b o h).stay (fun _ _ _ z=>z) (fun c z=>by rw[b8 (hc.out z)];exact z) fun c xs z=>by rw[b8 (hc.out z)];exact z
theorem p5(un:Un (frs X.stack) [] (trC H l) H' s.heap s'.heap){b:Addr}{o:HO}(e:H' b=some o)(n:∀q,o≠.frz q (.own 0)):l.lookup b=none:=by
 cases q:l.lookup b with
 | none=>rfl
 | some u=>
  rw[un.frzs b u _ (lg q)] at e;cases e;exact absurd rfl (n u)
theorem unC(hc:Cls X H s l)(un:Un (frs X.stack) [] (trC H l) H' s.heap s'.heap)(hok:HOk X.prog X.w H' s'.heap):Un (frs X.stack) [] H (drC H' l) s.heap s'.heap where
 keep:=fun b o e n hb hx=>by
  cases q:l.lookup b with
  | none=>exact un.keep b o e (by rw[b8 q];exact n) hb hx
  | some u=>
   have h1:=hc.at_ b u q;rw[e] at h1;cases h1;exact(hok b _ (un.frzs b o _ (lg q))).1
 slot:=fun b o e n hb hx=>by
  cases q:l.lookup b with
  | none=>exact un.slot b o e (by rw[b8 q];exact n) hb hx
  | some u=>exact absurd hb (hc.st b u q)
 free:=fun b o e n hx=>by
  cases q:l.lookup b with
  | none=>rw[bg q];exact un.free b o e (by rw[b8 q];exact n) hx
  | some u=>exact mr q
 there:=un.there
 tups:=fun b xs e=>by
  have q:=hc.out e;rw[bg q];exact un.tups b xs (by rw[b8 q];exact e)
 frzs:=fun b o u e=>by
  have q:=hc.out e;rw[bg q];exact un.frzs b o u (by rw[b8 q];exact e)
 tbls:=fun b ps e=>by
  have q:=hc.out e;rw[bg q];exact un.tbls b ps (by rw[b8 q];exact e)
theorem K4(un:Un (frs X.stack) [] (trC H l) H' s.heap s'.heap)(hok:HOk X.prog X.w H' s'.heap):HOk X.prog X.w (drC H' l) s'.heap:=fun b o e=>by
 cases q:l.lookup b with
 | some u=>rw[mr q] at e;cases e
 | none=>
  rw[bg q] at e;exact(hok b o e).stay (fun _ _ _ z=>z) (fun c z=>by rw[bg (p5 un z fun _ h=>by cases h)];exact z) fun c xs z=>by rw[bg (p5 un z fun _ h=>by cases h)];exact z
theorem DJ(hc:Cls X H s l)(un:Un (frs X.stack) [] (trC H l) H' s.heap s'.heap)(sm:Same (trC H l) H'):Same H (drC H' l):=
 ⟨fun b o e n=>by
  have q:=hc.out e;rw[bg q];exact sm.at_ b o (by rw[b8 q];exact e) n,fun b ps e=>by
  have q:=hc.out e;obtain⟨p1,e1,k1⟩:=sm.tb b ps (by rw[b8 q];exact e);refine⟨p1,by rw[bg q];exact e1,fun t=>?_⟩;have t1:=k1 ⟨t.1,fun pos v h=>let ⟨c,f1,f2⟩:=t.2 pos v h;⟨c,f1,by rw[b8 (hc.out f2)];exact f2⟩⟩;exact⟨t1.1,fun pos v h=>let ⟨c,f1,f2⟩:=t1.2 pos v h;⟨c,f1,by rw[bg (p5 un f2 fun _ h=>by cases h)];exact f2⟩⟩⟩
theorem AG{Q:VK}{u:KB}(I:L2.Inv X pins σ H s)(hc:Cls X H s l)(h:CE X.stack X.prog X.w (trC H l) s (fun v H'=>Un (frs X.stack) [] (trC H l) H' s.heap s'.heap->Q v (drC H' l)) u s'):EP X pins σ Q u s':=by
 obtain⟨v,H',os,bare,un,hok,r,q⟩:=h;obtain⟨hh,g,d,t,os'⟩:=s';obtain rfl:os'=s.os:=os;exact⟨v,drC H' l,I.call (h':=hh) (g':=g) (d':=d) (t':=t) (ch:=[]) (unC hc un hok) (K4 un hok) bare (fun b z=>absurd z (by simp)),r,q un⟩
end
mutual
def noFn:PV->Bool
 | .fn _ _=>false
 | .tup ps=>aY ps
 | .lst ps=>aY ps
 | .dct _ ps=>aY ps
 | .dtt _ ps=>aY ps
 | _=>true
def aY:List PV->Bool
 | []=>true
 | p::ps=>noFn p && aY ps
end
def Fe:HO->Bool
 | .tup _=>true
 | .frz _ (.lst _)=>true
 | .frz _ (.dK _)=>true
 | .frz _ (.dT _)=>true
 | _=>false
mutual
theorem Rep.pl{K:KA}{H H':Hp}(k:∀b u,H b=some u->Fe u=true->H' b=some u):∀(p:PV){v:V},noFn p=true->Rep K H p v->Rep K H' p v
 | .non,_,_,h=>h
 | .bl _,_,_,h=>h
 | .int _,_,_,h=>h
 | .str _,_,_,h=>h
 | .tup ps,_,n,⟨a,xs,e,h,r⟩=>⟨a,xs,e,k _ _ h rfl,aO.pl k ps n r⟩
 | .lst ps,_,n,⟨a,xs,e,h,r⟩=>⟨a,xs,e,by
   rcases h with⟨o,h⟩ | h
   ·exact .inl ⟨o,k _ _ h rfl⟩
   ·exact .inr h,aO.pl k ps n r⟩
 | .dct ks ps,_,n,⟨a,kvs,e,h,ek,r⟩=>⟨a,kvs,e,by
   rcases h with⟨o,h⟩ | h
   ·exact .inl ⟨o,k _ _ h rfl⟩
   ·exact .inr h,ek,aO.pl k ps n r⟩
 | .dtt ks ps,_,n,⟨a,o,kvs,e,h,ek,r⟩=>⟨a,o,kvs,e,k _ _ h rfl,ek,aO.pl k ps n r⟩
 | .fn _ _,_,n,_=>by cases n
theorem aO.pl{K:KA}{H H':Hp}(k:∀b u,H b=some u->Fe u=true->H' b=some u):∀(ps:List PV){xs:List V},aY ps=true->aO K H ps xs->aO K H' ps xs
 | [],_,_,h=>h
 | p::ps,_,n,⟨x,r,e,h1,h2⟩=>by
  have n:(noFn p && aY ps)=true:=n;rw[Lm] at n;exact⟨x,r,e,Rep.pl k p n.1 h1,aO.pl k ps n.2 h2⟩
end
theorem om{u:HO}(h:Fe u=true):∀q,u≠.frz q (.own 0):=fun q e=>by subst e;cases h
end PU
namespace PU
open PySem PySem.Spec PyProof.Rows L2 PySem.SeqAt
variable[TW]
theorem xo{p:Ma}{r:List KB}(l:List KB)(h:TriplesOk l):Nj p (l++r)=(Nj p l).or (Nj p r):=by
 fun_induction TriplesOk l with
 | case1=>simp[Nj]
 | case2 a t b u x rest ih=>
  simp only[N9,Nj]
  split
  ·rfl
  ·exact ih h
 | case3 l h1 h2=>exact h.elim
theorem xn{p pos:Ma}{c v:KB}(h:Nj p [NU pos.line,NU pos.col,c]=some v):v=c/\p.line=pos.line/\p.col=pos.col:=by
 simp only[Nj,NU] at h;split at h
 ·rename_i hc
  cases h;simp only[Lm,beq_iff_eq] at hc;exact⟨rfl,by omega,by omega⟩
 ·cases h
section
variable{X : Cx}{pins : List (Addr×Obj)}{σ : L2.St}{H : Hp}{s : KC}
theorem C6{H':Hp}{h':Heap}{P:Addr}{ps more:Array KB}{t':Nat}(I:L2.Inv X pins σ H s)(hP:H P=some (.tbl ps))(hx:RA P s.heap h')(hp:H' P=some (.tbl (ps++more)))(gP:h'.get? P=some (Mj (ps++more)))
  (old:∀b,b<s.heap.objs.size->b≠P->H' b=H b) (new:∀b o,s.heap.objs.size<=b->H' b=some o->dW X.prog X.w H' h' b o):L2.Inv X pins σ H' { s with heap:=h',toks:=t' }:=by
 have lt:∀b o,H b=some o->b<s.heap.objs.size:=fun b o e=>I.hok.lt e;have k:∀b o,b≠P->H b=some o->H' b=some o:=fun b o n e=>by rw[old b (lt b o e) n];exact e
 have nP:∀{b:Addr}{o:HO},H b=some o->(∀q,o≠.tbl q)->b≠P:=fun {b o} e n z=>by subst z;rw[hP] at e;cases e;exact n _ rfl
 refine I.un ⟨fun b o e n _ _=>hx b o (fun z=>by subst z;rw[hP] at n;cases n) e,fun b o e n _ _=>⟨o.slots,hx b o (fun z=>by subst z;rw[hP] at n;cases n) e⟩,
  fun b o e n _=>by rw[old b (KZ e) (fun z=>by subst z;rw[hP] at n;cases n)];exact n,fun b o e _=>?_,fun b xs e=>k b _ (nP e fun _ z=>by cases z) e,fun b o u e=>k b _ (nP e fun _ z=>by cases z) e,fun b qs e=>?_⟩ fun b o e=>?_
 ·by_cases hb:b=P
  ·subst hb;exact⟨_,gP⟩
  ·exact⟨o,hx b o hb e⟩
 ·by_cases hb:b=P
  ·subst hb
   rw[hP] at e;cases e;exact⟨more,hp⟩
  ·exact⟨#[],by rw[k b _ hb e];simp⟩
 ·by_cases hl:b<s.heap.objs.size
  ·by_cases hb:b=P
   ·subst hb
    rw[hp] at e;cases e;exact gP
   ·rw[old b hl hb] at e
    refine(I.hok b o e).stay (fun c u hc q=>hx c u (fun z=>?_) q) (fun c q=>k c _ (nP q fun _ z=>by cases z) q) fun c xs q=>k c _ (nP q fun _ z=>by cases z) q;rcases hc with h | h
    ·exact hb (h▸z)
    ·exact nP h (fun _ z=>by cases z) z
  ·exact new b o (Nat.le_of_not_lt hl) e
theorem Ew{F:Obj}{c':Addr}{q:Str}{h':Heap}{t':Nat}(I:L2.Inv X pins σ H s)(hk:∀b o,s.heap.get? b=some o->h'.get? b=some o)(hsz:s.heap.objs.size<=h'.objs.size)(hfr:F.isFreed=false)(hc':H c'=some (fu c' q)) :
  ∃H',L2.Inv X pins σ H' { s with heap:=h'.push F,toks:=t' }/\Same H H'/\H' h'.objs.size=some (FnAt h'.objs.size F)/\H' c'=some (fu c' q):=by
 have nf:H h'.objs.size=none:=I.hok.fresh hsz;have I1:L2.Inv X pins σ H { s with heap:=h',toks:=t' }:=I.kept (t':=t') hk;refine⟨upd H h'.objs.size (FnAt h'.objs.size F),I1.laid (a:=h'.objs.size) (t':=t') (fun _ _ q=>KL _ q) (L9 _) ⟨LM _ hfr,⟨_,LM _ hfr⟩,fun h1 h2 e k=>k _ e⟩,Same.new nf,aF,?_⟩;rw[aL (bB hc' nf)];exact hc'
theorem Eu{F:Obj}{c' P:Addr}{ps:Array KB}{pos:Ma}{q:Str}{h':Heap}{t':Nat}(I:L2.Inv X pins σ H s)(hP:H P=some (.tbl ps))(hq:TW.qual pos.line pos.col=q)(hx:RA P s.heap h')(hge:s.heap.objs.size<=c')(hlt:c'<h'.objs.size)(hrec:h'.CodeRec (.ref c') q)
  (htb:h'.get? P=some (Mj (ps++#[NU pos.line,NU pos.col,.ref c']))) (hfr:F.isFreed=false) :
  ∃H',L2.Inv X pins σ H' { s with heap:=h'.push F,toks:=t' }/\Same H H'/\H' h'.objs.size=some (FnAt h'.objs.size F)/\H' c'=some (fu c' q):=by
 have gP:s.heap.get? P=some (Mj ps):=I.hok P _ hP;have hPs:P<s.heap.objs.size:=KZ gP;have hsz:s.heap.objs.size<=h'.objs.size:=Pj (NZ hge hlt);have nc:H c'=none:=I.hok.fresh hge;have nf:H h'.objs.size=none:=I.hok.fresh hsz;have c1:c'≠P:=Mt (KY hPs hge);have f1:h'.objs.size≠P:=Mt (KY hPs hsz);have cf:c'≠h'.objs.size:=LQ hlt;obtain⟨H',hH⟩:∃H':Hp,H'=upd (upd (upd H P (.tbl (ps++#[NU pos.line,NU pos.col,.ref c']))) c' (fu c' q)) h'.objs.size (FnAt h'.objs.size F):=⟨_,rfl⟩;have eP:H' P=some (.tbl (ps++#[NU pos.line,NU pos.col,.ref c'])):=by rw[hH,aL (N3 f1),aL (N3 c1),aF]
 have ec:H' c'=some (fu c' q):=by rw[hH,aL cf,aF]
 have ef:H' h'.objs.size=some (FnAt h'.objs.size F):=by rw[hH,aF]
 have old:∀b,b<s.heap.objs.size->b≠P->H' b=H b:=fun b hb hn=>by rw[hH,aL (LQ (KY hb hsz)),aL (LQ (KY hb hge)),aL hn]
 have lt:∀b o,H b=some o->b<s.heap.objs.size:=fun b o e=>I.hok.lt e;have hx2:RA P s.heap (h'.push F):=fun b o n e=>KL _ (hx b o n e);refine⟨H',C6 (t':=t') I hP hx2 eP (KL _ htb) old fun b o hb e=>?_,⟨fun b o e n=>?_,fun b qs e=>?_⟩,ef,ec⟩
 ·by_cases hbf:b=h'.objs.size
  ·subst hbf
   rw[ef] at e;cases e;exact⟨LM _ hfr,⟨_,LM _ hfr⟩,fun h1 h2 e k=>k _ e⟩
  ·by_cases hbc:b=c'
   ·subst hbc
    rw[ec] at e;cases e;obtain⟨c2,oc,vs,tq,e1,e2,e3,e4⟩:=hrec;cases e1;refine⟨⟨b,oc,vs,tq,rfl,KL _ e2,e3,e4⟩,⟨oc,KL _ e2⟩,?_⟩;intro h1 h2 ⟨c3,oc3,vs3,tq3,g1,g2,g3,g4⟩ k;cases g1;exact⟨_,oc3,vs3,tq3,rfl,k _ g2,g3,g4⟩
   ·exfalso
    rw[hH,aL hbf,aL hbc,aL (Mt (KY hPs hb)),I.hok.fresh hb] at e;cases e
 ·have hb:b≠P:=fun z=>by subst z;rw[hP] at e;cases e;cases n
  rw[old b (lt b o e) hb];exact e
 ·have keep:∀d q,H d=some (fu d q)->H' d=some (fu d q):=fun d q e=>by
   rw[old d (lt d _ e) (fun z=>by subst z;rw[hP] at e;cases e)];exact e
  by_cases hb:b=P
  ·subst hb
   rw[hP] at e;cases e;refine⟨_,eP,fun t=>⟨?_,fun p v hv=>?_⟩⟩
   ·rw[RJ]
    exact TriplesOk_snoc _ _ _ _ t.1
   ·rw[RJ,xo _ t.1] at hv
    cases hl:Nj p ps.toList with
    | some u=>
     rw[hl] at hv;cases hv;obtain⟨d,d1,d2⟩:=t.2 p _ hl;exact⟨d,d1,keep d _ d2⟩
    | none=>
     rw[hl] at hv;obtain⟨e1,e2,e3⟩:=xn hv;subst e1;exact⟨c',rfl,by rw[e2,e3,hq];exact ec⟩
  ·refine⟨qs,by rw[old b (lt b _ e) hb];exact e,fun t=>⟨t.1,fun p v hv=>?_⟩⟩
   obtain⟨d,d1,d2⟩:=t.2 p v hv;exact⟨d,d1,keep d _ d2⟩
def Bn (X:Cx):Prop:=∃bm o,X.mg "__builtins__"=some (.ref bm)/\bm≠Lw/\bm≠mainGlobals/\X.base.get? bm=some o/\o.cls=.type "module"/\o.dict=some Lw/\o.data=.plain
theorem Ir{P:Addr}{ps:Array KB}(I:L2.Inv X pins σ H s)(hP:H P=some (.tbl ps))(hbn:Bn X):mainGlobals≠P/\s.heap.BuiltinsAt X.mg P:=by
 have nb:∀b o,X.base.get? b=some o->b≠P:=fun b o e z=>by subst z;have:=(I.bs b o e).2;rw[hP] at this;cases this
 obtain⟨bm,ob,b1,b2,b3,b4,b5,b6,b7⟩:=hbn;refine⟨?_,bm,ob,b1,b2,b3,nb _ _ b4,I.bk _ _ b4,b5,b6,b7⟩;obtain⟨o,es,ep,e,_⟩:=I.mod.glob;exact nb _ o e
theorem FJ{name:Str}{params:Arguments}{body:List Stmt}{scope:Scope}{pos:Ma}{c P:Addr}{ps:Array KB}{Q:Flow->KC->Prop}{E:KB->KC->Prop}(I:L2.Inv X pins σ H s)(hP:H P=some (.tbl ps))(tk:TOk H ps)(hcode:X.env.code=.ref c)
  (CH:Pz X.base c P) (hbn:Bn X) (hd0:params.defaults=[]) (hk0:params.kw_defaults=[]) (ha:annTrees params none X.env=[])
  (hq:TW.qual pos.line pos.col=Oz X.env name name) (hfree:∀y∈scope.names,y.2=.free->∃c,X.env.cells.lookup y.1=some c)
  (h:∀f c' doc pm ct H' s',L2.Inv X pins σ H' s'->Same H H'->H' f=some (FnAt f (Py name (Oz X.env name name) params body scope (eF X.env.cells scope.names []) doc pm c' ct))->H' c'=some (fu c' (Oz X.env name name))->
   LC (LU X.prog X.w) X.A (Rf X.env name (.ref f)) (fun _ s''=>Q .next s'') E s') :
  LC (LU X.prog X.w) X.A (exec (.FunctionDef name params body [] none [] scope none name pos) X.env) Q E s:=by
 have gP:s.heap.get? P=some (Mj ps):=I.hok P _ hP;have hg:s.heap.Ns mainGlobals X.mg:=I.mod.glob.keeps I.bk;obtain⟨hgP,hB⟩:=Ir I hP hbn;refine PySem.W.nestDef_K hd0 hk0 ha ?_;cases hf:Nj pos ps.toList with
 | some cv=>
  obtain⟨c',rfl,hc'⟩:=tk.2 pos cv hf;rw[hq] at hc';refine PySem.W.makeFunction_hit (mg:=X.mg) (cx hfree) I.ok.glob hg hcode (CH.keeps I.bk) gP tk.1 hf hB fun ctv doc h' t' hk hsz=>?_;obtain⟨H',I',sm,e1,e2⟩:=Ew (t':=t') (F:=Py name (Oz X.env name name) params body scope (eF X.env.cells scope.names []) doc ((X.mg "__name__").getD .none) c' ctv) I hk hsz rfl hc';exact h _ c' doc _ ctv H' _ I' sm e1 e2
 | none=>
  refine PySem.W.makeFunction_K (mg:=X.mg) (cx hfree) I.ok.glob hg hcode (CH.keeps I.bk) gP tk.1 hf hgP hB fun c' ctv doc h' t' hx hge hlt hrec htb=>?_;obtain⟨H',I',sm,e1,e2⟩:=Eu (t':=t') (F:=Py name (Oz X.env name name) params body scope (eF X.env.cells scope.names []) doc ((X.mg "__name__").getD .none) c' ctv) I hP hq hx hge hlt hrec htb rfl;exact h _ c' doc _ ctv H' _ I' sm e1 e2
end
end PU
namespace PU
open PySem PySem.Spec PyProof.Rows L2 PySem.SeqAt
variable[TW]
structure LScope(ps fr ls:List Str)(sc:Scope):Prop where
 kind:sc.kind=.function
 co:sc.isCoroutine=false
 gen:sc.isGenerator=false
 nocell:∀x∈sc.names,x.2≠.cell
 par:∀x∈ps,sc.names.lookup x=some .local
 fre:∀x,sc.names.lookup x=some .free->x∈fr
 frk:∀x∈fr,sc.names.lookup x=some .free
 nd:(ps++fr++ls).Nodup
def cxL(P:L6)(w:LI)(K:KA)(mg:Str->Option KB)(base:Heap)(N:List Str)(qual:Str)(scope:Scope)(f:Addr)(cd:KB)(cl:List (Str×Addr))(A:LR)(outer:List Pn)(s:KC)(H:Hp):Cx where
 prog:=P
 w:=w
 K:=K
 mg:=mg
 base:=base
 A:=A.deeper (NY qual scope s.heap.objs.size f cd cl)
 N:=N
 s₀:=s
 H₀:=H
 env:=NY qual scope s.heap.objs.size f cd cl
 outer:=outer
 stack:=NY qual scope s.heap.objs.size f cd cl::outer
 ex:=[]
 calm:=true
 fn:=fun _=>false
 pn:=[]
 xe:=fun _ _=>False
theorem pb{cl:List (Str×Addr)}(nd:(cl.map (·.1)).Nodup):∀{i:Nat}{x:Str}{c:Addr},cl[i]?=some (x,c)->cl.lookup x=some c:=by
 induction cl with
 | nil=>intro i x c h;simp at h
 | cons p r ih=>
  intro i x c h;obtain⟨y,d⟩:=p;rw[KG,Le] at nd;cases i with
  | zero=>simp at h;obtain⟨rfl,rfl⟩:=h;simp[RH]
  | succ i=>
   have h:r[i]?=some (x,c):=by simpa using h
   have hne:(x == y)=false:=by
    rw[beq_eq_false_iff_ne];rintro rfl;exact nd.1 (KU.mpr ⟨_,LF h,rfl⟩)
   rw[Lc,hne];exact ih nd.2 h
theorem Ex{cl:List (Str×Addr)}{x:Str}{c:Addr}(h:cl.lookup x=some c):∃i:Nat,cl[i]?=some (x,c):=by
 have:=Lb h;obtain⟨i,hi,e⟩:=Mn this;exact⟨i,by rw[LY hi,e]⟩
theorem vT{x y:Str}{c:Addr}:∀{cl:List (Str×Addr)},(cl.map (·.2)).Nodup->(x,c)∈cl->(y,c)∈cl->x=y
 | [],_,h,_=>nomatch h
 | (z,d)::r,nd,h1,h2=>by
  rw[KG,Le] at nd;rcases L4.mp h1 with e1 | m1
  ·rcases L4.mp h2 with e2 | m2
   ·cases e1;cases e2;rfl
   ·cases e1
    exact(nd.1 (KU.mpr ⟨_,m2,rfl⟩)).elim
  ·rcases L4.mp h2 with e2 | m2
   ·cases e2
    exact(nd.1 (KU.mpr ⟨_,m1,rfl⟩)).elim
   ·exact vT nd.2 m1 m2
theorem Fh{cl:List (Str×Addr)}(nd:(cl.map (·.2)).Nodup){x y:Str}{c:Addr}(h1:cl.lookup x=some c)(h2:cl.lookup y=some c):x=y:=
 vT nd (Lb h1) (Lb h2)
theorem tE{cl:List (Str×KB)}(nd:(cl.map (·.1)).Nodup):∀{i:Nat}{x:Str}{c:KB},cl[i]?=some (x,c)->cl.lookup x=some c:=by
 induction cl with
 | nil=>intro i x c h;simp at h
 | cons p r ih=>
  intro i x c h;obtain⟨y,d⟩:=p;rw[KG,Le] at nd;cases i with
  | zero=>simp at h;obtain⟨rfl,rfl⟩:=h;simp[RH]
  | succ i=>
   have h:r[i]?=some (x,c):=by simpa using h
   have hne:(x == y)=false:=by
    rw[beq_eq_false_iff_ne];rintro rfl;exact nd.1 (KU.mpr ⟨_,LF h,rfl⟩)
   rw[Lc,hne];exact ih nd.2 h
theorem sM{ps:List Str}{us:List KB}(nd:ps.Nodup)(hl:us.length=ps.length){i:Nat}{x:Str}{u:KB}(h1:ps[i]?=some x)(h2:us[i]?=some u):(ps.zip us).reverse.lookup x=some u:=by
 have hm:(x,u)∈ps.zip us:=by
  refine LF (i:=i) ?_;rw[QO];exact⟨h1,h2⟩
 have hn:((ps.zip us).map (·.1)).Nodup:=by
  rw[Pv (by omega)];exact nd
 have hr:((ps.zip us).reverse.map (·.1)).Nodup:=by rw[List.map_reverse];exact List.pairwise_reverse.mpr (List.Pairwise.imp (fun h=>N3 h) hn)
 obtain⟨j,hj,e⟩:=Mn (List.mem_reverse.mpr hm);exact tE hr (by rw[LY hj,e])
section
variable{P : L6}{w : LI}{K : KA}{mg : Str → Option KB}{base : Heap}{ps fr ls : List Str}{qual : Str}{scope : Scope}{f : Addr}{cd : KB}{cl : List (Str×Addr)}{A : LR}{outer : List Pn}{s : KC}{H : Hp}{l : List (Addr×Obj)}
theorem vF{us:List KB}{vs xs:List V}{h':Heap}{t':Nat}(S:LScope ps fr ls scope)(hd:A.handled=none)(e0:Env0 P w K mg base A outer s H)(hl:∀c o,l.lookup c=some o->H c=some (.frz o (.own 0)))
  (hcl:cl.map (·.1)=fr) (nd:(cl.map (·.2)).Nodup) (hxs:xs.length=cl.length) (hx:∀(i:Nat)(x:Str)(c:Addr),cl[i]?=some (x,c)->∃v o u,xs[i]?=some v/\l.lookup c=some o/\o.data=.cell (some u)/\RelV v u)
  (r:Vals vs us) (hv:vs.length=ps.length) (ns:h'.Ns s.heap.objs.size (fun x=>(ps.zip us).reverse.lookup x)) (hk:∀b o,s.heap.get? b=some o->h'.get? b=some o) :
  L2.Inv (cxL P w K mg base (ps++fr++ls) qual scope f cd cl A outer s (drC H l)) [] ((vs++xs).map some++La ls.length none) (drC H l) { s with heap:=h',toks:=t' }:=by
 have noA:∀b:Addr,b ∉ ([]:List Addr):=fun b z=>nomatch z;have ndf:(cl.map (·.1)).Nodup:=by rw[hcl];exact(M6.mp (M6.mp S.nd).1).2.1
 have ndp:ps.Nodup:=(M6.mp (M6.mp S.nd).1).1
 have Qq:∀x c,cl.lookup x=some c->∃(i:Nat)(v:V)(o:Obj)(u:KB),cl[i]?=some (x,c)/\xs[i]?=some v/\l.lookup c=some o/\o.data=.cell (some u)/\RelV v u/\s.heap.get? c=some o:=fun x c h=>by
  obtain⟨i,e⟩:=Ex h;obtain⟨v,o,u,e1,e2,e3,e4⟩:=hx i x c e;exact⟨i,v,o,u,e,e1,e2,e3,e4,(e0.hok c _ (hl c o e2)).1⟩
 have drn:∀b,H b=none->drC H l b=none:=fun b n=>by
  cases q:l.lookup b with
  | none=>rw[bg q];exact n
  | some o=>exact mr q
 have hok:HOk P w (drC H l) s.heap:=fun b o e=>by
  cases q:l.lookup b with
  | some u=>rw[mr q] at e;cases e
  | none=>
   rw[bg q] at e
   have out:∀{c:Addr}{o:HO},H c=some o->(∀q,o≠.frz q (.own 0))->l.lookup c=none:=fun {c o} e n=>by
    cases q:l.lookup c with
    | none=>rfl
    | some u=>rw[hl c u q] at e;cases e;exact absurd rfl (n u)
   exact(e0.hok b o e).stay (fun _ _ _ z=>z) (fun c z=>by rw[bg (out z fun _ h=>by cases h)];exact z) fun c xs z=>by rw[bg (out z fun _ h=>by cases h)];exact z
 refine⟨⟨e0.mod,S.kind,rfl,rfl,L9 _,fun y z c h1 h2=>Fh nd h1 h2,fun y hy=>?_,fun y c h _=>(by cases h),fun _=>hd,Qf e0.frames,.inr ⟨rfl,rfl⟩,fun b z=>absurd z (noA b),fun b o e=>⟨(e0.bs b o e).1,drn b (e0.bs b o e).2⟩,e0.bsz,fun b _ _=>noA b,fun b z=>absurd z (noA b),e0.funs,fun b hb=>drn b (e0.frf b hb)⟩,
  rfl,e0.bare,Un.kept hk,⟨_,ns,fun i y v h1 h2 h3=>?_⟩,fun y c h=>?_,drn _ (e0.hok.fresh (L9 _)),fun y c h=>?_,fun p hp=>absurd (show p∈([]:List (Addr×Obj)) from hp) (by simp),hok.kept hk,?_⟩
 ·have hy:scope.names.lookup y=some .cell\/scope.names.lookup y=some .free:=hy
  rcases hy with hy | hy
  ·exact absurd rfl (S.nocell _ (Lb hy))
  ·have:=S.fre y hy
   rw[← hcl] at this;obtain⟨p,hp,e⟩:=KU.mp this;obtain⟨i,hi,e2⟩:=Mn hp;obtain⟨a,b⟩:=p;cases e;exact⟨b,pb ndf (by rw[LY hi,e2])⟩
 ·have h1:(ps++fr++ls)[i]?=some y:=h1
  have hlf:fr.length=cl.length:=by rw[← hcl,KH]
  have hi:i<(vs++xs).length:=by
   refine Nat.lt_of_not_le fun hge=>?_;rw[LJ (by rw[KH];exact hge)] at h2;have:=(PN.mp (LF h2)).2;cases this
  rw[L5 (by rw[KH];exact hi),L3] at h2;rw[L5 (by rw[L0] at hi ⊢;omega)] at h1;obtain⟨v',h2,e⟩:=KQ.mp h2;cases e
  by_cases hi:i<ps.length
  ·rw[L5 hi] at h1
   rw[L5 (by omega)] at h2;obtain⟨u,hu,rv⟩:=r.get h2;exact⟨u,rv,.inl ⟨S.par y (LF h1),sM ndp (by rw[← r.length];exact hv) h1 hu⟩⟩
  ·rw[LJ (by omega)] at h1
   rw[LJ (by omega),hv] at h2;have hf:=S.frk y (LF h1);rw[← hcl,L3] at h1;obtain⟨p,g1,e⟩:=KQ.mp h1;obtain⟨a,c⟩:=p;cases e;obtain⟨v2,o,u,e1,e2,e3,e4⟩:=hx _ _ _ g1;rw[h2] at e1;cases e1;exact⟨u,e4,.inr ⟨.inr hf,c,pb ndf g1,o,hk _ _ (e0.hok c _ (hl c o e2)).1,e3⟩⟩
 ·obtain⟨i,v,o,u,_,_,_,e3,_,e5⟩:=Qq y c h
  exact⟨_,o,hk _ _ e5,e3⟩
 ·obtain⟨i,v,o,u,_,_,e2,_,_,_⟩:=Qq y c h
  exact mr e2
 ·show _=(ps++fr++ls).length
  rw[L0,KH,L0,L0,L0,hv,hxs,← hcl,KH,Mx]
theorem vG{v:V}{H1:Hp}{u:KB}{s':KC}{p:PV}{pins:List (Addr×Obj)}{N:List Str}{σ':L2.St}{Q:VK}(e0:Env0 P w K mg base A outer s H)(hl:∀c o,l.lookup c=some o->H c=some (.frz o (.own 0)))
  (J:L2.Inv (cxL P w K mg base N qual scope f cd cl A outer s (drC H l)) pins σ' H1 s') (rv:RelV v u) (sm:Same (drC H l) H1) (rp:Rep K H1 p v) (hQ:∀v H',Same H H'->Rep K H' p v->Q v H'):CE outer P w H s Q u s':=by
 have out:∀{b:Addr}{o:HO},H b=some o->(∀q,o≠.frz q (.own 0))->l.lookup b=none:=fun {b o} e n=>by
  cases q:l.lookup b with
  | none=>rfl
  | some u=>rw[hl b u q] at e;cases e;exact absurd rfl (n u)
 have outn:∀{b:Addr},H b=none->l.lookup b=none:=fun {b} n=>by
  cases q:l.lookup b with
  | none=>rfl
  | some u=>rw[hl b u q] at n;cases n
 have drn:∀{b:Addr},H b=none->drC H l b=none:=fun {b} n=>by rw[bg (outn n)];exact n
 have tok:∀{qs:Array KB},TOk H qs->TOk (drC H l) qs:=fun t=>⟨t.1,fun pos v h=>let ⟨c,f1,f2⟩:=t.2 pos v h;⟨c,f1,by rw[bg (out f2 fun _ h=>by cases h)];exact f2⟩⟩;have un:Un (frs outer) [] (drC H l) H1 s.heap s'.heap:=J.base
 have n1:∀{c:Addr}{o:Obj},l.lookup c=some o->H1 c=none/\s'.heap.get? c=some o:=fun {c o} q=>by
  have g:=(e0.hok c _ (hl c o q)).1;refine⟨un.free c o g (mr q) (by simp),un.keep c o g (mr q) (fun z=>?_) (by simp)⟩;have:=e0.frf c z;rw[hl c o q] at this;cases this
 have out1:∀{b:Addr}{o:HO},H1 b=some o->l.lookup b=none:=fun {b o} e=>by
  cases q:l.lookup b with
  | none=>rfl
  | some u=>rw[(n1 q).1] at e;cases e
 refine⟨v,trC H1 l,J.os,J.bare,⟨fun b o e n hb hx=>un.keep b o e (drn n) hb hx,fun b o e n hb hx=>un.slot b o e (drn n) hb hx,fun b o e n hx=>by rw[b8 (outn n)];exact un.free b o e (drn n) hx,un.there,fun b ys e=>?_,fun b o u e=>?_,fun b qs e=>?_⟩,fun b o e=>?_,rv,hQ v _ ⟨fun b o e n=>?_,fun b qs e=>?_⟩ (rp.same (.of fun b o e=>by rw[b8 (out1 e)];exact e))⟩
 ·have q:=out e fun _ h=>by cases h
  rw[b8 q];exact un.tups b ys (by rw[bg q];exact e)
 ·cases q:l.lookup b with
  | some o'=>rw[hl b o' q] at e;cases e;exact lg q
  | none=>rw[b8 q];exact un.frzs b o u (by rw[bg q];exact e)
 ·have q:=out e fun _ h=>by cases h
  rw[b8 q];exact un.tbls b qs (by rw[bg q];exact e)
 ·cases q:l.lookup b with
  | some o'=>
   rw[lg q] at e;cases e;exact⟨(n1 q).2,o',(n1 q).2⟩
  | none=>
   rw[b8 q] at e;exact(J.hok b o e).stay (fun _ _ _ z=>z) (fun c z=>by rw[b8 (out1 z)];exact z) fun c xs z=>by rw[b8 (out1 z)];exact z
 ·cases q:l.lookup b with
  | some o'=>rw[hl b o' q] at e;cases e;exact lg q
  | none=>rw[b8 q];exact sm.at_ b o (by rw[bg q];exact e) n
 ·have q:=out e fun _ h=>by cases h
  obtain⟨p1,e1,k1⟩:=sm.tb b qs (by rw[bg q];exact e);refine⟨p1,by rw[b8 q];exact e1,fun t=>?_⟩;have t1:=k1 (tok t);exact⟨t1.1,fun pos v h=>let ⟨c,f1,f2⟩:=t1.2 pos v h;⟨c,f1,by rw[b8 (out1 f2)];exact f2⟩⟩
theorem yB{vs xs:List V}{qs cs:List PV}(n:Nat)(hl:∀c o,l.lookup c=some o->H c=some (.frz o (.own 0)))(rq:aO K H qs vs)(rc:aO K H cs xs)(nq:aY qs=true)(nc:aY cs=true)(tb:ua H) :
  View K (drC H l) ((vs++xs).map some++La n none) ((qs++cs).map .val++La n .no):=by
 have out:∀{b:Addr}{o:HO},H b=some o->(∀q,o≠.frz q (.own 0))->l.lookup b=none:=fun {b o} e n=>by
  cases q:l.lookup b with
  | none=>rfl
  | some u=>rw[hl b u q] at e;cases e;exact absurd rfl (n u)
 have pl:∀b u,H b=some u->Fe u=true->drC H l b=some u:=fun b u e h=>by rw[bg (out e (om h))];exact e
 have tok:∀{qs:Array KB},TOk H qs->TOk (drC H l) qs:=fun t=>⟨t.1,fun pos v h=>let ⟨c,f1,f2⟩:=t.2 pos v h;⟨c,f1,by rw[bg (out f2 fun _ h=>by cases h)];exact f2⟩⟩;have rr:aO K (drC H l) (qs++cs) (vs++xs):=aO.append (aO.pl pl qs nq rq) (aO.pl pl cs nc rc);have hlen:=rr.length;refine⟨fun i z ez=>?_,fun P hP=>?_⟩
 ·by_cases hi:i<(qs++cs).length
  ·rw[L5 (by rw[KH];exact hi),L3] at ez
   obtain⟨q,eq,e2⟩:=KQ.mp ez;cases e2;obtain⟨v,ev,rp⟩:=rr.get eq;exact⟨v,by rw[L5 (by rw[KH,← hlen];exact hi),L3,ev];rfl,rp⟩
  ·rw[LJ (by rw[KH];omega)] at ez
   rw[(PN.mp (LF ez)).2];exact trivial
 ·obtain⟨qs',e1,t⟩:=tb P hP
  exact⟨qs',by rw[bg (out e1 fun _ h=>by cases h)];exact e1,tok t⟩
def qL(n:Nat)(g:PSt->R Fl):PSt->R PV:=fun ρ=>match g (ρ++La n .no) with
 | .ok (.ret p)=>.ok p
 | .er x=>.er x
 | _=>.no
def nJ(C:Cn)(n:Nat)(fe:PSt->R PV):FuncBody->Prop
 | .expr b=>n=0/\EV C b fe
 | .stmts b=>∃g,SVs C b g/\fe=qL n g
theorem vE{k:Nat}{L:Lam}{pm:KB×KB}{ct:KB}{c:Addr}{us:List KB}{vs xs:List V}{qs cs:List PV}{p:PV}{fe:PSt->R PV}{Q:VK}{E:XK}(S:LScope ps fr ls L.scope)(hr:Room (k+1) A)(e0:Env0 P w K mg base A outer s H)
  (hf:H f=some (FnAt f (lM L cl pm c ct))) (hc:H c=some (fu c L.qual)) (hl:∀c o,l.lookup c=some o->H c=some (.frz o (.own 0)))
  (hcl:cl.map (·.1)=fr) (nd:(cl.map (·.2)).Nodup) (hxs:xs.length=cl.length) (hx:∀(i:Nat)(x:Str)(c:Addr),cl[i]?=some (x,c)->∃v o u,xs[i]?=some v/\l.lookup c=some o/\o.data=.cell (some u)/\RelV v u)
  (hb:Q9 (tG L cl pm (.ref c) ct) ⟨us,[]⟩=pure (ps.zip us))
  (hbody:nJ ⟨cxL P w K mg base (ps++fr++ls) L.qual L.scope f (.ref c) cl A outer s (drC H l),fun _ _=>False⟩ ls.length fe L.body)
  (r:Vals vs us) (hv:vs.length=ps.length) (rq:aO K H qs vs) (rc:aO K H cs xs) (nq:aY qs=true) (nc:aY cs=true) (tb:ua H) (e:fe ((qs++cs).map .val)=.ok p)
  (hQ:∀v H',Same H H'->Rep K H' p v->Q v H') :
  Oe (LU P w) A (.call (.ref f) ⟨us,[]⟩) (CR CX0 outer P w H s Q E) s:=by
 have lim:s.heap.NoLimit:=e0.mod.nolimit.keeps fun b o e=>(e0.bs b o e).1;have vw:=yB (H:=H) ls.length hl rq rc nq nc tb;cases hB:L.body with
 | expr body=>
  rw[hB] at hbody;obtain⟨n0,hbody⟩:=hbody;refine PySem.W.kla_callFunE (fd:=tG L cl pm (.ref c) ct) (body:=body) (by have:=hr.dp;omega) (e0.hok f _ hf).1 rfl S.co S.gen hB (e0.hok c _ hc).1 ?_;rw[hb];refine KO (wpAny_newFunctionEnv S.nocell (fun y hy=>S.par _ (O4 hy).1) (fun h₁ hns hsb=>⟨lim.fresh _ hsb,?_⟩) S.kind);have hk:∀b o,s.heap.get? b=some o->h₁.get? b=some o:=fun b o e=>hsb.extBut b o (LQ (KZ e)) (KL _ e);have I:=vF (ls:=ls) (qual:=L.qual) (f:=f) (cd:=.ref c) (t':=s.toks+(ps.zip us).length) S hr.hd e0 hl hcl nd hxs hx r hv hns hk;show Oe _ _ (.expr body (NY L.qual L.scope s.heap.objs.size f (.ref c) cl)) _ _;rw[n0] at vw;refine PySem.W.kla_codeExpr (MO (hbody [] _ _ _ (fun v H1=>Same (drC H l) H1/\Rep K H1 p v) I ⟨_,by rw[n0];exact vw,by simp only[List.replicate_zero,Ly];rw[e];exact fun v H' s' r'=>⟨s',r'⟩⟩) (fun u s' hq=>?_) fun _ _ h=>KJ h);obtain⟨v,H1,J,rv,sm,rp⟩:=hq;exact vG e0 hl J rv sm rp hQ
 | stmts body=>
  rw[hB] at hbody;obtain⟨g,hbody,rfl⟩:=hbody;refine codeAny_call_def (fd:=tG L cl pm (.ref c) ct) (body:=body) (binds:=ps.zip us) (by have:=hr.dp;omega) (e0.hok f _ hf).1 rfl lim (e0.hok c _ hc).1 hB (.of_eq hb) S.nocell (fun y hy=>S.par _ (O4 hy).1) (fun h₁ hns hk=>?_) S.co S.gen S.kind;have I:=vF (ls:=ls) (qual:=L.qual) (f:=f) (cd:=.ref c) (t':=s.toks+(ps.zip us).length) S hr.hd e0 hl hcl nd hxs hx r hv hns hk;show LC _ (A.deeper (NY L.qual L.scope s.heap.objs.size f (.ref c) cl)) (execs body (NY L.qual L.scope s.heap.objs.size f (.ref c) cl)) _ _ _
  have eg:g ((qs++cs).map .val++La ls.length .no)=.ok (.ret p):=by
   unfold qL at e;split at e
   ·rename_i q hq;cases e;exact hq
   ·cases e
   ·cases e
  have S0:StOk K (drC H l,drC H l) (drC H l) ((vs++xs).map some++La ls.length none) ((qs++cs).map .val++La ls.length .no):=by
   have nown:∀(i:Nat)(z:Sl),((qs++cs).map Sl.val++La ls.length .no)[i]?=some z->z=.no\/∃q,z=.val q:=fun i z ez=>by
    have:=LF ez;rcases LW.mp this with m | m
    ·obtain⟨q,_,rfl⟩:=KU.mp m;exact .inr ⟨q,rfl⟩
    ·exact .inl (PN.mp m).2
   refine⟨?_,Same.refl _,Kp.refl _,vw,fun i p a e=>?_,fun i j p q a e=>?_,fun i ps a e=>?_⟩
   ·have h1:=rq.length
    have h2:=rc.length;simp only[L0,KH,Mx];omega
   ·rcases nown _ _ e with z | ⟨q,z⟩ <;> cases z
   ·rcases nown _ _ e with z | ⟨q,z⟩ <;> cases z
   ·rcases nown _ _ e with z | ⟨q,z⟩ <;> cases z
  refine MO (hbody [] _ _ _ { nx:=fun _ _=>False,rt:=fun v H1=>Same (drC H l) H1/\Rep K H1 p v } I ⟨_,_,S0,by rw[eg];exact fun v H' s' r'=>⟨s',r'⟩⟩) (fun fl s' hq=>?_) fun _ _ h=>KJ h;cases fl with
  | ret u=>
   obtain⟨v,σ',H1,J,rv,sm,rp⟩:=hq;exact vG e0 hl J rv sm rp hQ
  | next=>obtain⟨_,_,_,hq⟩:=hq;exact KJ hq
  | brk=>obtain⟨_,_,_,hq⟩:=hq;exact KJ hq
  | cont=>obtain⟨_,_,_,hq⟩:=hq;exact KJ hq
end
end PU
namespace PU
open PySem PySem.Spec PyProof.Rows L2 PySem.SeqAt
variable[TW]
theorem jX{H:Hp}:∀{cl:List (Str×Addr)}{xs:List V},fE H cl xs->xs.length=cl.length/\∃l:List (Addr×Obj),(∀c o,l.lookup c=some o->H c=some (.frz o (.own 0)))/\
  ∀(i:Nat)(x:Str)(c:Addr),cl[i]?=some (x,c)->∃v o u,xs[i]?=some v/\l.lookup c=some o/\o.data=.cell (some u)/\RelV v u
 | [],xs,h=>by cases h;exact⟨rfl,[],fun c o h=>(by cases h),fun i x c h=>(by simp at h)⟩
 | p::cl,_,⟨x,r,o,u,e,h,d,v,t⟩=>by
  subst e;obtain⟨hl,l,h1,h2⟩:=jX t
  have look:∀c o',((p.2,o)::l).lookup c=some o'->H c=some (.frz o' (.own 0)):=fun c o' e=>by
   rw[Lc] at e;cases hb:(c == p.2) with
   | true=>rw[hb] at e;cases e;rw[NT hb];exact h
   | false=>rw[hb] at e;exact h1 c o' e
  refine⟨by simp[hl],(p.2,o)::l,look,fun i y c e=>?_⟩;cases i with
  | zero=>
   simp at e;subst e;exact⟨x,o,u,rfl,by simp[RH],d,v⟩
  | succ i=>
   obtain⟨v',o',u',e1,e2,e3,e4⟩:=h2 i y c (by simpa using e);refine⟨v',o',u',by simpa using e1,?_,e3,e4⟩;rw[Lc];cases hb:(c == p.2) with
   | false=>exact e2
   | true=>
    have:=h1 c o' e2;rw[NT hb,h] at this;cases this;rfl
structure LamB(P:L6)(w:LI)(K:KA)(mg:Str->Option KB)(base:Heap)(k:Nat)(L:Lam)(ps ls:List Str)(fe:PSt->R PV):Prop where
 sc:LScope ps L.kept ls L.scope
 bd:∀(cl:List (Str×Addr))(pm:KB×KB)(ct:KB)(c:Addr)(us:List KB),us.length=ps.length->Q9 (tG L cl pm (.ref c) ct) ⟨us,[]⟩=pure (ps.zip us)
 ev:∀(f c:Addr)(cl:List (Str×Addr))(A:LR)(outer:List Pn)(s:KC)(H:Hp),Room k (A.deeper (NY L.qual L.scope s.heap.objs.size f (.ref c) cl))->
  nJ ⟨cxL P w K mg base (ps++L.kept++ls) L.qual L.scope f (.ref c) cl A outer s H,fun _ _=>False⟩ ls.length fe L.body
def FV(P:L6)(w:LI)(K:KA)(mg:Str->Option KB)(base:Heap)(k:Nat)(app:Lam->List PV->List PV->Option PV):Prop:=
 ∀L qs cs p,app L qs cs=some p->∃ps ls fe,LamB P w K mg base k L ps ls fe/\qs.length=ps.length/\fe ((qs++cs).map .val)=.ok p
def mC(i:Nat)(fs:PSt->R (List PV))(app:Lam->List PV->List PV->Option PV):PSt->R PV:=fun ρ=>match ρ[i]? with
 | some (.val (.fn L cs))=>fs ρ >>= fun qs=>if aY qs=true/\aY cs=true then R.ofO (app L qs cs) else .no
 | _=>.no
theorem ou{C:Cn}{x:Str}{e:Expr}{es:List Expr}{fs:PSt->R (List PV)}{app:Lam->List PV->List PV->Option PV}{k:Nat}{p pos:Ma}(i:Nat)(T:FV C.X.prog C.X.w C.X.K C.X.mg C.X.base k app){kr:Nat}(hr:Room kr C.X.A)(ha:EA C (e::es) fs)
  (hN:C.X.N[i]?=some x:=by rfl) (hvis:Vis C.X.env.scope x:=by first | exact .inl rfl | exact .inr (.inl rfl) | exact .inr (.inr rfl)) (hdb:(x == ("__debug__":Str))=false:=by decide) (hcd:(x == ("__classdict__":Str))=false:=by decide)
  (he:LA (e::es) C.X.env=(false,M7 e C.X.env)::LA es C.X.env:=by exact cM rfl) (hpl:(Nh pos (LA es C.X.env)).any (·.1)=false:=by exact kT rfl) (hk:k+1<=kr:=by decide) :
  EV C (.Call (.Name x p) (e::es) [] pos) (mC i fs app):=by
 replace hr:=hr.mono hk;intro pins s σ H Q I ⟨ρ,vw,q⟩;unfold mC at q;split at q
 ·rename_i L cs e1
  obtain⟨v,ev,f,c,cl,pm,ct,xs,rfl,hf,hc,hk,nd,ca,rc⟩:=vw i _ e1;refine My (thn (gw hN hvis hdb hcd pins s σ H (fun v' H'=>v'=.ref f/\H'=H) I ⟨_,ev,rfl,rfl⟩) fun u s1 ⟨v',H',I1,ru,e2,e3⟩=>?_);subst e2 e3;cases (show u=M5 f from ru);have fnAt:∀{H2:Hp}{s2:KC},L2.Inv C.X pins σ H2 s2->Same H' H2->PySem.W.FnAt f s2.heap:=fun {H2 s2} I2 sm=>⟨_,_,_,_,(I2.hok f _ (sm _ _ hf)).1⟩
  refine Qt (fnAt I1 (Same.refl _)) (thn (ha pos pins s1 σ H' (fun vs H2=>∃qs z,aO C.X.K H2 qs vs/\Same H' H2/\aY qs=true/\aY cs=true/\app L qs cs=some z/\∀v H3,Same H' H3->Rep C.X.K H3 z v->Q v H3) I1
   ⟨ρ,vw,q.bind.imp fun qs _ k1 vs H2 sm2 r2=>?_⟩) fun us s2 ⟨vs,H2,I2,r,qs,z,r2,sm2,n1,n2,ea,k2⟩=>⟨fnAt I2 sm2,?_⟩) he hpl
  ·split at k1
   ·rename_i hn
    obtain⟨z,ez,k3⟩:=k1.ofO;exact⟨qs,z,r2,sm2,hn.1,hn.2,ez,fun v H3 s3 r3=>k3 v H3 s3 r3⟩
   ·exact KJ k1
  ·obtain⟨ps,ls,fe,B,hl,ef⟩:=T L qs cs z ea
   have ca2:=fE.kp sm2.kp ca;obtain⟨hxl,l,l1,l2⟩:=jX ca2;have hus:us.length=ps.length:=by rw[← r.length,← r2.length];exact hl
   refine Qo (OJ (vE (l:=l) (E:=E0) (Q:=Q) B.sc hr I2.env0 (sm2 _ _ hf) (sm2 _ _ hc) l1 hk nd hxl l2 (B.bd cl pm ct c us hus) (B.ev f c cl C.X.A C.X.stack s2 (drC H2 l) (hr.deeper _)) r (by rw[← r2.length];exact hl) r2 (rc.same sm2) n1 n2 (sm2.tabs vw.tb) ef
    fun v H3 s3 r3=>k2 v H3 (sm2.trans s3) r3) fun r' s' hq=>?_)
   cases r' with
   | error e=>exact KJ hq
   | ok fl=>
    cases fl with
    | ret u=>exact I2.after hq
    | next=>exact KJ hq
    | brk=>exact KJ hq
    | cont=>exact KJ hq
 ·exact KJ q
end PU
namespace PU
open PySem PySem.Spec PyProof.Rows L2 PySem.SeqAt
variable[TW]
def nE(l:List (Str×Ms)):List Str:=(l.filter fun y=>y.2 == .free).map (·.1)
theorem ox{cells:List (Str×Addr)}:∀{l:List (Str×Ms)}{acc:List (Str×Addr)},(∀y∈l,y.2=.free->∃c,cells.lookup y.1=some c)->(eF cells l acc).map (·.1)=(nE l).reverse++acc.map (·.1)
 | [],acc,_=>rfl
 | (n,k)::r,acc,h=>by
  unfold eF;have hr:∀y∈r,y.2=.free->∃c,cells.lookup y.1=some c:=fun y hy=>h y (LG _ hy)
  by_cases hk:(k == Lj)=true
  ·rw[if_pos hk]
   obtain⟨c,hc⟩:=h (n,k) LO (NT hk);have hc:cells.lookup n=some c:=hc;rw[hc];dsimp only;rw[ox hr];unfold nE;rw[List.filter_cons,if_pos hk];simp
  ·rw[if_neg hk,ox hr]
   unfold nE;rw[List.filter_cons,if_neg hk]
theorem jw{cells:List (Str×Addr)}{p:Str×Addr}:∀{l:List (Str×Ms)}{acc:List (Str×Addr)},p∈eF cells l acc->cells.lookup p.1=some p.2\/p∈acc
 | [],acc,h=>.inr h
 | (n,k)::r,acc,h=>by
  unfold eF at h;split at h
  ·split at h
   ·rename_i c hc
    rcases jw h with z | z
    ·exact .inl z
    ·rcases L4.mp z with z | z
     ·subst z;exact .inl hc
     ·exact .inr z
   ·exact jw h
  ·exact jw h
theorem zJ{cells:List (Str×Addr)}(inj:∀x y c,cells.lookup x=some c->cells.lookup y=some c->x=y):∀{l:List (Str×Addr)},(∀p∈l,cells.lookup p.1=some p.2)->(l.map (·.1)).Nodup->(l.map (·.2)).Nodup
 | [],_,_=>List.nodup_nil
 | p::r,h,nd=>by
  rw[KG,Le] at nd ⊢;refine⟨fun m=>nd.1 ?_,zJ inj (fun q hq=>h q (LG _ hq)) nd.2⟩;obtain⟨q,hq,e⟩:=KU.mp m;have h1:=h p LO;have h2:=h q (LG _ hq);have e:q.2=p.2:=e;rw[e] at h2;exact KU.mpr ⟨q,hq,inj _ _ _ h2 h1⟩
def u4(ρ:PSt):List Nat->R (List PV)
 | []=>.ok []
 | i::r=>match ρ[i]? with
  | some (.val p)=>u4 ρ r >>= fun ps=>.ok (p::ps)
  | _=>.no
def AJ(X:Cx)(H:Hp)(σ:L2.St):PV->V->Prop
 | .fn L cs,v=>∃f c pm ct xs,v=.ref f/\H f=some (FnAt f (lM L (eF X.env.cells L.scope.names []) pm c ct))/\H c=some (fu c L.qual)/\
   (eF X.env.cells L.scope.names []).map (·.1)=L.kept/\((eF X.env.cells L.scope.names []).map (·.2)).Nodup/\xs.length=L.kept.length/\aO X.K H cs xs/\
   ∀(j:Nat)(y:Str),L.kept[j]?=some y->∃(i:Nat)(v:V),X.N[i]?=some y/\σ[i]?=some (some v)/\xs[j]?=some v/\X.env.scope.names.lookup y=some .cell
 | p,v=>Rep X.K H p v/\noFn p=true
def zu(X:Cx)(H:Hp)(σ:L2.St):List PV->List V->Prop
 | [],xs=>xs=[]
 | p::ps,xs=>∃x r,xs=x::r/\AJ X H σ p x/\zu X H σ ps r
theorem AJ.same{X:Cx}{H H':Hp}{σ:L2.St}{p:PV}{v:V}(h:AJ X H σ p v)(s:Same H H'):AJ X H' σ p v:=by
 cases p with
 | fn L cs=>
  obtain⟨f,c,pm,ct,xs,e,h1,h2,h3,h4,h5,h6,h7⟩:=h;exact⟨f,c,pm,ct,xs,e,s _ _ h1,s _ _ h2,h3,h4,h5,h6.same s,h7⟩
 | _=>exact⟨Rep.same h.1 s,h.2⟩
abbrev Ph:=L2.St->Hp->Prop
def Ph.Ok(Φ:Ph):Prop:=∀σ H H',Φ σ H->Same H H'->Φ σ H'
def tru:Ph:=fun _ _=>True
theorem cZ:tru.Ok:=fun _ _ _ h _=>h
def tL(C:Cn)(Φ:Ph)(f:PSt->R (List PV)):TA:=fun σ H Q=>∃ρ,View C.X.K H σ ρ/\Φ σ H/\RQ C H (f ρ) fun ps=>∀vs H',Same H H'->zu C.X H' σ ps vs->Q vs H'
def ELF(C:Cn)(Φ:Ph)(es:List Expr)(f:PSt->R (List PV)):Prop:=PA C.X es (tL C Φ f)
def tVF(C:Cn)(Φ:Ph)(f:PSt->R PV):TE:=fun σ H Q=>Φ σ H/\tV C f σ H Q
def EVF(C:Cn)(Φ:Ph)(e:Expr)(f:PSt->R PV):Prop:=PE C.X e (tVF C Φ f)
def tNF(C:Cn)(Φ:Ph)(f:PSt->R PV):TE:=fun σ H Q=>Φ σ H/\tN C f σ H Q
def ENF(C:Cn)(Φ:Ph)(e:Expr)(f:PSt->R PV):Prop:=PE C.X e (tNF C Φ f)
theorem ENF.v{C:Cn}{Φ:Ph}{e:Expr}{f:PSt->R PV}(h:ENF C Φ e f):EVF C Φ e f:=by
 intro pins s σ H Q I ⟨ph,ρ,vw,q⟩;cases hf:f ρ with
 | ok p=>
  rw[hf] at q;refine thn (h pins s σ H (fun v H'=>∃a,v=.ref a/\Same H H'/\H a=none/\cH C.X.K H' a p) I ⟨ph,ρ,vw,by rw[hf];exact fun a H' sm n w=>⟨a,rfl,sm,n,w⟩⟩) fun u s' ⟨v,H',I',rv,a,ev,sm,na,w⟩=>?_;obtain⟨H2,I2,rp,oth⟩:=I'.frz w;subst ev;exact⟨.ref a,H2,I2,rv,q _ H2 (sm.but na (fun u h=>(w.nt u h).1) oth) rp⟩
 | er x=>
  rw[hf] at q;exact h pins s σ H Q I ⟨ph,ρ,vw,by rw[hf];exact q⟩
 | no=>
  rw[hf] at q;exact KJ q
theorem EVF.of{C:Cn}{Φ:Ph}{e:Expr}{f:PSt->R PV}(h:EV C e f):EVF C Φ e f:=fun pins s σ H Q I q=>h pins s σ H Q I q.2
def Aj(L:Lam)(idx:List Nat)(fs:PSt->R (List PV)):PSt->R (List PV):=fun ρ=>u4 ρ idx >>= fun cs=>fs ρ >>= fun ps=>.ok (.fn L cs::ps)
def Dc(f:PSt->R PV)(fs:PSt->R (List PV)):PSt->R (List PV):=fun ρ=>f ρ >>= fun p=>if noFn p=true then fs ρ >>= fun ps=>.ok (p::ps) else .no
theorem pQ{K:KA}{H:Hp}{σ:L2.St}{ρ:PSt}(vw:View K H σ ρ):∀{idx:List Nat}{cs:List PV},u4 ρ idx=.ok cs->∃xs,aO K H cs xs/\xs.length=idx.length/\∀(j i:Nat),idx[j]?=some i->∃v,σ[i]?=some (some v)/\xs[j]?=some v
 | [],cs,e=>by cases e;exact⟨[],rfl,rfl,fun j i h=>(by simp at h)⟩
 | i::r,cs,e=>by
  unfold u4 at e;split at e
  ·rename_i p hp
   cases hc:u4 ρ r with
   | ok ps=>
    rw[hc] at e;cases e;obtain⟨xs,h1,h2,h3⟩:=pQ vw hc;obtain⟨v,ev,rp⟩:=vw i _ hp;refine⟨v::xs,⟨v,xs,rfl,rp,h1⟩,by simp[h2],fun j k hj=>?_⟩;cases j with
    | zero=>simp at hj;subst hj;exact⟨v,ev,rfl⟩
    | succ j=>simpa using h3 j k (by simpa using hj)
   | er x=>rw[hc] at e;cases e
   | no=>rw[hc] at e;cases e
  ·cases e
theorem oA{ρ:PSt}:∀(idx:List Nat)(x:PX),u4 ρ idx≠.er x
 | [],x,e=>by cases e
 | i::r,x,e=>by
  unfold u4 at e;split at e
  ·cases hc:u4 ρ r with
   | ok ps=>rw[hc] at e;cases e
   | er y=>exact oA r y hc
   | no=>rw[hc] at e;cases e
  ·cases e
theorem uY{C:Cn}{L:Lam}{idx:List Nat}{pins:List (Addr×Obj)}{s:KC}{σ:L2.St}{H:Hp}{ρ:PSt}{cs:List PV}{f c:Addr}{pm:KB×KB}{ct:KB}(inj:∀x y c,C.X.env.cells.lookup x=some c->C.X.env.cells.lookup y=some c->x=y)(hasC:∀y,C.X.env.scope.names.lookup y=some .cell->∃c,C.X.env.cells.lookup y=some c)(vw:View C.X.K H σ ρ)(ec:u4 ρ idx=.ok cs)
  (free:∀y∈L.scope.names,y.2=.free->C.X.env.scope.names.lookup y.1=some .cell) (kept:(nE L.scope.names).reverse=L.kept) (ndk:L.kept.Nodup) (ix:idx.map (fun i=>C.X.N[i]?)=L.kept.map some)
  (hf:H f=some (FnAt f (lM L (eF C.X.env.cells L.scope.names []) pm c ct))) (hc:H c=some (fu c L.qual)):AJ C.X H σ (.fn L cs) (.ref f):=by
 have has:∀y∈L.scope.names,y.2=.free->∃c,C.X.env.cells.lookup y.1=some c:=fun y hy hk=>hasC y.1 (free y hy hk);obtain⟨xs,x1,x2,x3⟩:=pQ vw ec;have hm:(eF C.X.env.cells L.scope.names []).map (·.1)=L.kept:=by rw[ox has,Mh,Ly];exact kept
 have hlen:idx.length=L.kept.length:=by have:=congrArg Lz ix;simpa using this
 refine⟨f,c,pm,ct,xs,rfl,hf,hc,hm,zJ inj (fun p hp=>?_) (by rw[hm];exact ndk),by rw[x2];exact hlen,x1,fun j y hy=>?_⟩
 ·rcases jw hp with z | z
  ·exact z
  ·exact nomatch z
 ·have hj:j<idx.length:=by rw[hlen];exact(KN.mp hy).1
  have e1:idx[j]?=some idx[j]:=LY hj;have e2:=congrArg (fun l=>l[j]?) ix;simp only[L3,e1,hy,Oa] at e2;obtain⟨v,ev,xv⟩:=x3 j _ e1;refine⟨idx[j],v,by simpa using e2,ev,xv,?_⟩;have hmem:=LF hy;rw[← kept,List.mem_reverse] at hmem;unfold nE at hmem;obtain⟨z,hz,ez⟩:=KU.mp hmem;obtain⟨hz1,hz2⟩:=M8.mp hz;have:=free z hz1 (NT hz2);rw[ez] at this;exact this
def FnS(X:Cx)(i:Nat)(L:Lam):Ph:=fun σ H=>∃f c pm ct,σ[i]?=some (some (.ref f))/\H f=some (FnAt f (lM L (eF X.env.cells L.scope.names []) pm c ct))/\H c=some (fu c L.qual)
theorem FnS.ok{X:Cx}{i:Nat}{L:Lam}:(FnS X i L).Ok:=fun _ _ _ ⟨f,c,pm,ct,e,h1,h2⟩ s=>⟨f,c,pm,ct,e,s _ _ h1,s _ _ h2⟩
structure FnC(C:Cn)(L:Lam)(idx:List Nat):Prop where
 free:∀y∈L.scope.names,y.2=.free->C.X.env.scope.names.lookup y.1=some .cell
 kept:(nE L.scope.names).reverse=L.kept
 nd:L.kept.Nodup
 ix:idx.map (fun i=>C.X.N[i]?)=L.kept.map some
section
variable{C : Cn}{e : Expr}{es : List Expr}{f : PSt → R PV}{fs : PSt → R (List PV)}
theorem FB{Φ:Ph}:ELF C Φ [] ay:=fun pos pins s σ H Q I ⟨_,_,_,q⟩=>iz pos pins s σ H Q I (q [] H (Same.refl H) rfl)
theorem Fz{Φ:Ph}(ha:EV C e f)(hr:ELF C Φ es fs)(ok:Φ.Ok:=by first | exact cZ | assumption)(hs:LA (e::es) C.X.env=(false,M7 e C.X.env)::LA es C.X.env:=by exact cM rfl):ELF C Φ (e::es) (Dc f fs):=by
 intro pos pins s σ H Q I ⟨ρ,vw,ph,q⟩;refine cX ha hr hs pos pins s σ H Q I ⟨ρ,vw,q.bind.imp fun p _ k v H1 s1 r1=>?_⟩;split at k
 ·rename_i hn
  refine⟨ρ,vw.same s1,ok _ _ _ ph s1,(k.bind.same s1).imp fun ps _ k2 vs H2 s2 r2=>k2 (v::vs) H2 (s1.trans s2) ⟨v,vs,rfl,?_,r2⟩⟩;cases p with
  | fn L cs=>cases hn
  | _=>exact⟨r1.same s2,hn⟩
 ·exact KJ k
theorem FC{Φ:Ph}{L:Lam}{idx:List Nat}{x:Str}{p:Ma}(i:Nat)(hF:∀σ H,Φ σ H->FnS C.X i L σ H)(h:FnC C L idx)(hr:ELF C Φ es fs)(ok:Φ.Ok:=by first | exact cZ | assumption)
  (hN:C.X.N[i]?=some x:=by rfl) (hvis:Vis C.X.env.scope x:=by first | exact .inl rfl | exact .inr (.inl rfl) | exact .inr (.inr rfl)) (hdb:(x == ("__debug__":Str))=false:=by decide) (hcd:(x == ("__classdict__":Str))=false:=by decide)
  (hs:LA (.Name x p::es) C.X.env=(false,M7 (.Name x p) C.X.env)::LA es C.X.env:=by exact cM rfl):ELF C Φ (.Name x p::es) (Aj L idx fs):=by
 intro pos pins s σ H Q I ⟨ρ,vw,ph,q⟩;unfold Aj at q;cases hc:u4 ρ idx with
 | ok cs=>
  rw[hc] at q;have q:RQ C H (fs ρ >>= fun ps=>R.ok (.fn L cs::ps)) _:=q;obtain⟨f,c,pm,ct,ev,h1,h2⟩:=hF σ H ph;have pr:AJ C.X H σ (.fn L cs) (.ref f):=uY (pins:=pins) (s:=s) I.ok.inj (fun y hy=>I.ok.has y (.inl hy)) vw hc h.free h.kept h.nd h.ix h1 h2;refine cX (gw hN hvis hdb hcd) hr hs pos pins s σ H Q I ⟨_,ev,ρ,vw,ph,q.bind.imp fun ps _ k2 vs H2 s2 r2=>k2 (.ref f::vs) H2 s2 ⟨.ref f,vs,rfl,pr.same s2,r2⟩⟩
 | er x=>
  exact absurd hc (oA idx x)
 | no=>rw[hc] at q;exact KJ q
end
def iu(X:Cx)(h:Heap)(ys:List Str):List (Addr×Obj):=ys.filterMap fun y=>(X.env.cells.lookup y).map fun c=>(c,(h.get? c).getD default)
theorem fJ{X:Cx}{h:Heap}{c:Addr}{o:Obj}:∀{ys:List Str},(iu X h ys).lookup c=some o->o=(h.get? c).getD default/\∃y,X.env.cells.lookup y=some c
 | [],e=>by cases e
 | y::r,e=>by
  unfold iu at e;rw[NC] at e;cases hy:X.env.cells.lookup y with
  | none=>rw[hy] at e;exact fJ (ys:=r) e
  | some d=>
   rw[hy] at e;simp only[Oa] at e;rw[Lc] at e;cases hb:(c == d) with
   | true=>rw[hb] at e;cases e;have:=NT hb;subst this;exact⟨rfl,y,hy⟩
   | false=>rw[hb] at e;exact fJ (ys:=r) e
theorem oz{X:Cx}{h:Heap}{c:Addr}{y:Str}(hy:X.env.cells.lookup y=some c):∀{ys:List Str},y∈ys->(iu X h ys).lookup c=some ((h.get? c).getD default)
 | [],m=>nomatch m
 | z::r,m=>by
  unfold iu;rw[NC];cases hz:X.env.cells.lookup z with
  | none=>
   rcases L4.mp m with e | m
   ·subst e;rw[hy] at hz;cases hz
   ·exact oz hy m
  | some d=>
   simp only[Oa];rw[Lc];cases hb:(c == d) with
   | true=>have:=NT hb;subst this;rfl
   | false=>
    rcases L4.mp m with e | m
    ·subst e;rw[hy] at hz;cases hz;simp at hb
    ·exact oz hy m
section
variable{X : Cx}{pins : List (Addr×Obj)}{σ : L2.St}{H : Hp}{s : KC}
theorem xg(I:L2.Inv X pins σ H s)(hfn:∀y,X.fn y=true)(ys:List Str):Cls X H s (iu X s.heap ys):=by
 have at_:∀c o,(iu X s.heap ys).lookup c=some o->s.heap.get? c=some o:=fun c o e=>by
  obtain⟨e1,y,e2⟩:=fJ e;obtain⟨v,o',g,_⟩:=I.cell y c e2;rw[e1,g];rfl
 have big:∀c o,(iu X s.heap ys).lookup c=some o->X.s₀.heap.objs.size<=c:=fun c o e=>by
  obtain⟨_,y,e2⟩:=fJ e;exact I.ok.cab y c (hfn y) e2
 refine⟨at_,fun c o e=>?_,fun c o e=>?_,fun c o e hs=>?_⟩
 ·obtain⟨_,y,e2⟩:=fJ e
  exact I.freeC y c e2
 ·exact R9 (Lk I.ok.bsz (big c o e))
 ·obtain⟨_,y,e2⟩:=fJ e
  rcases L4.mp (I.stkSub c hs) with z | z
  ·obtain⟨v,o',g,d⟩:=I.cell y c e2
   obtain⟨m,⟨o2,es,ep,g2,d2,_⟩,_⟩:=I.loc;rw[← z,g] at g2;cases g2;rw[d] at d2;cases d2
  ·obtain⟨_,o2,g2,_⟩:=I.ok.funs.mem z
   exact absurd (KZ g2) (Nat.not_lt_of_le (big c o e))
theorem rz{p:PV}{v:V}(I:L2.Inv X pins σ H s)(hfn:∀y,X.fn y=true)(h:AJ X H σ p v):Rep X.K (trC H (iu X s.heap (X.env.scope.names.map (·.1)))) p v:=by
 have hc:=xg I hfn (X.env.scope.names.map (·.1));have ext:Same H (trC H (iu X s.heap (X.env.scope.names.map (·.1)))):=.of fun b o e=>by rw[b8 (hc.out e)];exact e
 cases p with
 | fn L cs=>
  obtain⟨f,c,pm,ct,xs,e,h1,h2,h3,h4,h5,h6,h7⟩:=h;refine⟨f,c,_,pm,ct,xs,e,ext _ _ h1,ext _ _ h2,h3,h4,?_,h6.same ext⟩
  have gen:∀(cl:List (Str×Addr))(zs:List V),zs.length=cl.length->(∀p∈cl,X.env.cells.lookup p.1=some p.2)->(∀(j:Nat)(y:Str),(cl.map (·.1))[j]?=some y->∃(i:Nat)(v:V),X.N[i]?=some y/\σ[i]?=some (some v)/\zs[j]?=some v/\X.env.scope.names.lookup y=some .cell)->
    fE (trC H (iu X s.heap (X.env.scope.names.map (·.1)))) cl zs:=by
   intro cl
   induction cl with
   | nil=>intro zs hl _ _;exact Lu hl
   | cons p r ih=>
    intro zs hl hm hj;cases zs with
    | nil=>cases hl
    | cons z zs=>
     obtain⟨i,v,n1,n2,n3,n4⟩:=hj 0 p.1 (by simp);simp at n3;subst n3;obtain⟨m,hn,hloc⟩:=I.loc;obtain⟨u,ru,lk⟩:=hloc i p.1 z n1 n2 (.inr (.inl n4));have hp:=hm p LO;rcases lk with⟨k1,_⟩|⟨_,c',c1,o,c2,c3⟩
     ·have k1:X.env.scope.names.lookup p.1=some .local:=k1
      rw[n4] at k1;cases k1
     ·rw[hp] at c1
      cases c1;refine⟨z,zs,o,u,rfl,lg ?_,c3,ru,ih zs (by simpa using hl) (fun q hq=>hm q (LG _ hq)) fun j y hy=>?_⟩
      ·rw[oz hp (KU.mpr ⟨_,Lb n4,rfl⟩),c2];rfl
      ·obtain⟨i,v,a1,a2,a3,a4⟩:=hj (j+1) y (by simpa using hy)
       exact⟨i,v,a1,a2,by simpa using a3,a4⟩
  refine gen _ xs (by rw[h5,← h3,KH]) (fun p hp=>?_) fun j y hy=>h7 j y (by rw[← h3];exact hy);rcases jw hp with z | z
  ·exact z
  ·exact nomatch z
 | _=>exact Rep.same h.1 ext
theorem mV(I:L2.Inv X pins σ H s)(hfn:∀y,X.fn y=true):∀{ps:List PV}{vs:List V},zu X H σ ps vs->aO X.K (trC H (iu X s.heap (X.env.scope.names.map (·.1)))) ps vs
 | [],_,h=>h
 | p::ps,_,⟨x,r,e,h1,h2⟩=>⟨x,r,e,rz I hfn h1,mV I hfn h2⟩
end
def sJ(fs:PSt->R (List PV))(F:List PV->Option PV):PSt->R PV:=fun ρ=>fs ρ >>= fun qs=>R.ofO (F qs) >>= fun z=>if noFn z=true then .ok z else .no
theorem cH.pl{K:KA}{H H':Hp}{a:Addr}{z:PV}(k:∀b u,H b=some u->(∀q,u≠.frz q (.own 0))->H' b=some u)(n:noFn z=true)(h:cH K H a z):cH K H' a z:=by
 have k2:∀b u,H b=some u->Fe u=true->H' b=some u:=fun b u e h=>k b u e (om h);cases z with
 | lst ps=>obtain⟨xs,w,r⟩:=h;exact⟨xs,k _ _ w (fun _ h=>by cases h),aO.pl k2 ps n r⟩
 | dct ks ps=>obtain⟨xs,w,e,r⟩:=h;exact⟨xs,k _ _ w (fun _ h=>by cases h),e,aO.pl k2 ps n r⟩
 | dtt ks ps=>obtain⟨xs,w,e,r⟩:=h;exact⟨xs,k _ _ w (fun _ h=>by cases h),e,aO.pl k2 ps n r⟩
 | _=>exact h
theorem wM{C:Cn}{Φ:Ph}{e:Expr}{es:List Expr}{fs:PSt->R (List PV)}{x:Str}{k:Nat}{F:List PV->Option PV}{p pos:Ma}(G:PFN C.X.prog C.X.w C.X.K C.X.mg C.X.base k x F){kr:Nat}(hr:Room kr C.X.A)(ha:ELF C Φ (e::es) fs)
  (hdb:(x == ("__debug__":Str))=false:=by decide) (he:LA (e::es) C.X.env=(false,M7 e C.X.env)::LA es C.X.env:=by exact cM rfl) (hpl:(Nh pos (LA es C.X.env)).any (·.1)=false:=by exact kT rfl) (hk:k<=kr:=by decide) (hg:Gl C.X x:=by exact rfl) (hfn:∀y,C.X.fn y=true:=by exact fun _=>rfl) :
  ENF C Φ (.Call (.Name x p) (e::es) [] pos) (sJ fs F):=by
 replace hr:=hr.mono hk;obtain⟨f,fd,ps,a,b,c,d,l⟩:=G.ex;intro pins s σ H Q I ⟨ph,ρ,vw,q⟩;refine My (qv I hg b ?_ hdb)
 refine Qs (h₀:=C.X.base) I.ok.mod.kin c (thn (ha pos pins s σ H (fun vs H1=>∃qs z,zu C.X H1 σ qs vs/\Same H H1/\F qs=some z/\noFn z=true/\∀a H',Same H H'->H a=none->cH C.X.K H' a z->Q (.ref a) H') I
  ⟨ρ,vw,ph,q.bind.imp fun qs _ k1 vs H1 s1 r1=>?_⟩) fun us s1 ⟨vs,H1,I1,r,qs,z,r1,sm,ez,nz,k2⟩=>⟨I1.kIn,?_⟩) he hpl
 ·obtain⟨z,ez,k3⟩:=k1.bind.ofO
  split at k3
  ·rename_i hn
   exact⟨qs,z,r1,s1,ez,hn,fun v H' s' n' r'=>k3 v H' s' n' r'⟩
  ·exact KJ k3
 ·have hc:=xg I1 hfn (C.X.env.scope.names.map (·.1))
  have rr:=mV I1 hfn r1;have hl:=l qs z ez;have hv:vs.length=ps.length:=by rw[← rr.length];exact hl
  have ext:Same H1 (trC H1 (iu C.X s1.heap (C.X.env.scope.names.map (·.1)))):=.of fun b o e=>by rw[b8 (hc.out e)];exact e
  have hu:(us++[]).length=ps.length:=by rw[Ly,← r.length];exact hv
  have hb:=d s1 us I1.kIn hu;rw[Ly] at hb
  refine Qo (OJ (a.run C.X.A C.X.stack s1 _ ⟨us,[]⟩ us vs (fun v H'=>∃a,v=.ref a/\Same (trC H1 (iu C.X s1.heap (C.X.env.scope.names.map (·.1)))) H'/\trC H1 (iu C.X s1.heap (C.X.env.scope.names.map (·.1))) a=none/\cH C.X.K H' a z) E0 hr (Fv I1 hc) hb r
   ⟨hv,ext.tabs (sm.tabs vw.tb),qs,z,rr,ez,fun a H' s' n' r'=>⟨a,rfl,s',n',r'⟩⟩) fun r' s' hq=>?_)
  cases r' with
  | error e=>exact KJ hq
  | ok fl=>
   cases fl with
   | ret u=>
    obtain⟨v,H',os,bare,un,hok,rv,a,ea,sm2,na,nw⟩:=hq;subst ea;refine AG I1 hc ⟨.ref a,H',os,bare,un,hok,rv,fun un=>k2 a _ (sm.trans (DJ hc un sm2)) (sm.free (ext.free na)) (cH.pl (fun b u e h=>?_) nz nw)⟩;rw[bg (p5 un e h)];exact e
   | next=>exact KJ hq
   | brk=>exact KJ hq
   | cont=>exact KJ hq
end PU
section
namespace L2
open PySem PySem.Spec PyProof.Rows
theorem vD{P:L6}{w:LI}{K:KA}{mg mb:Str->Option KB}{CX:CXT}{k:Nat}{fa a:Addr}{fd:FuncData}{x:Str}{sp:Sp}{s₁:KC}{vs:List KB}{ns:List Int}
  (KX:K.In s₁.heap) (hns:s₁.heap.Ns mainGlobals mg) (hb:s₁.heap.Ns Lw mb) (hbb:∀x:Str,x≠"__name__"->mb x=MY x) (hlim:s₁.heap.NoLimit) (hg:s₁.gens=#[]) (ts:List Addr) (hts:∀P∈ts,s₁.heap.get? P=some (Mj #[])) (htc:∀P∈ts,∃c,Pz s₁.heap c P) (htk:∀P∈ts,K.lookup P=none)
  (hbn:∃bm o,mg "__builtins__"=some (.ref bm)/\bm≠Lw/\bm≠mainGlobals/\s₁.heap.get? bm=some o/\o.cls=.type "module"/\o.dict=some Lw/\o.data=.plain)
  (ha:s₁.heap.get? a=some { cls:=.type "list",data:=.seq vs.toArray }) (hi:Rx vs ns) (hl:ns.length<=sizeLine) (hr:Room k Q8)
  (F:∀base:Heap,K.In base->base.Ns mainGlobals mg->(∃bm o,mg "__builtins__"=some (.ref bm)/\bm≠Lw/\bm≠mainGlobals/\base.get? bm=some o/\o.cls=.type "module"/\o.dict=some Lw/\o.data=.plain)->FnOk P w K mg base CX k fa fd [x] sp) (hbind:∀(s:KC) (u:KB),Qe s fd ⟨[u],[]⟩ [(x,u)])
  (hsp:∀H:Hp,(∀P∈ts,H P=some (.tbl #[]))->PU.SqF K H a (ns.map V.int)->sp [.ref a] H (fun v _=>v=.bl true) fun _ _ _=>False)
  (hCX:∀H e s',CX [] H s₁ (fun _ _ _=>False) e s'->False) :
  Oe (LU P w) Q8 (.call (.ref fa) ⟨[.ref a],[]⟩) (fun r s'=>r=.ok (.ret (.bool true))/\OldK s₁.heap s'.heap/\s'.os=s₁.os/\P7 s'.gens) s₁:=by
 have rv:=oJ hi;have lenV:=hi.length
 have core:∀H:Hp,(∀b,H b=none\/(∃ob xs,H b=some (.frz ob (.lst xs)))\/(b∈ts/\H b=some (.tbl #[])))->PU.SqF K H a (ns.map V.int)->HOk P w H s₁.heap->(∀b,H b≠none->b=a\/b∈ts)->(∀P∈ts,H P=some (.tbl #[]))->(H a≠none->K.lookup a=none)->
   Oe (LU P w) Q8 (.call (.ref fa) ⟨[.ref a],[]⟩) (fun r s'=>r=.ok (.ret (.bool true))/\OldK s₁.heap s'.heap/\s'.os=s₁.os/\P7 s'.gens) s₁:=by
  intro H hO hS hok hA hT hK;have base_of:∀{b:Addr}{o:Obj},s₁.heap.get? b=some o->H b=none->(yN s₁.heap H).get? b=some o:=fun e n=>yM e n
  have noA:∀{b:Addr}{o:Obj}{es:Array DictEntry}{ep:Nat},s₁.heap.get? b=some o->o.data=.dict es ep->H b=none:=fun {b o es ep} e d=>by
   cases q:H b with
   | none=>rfl
   | some u=>
    rcases hA b (by rw[q];simp) with e' | e'
    ·subst e'
     rw[ha] at e;cases e;have d':Data.seq vs.toArray _=Data.dict es ep:=d;cases d'
    ·rw[hts b e'] at e;cases e
     cases d
  have nsK:∀{b:Addr}{m:Str->Option KB},s₁.heap.Ns b m->(yN s₁.heap H).Ns b m:=fun {b m} ⟨o,es,ep,e,d,r⟩=>⟨o,es,ep,base_of e (noA e d),d,r⟩
  have hKb:K.In (yN s₁.heap H):=fun b o e=>base_of (KX b o e) (by
   cases q:H b with
   | none=>rfl
   | some u=>
    rcases hA b (by rw[q];simp) with e' | e'
    ·subst e'
     rw[hK (by rw[q];simp)] at e;cases e
    ·rw[htk b e'] at e;cases e)
  obtain⟨bm,ob,b1,b2,b3,b4,b5,b6,b7⟩:=hbn
  have hbm:H bm=none:=by
   cases q:H bm with
   | none=>rfl
   | some u=>
    rcases hA bm (by rw[q];simp) with e' | e'
    ·rw[e',ha] at b4;cases b4;cases b7
    ·rw[hts bm e'] at b4;cases b4;cases b5
  have hM:Mod K mg (yN s₁.heap H):=⟨hKb,nsK hns,⟨mb,nsK hb,hbb⟩,let ⟨mc,h1,h2⟩:=hlim;⟨mc,nsK h1,h2⟩⟩;have e0:Env0 P w K mg (yN s₁.heap H) Q8 [] s₁ H:=⟨rfl,hM,fun b o e=>BI e,Qz (vU _ _),trivial,fun b hb=>absurd (show b∈([]:List Addr) from hb) (by simp),hok,.of_eq hg⟩;refine OJ ((F _ hKb (nsK hns) ⟨bm,ob,b1,b2,b3,base_of b4 hbm,b5,b6,b7⟩).run Q8 [] s₁ H ⟨[.ref a],[]⟩ [.ref a] [.ref a] _ _ hr e0 (hbind s₁ (.ref a)) (.cons rfl .nil) (hsp H hT hS)) fun r s' h=>?_;cases r with
  | error e=>exact(hCX H e s' h).elim
  | ok fl=>
   cases fl with
   | next=>exact KJ h
   | brk=>exact KJ h
   | cont=>exact KJ h
   | ret u=>
    obtain⟨v,H',os,bare,un,hok',r',q⟩:=h;have q':v=.bl true:=q;subst q';obtain rfl:u=Nm true:=r';refine⟨rfl,⟨fun b o e=>?_,fun b o e=>un.there b o e (by simp)⟩,os,bare⟩;cases q:H b with
    | none=>exact .inl (un.keep b o e q (by intro z;exact absurd (show b∈([]:List Addr) from z) (by simp)) (by simp))
    | some u=>
     rcases hO b with z | ⟨ob,xs,z⟩|⟨hb,z⟩
     ·rw[q] at z;cases z
     ·have z2:=un.frzs b ob _ z
      obtain⟨e1,_⟩:=hok b _ z;obtain⟨e2,_⟩:=hok' b _ z2;rw[e] at e1;cases e1;exact .inl e2
     ·obtain⟨more,z2⟩:=un.tbls b _ z
      have e2:s'.heap.get? b=some (Mj (#[]++more)):=hok' b _ z2;have e1:=hts b hb;obtain⟨c,hc⟩:=htc b hb;have tc:=(hc.tab e1).isCodeTable;rw[e] at e1;cases e1;exact .inr (.inl ⟨tc,rfl,#[],more,rfl,e2⟩)
 have nta:∀P∈ts,P≠a:=fun P hP z=>by rw[z] at hP;have:=hts a hP;rw[ha] at this;cases this
 cases hk:K.lookup a with
 | some o=>
  have e:=KX a o hk;rw[ha] at e;cases e;refine core (fun b=>if b∈ts then some (.tbl #[]) else none) (fun b=>?_) (.inr ⟨vs,_,hk,by rw[KH];exact hl,rv⟩) (fun b u z=>?_) (fun b z=>?_) (fun P hP=>if_pos hP) fun z=>absurd (if_neg fun h=>nta a h rfl) z
  ·by_cases hb:b∈ts
   ·exact .inr (.inr ⟨hb,if_pos hb⟩)
   ·exact .inl (if_neg hb)
  ·by_cases hb:b∈ts
   ·have z':=(if_pos hb).symm.trans z
    cases z';exact hts b hb
   ·have z':=(if_neg hb).symm.trans z
    cases z'
  ·by_cases hb:b∈ts
   ·exact .inr hb
   ·exact absurd (if_neg hb) z
 | none=>
  refine core (fun b=>if b=a then some (.frz { cls:=.type "list",data:=.seq vs.toArray } (.lst (ns.map V.int))) else if b∈ts then some (.tbl #[]) else none) (fun b=>?_) (.inl ⟨{ cls:=.type "list",data:=.seq vs.toArray },if_pos rfl⟩) (fun b u z=>?_) (fun b z=>?_) (fun P hP=>by
   show (if P=a then _ else if P∈ts then _ else _)=_;rw[if_neg (nta P hP),if_pos hP]) fun _=>hk
  ·by_cases hb:b=a
   ·exact .inr (.inl ⟨_,_,if_pos hb⟩)
   ·by_cases hb2:b∈ts
    ·exact .inr (.inr ⟨hb2,(if_neg hb).trans (if_pos hb2)⟩)
    ·exact .inl ((if_neg hb).trans (if_neg hb2))
  ·by_cases hb:b=a
   ·have z':=(if_pos hb).symm.trans z
    cases z';subst hb;exact⟨ha,by rw[KH];exact hl,vs,_,rv,ha⟩
   ·by_cases hb2:b∈ts
    ·have z':=((if_neg hb).trans (if_pos hb2)).symm.trans z
     cases z';exact hts b hb2
    ·have z':=((if_neg hb).trans (if_neg hb2)).symm.trans z
     cases z'
  ·by_cases hb:b=a
   ·exact .inl hb
   ·by_cases hb2:b∈ts
    ·exact .inr hb2
    ·exact absurd ((if_neg hb).trans (if_neg hb2)) z
theorem walk_ofT{l:Pg}{n k:Nat}{q:L6}{loose:List Str}{XP:(Str->Option KB)->Heap->Prop}{YP:LI->Heap->Prop}{d:DefRec}{K:Params->KA}{CX:LI->CXT}{sp:LI->Sp}{x:Str}
  (hn:l.most=some n) (hn2:n<=sizeLine) (hdf:d.params.defaults=[]) (hr:Room k Q8) (ts:List Addr)
  (hY:∀(w:LI)(h:Heap),YP w h->(K w.params).In h) (hT:∀(w:LI)(h:Heap),YP w h->∀P∈ts,h.get? P=some (Mj #[])) (hC:∀(w:LI),∀P∈ts,∃c,OL (K w.params) c P=true) (hL:∀(w:LI),∀P∈ts,(K w.params).lookup P=none)
  (F:∀(w:LI)(mg:Str->Option KB)(fa:Addr)(h:Heap),(K w.params).In h->h.Ns mainGlobals mg->mg d.name=some (.ref fa)->
   ∃fd:FuncData,(∀(s:KC)(u:KB),Qe s fd ⟨[u],[]⟩ [(x,u)])/\
    ∀base:Heap,(K w.params).In base->base.Ns mainGlobals mg->(∃bm o,mg "__builtins__"=some (.ref bm)/\bm≠Lw/\bm≠mainGlobals/\base.get? bm=some o/\o.cls=.type "module"/\o.dict=some Lw/\o.data=.plain)->
     FnOk l.prog w (K w.params) mg base (CX w) k fa fd [x] (sp w))
  (hsp:∀(w:LI)(H:Hp)(a:Addr)(ns:List Int),ns.length<=n->(∀P∈ts,H P=some (.tbl #[]))->PU.SqF (K w.params) H a (ns.map V.int)->sp w [.ref a] H (fun v _=>v=.bl true) fun _ _ _=>False)
  (hCX:∀(w:LI)(H:Hp)(s:KC)(e:KB)(s':KC),CX w [] H s (fun _ _ _=>False) e s'->False) :
  PySem.W.WalkO q loose XP YP l.row.toRowW d [] (fun f vs=>RU f vs):=by
 refine Att.attach_call hn hdf fun w s₀ s₁ mg mb fa o pm cd doc a vs ns G Y ho hd hcd hmg hobj hints hlen hg=>?_;have KX:=hY w _ Y;obtain⟨fd,hb,hF⟩:=F w mg fa _ KX G.T.g hmg;obtain⟨bm,ob,b1,b2,b3,b4,b5,b6⟩:=G.T.bmain
 have hbG:bm≠mainGlobals:=fun q=>by
  obtain⟨o,es,ep,e,hd,_⟩:=G.T.g;rw[q,e] at b3;cases b3;rw[hd] at b6;cases b6
 exact vD KX G.T.g G.T.b G.T.builtins G.T.nolimit hg ts (hT w _ Y) (fun P hP=>let ⟨c,hc⟩:=hC w P hP;⟨c,Ou KX hc⟩) (hL w) ⟨bm,ob,b1,b2,hbG,b3,b4,b5,b6⟩ hobj hints (Lk hlen hn2) hr hF hb (fun H hT hS=>hsp w H a ns hlen hT hS) fun H e s'=>hCX w H s₁ e s'
end L2
namespace PU
theorem GT[TW]{H:L2.Hp}{ts:List PySem.Addr}(e:TW.tabs=ts)(h:∀P∈ts,H P=some (.tbl #[])):ua H:=fun P hP=>⟨#[],h P (e▸hP),trivial,fun pos v h=>by cases h⟩
end PU
end
namespace PU
section
variable{g g' : PSt → R Fl}{t : PSt → R Bool}{f fk fv : PSt → R PV}{i : Nat}
theorem mZ(ρ:PSt)(p:PV):b0 ρ≠.ok (.ret p):=fun h=>by cases h
theorem xi(ρ:PSt)(p:PV):FP ρ≠.ok (.ret p):=fun h=>by cases h
theorem gC(h1:∀ρ p,g ρ≠.ok (.ret p))(h2:∀ρ p,g' ρ≠.ok (.ret p))(ρ:PSt)(p:PV):aH g g' ρ≠.ok (.ret p):=by
 unfold aH;intro e;cases h:g ρ with
 | ok fl=>
  rw[h,R.ok_bind] at e;cases fl with
  | next ρ2=>exact h2 ρ2 p e
  | brk ρ2=>cases e
  | cont ρ2=>cases e
  | ret q=>exact h1 ρ q h
 | er x=>rw[h] at e;cases e
 | no=>rw[h] at e;cases e
theorem s8(h1:∀ρ p,g ρ≠.ok (.ret p))(h2:∀ρ p,g' ρ≠.ok (.ret p))(ρ:PSt)(p:PV):ifF t g g' ρ≠.ok (.ret p):=by
 unfold ifF;intro e;cases h:t ρ with
 | ok b=>
  rw[h,R.ok_bind] at e;cases b with
  | true=>rw[if_pos rfl] at e;exact h1 ρ p e
  | false=>rw[if_neg KW] at e;exact h2 ρ p e
 | er x=>rw[h] at e;cases e
 | no=>rw[h] at e;cases e
theorem xJ{n:Nat}(hg:∀ρ p,g ρ≠.ok (.ret p))(ρ:PSt)(p:PV):whS n t g ρ≠.ok (.ret p):=by
 unfold whS
 induction n generalizing ρ with
 | zero=>intro e;cases e
 | succ n ih=>
  intro e;unfold whF at e;cases h:t ρ with
  | ok b=>
   rw[h,R.ok_bind] at e;cases b with
   | true=>
    rw[if_pos rfl] at e;cases h2:g ρ with
    | ok fl=>
     rw[h2,R.ok_bind] at e;cases fl with
     | next ρ2=>exact ih ρ2 e
     | cont ρ2=>exact ih ρ2 e
     | brk ρ2=>cases e
     | ret q=>exact hg ρ q h2
    | er x=>rw[h2] at e;cases e
    | no=>rw[h2] at e;cases e
   | false=>rw[if_neg KW] at e;cases e
  | er x=>rw[h] at e;cases e
  | no=>rw[h] at e;cases e
theorem xl(i:Nat)(f:PSt->R PV)(ρ:PSt)(p:PV):D3 i f ρ≠.ok (.ret p):=by
 unfold D3;intro h;split at h
 ·cases hf:f ρ with
  | ok q=>
   rw[hf,R.ok_bind] at h;split at h <;> cases h
  | er x=>rw[hf] at h;cases h
  | no=>rw[hf] at h;cases h
 ·cases h
theorem t9(i:Nat)(fk fv:PSt->R PV)(ρ:PSt)(p:PV):mJ i fk fv ρ≠.ok (.ret p):=by
 unfold mJ;intro h;split at h
 ·cases hf:fv ρ with
  | ok q=>
   rw[hf,R.ok_bind] at h;cases hk:fk ρ with
   | ok kp=>
    rw[hk,R.ok_bind] at h;cases ht:q8 kp with
    | some k=>
     rw[ht,R.ofO_some,R.ok_bind] at h;split at h <;> cases h
    | none=>rw[ht] at h;cases h
   | er x=>rw[hk] at h;cases h
   | no=>rw[hk] at h;cases h
  | er x=>rw[hf] at h;cases h
  | no=>rw[hf] at h;cases h
 ·cases h
end
end PU
namespace PU
open PySem PySem.Spec PyProof.Rows L2 PySem.SeqAt
def gtL:List Int->List Int->Bool
 | x::xs,y::ys=>if x=y then gtL xs ys else decide (y<x)
 | _,_=>false
def Cd:PV->PV->Option PV
 | .tup [.int i,.lst ps],.tup [.int j,.lst qs]=>
  (match iR ps,iR qs with
  | some xs,some ys=>if i=j/\¬ xs.length=ys.length then none else some (.bl (if i=j then gtL xs ys else decide (j<i)))
  | _,_=>none)
 | _,_=>none
section
open AutoSeq1 (wpAny_loadPart')
open MeetsSeq MeetsSeq2 MeetsSeq3
def fM(A:LR)(s:KC)(y x:KB)(b:Bool):Prop:=
 ∀(prog:L6)(w:LI)(E:KB->KC->Prop)(Q:KB->KC->Prop),Q (.bool b) s->LC (LU prog w) A (OC .Gt y x) Q E s
def gtR(e l:Nat->Bool):List Nat->Bool
 | []=>false
 | i::r=>if e i=true then gtR e l r else l i
theorem vV(l b:Addr)(items items2:Array KB)(n n2:Nat)(dd dd2:Option Addr)(sl sl2:Array (Option KB))(hsz:items.size=items2.size)(e lt:Nat->Bool)(k:Nat) :
  ∀i:Nat,items.size-i=k->Qv (Nv.«list.__eq__.loop» ⟨[.ref l,.ref b,NU i,NU 4],[]⟩)
   (fun A R s=>s.heap.get? l=some { cls:=.type "list",dict:=dd,data:=.seq items n,slots:=sl }/\s.heap.get? b=some { cls:=.type "list",dict:=dd2,data:=.seq items2 n2,slots:=sl2 }/\
    (∀j (h1:j<items.size) (h2:j<items2.size),EqAt A.in1 s items[j] items2[j] (e j)/\fM A.in1 s items[j] items2[j] (lt j))/\
    R (.ok (.ret (.bool (gtR e lt ((KM items.size).drop i))))) s):=by
 induction k with
 | zero=>
  intro i hk prog w A R s h;obtain⟨hp,g,d,tk,os⟩:=s;obtain⟨hl,hb,he,h⟩:=h
  wp_walk using Kz hl,Kz hb
  have hi1:items[((i:Nat):Int).toNat]?=none:=by simp;omega
  have hi2:items2[((i:Nat):Int).toNat]?=none:=by simp;omega
  have hd:(KM items.size).drop i=[]:=by simp;omega
  rw[hd] at h;rw[hi1,hi2]
  wp_walk using Kz hl,Kz hb
  show R (.ok (.ret (.bool (decide (items.size > items2.size))))) _;rw[hsz];simpa [gtR] using h
 | succ k ih=>
  intro i hk prog w A R s h;obtain⟨hp,g,d,tk,os⟩:=s;obtain⟨hl,hb,he,h⟩:=h
  wp_walk using Kz hl,Kz hb
  have hlt:i<items.size:=by omega
  have hlt2:i<items2.size:=by omega
  have hi1:items[((i:Nat):Int).toNat]?=some items[i]:=by simp[hlt]
  have hi2:items2[((i:Nat):Int).toNat]?=some items2[i]:=by simp[hlt2]
  have hd:(KM items.size).drop i=i::(KM items.size).drop (i+1):=by simp[LH,hlt]
  have hc:((i:Int)+1)=((i+1:Nat):Int):=by push_cast;rfl
  rw[hd] at h;rw[hi1,hi2];refine KF ((he i hlt hlt2).1 prog w _ _ ?_);cases hb':e i with
  | true=>
   simp only[gtR,hb',if_true] at h
   wp_walk
   rw[hc]
   exact⟨Nb plain_eq_loop _,Mk entry_eq_loop (by
    rw[Mc plain_eq_loop _];exact ih (i+1) (by omega) prog w A R _ ⟨hl,hb,he,by simpa using h⟩)⟩
  | false=>
   simp only[gtR,hb',LV,if_false] at h
   wp_walk using Kz hl,Kz hb
   rw[hi1,hi2];refine KF ((he i hlt hlt2).2 prog w _ _ ?_)
   wp_walk
   simpa using h
theorem vz(l b:Addr)(items items2:Array KB)(n n2:Nat)(dd dd2:Option Addr)(sl sl2:Array (Option KB))(hsz:items.size=items2.size)(e lt:Nat->Bool) :
  Qv (Nv.«list.__gt__» ⟨[.ref l,.ref b],[]⟩)
   (fun A R s=>s.heap.get? l=some { cls:=.type "list",dict:=dd,data:=.seq items n,slots:=sl }/\s.heap.get? b=some { cls:=.type "list",dict:=dd2,data:=.seq items2 n2,slots:=sl2 }/\
    (∀j (h1:j<items.size) (h2:j<items2.size),EqAt A.in1 s items[j] items2[j] (e j)/\fM A.in1 s items[j] items2[j] (lt j))/\
    R (.ok (.ret (.bool (gtR e lt (KM items.size))))) s):=by
 intro prog w A R s h;obtain⟨hp,g,d,tk,os⟩:=s;obtain⟨hl,hb,he,h⟩:=h;have f3:=OO
 wp_walk using Kz hl,Kz hb
 exact⟨Nb plain_eq_loop _,Mk entry_eq_loop (by
  rw[Mc plain_eq_loop _];exact vV l b items items2 n n2 dd dd2 sl sl2 hsz e lt _ 0 rfl prog w A R _ ⟨hl,hb,he,by simpa using h⟩)⟩
theorem sV(l b:Addr)(items items2:Array KB)(n n2:Nat)(dd dd2:Option Addr)(sl sl2:Array (Option KB))(e lt:Nat->Bool)(hsz:items.size=items2.size) :
  Qv (Nv.«tuple.__gt__» ⟨[.ref l,.ref b],[]⟩)
   (fun A R s=>s.heap.get? l=some { cls:=.type "tuple",dict:=dd,data:=.seq items n,slots:=sl }/\s.heap.get? b=some { cls:=.type "tuple",dict:=dd2,data:=.seq items2 n2,slots:=sl2 }/\
    (∀j (h1:j<items.size) (h2:j<items2.size),(∀m,m<j->e m=true)->EqAt A.in1 s items[j] items2[j] (e j)/\(e j=false->fM A.in1 s items[j] items2[j] (lt j)))/\
    R (.ok (.ret (.bool (gtR e lt (KM items.size))))) s):=
 .of_wp fun prog w A R s h=>by
  obtain⟨hp,g,d,tk,os⟩:=s;obtain⟨hl,hb,he,h⟩:=h;have f2:=OF;have hZ:(items.toList.zip items2.toList).length=items.size:=by simp[hsz]
  wp_walk using Kz hl,Kz hb,NO _ (fun rest b s'=>b.1=none/\s'=⟨hp,g,d,tk,os⟩/\∃i,rest=(items.toList.zip items2.toList).drop i/\(∀m,m<i->m<items.size->e m=true)/\
   R (.ok (.ret (.bool (gtR e lt ((KM items.size).drop i))))) ⟨hp,g,d,tk,os⟩) _
  case turn=>
   rintro⟨y,x⟩ rest b s' ⟨hb',rfl,i,hz,hm,hR⟩
   have hlt:i<(items.toList.zip items2.toList).length:=by
    rcases Lr i (items.toList.zip items2.toList).length with h' | h'
    ·exact h'
    ·rw[MK h'] at hz;cases hz
   have h1:i<items.size:=hZ▸hlt;have h2:i<items2.size:=hsz▸h1;rw[LH hlt] at hz;injection hz with hyx hrest;have hy:y=items[i]:=by have:=congrArg Prod.fst hyx;simpa using this
   have hx:x=items2[i]:=by have:=congrArg Prod.snd hyx;simpa using this
   subst hy hx;have hd:(KM items.size).drop i=i::(KM items.size).drop (i+1):=by simp[LH,h1]
   rw[hd] at hR;have hei:=he i h1 h2 fun m hmi=>hm m hmi (by omega);refine KF (hei.1 prog w _ _ ?_);cases hy:e i with
   | true=>
    simp only[gtR,hy,if_true] at hR
    wp_walk
    exact⟨rfl,rfl,i+1,hrest,fun m hm1 hm2=>by
     rcases Lr m i with z | z
     ·exact hm m z hm2
     ·have:m=i:=by omega
      rw[this];exact hy,by simpa using hR⟩
   | false=>
    simp only[gtR,hy,LV,if_false] at hR;have hrc:=hei.2 hy prog w;generalize OC CmpOp.Gt items[i] items2[i]=M at hrc ⊢
    wp_walk
    refine hrc _ _ ?_
    wp_walk
    exact⟨_,rfl,by simpa using hR⟩
  case fin=>
   rintro⟨b1,b2⟩ s' ⟨hb',rfl,i,hz,hm,hR⟩;simp only at hb';subst hb'
   have hge:items.size<=i:=by
    rcases Lr i (items.toList.zip items2.toList).length with h' | h'
    ·rw[LH h'] at hz;cases hz
    ·exact hZ▸h'
   rw[MK (by simpa using hge)] at hR
   wp_walk
   exact⟨_,rfl,by simpa [NG,gtR,hsz] using hR⟩
  case h=>
   exact⟨rfl,rfl,0,rfl,fun m hm=>by omega,by simpa using h⟩
theorem fM.lists{A:LR}{s:KC}{l b:Addr}{items items2:Array KB}{e lt:Nat->Bool}(hl:s.heap.IsList l items)(hb:s.heap.IsList b items2)(hsz:items.size=items2.size)(hu:A.units<cLine)
  (he:∀j (h1:j<items.size) (h2:j<items2.size),EqAt A.in1 s items[j] items2[j] (e j)/\fM A.in1 s items[j] items2[j] (lt j)):fM A s (.ref l) (.ref b) (gtR e lt (KM items.size)):=fun prog w E Q h=>by
 obtain⟨⟨cls,dd,data,sl⟩,ho,hc,n,hd⟩:=id hl;obtain⟨⟨cls2,dd2,data2,sl2⟩,ho2,hc2,n2,hd2⟩:=id hb;simp only at hc hd hc2 hd2;subst hc hd hc2 hd2
 exact MX (op:=.Gt) ⟨_,ho,rfl⟩ ⟨_,ho2,rfl⟩ F.slot_list_gt F.entry_list_gt (F.args_list_gt_2 _ _) (vz l b items items2 n n2 dd dd2 sl sl2 hsz e lt)
  ⟨ho,ho2,he,show Nm _≠Mf/\Q (.bool _) s from ⟨(fun x=>nomatch x),h⟩⟩ hu
theorem fM.tuples{A:LR}{s:KC}{l b:Addr}{items items2:Array KB}{e lt:Nat->Bool}(hl:s.heap.IsTuple l items)(hb:s.heap.IsTuple b items2)(hsz:items.size=items2.size)(hu:A.units<cLine)
  (he:∀j (h1:j<items.size) (h2:j<items2.size),(∀m,m<j->e m=true)->EqAt A.in1 s items[j] items2[j] (e j)/\(e j=false->fM A.in1 s items[j] items2[j] (lt j))):fM A s (.ref l) (.ref b) (gtR e lt (KM items.size)):=fun prog w E Q h=>by
 obtain⟨⟨cls,dd,data,sl⟩,ho,hc,n,hd⟩:=id hl;obtain⟨⟨cls2,dd2,data2,sl2⟩,ho2,hc2,n2,hd2⟩:=id hb;simp only at hc hd hc2 hd2;subst hc hd hc2 hd2
 exact MX (op:=.Gt) ⟨_,ho,rfl⟩ ⟨_,ho2,rfl⟩ F.slot_tuple_gt F.entry_tuple_gt (F.args_tuple_gt_2 _ _) (sV l b items items2 n n2 dd dd2 sl sl2 e lt hsz)
  ⟨ho,ho2,he,show Nm _≠Mf/\Q (.bool _) s from ⟨(fun x=>nomatch x),h⟩⟩ hu
end
theorem vW(e l:Nat->Bool)(f:Nat->Nat):∀r:List Nat,gtR e l (r.map f)=gtR (fun i=>e (f i)) (fun i=>l (f i)) r
 | []=>rfl
 | i::r=>by simp only[KG,gtR,vW e l f r]
theorem vX:∀xs ys:List Int,xs.length=ys.length->gtR (fun i=>decide (xs.getD i 0=ys.getD i 0)) (fun i=>decide (ys.getD i 0<xs.getD i 0)) (KM xs.length)=gtL xs ys
 | [],[],_=>rfl
 | [],_::_,h=>by simp at h
 | _::_,[],h=>by simp at h
 | x::xs,y::ys,h=>by
  rw[LK,MJ];simp only[gtR,O8,vW,O9];rw[vX xs ys (by simpa using h)];simp only[gtL,decide_eq_true_eq]
theorem se:∀xs:List Int,gtL xs xs=false
 | []=>rfl
 | x::xs=>by simp only[gtL,if_true];exact se xs
theorem yL:pE Cd:=fun p q z e=>by
 unfold Cd at e;split at e
 ·split at e
  ·split at e
   ·cases e
   ·cases e;exact⟨_,rfl⟩
  ·cases e
 ·cases e
variable[TW]
theorem HB{X:Cx}(hu:X.A.units+64<cLine):OpR X (LZ .Gt) (rP X.K Cd):=by
 intro pins s σ H x y v u Q I rx ry ⟨p,q,z,hp,hq,e,k⟩;unfold Cd at e;split at e
 ·rename_i i ps j qs
  split at e
  ·rename_i xs ys ex ey
   have ex:=eR ex;have ey:=eR ey;subst ex ey;split at e
   ·cases e
   ·rename_i hne
    cases e;obtain⟨a,vs,rfl,g1,r1⟩:=bc.tup_inv hp;obtain⟨b,us,rfl,g2,r2⟩:=bc.tup_inv hq;cases rx;cases ry;obtain⟨v1,vs1,rfl,q1,v2,vs2,rfl,q2,rfl⟩:=r1;obtain⟨u1,us1,rfl,q3,u2,us2,rfl,q4,rfl⟩:=r2;cases (show v1=.int i from q1);cases (show u1=.int j from q3);obtain⟨c,as,rfl,g3,r3⟩:=q2;obtain⟨d,bs,rfl,g4,r4⟩:=q4;obtain⟨its,rv,pl,_⟩:=I.tuple g1;obtain⟨its2,rv2,pl2,_⟩:=I.tuple g2;obtain⟨w1,w2,rfl,e1,e2⟩:=vals2 rv;obtain⟨w3,w4,rfl,e3,e4⟩:=vals2 rv2;obtain⟨t1,rfl⟩:=e1;obtain⟨t2,rfl⟩:=e3;cases e2;cases e4;obtain⟨is1,rw1,pl3,_⟩:=I.list g3.l.l;obtain⟨is2,rw2,pl4,_⟩:=I.list g4.l.l;have n1:is1.length=xs.length:=by rw[← rw1.length,← r3.length,KH]
    have n2:is2.length=ys.length:=by rw[← rw2.length,← r4.length,KH]
    have fin:∀b:Bool,b=(if i=j then gtL xs ys else decide (j<i))->EP X pins σ Q (.bool b) s:=fun b hb=>by
     subst hb;exact⟨.bl _,H,I,rfl,k _ H (Same.refl H) rfl⟩
    let ee:Nat->Bool:=fun m=>match m with
     | 0=>decide (i=j)
     | _=>decide (xs=ys)
    let lt:Nat->Bool:=fun m=>match m with
     | 0=>decide (j<i)
     | _=>gtL xs ys
    refine fM.tuples (e:=ee) (lt:=lt) (show s.heap.IsTuple a #[.int i t1,.ref c] from pl) (show s.heap.IsTuple b #[.int j t2,.ref d] from pl2) rfl (by omega) (fun m h1 h2 hm=>?_) X.prog X.w X.xe _ (fin _ ?_)
    ·match m,h1,h2,hm with
     | 0,h1,h2,hm=>exact⟨EqAt.int_int i t1 j t2,fun _ prog w E Q q=>gt_int q⟩
     | 1,h1,h2,hm=>
      have hij:i=j:=of_decide_eq_true (hm 0 (by omega))
      have hl:xs.length=ys.length:=by
       rcases QC (xs.length=ys.length) with z | z
       ·exact z
       ·exact absurd ⟨hij,z⟩ hne
      have hsz:is1.toArray.size=is2.toArray.size:=by simp;omega
      have he:∀(A:LR) m (h1:m<is1.toArray.size) (h2:m<is2.toArray.size),EqAt A s is1.toArray[m] is2.toArray[m] (decide (xs.getD m 0=ys.getD m 0))/\fM A s is1.toArray[m] is2.toArray[m] (decide (ys.getD m 0<xs.getD m 0)):=fun A m h1 h2=>by
       obtain⟨t3,e3⟩:=gb r3 rw1 m (by simpa using h1);obtain⟨t4,e4⟩:=gb r4 rw2 m (by simpa using h2);simp only[Ow,e3,e4];exact⟨EqAt.int_int _ t3 _ t4,fun prog w E Q q=>gt_int q⟩
      refine⟨?_,fun _=>?_⟩
      ·by_cases hcd:c=d
       ·subst hcd
        have exy:xs=ys:=by
         have e5:=I.list_inj g3.l.l g4.l.l;rw[fV r3,fV r4] at e5;have:=congrArg (Pf fun v:V=>match v with | .int i=>i | _=>0) e5;rw[L7,L7] at this;simpa [OE] using this
        show EqAt _ s (.ref c) (.ref c) (decide (xs=ys));rw[decide_eq_true exy];exact EqAt.same _
       ·show EqAt _ s (.ref c) (.ref d) (decide (xs=ys))
        have:=EqAt.of_refs hcd (RcAt.lists (A:=X.A.in1) (e:=fun m=>decide (xs.getD m 0=ys.getD m 0)) pl3.isList pl4.isList hsz (by show X.A.units+1<cLine;omega) fun m h1 h2=>(he _ m h1 h2).1)
        have eb:(KM is1.toArray.size).all (fun m=>decide (xs.getD m 0=ys.getD m 0))=decide (xs=ys):=by
         rw[show is1.toArray.size=xs.length by simp[n1]];exact oD xs ys hl
        rw[eb] at this;exact this
      ·show fM _ s (.ref c) (.ref d) (gtL xs ys)
       have:=fM.lists (A:=X.A.in1) (e:=fun m=>decide (xs.getD m 0=ys.getD m 0)) (lt:=fun m=>decide (ys.getD m 0<xs.getD m 0)) pl3.isList pl4.isList hsz (by show X.A.units+1<cLine;omega) fun m h1 h2=>he _ m h1 h2;rw[show is1.toArray.size=xs.length by simp[n1],vX xs ys hl] at this;exact this
     | m+2,h1,h2,hm=>exact absurd h1 (by simp)
    ·show gtR ee lt [0,1]=_
     simp only[gtR,ee,lt,decide_eq_true_eq]
     by_cases hij:i=j
     ·rw[if_pos hij,if_pos hij]
      by_cases hxy:xs=ys
      ·rw[if_pos hxy,hxy,se]
      ·rw[if_neg hxy]
     ·rw[if_neg hij,if_neg hij]
  ·cases e
 ·cases e
section
def geL:List Int->List Int->Bool
 | x::xs,y::ys=>if x=y then geL xs ys else decide (y<=x)
 | _,_=>true
def yS:PV->PV->Option PV
 | .tup [.int i,.lst ps],.tup [.int j,.lst qs]=>
  (match iR ps,iR qs with
  | some xs,some ys=>if i=j/\¬ xs.length=ys.length then none else some (.bl (if i=j then geL xs ys else decide (j<=i)))
  | _,_=>none)
 | _,_=>none
section
open AutoSeq1 (wpAny_loadPart')
open MeetsSeq MeetsSeq2 MeetsSeq3
def fN(A:LR)(s:KC)(y x:KB)(b:Bool):Prop:=
 ∀(prog:L6)(w:LI)(E:KB->KC->Prop)(Q:KB->KC->Prop),Q (.bool b) s->LC (LU prog w) A (OC .GtE y x) Q E s
def geR(e l:Nat->Bool):List Nat->Bool
 | []=>true
 | i::r=>if e i=true then geR e l r else l i
theorem w9(l b:Addr)(items items2:Array KB)(n n2:Nat)(dd dd2:Option Addr)(sl sl2:Array (Option KB))(hsz:items.size=items2.size)(e lt:Nat->Bool)(k:Nat) :
  ∀i:Nat,items.size-i=k->Qv (Nv.«list.__eq__.loop» ⟨[.ref l,.ref b,NU i,NU 5],[]⟩)
   (fun A R s=>s.heap.get? l=some { cls:=.type "list",dict:=dd,data:=.seq items n,slots:=sl }/\s.heap.get? b=some { cls:=.type "list",dict:=dd2,data:=.seq items2 n2,slots:=sl2 }/\
    (∀j (h1:j<items.size) (h2:j<items2.size),EqAt A.in1 s items[j] items2[j] (e j)/\fN A.in1 s items[j] items2[j] (lt j))/\
    R (.ok (.ret (.bool (geR e lt ((KM items.size).drop i))))) s):=by
 induction k with
 | zero=>
  intro i hk prog w A R s h;obtain⟨hp,g,d,tk,os⟩:=s;obtain⟨hl,hb,he,h⟩:=h
  wp_walk using Kz hl,Kz hb
  have hi1:items[((i:Nat):Int).toNat]?=none:=by simp;omega
  have hi2:items2[((i:Nat):Int).toNat]?=none:=by simp;omega
  have hd:(KM items.size).drop i=[]:=by simp;omega
  rw[hd] at h;rw[hi1,hi2]
  wp_walk using Kz hl,Kz hb
  show R (.ok (.ret (.bool (decide (items.size ≥ items2.size))))) _;rw[hsz];simpa [geR] using h
 | succ k ih=>
  intro i hk prog w A R s h;obtain⟨hp,g,d,tk,os⟩:=s;obtain⟨hl,hb,he,h⟩:=h
  wp_walk using Kz hl,Kz hb
  have hlt:i<items.size:=by omega
  have hlt2:i<items2.size:=by omega
  have hi1:items[((i:Nat):Int).toNat]?=some items[i]:=by simp[hlt]
  have hi2:items2[((i:Nat):Int).toNat]?=some items2[i]:=by simp[hlt2]
  have hd:(KM items.size).drop i=i::(KM items.size).drop (i+1):=by simp[LH,hlt]
  have hc:((i:Int)+1)=((i+1:Nat):Int):=by push_cast;rfl
  rw[hd] at h;rw[hi1,hi2];refine KF ((he i hlt hlt2).1 prog w _ _ ?_);cases hb':e i with
  | true=>
   simp only[geR,hb',if_true] at h
   wp_walk
   rw[hc]
   exact⟨Nb plain_eq_loop _,Mk entry_eq_loop (by
    rw[Mc plain_eq_loop _];exact ih (i+1) (by omega) prog w A R _ ⟨hl,hb,he,by simpa using h⟩)⟩
  | false=>
   simp only[geR,hb',LV,if_false] at h
   wp_walk using Kz hl,Kz hb
   rw[hi1,hi2];refine KF ((he i hlt hlt2).2 prog w _ _ ?_)
   wp_walk
   simpa using h
theorem vA(l b:Addr)(items items2:Array KB)(n n2:Nat)(dd dd2:Option Addr)(sl sl2:Array (Option KB))(hsz:items.size=items2.size)(e lt:Nat->Bool) :
  Qv (Nv.«list.__ge__» ⟨[.ref l,.ref b],[]⟩)
   (fun A R s=>s.heap.get? l=some { cls:=.type "list",dict:=dd,data:=.seq items n,slots:=sl }/\s.heap.get? b=some { cls:=.type "list",dict:=dd2,data:=.seq items2 n2,slots:=sl2 }/\
    (∀j (h1:j<items.size) (h2:j<items2.size),EqAt A.in1 s items[j] items2[j] (e j)/\fN A.in1 s items[j] items2[j] (lt j))/\
    R (.ok (.ret (.bool (geR e lt (KM items.size))))) s):=by
 intro prog w A R s h;obtain⟨hp,g,d,tk,os⟩:=s;obtain⟨hl,hb,he,h⟩:=h;have f3:=OO
 wp_walk using Kz hl,Kz hb
 exact⟨Nb plain_eq_loop _,Mk entry_eq_loop (by
  rw[Mc plain_eq_loop _];exact w9 l b items items2 n n2 dd dd2 sl sl2 hsz e lt _ 0 rfl prog w A R _ ⟨hl,hb,he,by simpa using h⟩)⟩
theorem sW(l b:Addr)(items items2:Array KB)(n n2:Nat)(dd dd2:Option Addr)(sl sl2:Array (Option KB))(e lt:Nat->Bool)(hsz:items.size=items2.size) :
  Qv (Nv.«tuple.__ge__» ⟨[.ref l,.ref b],[]⟩)
   (fun A R s=>s.heap.get? l=some { cls:=.type "tuple",dict:=dd,data:=.seq items n,slots:=sl }/\s.heap.get? b=some { cls:=.type "tuple",dict:=dd2,data:=.seq items2 n2,slots:=sl2 }/\
    (∀j (h1:j<items.size) (h2:j<items2.size),(∀m,m<j->e m=true)->EqAt A.in1 s items[j] items2[j] (e j)/\(e j=false->fN A.in1 s items[j] items2[j] (lt j)))/\
    R (.ok (.ret (.bool (geR e lt (KM items.size))))) s):=
 .of_wp fun prog w A R s h=>by
  obtain⟨hp,g,d,tk,os⟩:=s;obtain⟨hl,hb,he,h⟩:=h;have f2:=OF;have hZ:(items.toList.zip items2.toList).length=items.size:=by simp[hsz]
  wp_walk using Kz hl,Kz hb,NO _ (fun rest b s'=>b.1=none/\s'=⟨hp,g,d,tk,os⟩/\∃i,rest=(items.toList.zip items2.toList).drop i/\(∀m,m<i->m<items.size->e m=true)/\
   R (.ok (.ret (.bool (geR e lt ((KM items.size).drop i))))) ⟨hp,g,d,tk,os⟩) _
  case turn=>
   rintro⟨y,x⟩ rest b s' ⟨hb',rfl,i,hz,hm,hR⟩
   have hlt:i<(items.toList.zip items2.toList).length:=by
    rcases Lr i (items.toList.zip items2.toList).length with h' | h'
    ·exact h'
    ·rw[MK h'] at hz;cases hz
   have h1:i<items.size:=hZ▸hlt;have h2:i<items2.size:=hsz▸h1;rw[LH hlt] at hz;injection hz with hyx hrest;have hy:y=items[i]:=by have:=congrArg Prod.fst hyx;simpa using this
   have hx:x=items2[i]:=by have:=congrArg Prod.snd hyx;simpa using this
   subst hy hx;have hd:(KM items.size).drop i=i::(KM items.size).drop (i+1):=by simp[LH,h1]
   rw[hd] at hR;have hei:=he i h1 h2 fun m hmi=>hm m hmi (by omega);refine KF (hei.1 prog w _ _ ?_);cases hy:e i with
   | true=>
    simp only[geR,hy,if_true] at hR
    wp_walk
    exact⟨rfl,rfl,i+1,hrest,fun m hm1 hm2=>by
     rcases Lr m i with z | z
     ·exact hm m z hm2
     ·have:m=i:=by omega
      rw[this];exact hy,by simpa using hR⟩
   | false=>
    simp only[geR,hy,LV,if_false] at hR;have hrc:=hei.2 hy prog w;generalize OC CmpOp.GtE items[i] items2[i]=M at hrc ⊢
    wp_walk
    refine hrc _ _ ?_
    wp_walk
    exact⟨_,rfl,by simpa using hR⟩
  case fin=>
   rintro⟨b1,b2⟩ s' ⟨hb',rfl,i,hz,hm,hR⟩;simp only at hb';subst hb'
   have hge:items.size<=i:=by
    rcases Lr i (items.toList.zip items2.toList).length with h' | h'
    ·rw[LH h'] at hz;cases hz
    ·exact hZ▸h'
   rw[MK (by simpa using hge)] at hR
   wp_walk
   exact⟨_,rfl,by simpa [NG,geR,hsz] using hR⟩
  case h=>
   exact⟨rfl,rfl,0,rfl,fun m hm=>by omega,by simpa using h⟩
theorem fN.lists{A:LR}{s:KC}{l b:Addr}{items items2:Array KB}{e lt:Nat->Bool}(hl:s.heap.IsList l items)(hb:s.heap.IsList b items2)(hsz:items.size=items2.size)(hu:A.units<cLine)
  (he:∀j (h1:j<items.size) (h2:j<items2.size),EqAt A.in1 s items[j] items2[j] (e j)/\fN A.in1 s items[j] items2[j] (lt j)):fN A s (.ref l) (.ref b) (geR e lt (KM items.size)):=fun prog w E Q h=>by
 obtain⟨⟨cls,dd,data,sl⟩,ho,hc,n,hd⟩:=id hl;obtain⟨⟨cls2,dd2,data2,sl2⟩,ho2,hc2,n2,hd2⟩:=id hb;simp only at hc hd hc2 hd2;subst hc hd hc2 hd2
 exact MX (op:=.GtE) ⟨_,ho,rfl⟩ ⟨_,ho2,rfl⟩ F.slot_list_ge F.entry_list_ge (F.args_list_ge_2 _ _) (vA l b items items2 n n2 dd dd2 sl sl2 hsz e lt)
  ⟨ho,ho2,he,show Nm _≠Mf/\Q (.bool _) s from ⟨(fun x=>nomatch x),h⟩⟩ hu
theorem fN.tuples{A:LR}{s:KC}{l b:Addr}{items items2:Array KB}{e lt:Nat->Bool}(hl:s.heap.IsTuple l items)(hb:s.heap.IsTuple b items2)(hsz:items.size=items2.size)(hu:A.units<cLine)
  (he:∀j (h1:j<items.size) (h2:j<items2.size),(∀m,m<j->e m=true)->EqAt A.in1 s items[j] items2[j] (e j)/\(e j=false->fN A.in1 s items[j] items2[j] (lt j))):fN A s (.ref l) (.ref b) (geR e lt (KM items.size)):=fun prog w E Q h=>by
 obtain⟨⟨cls,dd,data,sl⟩,ho,hc,n,hd⟩:=id hl;obtain⟨⟨cls2,dd2,data2,sl2⟩,ho2,hc2,n2,hd2⟩:=id hb;simp only at hc hd hc2 hd2;subst hc hd hc2 hd2
 exact MX (op:=.GtE) ⟨_,ho,rfl⟩ ⟨_,ho2,rfl⟩ F.slot_tuple_ge F.entry_tuple_ge (F.args_tuple_ge_2 _ _) (sW l b items items2 n n2 dd dd2 sl sl2 e lt hsz)
  ⟨ho,ho2,he,show Nm _≠Mf/\Q (.bool _) s from ⟨(fun x=>nomatch x),h⟩⟩ hu
end
theorem wb(e l:Nat->Bool)(f:Nat->Nat):∀r:List Nat,geR e l (r.map f)=geR (fun i=>e (f i)) (fun i=>l (f i)) r
 | []=>rfl
 | i::r=>by simp only[KG,geR,wb e l f r]
theorem wc:∀xs ys:List Int,xs.length=ys.length->geR (fun i=>decide (xs.getD i 0=ys.getD i 0)) (fun i=>decide (ys.getD i 0<=xs.getD i 0)) (KM xs.length)=geL xs ys
 | [],[],_=>rfl
 | [],_::_,h=>by simp at h
 | _::_,[],h=>by simp at h
 | x::xs,y::ys,h=>by
  rw[LK,MJ];simp only[geR,O8,wb,O9];rw[wc xs ys (by simpa using h)];simp only[geL,decide_eq_true_eq]
theorem si:∀xs:List Int,geL xs xs=true
 | []=>rfl
 | x::xs=>by simp only[geL,if_true];exact si xs
theorem rZ:pE yS:=fun p q z e=>by
 unfold yS at e;split at e
 ·split at e
  ·split at e
   ·cases e
   ·cases e;exact⟨_,rfl⟩
  ·cases e
 ·cases e
variable[TW]
theorem Ej{X:Cx}(hu:X.A.units+64<cLine):OpR X (LZ .GtE) (rP X.K yS):=by
 intro pins s σ H x y v u Q I rx ry ⟨p,q,z,hp,hq,e,k⟩;unfold yS at e;split at e
 ·rename_i i ps j qs
  split at e
  ·rename_i xs ys ex ey
   have ex:=eR ex;have ey:=eR ey;subst ex ey;split at e
   ·cases e
   ·rename_i hne
    cases e;obtain⟨a,vs,rfl,g1,r1⟩:=bc.tup_inv hp;obtain⟨b,us,rfl,g2,r2⟩:=bc.tup_inv hq;cases rx;cases ry;obtain⟨v1,vs1,rfl,q1,v2,vs2,rfl,q2,rfl⟩:=r1;obtain⟨u1,us1,rfl,q3,u2,us2,rfl,q4,rfl⟩:=r2;cases (show v1=.int i from q1);cases (show u1=.int j from q3);obtain⟨c,as,rfl,g3,r3⟩:=q2;obtain⟨d,bs,rfl,g4,r4⟩:=q4;obtain⟨its,rv,pl,_⟩:=I.tuple g1;obtain⟨its2,rv2,pl2,_⟩:=I.tuple g2;obtain⟨w1,w2,rfl,e1,e2⟩:=vals2 rv;obtain⟨w3,w4,rfl,e3,e4⟩:=vals2 rv2;obtain⟨t1,rfl⟩:=e1;obtain⟨t2,rfl⟩:=e3;cases e2;cases e4;obtain⟨is1,rw1,pl3,_⟩:=I.list g3.l.l;obtain⟨is2,rw2,pl4,_⟩:=I.list g4.l.l;have n1:is1.length=xs.length:=by rw[← rw1.length,← r3.length,KH]
    have n2:is2.length=ys.length:=by rw[← rw2.length,← r4.length,KH]
    have fin:∀b:Bool,b=(if i=j then geL xs ys else decide (j<=i))->EP X pins σ Q (.bool b) s:=fun b hb=>by
     subst hb;exact⟨.bl _,H,I,rfl,k _ H (Same.refl H) rfl⟩
    let ee:Nat->Bool:=fun m=>match m with
     | 0=>decide (i=j)
     | _=>decide (xs=ys)
    let lt:Nat->Bool:=fun m=>match m with
     | 0=>decide (j<=i)
     | _=>geL xs ys
    refine fN.tuples (e:=ee) (lt:=lt) (show s.heap.IsTuple a #[.int i t1,.ref c] from pl) (show s.heap.IsTuple b #[.int j t2,.ref d] from pl2) rfl (by omega) (fun m h1 h2 hm=>?_) X.prog X.w X.xe _ (fin _ ?_)
    ·match m,h1,h2,hm with
     | 0,h1,h2,hm=>exact⟨EqAt.int_int i t1 j t2,fun _ prog w E Q q=>ge_int q⟩
     | 1,h1,h2,hm=>
      have hij:i=j:=of_decide_eq_true (hm 0 (by omega))
      have hl:xs.length=ys.length:=by
       rcases QC (xs.length=ys.length) with z | z
       ·exact z
       ·exact absurd ⟨hij,z⟩ hne
      have hsz:is1.toArray.size=is2.toArray.size:=by simp;omega
      have he:∀(A:LR) m (h1:m<is1.toArray.size) (h2:m<is2.toArray.size),EqAt A s is1.toArray[m] is2.toArray[m] (decide (xs.getD m 0=ys.getD m 0))/\fN A s is1.toArray[m] is2.toArray[m] (decide (ys.getD m 0<=xs.getD m 0)):=fun A m h1 h2=>by
       obtain⟨t3,e3⟩:=gb r3 rw1 m (by simpa using h1);obtain⟨t4,e4⟩:=gb r4 rw2 m (by simpa using h2);simp only[Ow,e3,e4];exact⟨EqAt.int_int _ t3 _ t4,fun prog w E Q q=>ge_int q⟩
      refine⟨?_,fun _=>?_⟩
      ·by_cases hcd:c=d
       ·subst hcd
        have exy:xs=ys:=by
         have e5:=I.list_inj g3.l.l g4.l.l;rw[fV r3,fV r4] at e5;have:=congrArg (Pf fun v:V=>match v with | .int i=>i | _=>0) e5;rw[L7,L7] at this;simpa [OE] using this
        show EqAt _ s (.ref c) (.ref c) (decide (xs=ys));rw[decide_eq_true exy];exact EqAt.same _
       ·show EqAt _ s (.ref c) (.ref d) (decide (xs=ys))
        have:=EqAt.of_refs hcd (RcAt.lists (A:=X.A.in1) (e:=fun m=>decide (xs.getD m 0=ys.getD m 0)) pl3.isList pl4.isList hsz (by show X.A.units+1<cLine;omega) fun m h1 h2=>(he _ m h1 h2).1)
        have eb:(KM is1.toArray.size).all (fun m=>decide (xs.getD m 0=ys.getD m 0))=decide (xs=ys):=by
         rw[show is1.toArray.size=xs.length by simp[n1]];exact oD xs ys hl
        rw[eb] at this;exact this
      ·show fN _ s (.ref c) (.ref d) (geL xs ys)
       have:=fN.lists (A:=X.A.in1) (e:=fun m=>decide (xs.getD m 0=ys.getD m 0)) (lt:=fun m=>decide (ys.getD m 0<=xs.getD m 0)) pl3.isList pl4.isList hsz (by show X.A.units+1<cLine;omega) fun m h1 h2=>he _ m h1 h2;rw[show is1.toArray.size=xs.length by simp[n1],wc xs ys hl] at this;exact this
     | m+2,h1,h2,hm=>exact absurd h1 (by simp)
    ·show geR ee lt [0,1]=_
     simp only[geR,ee,lt,decide_eq_true_eq]
     by_cases hij:i=j
     ·rw[if_pos hij,if_pos hij]
      by_cases hxy:xs=ys
      ·rw[if_pos hxy,hxy,si]
      ·rw[if_neg hxy]
     ·rw[if_neg hij,if_neg hij]
  ·cases e
 ·cases e
end
end PU
namespace PU
open PySem PySem.Spec PyProof.Rows L2 PySem.SeqAt
section
variable{P : L6}{w : LI}{K : KA}{mg : Str → Option KB}{base : Heap}
theorem Fun.okC{x qual:Str}{st:Stmt}{f:Addr}{fd:FuncData}{N ps:List Str}{k:Nat}{sp:Sp}(F:Fun K x qual st f fd)(S:FnScope N ps (ar st))(len:∀vs H Q E,sp vs H Q E->vs.length=ps.length)
  (hbody:∀(cdv:KB),cdv=fd.code->∀(A:LR)(outer:List Pn)(s:KC)(H:Hp)(vs:List V)(Q:VK)(E:XK),Room k (A.deeper (Nw qual (ar st) s.heap.objs.size f cdv))->sp vs H Q E->
   ∃t,PSs (AB CX0 P w K mg base N qual (ar st) f cdv A outer s H E).nox (bM st) t/\t { nx:=fun _ H'=>Q .non H',rt:=Q } (L2.start N vs) H):FnOk P w K mg base CX0 (k+1) f fd ps sp:=by
 obtain⟨oc,od,kV,doc,pm,an,cdv,ct,osl,rfl,lk,hcd⟩:=F.ex;refine Fo lk hcd S len fun A outer s H vs Q E hr hsp=>?_;obtain⟨t,h,q⟩:=hbody cdv rfl A outer s H vs Q E hr hsp;exact⟨t,h.nox,q⟩
variable[TW]
end
def CU(n:Nat)(fe:PSt->R PV)(qs cs:List PV):Option PV:=if qs.length=n then (match fe ((qs++cs).map .val) with
 | .ok p=>some p
 | _=>none) else none
theorem vH{n:Nat}{fe:PSt->R PV}{qs cs:List PV}{p:PV}(h:CU n fe qs cs=some p):qs.length=n/\fe ((qs++cs).map .val)=.ok p:=by
 unfold CU at h;split at h
 ·rename_i hl
  refine⟨hl,?_⟩;split at h
  ·rename_i q hq;cases h;exact hq
  ·cases h
 ·cases h
def Cp(q:Str)(kept:List Str)(sc:Scope):Stmt->Lam
 | .FunctionDef n a b _ _ _ s _ _ _=>⟨q,a,.stmts b,s,kept,n⟩
 | _=>⟨q,⟨[],[],none,[],[],none,[]⟩,.stmts [],sc,kept,q⟩
def sE(p:Ma):Stmt->Ma
 | .FunctionDef _ _ _ _ _ _ _ _ _ p=>p
 | _=>p
theorem LScope.of{ps fr ls:List Str}{sc:Scope}(kind:sc.kind=.function)(co:sc.isCoroutine=false)(gen:sc.isGenerator=false)(nocell:∀x∈sc.names,x.2≠.cell)(par:∀x∈ps,sc.names.lookup x=some .local)
  (fre:∀y∈sc.names,y.2=.free->y.1∈fr) (frk:∀x∈fr,sc.names.lookup x=some .free) (nd:(ps++fr++ls).Nodup):LScope ps fr ls sc:=
 ⟨kind,co,gen,nocell,par,fun x h=>fre _ (Lb h) rfl,frk,nd⟩
end PU
namespace PU
open PySem PySem.Spec PyProof.Rows L2 PySem.SeqAt
section
variable{P : L6}{w : LI}{K : KA}{mg : Str → Option KB}{base : Heap}
variable[TW]
theorem Br{x qual:Str}{st:Stmt}{f:Addr}{fd:FuncData}{N ps:List Str}{k:Nat}{g:PSt->R Fl}(F:Fun K x qual st f fd)(S:FnScope N ps (ar st))(hm:mg x=some (.ref f))(hb:Binds K fd ps [])
  (hbody:∀(cdv:KB),cdv=fd.code->∀(A:LR)(outer:List Pn)(s:KC)(H:Hp)(E:XK),Room k (A.deeper (Nw qual (ar st) s.heap.objs.size f cdv))->SVs (D0 P w K mg base N qual (ar st) f cdv A outer s H E) (bM st) g) :
  PF P w K mg base (k+1) x (eZ ps.length N.length g):=by
 refine⟨f,fd,ps,Fun.okC F S (fun vs H Q E h=>h.1) (fun cdv hcdv A outer s H vs Q E hr h=>?_),hm,F.kp,hb,fun qs p h=>?_⟩
 ·obtain⟨hl,tb,qs,p,r,e,k⟩:=h
  refine⟨_,hbody cdv hcdv A outer s H E hr,start N.length qs,(H,H),kQ tb r,?_⟩;unfold eZ at e;rw[if_pos (by rw[r.length];exact hl)] at e;cases hg:g (start N.length qs) with
  | ok fl=>
   rw[hg] at e;cases fl with
   | next ρ=>cases e;exact fun σ H' S'=>k .non H' S'.same rfl
   | ret q=>cases e;exact fun v H' s' r'=>k v H' s' r'
   | brk ρ=>cases e
   | cont ρ=>cases e
  | er x=>rw[hg] at e;cases e
  | no=>rw[hg] at e;cases e
 ·unfold eZ at h
  split at h
  ·rename_i hl;exact hl
  ·cases h
end
section
variable[TW]
variable{C : Cn}{elt tg iter : Expr}{ifs : List Expr}{scope : Scope}{pos : Ma}{N' : List Str}{nt : Nat}{idx : List Nat}{fi : PSt → R (List PV)}{h : Tgt}{t : PSt → R Bool}{fe : PSt → R PV}
theorem RQ.comp{H:Hp}{ρ:PSt}{m:PV->Prop}(q:RQ C H (gZ fi h t fe nt idx ρ) m):RQ C H (fi ρ) fun ps=>∃qs,cQ h t fe (cE nt idx ρ) ps=.ok qs/\qs.length<=sizeLine/\m (.lst qs):=by
 unfold gZ at q;refine q.bind.imp fun ps _ k=>?_;cases hc:cQ h t fe (cE nt idx ρ) ps with
 | ok qs=>
  rw[hc] at k;have k:RQ C H (gy qs >>= fun qs=>R.ok (.lst qs)) m:=k;unfold gy at k
  by_cases hz:qs.length<=16777216
  ·rw[if_pos hz] at k
   exact⟨qs,rfl,by rw[Li];exact hz,k⟩
  ·rw[if_neg hz] at k
   exact KJ k
 | er x=>rw[hc] at k;exact KJ k
 | no=>rw[hc] at k;exact KJ k
theorem Bk(i:Nat){x:Str}{px:Ma}{spos:Ma}(hN:C.X.N.Nodup)(O:CompOk C.X.N C.X.env.scope scope N' nt idx)(hi:EI C tg iter fi)
  (hg:∀cl L s H fp,TCt (dY C N' scope cl L s H fp) tg h) (he:∀cl L s H fp,EV (dY C N' scope cl L s H fp) elt fe)
  (hsw:NQ (.ListComp elt [⟨tg,iter,ifs,0⟩] scope pos) (some (.Name x px)) spos.line C.X.env=pure true:=by rfl)
  (hs:∀x,Nt iter C.X.env x=pure x:=by intro _;rfl)
  (hf:C.X.fn x=true\/C.X.env.scope.names.lookup x=some .local:=by first | exact .inl rfl | exact .inr rfl | assumption) (hc:C.X.calm=true:=by rfl) (hlow:CK nt h:=by repeat' (first | exact qt | exact og (by decide) | apply qr | apply oh)) (ht:∀cl L s H fp,ETs (dY C N' scope cl L s H fp) ifs t:=by exact fun _ _ _ _ _=>qG) (hi':C.X.N[i]?=some x:=by rfl) (hx:Loc C.X.env.scope x:=by first | exact .inl rfl | exact .inr rfl) :
  PS C.X (.Assign [.Name x px] (.ListComp elt [⟨tg,iter,ifs,0⟩] scope pos) spos) (GZ (tV C (gZ fi h t fe nt idx)) (yQ i)):=by
 intro pins s σ H D I ⟨ρ,vw,q⟩;rw[exec_Assign_Name_used _ _ _ _ hsw];refine KF (RK (KF ?_));show LC _ C.X.A (do let _<- comprehension (.ListComp elt [⟨tg,iter,ifs,0⟩] scope pos) scope C.X.env _ (newList []) false (M7 iter C.X.env) (some (PZ (.Name x px) C.X.env))) _ _ s
 refine KF (MO (Oi (use:=some (PZ (.Name x px) C.X.env)) (Q:=fun _ s'=>SP C.X pins D .next s') rfl hs (cx fun y hy hk=>I.ok.has y.1 (O.free y hy hk)) O.kind O.names ?_)
  (fun _ s' hq=>KO (KO hq)) fun _ _ e=>e)
 refine thn (hi pins s σ H (fun J H'=>∃ps qs,Same H H'/\ItP C.X.K J H' ps/\cQ h t fe (cE nt idx ρ) ps=.ok qs/\qs.length<=sizeLine/\∀v H'',Same H H''->Rep C.X.K H'' (.lst qs) v->D.nx (σ.set i (some v)) H'') I
  ⟨ρ,vw,q.comp.imp fun ps _ k J H' s' ip=>?_⟩) fun v s1 h1=>thn h1 fun itv s2 h2=>?_
 ·obtain⟨qs,e1,z,k⟩:=k
  exact⟨ps,qs,s',ip,e1,z,fun v H'' s'' r=>k v H'' s'' r⟩
 ·obtain⟨it,fp,tn,J,H2,e,I2,T,st2,f2,ps,qs,sm,ip,e1,hz,k⟩:=h2
  subst e;refine mx O hc hg hlow ht he I2 T st2 f2 (vw.same sm) ip e1 hz fun Da L σ' H' s' xs I' sm' nD hD rp hL=>?_;obtain⟨m,⟨o,es,ep,ho,hrest⟩,_⟩:=id I'.loc;have IB:=mz I2 f2 I';have nL:L≠C.X.env.locals:=Mt (KY I2.lt hL)
  have nC:∀x c,C.X.env.cells.lookup x=some c->c≠L:=fun x c ec z=>by
   obtain⟨v,qc⟩:=I2.cell x c ec;have z:c=L:=z;exact Lx _ (KY (z▸qc.lt) hL)
  have nP:∀p∈C.X.pn++pins,p.1≠L:=fun p hp z=>by
   have z:p.1=L:=z;exact Lx _ (KY (z▸KZ (I2.pin p hp).1) hL)
  have IP:L2.Inv C.X (pins++[(L,o)]) σ H' s':=IB.pins_of fun p hp=>by
   rcases LW.mp hp with z | z
   ·exact IB.pin p (Ld _ z)
   ·have:p=(L,o):=by simpa using z
    subst this;exact⟨ho,I'.free,nL,I2.nofs hL,fun v z=>by rw[hrest.1] at z;cases z⟩
  obtain⟨H3,I3,rp3,oth⟩:=L2.Inv.frz (a:=Da) (p:=.lst qs) IP ⟨xs,hD,rp⟩;refine thn (o6 hN hi' hx hf (pins++[(L,o)]) s' σ H3 (.ref Da) (.ref Da) (fun σ4 H4=>σ4=σ.set i (some (.ref Da))/\H4=H3) I3 rfl ⟨rfl,rfl⟩) fun _ s4 ⟨σ4,H4,I4,e4,e5⟩=>?_;have hp:=I4.pin (L,o) (by simp);have IU:L2.Inv C.X pins σ4 H4 s4:=I4.unpinned;refine⟨m,⟨o,es,ep,hp.1,hrest⟩,fun h' sb=>⟨σ4,H4,mw IU hp.2.1 nL (Lk I2.sz hL) nC nP sb,?_⟩⟩;subst e4 e5;exact k _ _ ((sm.trans sm').but (sm.free nD) (fun u h=>by rw[hD] at h;cases h;rfl) oth) rp3
end
variable[TW]
def tSF(C:Cn)(Φ:Ph)(g:PSt->R Fl):TS:=fun D σ H=>Φ σ H/\tS C g D σ H
def SVF(C:Cn)(Φ:Ph)(st:List Stmt)(g:PSt->R Fl):Prop:=PSs C.X st (tSF C Φ g)
def tBF(C:Cn)(Φ:Ph)(t:PSt->R Bool):TT:=fun σ H Q=>Φ σ H/\tBl C t σ H Q
def ETF(C:Cn)(Φ:Ph)(e:Expr)(t:PSt->R Bool):Prop:=PT C.X e (tBF C Φ t)
def Az(i:Nat)(g:PSt->R Fl):PSt->R Fl:=fun ρ=>match ρ[i]? with
 | some .no=>g ρ
 | _=>.no
def nH(L:Lam)(idx:List Nat)(fs:PSt->R (List PV))(app:Lam->List PV->List PV->Option PV):PSt->R PV:=fun ρ=>u4 ρ idx >>= fun cs=>fs ρ >>= fun qs=>
 if aY qs=true/\aY cs=true then R.ofO (app L qs cs) >>= fun z=>if noFn z=true then .ok z else .no else .no
theorem SVF.tru{C:Cn}{sts:List Stmt}{g:PSt->R Fl}(h:SVF C tru sts g):SVs C sts g:=fun pins s σ H D I q=>h pins s σ H D I ⟨trivial,q⟩
section
variable{C : Cn}{Φ Ψ : Ph}{e : Expr}{es : List Expr}{f : PSt → R PV}{fs : PSt → R (List PV)}{g : PSt → R Fl}{rest : List Stmt}{pos : Ma}
theorem wJ(ha:EVF C Φ e f)(he:∀whole,isTrue e C.X.env whole=(do let v<- whole;standAt e.pos;holding [v] (truthy v)):=by intro _;rfl)(hw:C.X.w=TW.w:=by rfl):ETF C Φ e (bq f):=by
 intro pins s σ H Q I ⟨ph,ρ,vw,q⟩;refine isTrue_plain (thn (ha pins s σ H (fun v H'=>∃p b,bc C.X.K H' p v/\ub p=some b/\Q b H') I ⟨ph,ρ,vw,q.bind.imp fun p _ k v H' s' r=>?_⟩) fun v s1 ⟨x,H1,I1,r1,q1⟩=>uE hw pins s1 σ H1 x v Q I1 r1 q1) (he _);obtain⟨b,eb,k⟩:=k.ofO;exact⟨p,b,r.o,eb,k H' s'⟩
theorem AX(he:EVF C Φ e f):SVF C Φ [.Return (some e) pos] (ck f):=by
 intro pins s σ H D I ⟨ph,ρ,B,S,h⟩;exact o5 (rj he) pins s σ H D I ⟨ph,ρ,S.vw,(h.bind S.same).imp fun p _ k v H' s' r=>k v H' (S.same.trans s') r⟩
theorem nM(i:Nat){x:Str}{pos':Ma}(hN:C.X.N.Nodup)(ok:Φ.Ok)(hk:∀σ H v,Φ σ H->Φ (σ.set i v) H)(he:EVF C Φ e f)(hr:SVF C Φ rest g)(hs:NQ e (some (.Name x pos')) pos.line C.X.env=pure false:=by rfl)
  (hf:C.X.fn x=true\/C.X.env.scope.names.lookup x=some .local:=by first | exact .inl rfl | exact .inr rfl | assumption) (hi:C.X.N[i]?=some x:=by rfl) (hx:Loc C.X.env.scope x:=by first | exact .inl rfl | exact .inr rfl) :
  SVF C Φ (.Assign [.Name x pos'] e pos::rest) (aH (bS i f) g):=by
 intro pins s σ H D I ⟨ph,ρ,B,S,h⟩;refine i5 (uW hN hi hx he hs hf) hr pins s σ H D I ⟨ph,ρ,S.vw,?_⟩;unfold aH bS at h;cases hg:f ρ with
 | ok p=>rw[hg] at h;exact fun v H' s' r=>⟨hk _ _ _ (ok _ _ _ ph s'),ρ.set i (.val p),B,(S.grow s').setV r,h⟩
 | er x=>rw[hg] at h;exact fun H' s'=>h H' (S.same.trans s')
 | no=>rw[hg] at h;exact h
theorem uF{c e1:Expr}{t:PSt->R Bool}{f1:PSt->R PV}{p1:Ma}(ok:Φ.Ok)(hc:ETF C Φ c t)(h1:EVF C Φ e1 f1)(hr:SVF C Φ rest g):SVF C Φ (.If c [.Return (some e1) p1] [] pos::rest) (aH (ifF t (ck f1) b0) g):=by
 intro pins s σ H D I ⟨ph,ρ,B,S,h⟩;refine i5 (DV hc (o5 (rj h1)) uV) hr pins s σ H D I ⟨ph,ρ,S.vw,?_⟩;unfold aH ifF at h;cases hg:t ρ with
 | ok b=>
  rw[hg] at h;intro H' s';cases b with
  | true=>
   refine(if_pos rfl).mpr ⟨ok _ _ _ ph s',ρ,S.vw.same s',?_⟩;have h:RS C B D (ck f1 ρ >>= fun fl=>_):=h;unfold ck at h;cases hf:f1 ρ with
   | ok p=>rw[hf] at h;exact fun v H2 s2 r=>h v H2 ((S.same.trans s').trans s2) r
   | er x=>rw[hf] at h;exact fun H2 s2=>h H2 ((S.same.trans s').trans s2)
   | no=>rw[hf] at h;exact h
  | false=>exact(if_neg (by decide)).mpr ⟨ok _ _ _ ph s',ρ,B,S.grow s',h⟩
 | er x=>rw[hg] at h;exact fun H' s'=>h H' (S.same.trans s')
 | no=>rw[hg] at h;exact h
theorem DE{st:Stmt}(i:Nat)(ok:Φ.Ok)(hk:∀σ H v,Φ σ H->Φ (σ.set i v) H)(hp:PS C.X st (GZ (tV C f) (yQ i)))(hr:SVF C Φ rest g):SVF C Φ (st::rest) (aH (bS i f) g):=by
 intro pins s σ H D I ⟨ph,ρ,B,S,h⟩;refine i5 hp hr pins s σ H D I ⟨ρ,S.vw,?_⟩;unfold aH bS at h;cases hg:f ρ with
 | ok p=>rw[hg] at h;exact fun v H' s' r=>⟨hk _ _ _ (ok _ _ _ ph s'),ρ.set i (.val p),B,(S.grow s').setV r,h⟩
 | er x=>rw[hg] at h;exact fun H' s'=>h H' (S.same.trans s')
 | no=>rw[hg] at h;exact h
structure DefC(C:Cn)(L:Lam)(b:List Stmt)(pos:Ma)(c P:Addr):Prop where
 bd:L.body=.stmts b
 qual:L.qual=Oz C.X.env L.name L.name
 tq:TW.qual pos.line pos.col=L.qual
 code:C.X.env.code=.ref c
 hd:Pz C.X.base c P
 tab:P∈TW.tabs
 bn:Bn C.X
 d0:L.args.defaults=[]
 k0:L.args.kw_defaults=[]
 an:annTrees L.args none C.X.env=[]
 free:∀y∈L.scope.names,y.2=.free->C.X.env.scope.names.lookup y.1=some .cell
theorem uG{L:Lam}{b:List Stmt}{c P:Addr}(i:Nat)(hN:C.X.N.Nodup)(ok:Φ.Ok)(hk:∀σ H v,Φ σ H->Φ (σ.set i v) H)(d:DefC C L b pos c P)(hr:SVF C (fun σ H=>Φ σ H/\FnS C.X i L σ H) rest g)
  (hf:C.X.fn L.name=true\/C.X.env.scope.names.lookup L.name=some .local:=by first | exact .inl rfl | exact .inr rfl | assumption) (hi:C.X.N[i]?=some L.name:=by rfl) (hx:Loc C.X.env.scope L.name:=by first | exact .inl rfl | exact .inr rfl) :
  SVF C Φ (.FunctionDef L.name L.args b [] none [] L.scope none L.name pos::rest) (Az i g):=by
 intro pins s σ H D I ⟨ph,ρ,B,S,h⟩;unfold Az at h;split at h
 ·rename_i e0
  have p1:PS C.X (.FunctionDef L.name L.args b [] none [] L.scope none L.name pos) (fun D σ' H'=>σ'=σ/\H'=H/\∀v H1,Same H H1->FnS C.X i L (σ.set i (some v)) H1->D.nx (σ.set i (some v)) H1):=by
   intro pins' s' σ' H' D' J ⟨e1,e2,q⟩;subst σ' H';obtain⟨ps,eP,tk⟩:=S.vw.tb P d.tab;have has:∀y∈L.scope.names,y.2=.free->∃c,C.X.env.cells.lookup y.1=some c:=fun y hy hk=>J.ok.has y.1 (.inl (d.free y hy hk));refine FJ (c:=c) (P:=P) J eP tk d.code d.hd d.bn d.d0 d.k0 d.an (d.tq.trans d.qual) has fun f c' doc pm ct H1 s1 I1 sm hf' hc'=>?_;rw[← d.qual] at hf' hc'
   have hf':H1 f=some (FnAt f (lM L (eF C.X.env.cells L.scope.names []) (doc,pm) c' ct)):=by
    rw[hf'];unfold lM tG;rw[d.bd]
   refine kO I1 hN hi hx (v:=.ref f) rfl (fun s2 I2=>⟨_,H1,I2,q _ H1 sm ⟨f,c',(doc,pm),ct,?_,hf',hc'⟩⟩) hf;rw[Of (by rw[← S.len];exact(KN.mp e0).1)]
  refine i5 p1 hr pins s σ H D I ⟨rfl,rfl,fun v H1 sm fn=>⟨⟨hk _ _ _ (ok _ _ _ ph sm),fn⟩,ρ,B,?_,h⟩⟩;have S1:=S.grow sm;have ne:∀(j:Nat)(z:Sl),ρ[j]?=some z->z≠.no->j≠i:=fun j z ez n q=>by subst q;rw[e0] at ez;cases ez;exact n rfl
  have gs:∀j,j≠i->(σ.set i (some v))[j]?=σ[j]?:=fun j n=>O0 (N3 n);refine⟨by rw[Ol];exact S1.len,S1.same,S1.kp,⟨fun j z ez=>?_,S1.vw.tb⟩,fun j p a e1 e2=>?_,fun j k p q a e1 e2 e3 e4=>?_,S1.pinned⟩
  ·by_cases n:j=i
   ·subst n
    rw[e0] at ez;cases ez;exact trivial
   ·rw[gs j n]
    exact S1.vw j z ez
  ·rw[gs j (ne j _ e1 (by simp))] at e2
   exact S1.fresh j p a e1 e2
  ·rw[gs j (ne j _ e1 (by simp))] at e3
   rw[gs k (ne k _ e2 (by simp))] at e4;exact S1.apart j k p q a e1 e2 e3 e4
 ·exact KJ h
theorem tT{L:Lam}{idx:List Nat}{app:Lam->List PV->List PV->Option PV}{k:Nat}{x:Str}{p pos:Ma}(i:Nat)(T:FV C.X.prog C.X.w C.X.K C.X.mg C.X.base k app){kr:Nat}(hr:Room kr C.X.A)(hF:∀σ H,Φ σ H->FnS C.X i L σ H)(fc:FnC C L idx)(ha:EA C (e::es) fs)
  (hN:C.X.N[i]?=some x:=by rfl) (hvis:Vis C.X.env.scope x:=by first | exact .inl rfl | exact .inr (.inl rfl) | exact .inr (.inr rfl)) (hdb:(x == ("__debug__":Str))=false:=by decide) (hcd:(x == ("__classdict__":Str))=false:=by decide)
  (he:LA (e::es) C.X.env=(false,M7 e C.X.env)::LA es C.X.env:=by exact cM rfl) (hpl:(Nh pos (LA es C.X.env)).any (·.1)=false:=by exact kT rfl) (hk:k+1<=kr:=by decide) (hfn:∀y,C.X.fn y=true:=by exact fun _=>rfl) :
  EVF C Φ (.Call (.Name x p) (e::es) [] pos) (nH L idx fs app):=by
 replace hr:=hr.mono hk;intro pins s σ H Q I ⟨ph,ρ,vw,q⟩;unfold nH at q;cases hc:u4 ρ idx with
 | er x=>exact absurd hc (oA idx x)
 | no=>rw[hc] at q;exact KJ q
 | ok cs=>
  rw[hc] at q;obtain⟨f,c,pm,ct,ev,hf0,hc0⟩:=hF σ H ph;refine My (thn (gw hN hvis hdb hcd pins s σ H (fun v' H'=>v'=.ref f/\H'=H) I ⟨_,ev,rfl,rfl⟩) fun u s1 ⟨v',H',I1,ru,e2,e3⟩=>?_);subst e2 e3;cases (show u=M5 f from ru);have fnAt:∀{H2:Hp}{s2:KC},L2.Inv C.X pins σ H2 s2->Same H' H2->PySem.W.FnAt f s2.heap:=fun {H2 s2} I2 sm=>⟨_,_,_,_,(I2.hok f _ (sm _ _ hf0)).1⟩;have q:RQ C H' (fs ρ >>= fun qs=>if aY qs=true/\aY cs=true then R.ofO (app L qs cs) >>= fun z=>if noFn z=true then .ok z else .no else .no) _:=q
  refine Qt (fnAt I1 (Same.refl _)) (thn (ha pos pins s1 σ H' (fun vs H2=>∃qs z,aO C.X.K H2 qs vs/\Same H' H2/\aY qs=true/\aY cs=true/\app L qs cs=some z/\noFn z=true/\∀v H3,Same H' H3->Rep C.X.K H3 z v->Q v H3) I1
   ⟨ρ,vw,q.bind.imp fun qs _ k1 vs H2 sm2 r2=>?_⟩) fun us s2 ⟨vs,H2,I2,r,qs,z,r2,sm2,n1,n2,ea,nz,k2⟩=>⟨fnAt I2 sm2,?_⟩) he hpl
  ·split at k1
   ·rename_i hn
    obtain⟨z,ez,k3⟩:=k1.bind.ofO;split at k3
    ·rename_i nz
     exact⟨qs,z,r2,sm2,hn.1,hn.2,ez,nz,fun v H3 s3 r3=>k3 v H3 s3 r3⟩
    ·exact KJ k3
   ·exact KJ k1
  ·obtain⟨ps,ls,fe,B,hl,ef⟩:=T L qs cs z ea
   have pr:AJ C.X H2 σ (.fn L cs) (.ref f):=uY (pins:=pins) (s:=s2) I2.ok.inj (fun y hy=>I2.ok.has y (.inl hy)) (vw.same sm2) hc fc.free fc.kept fc.nd fc.ix (sm2 _ _ hf0) (sm2 _ _ hc0);have rep:=rz I2 hfn pr;have cl:=xg I2 hfn (C.X.env.scope.names.map (·.1));have ext:Same H2 (trC H2 (iu C.X s2.heap (C.X.env.scope.names.map (·.1)))):=.of fun b o e=>by rw[b8 (cl.out e)];exact e
   obtain⟨f',c',cl',pm',ct',xs,e1,hf1,hc1,hk1,nd1,ca,rc⟩:=rep;cases e1;obtain⟨hxl,l,l1,l2⟩:=jX ca;have hus:us.length=ps.length:=by rw[← r.length,← r2.length];exact hl
   refine Qo (OJ (vE (l:=l) (E:=E0) (Q:=fun v H3=>Same (trC H2 (iu C.X s2.heap (C.X.env.scope.names.map (·.1)))) H3/\Rep C.X.K H3 z v) B.sc hr (Fv I2 cl) hf1 hc1 l1 hk1 nd1 hxl l2 (B.bd cl' pm' ct' c' us hus) (B.ev f c' cl' C.X.A C.X.stack s2 _ (hr.deeper _)) r (by rw[← r2.length];exact hl) (r2.same ext) rc n1 n2 (ext.tabs (sm2.tabs vw.tb)) ef
    fun v H3 s3 r3=>⟨s3,r3⟩) fun r' s' hq=>?_)
   cases r' with
   | error e=>exact KJ hq
   | ok fl=>
    cases fl with
    | ret u=>
     obtain⟨v,H3,os,bare,un,hok,rv,sm3,rp⟩:=hq;refine AG I2 cl ⟨v,H3,os,bare,un,hok,rv,fun un=>k2 v _ (sm2.trans (DJ cl un sm3)) (Rep.pl (fun b u e h=>?_) z nz rp)⟩;rw[bg (p5 un e (om h))];exact e
    | next=>exact KJ hq
    | brk=>exact KJ hq
    | cont=>exact KJ hq
end
theorem nJ.st{C:Cn}{n:Nat}{B:FuncBody}{b:List Stmt}{g:PSt->R Fl}(h:B=.stmts b)(hs:SVs C b g):nJ C n (qL n g) B:=by
 subst h;exact⟨g,hs,rfl⟩
structure NdL(l:List Str):Prop where
 nd:l.Nodup
theorem FnS.set{X:Cx}{i j:Nat}{L:Lam}(h:j≠i):∀σ H v,FnS X i L σ H->FnS X i L (σ.set j v) H:=fun σ H v ⟨f,c,pm,ct,e,r⟩=>⟨f,c,pm,ct,by rw[O0 h];exact e,r⟩
theorem Ph.and_ok{Φ Ψ:Ph}(a:Φ.Ok)(b:Ψ.Ok):Ph.Ok (fun σ H=>Φ σ H/\Ψ σ H):=fun σ H H' h s=>⟨a σ H H' h.1 s,b σ H H' h.2 s⟩
end PU
namespace PU
open PySem PySem.Spec PyProof.Rows L2
theorem fsc{N ps:List Str}{sc:Scope}(a:sc.kind=.function:=by rfl)(b:sc.isCoroutine=false:=by rfl)(c:sc.isGenerator=false:=by rfl)(d:N.Nodup:=by decide +kernel)(e:N.take ps.length=ps:=by rfl)
  (f:∀x∈ps,sc.names.lookup x=some .local\/sc.names.lookup x=some .cell:=by decide +kernel) (g:∀y∈sc.names,y.2≠.free:=by decide +kernel):FnScope N ps sc:=⟨a,b,c,d,e,f,g⟩
theorem cok{N ps NX N':List Str}{S scX scope:Scope}{nt:Nat}{idx:List Nat}(_:FnScope N ps S)(e1:NX=N:=by rfl)(e2:scX=S:=by rfl)(a:scope.kind=.function:=by rfl)(b:∀y∈scope.names,y.2≠.cell:=by decide +kernel)
  (c:∀y∈scope.names,y.2=.local->scope.names.lookup y.1=some .local:=by decide +kernel) (d:∀y∈scope.names,y.2=.free->S.names.lookup y.1=some .cell\/S.names.lookup y.1=some .free:=by decide +kernel) (e:N'.length=nt+idx.length:=by rfl)
  (f:(idx.zip (N'.drop nt)).all (fun p=>decide (N[p.1]?=some p.2) && decide (scope.names.lookup p.2=some .free))=true:=by decide +kernel):CompOk NX scX scope N' nt idx:=by
 subst e1 e2;exact⟨a,b,c,d,e,f⟩
def Has(K:KA)(n:Str)(st:Stmt):Prop:=∃(f:Addr)(oc kV dc pm cd ct:KB)(od an:Option Addr)(sl:Array (Option KB)),Lq K mainGlobals n=some (some (.ref f))/\
 K.lookup f=some ⟨oc,od,.func (M1 n n (eV st) (bM st) (ar st) .none kV dc pm an cd ct),sl⟩/\Mz K cd n=true/\MP K (.ref f)=true
theorem Has.of{K:KA}{n:Str}{st:Stmt}{f:Addr}{oc kV dc pm cd ct:KB}{od an:Option Addr}{sl:Array (Option KB)}(a:Lq K mainGlobals n=some (some (.ref f)))
  (l:K.lookup f=some ⟨oc,od,.func (M1 n n (eV st) (bM st) (ar st) .none kV dc pm an cd ct),sl⟩) (c:Mz K cd n=true) (k:MP K (.ref f)=true):Has K n st:=⟨_,_,_,_,_,_,_,_,_,_,a,l,c,k⟩
def Hs(K:KA)(mg:Str->Option KB)(n:Str)(st:Stmt):Prop:=∃f fd,Fun K n n st f fd/\mg n=some (.ref f)
theorem Has.fn{K:KA}{n:Str}{st:Stmt}{h:Heap}{mg:Str->Option KB}(x:Has K n st)(X:K.In h)(G:h.Ns mainGlobals mg):Hs K mg n st:=by
 obtain⟨f,_,_,_,_,_,_,_,_,_,a,l,c,k⟩:=x;exact⟨f,_,wq l c k,OG X G a⟩
variable[TW]
section
variable{C : Cn}{pos : Ma}
theorem aw(i:Nat){x:Str}(hN:C.X.N[i]?=some x:=by rfl)(hv:Vis C.X.env.scope x:=by first | exact .inl rfl | exact .inr (.inl rfl) | exact .inr (.inr rfl))
  (hd:(x == ("__debug__":Str))=false:=by decide) (hcd:(x == ("__classdict__":Str))=false:=by decide):EO C (.Name x pos) (ai i):=(aA i hN hv hd hcd).o
theorem ae{i j}:EO C (.Constant (.int i) j pos) (kI i):=aI.o
theorem cJ{i j}:EO C (.Constant (.str i) j pos) (kS i):=aC.o
theorem ud{C:Cn}{N':List Str}{scope:Scope}{cl}{L}{s}{H}{fp}(i:Nat){x:Str}(hi:N'[i]?=some x:=by rfl)(hx:Loc (dY C N' scope cl L s H fp).X.env.scope x:=by first | exact .inl rfl | exact .inr rfl)(hN:N'.Nodup:=by decide +kernel)
  (hf:(dY C N' scope cl L s H fp).X.fn x=true\/(dY C N' scope cl L s H fp).X.env.scope.names.lookup x=some .local:=by first | exact .inl rfl | exact .inr rfl | assumption):TCt (dY C N' scope cl L s H fp) (.Name x pos) (az i):=AU i hN hi hx hf
end
section
variable{P : L6}{w : LI}{K : KA}{mg : Str → Option KB}{base : Heap}{x : Str}{st : Stmt}{N ps : List Str}{k : Nat}{g : PSt → R Fl}
theorem iO(h:Hs K mg x st)(S:FnScope N ps (ar st))
  (hbody:∀(f:Addr)(cdv:KB)(A:LR)(outer:List Pn)(s:KC)(H:Hp)(E:XK),Room k (A.deeper (Nw x (ar st) s.heap.objs.size f cdv))->SVs (D0 P w K mg base N x (ar st) f cdv A outer s H E) (bM st) g)
  (hb:∀(kV doc pm:KB)(an:Option Addr)(cdv ct:KB)(us:List KB),us.length=ps.length->Q9 (M1 x x (eV st) (bM st) (ar st) .none kV doc pm an cdv ct) ⟨us,[]⟩=pure (ps.zip us):=by
   intro _ _ _ _ _ _ us hl;repeat' (first | (exfalso;simp only[Lz] at hl;omega) | (rcases us with _ | ⟨_,us⟩) | rfl)) :
  PF P w K mg base (k+1) x (eZ ps.length N.length g):=by
 obtain⟨f,fd,F,hm⟩:=h;exact Hi F S hm (F.binds hb) (hbody f)
theorem DY(h:Hs K mg x st)(S:FnScope N ps (ar st))
  (hbody:∀(f:Addr)(cdv:KB)(A:LR)(outer:List Pn)(s:KC)(H:Hp)(E:XK),Room k (A.deeper (Nw x (ar st) s.heap.objs.size f cdv))->SVN (D0 P w K mg base N x (ar st) f cdv A outer s H E) (bM st) g)
  (hb:∀(kV doc pm:KB)(an:Option Addr)(cdv ct:KB)(us:List KB),us.length=ps.length->Q9 (M1 x x (eV st) (bM st) (ar st) .none kV doc pm an cdv ct) ⟨us,[]⟩=pure (ps.zip us):=by
   intro _ _ _ _ _ _ us hl;repeat' (first | (exfalso;simp only[Lz] at hl;omega) | (rcases us with _ | ⟨_,us⟩) | rfl)) :
  PFN P w K mg base (k+1) x (runN ps.length N.length g):=by
 obtain⟨f,fd,F,hm⟩:=h;exact Bq F S hm (F.binds hb) (hbody f)
end
end PU
namespace BF
def lexLt:List Nat->List Nat->Bool
 | x::xs,y::ys=>if x=y then lexLt xs ys else decide (x<y)
 | _,_=>false
def lt(a b:List Nat):Prop:=a.length<b.length\/(a.length=b.length/\lexLt a b=true)
theorem pz:∀{a b c:List Nat},lexLt a b=true->lexLt b c=true->lexLt a c=true
 | [],_,_,h,_=>by simp[lexLt] at h
 | x::xs,[],_,h,_=>by simp[lexLt] at h
 | x::xs,y::ys,[],_,h=>by simp[lexLt] at h
 | x::xs,y::ys,z::zs,h1,h2=>by
  simp only[lexLt] at h1 h2 ⊢
  by_cases e1:x=y
  ·subst e1
   rw[if_pos rfl] at h1
   by_cases e2:x=z
   ·subst e2
    rw[if_pos rfl] at h2 ⊢;exact pz h1 h2
   ·rw[if_neg e2] at h2 ⊢
    exact h2
  ·rw[if_neg e1] at h1
   by_cases e2:y=z
   ·subst e2
    rw[if_neg e1];exact h1
   ·rw[if_neg e2] at h2
    simp at h1 h2;rw[if_neg (by omega)];simp;omega
theorem lt_trans{a b c:List Nat}(h1:lt a b)(h2:lt b c):lt a c:=by
 unfold lt at *;rcases h1 with h1 | ⟨h1,e1⟩ <;> rcases h2 with h2 | ⟨h2,e2⟩
 ·exact .inl (by omega)
 ·exact .inl (by omega)
 ·exact .inl (by omega)
 ·exact .inr ⟨by omega,pz e1 e2⟩
theorem rV(i j:Nat)(h:i<j):∀r:List Nat,lexLt (r++[i]) (r++[j])=true
 | []=>by simp[lexLt,h];omega
 | x::r=>by
  show (if x=x then _ else _)=true;rw[if_pos rfl];exact rV i j h r
theorem qp(r:List Nat)(i j:Nat)(h:i<j):lt (r++[i]) (r++[j]):=.inr ⟨by simp,rV i j h r⟩
theorem rT(i j:Nat):∀a b:List Nat,a.length=b.length->lexLt a b=true->lexLt (a++[i]) (b++[j])=true
 | [],_,_,h=>by simp[lexLt] at h
 | x::xs,[],h,_=>by simp at h
 | x::xs,y::ys,hl,h=>by
  simp only[lexLt,N9] at h ⊢
  by_cases e:x=y
  ·rw[if_pos e] at h ⊢
   exact rT i j xs ys (by simpa using hl) h
  ·rw[if_neg e] at h ⊢
   exact h
theorem vk{a b:List Nat}(i j:Nat)(h:lt a b):lt (a++[i]) (b++[j]):=by
 rcases h with h | ⟨h,e⟩
 ·exact .inl (by simp;omega)
 ·exact .inr ⟨by simp[h],rT i j a b h e⟩
theorem Ab{S:Type}[DecidableEq S]:∀(l U:List S),l.Nodup->(∀x∈l,x∈U)->l.length<=U.length
 | [],_,_,_=>MQ _
 | x::l,U,nd,h=>by
  have nd':=Le.mp nd;have hx:x∈U:=h x (by simp)
  have:=Ab l (U.erase x) nd'.2 fun y hy=>by
   have hne:y≠x:=fun e=>nd'.1 (e▸hy);exact(List.mem_erase_of_ne hne).mpr (h y (by simp[hy]))
  rw[List.length_erase_of_mem hx] at this;have:=List.length_pos_of_mem hx;simp;omega
section
variable{S : Type}[DecidableEq S](lead : S → Nat → S)
abbrev Row(S:Type):=S×List Nat
def inn(near:Row S)(found:List (Row S))(i:Nat):List (Row S):=if lead near.1 i∈found.map (·.1) then found else found++[(lead near.1 i,near.2++[i])]
def run(s0:S)(row:List Nat):S:=row.foldl lead s0
variable(s0 : S)
structure Inv(found:List (Row S)):Prop where
 h0:∃tl,found=(s0,[])::tl
 nd:(found.map (·.1)).Nodup
 srt:found.Pairwise fun a b=>lt a.2 b.2
 run:∀p∈found,run lead s0 p.2=p.1
 rng:∀p∈found,∀i∈p.2,i<13
 len:∀(j:Nat)(p:Row S),found[j]?=some p->p.2.length<=j
def Cl(found:List (Row S))(p:Row S)(i:Nat):Prop:=∃q∈found,q.1=lead p.1 i/\(q.2=p.2++[i]\/lt q.2 (p.2++[i]))
theorem C7(near:Row S)(found:List (Row S))(i:Nat):∃tl,inn lead near found i=found++tl:=by
 unfold inn
 split
 ·exact⟨[],by simp⟩
 ·exact⟨_,rfl⟩
theorem Cl.mono{found tl:List (Row S)}{p:Row S}{i:Nat}(h:Cl lead found p i):Cl lead (found++tl) p i:=by
 obtain⟨q,hq,h1,h2⟩:=h;exact⟨q,by simp[hq],h1,h2⟩
theorem Ar{found:List (Row S)}{d:Nat}{near:Row S}{i:Nat}(hi:i<13)(I:Inv lead s0 found)(hd:found[d]?=some near)(top:∀p∈found,lt p.2 (near.2++[i])) :
  Inv lead s0 (inn lead near found i)/\(inn lead near found i)[d]?=some near/\(∀p∈inn lead near found i,lt p.2 (near.2++[i+1]))/\Cl lead (inn lead near found i) near i:=by
 have hdl:d<found.length:=(KN.mp hd).1;have nm:near∈found:=LF hd;have up:∀p∈found,lt p.2 (near.2++[i+1]):=fun p hp=>lt_trans (top p hp) (qp near.2 i (i+1) (by omega));unfold inn
 split
 ·rename_i hm
  obtain⟨q,hq,e⟩:=KU.mp hm;exact⟨I,hd,up,q,hq,e,.inr (top q hq)⟩
 ·rename_i hm
  refine⟨⟨?_,?_,?_,?_,?_,?_⟩,?_,?_,?_⟩
  ·obtain⟨tl,e⟩:=I.h0
   exact⟨tl++[(lead near.1 i,near.2++[i])],by rw[e];rfl⟩
  ·rw[L8,M6]
   refine⟨I.nd,by simp,fun a ha b hb e=>?_⟩;simp at hb;subst hb e;exact hm ha
  ·rw[Nz]
   refine⟨I.srt,by simp,fun a ha b hb=>?_⟩;rw[Ky.mp hb];exact top a ha
  ·intro p hp
   rcases LW.mp hp with hp | hp
   ·exact I.run p hp
   ·rw[Ky.mp hp]
    show BF.run lead s0 (near.2++[i])=lead near.1 i;have:=I.run near nm;unfold BF.run at this ⊢;rw[Rz,this];rfl
  ·intro p hp j hj
   rcases LW.mp hp with hp | hp
   ·exact I.rng p hp j hj
   ·rw[Ky.mp hp] at hj
    rcases LW.mp hj with hj | hj
    ·exact I.rng near nm j hj
    ·rw[Ky.mp hj];exact hi
  ·intro j p hp
   rw[List.getElem?_append] at hp;split at hp
   ·exact I.len j p hp
   ·rename_i hj
    have e:=Ky.mp (LF hp);subst e;have:=I.len d near hd;simp;omega
  ·rw[L5 hdl];exact hd
  ·intro p hp
   rcases LW.mp hp with hp | hp
   ·exact up p hp
   ·rw[Ky.mp hp]
    exact qp near.2 i (i+1) (by omega)
  ·exact⟨(lead near.1 i,near.2++[i]),by simp,rfl,.inl rfl⟩
theorem inv_len(U:List S)(hU:∀found,Inv lead s0 found->∀p∈found,p.1∈U){found:List (Row S)}(I:Inv lead s0 found):found.length<=U.length:=by
 have:=Ab (found.map (·.1)) U I.nd fun x hx=>by
  obtain⟨q,hq,e⟩:=KU.mp hx;exact e▸hU found I q hq
 simpa using this
theorem inv_P(P:S->Prop)(h0:P s0)(hs:∀s,P s->∀i<13,P (lead s i)):∀found,Inv lead s0 found->∀p∈found,P p.1:=by
 have hr:∀(row:List Nat)(s:S),P s->(∀i∈row,i<13)->P (run lead s row):=by
  intro row
  induction row with
  | nil=>intro s h _;exact h
  | cons i row ih=>intro s h hi;exact ih _ (hs s h i (hi i (by simp))) fun j hj=>hi j (by simp[hj])
 intro found I p hp;rw[← I.run p hp];exact hr p.2 s0 h0 (I.rng p hp)
theorem Fg:Inv lead s0 [(s0,[])]:=by
 refine⟨⟨[],rfl⟩,by simp,by simp,by simp[run],by simp,fun j p h=>?_⟩;have:=Ky.mp (LF h);subst this;simp
theorem GS(near:Row S)(h:[((s0,[]):Row S)][0]?=some near):∀p∈[((s0,[]):Row S)],lt p.2 (near.2++[0]):=fun p hp=>by
 have e1:=Ky.mp (LF h);have e2:=Ky.mp hp;subst e1 e2;exact .inl (by simp)
end
end BF
namespace BF
theorem vB:∀a:List Nat,lexLt a a=false
 | []=>rfl
 | x::a=>by
  show (if x=x then lexLt a a else _)=false;rw[if_pos rfl,vB a]
theorem Af{a:List Nat}(h:lt a a):False:=by
 rcases h with h | ⟨_,h⟩
 ·omega
 ·rw[vB] at h;cases h
theorem vn{a b:List Nat}(h:lt a b)(k:lt b a):False:=Af (lt_trans h k)
theorem lt_nil{q:List Nat}(h:lt q []):False:=by
 rcases h with h | ⟨h,e⟩
 ·simp at h
 ·cases q with
  | nil=>simp[lexLt] at e
  | cons x q=>simp at h
section
variable{S : Type}[DecidableEq S](lead : S → Nat → S)(s0 : S)(last : S → Bool)
def NL(found:List (Row S)):Prop:=∀p∈found,last p.1=false
def Whole(found:List (Row S)):Prop:=NL last found/\∀p∈found,∀i<13,Cl lead found p i
def Stops(init:List (Row S))(fin:Row S):Prop:=last fin.1=true/\NL last init/\∀p∈init,∀i<13,lt (p.2++[i]) fin.2->Cl lead init p i
structure Res(found:List (Row S)):Prop where
 inv:Inv lead s0 found
 res:Whole lead last found\/∃init fin,found=init++[fin]/\Stops lead last init fin
structure Mid(found:List (Row S))(d k:Nat)(near:Row S):Prop where
 inv:Inv lead s0 found
 at_:found[d]?=some near
 nl:NL last found
 top:∀p∈found,lt p.2 (near.2++[k])
 old:∀(j:Nat)(p:Row S),j<d->found[j]?=some p->∀i<13,Cl lead found p i
 cl:∀i<k,Cl lead found near i
structure Out(found:List (Row S))(d:Nat):Prop where
 inv:Inv lead s0 found
 nl:NL last found
 top:∀near,found[d]?=some near->∀p∈found,lt p.2 (near.2++[0])
 old:∀(j:Nat)(p:Row S),j<d->found[j]?=some p->∀i<13,Cl lead found p i
variable{lead s0 last}
theorem Out.mid{found:List (Row S)}{d:Nat}{near:Row S}(h:Out lead s0 last found d)(e:found[d]?=some near):Mid lead s0 last found d 0 near:=⟨h.inv,e,h.nl,h.top near e,h.old,fun i hi=>absurd hi (by omega)⟩
theorem Mid.go{found:List (Row S)}{d k:Nat}{near:Row S}(h:Mid lead s0 last found d k near)(hk:k<13)(hn:last (lead near.1 k)=false):Mid lead s0 last (inn lead near found k) d (k+1) near:=by
 obtain⟨a,b,c,e⟩:=Ar lead s0 hk h.inv h.at_ h.top;obtain⟨tl,et⟩:=C7 lead near found k;have hdl:d<found.length:=(KN.mp h.at_).1;refine⟨a,b,fun p hp=>?_,c,fun j p hj hp i hi=>?_,fun i hi=>?_⟩
 ·unfold inn at hp
  split at hp
  ·exact h.nl p hp
  ·rcases LW.mp hp with z | z
   ·exact h.nl p z
   ·rw[Ky.mp z];exact hn
 ·rw[et] at hp ⊢
  rw[L5 (by omega)] at hp;exact(h.old j p hj hp i hi).mono lead
 ·rcases Lr i k with z | z
  ·rw[et];exact(h.cl i z).mono lead
  ·have:i=k:=by omega
   subst this;exact e
theorem Mid.out{found:List (Row S)}{d:Nat}{near:Row S}(h:Mid lead s0 last found d 13 near):Out lead s0 last found (d+1):=by
 refine⟨h.inv,h.nl,fun near' e p hp=>?_,fun j p hj hp i hi=>?_⟩
 ·have h1:lt near.2 near'.2:=by
   have hs:=QM.mp h.inv.srt;obtain⟨q1,q2⟩:=KN.mp e;obtain⟨q3,q4⟩:=KN.mp h.at_;have:=hs d (d+1) q3 q1 (by omega);rw[q2,q4] at this;exact this
  exact lt_trans (h.top p hp) (vk 13 0 h1)
 ·rcases Lr j d with z | z
  ·exact h.old j p z hp i hi
  ·have:j=d:=by omega
   subst this;rw[h.at_] at hp;cases hp;exact h.cl i hi
theorem Mid.stop{found:List (Row S)}{d k:Nat}{near:Row S}(h:Mid lead s0 last found d k near)(hk:k<13)(hm:lead near.1 k ∉ found.map (·.1))(hn:last (lead near.1 k)=true):Res lead s0 last (found++[(lead near.1 k,near.2++[k])]):=by
 obtain⟨a,_,_,_⟩:=Ar lead s0 hk h.inv h.at_ h.top;unfold inn at a;rw[if_neg hm] at a;refine⟨a,.inr ⟨found,_,rfl,hn,h.nl,fun p hp i hi hl=>?_⟩⟩;obtain⟨j,hj⟩:=O1 hp;rcases Nat.lt_trichotomy j d with z | z | z
 ·exact h.old j p z hj i hi
 ·subst z
  rw[h.at_] at hj;cases hj;rcases Lr i k with y | y
  ·exact h.cl i y
  ·rcases Nat.eq_or_lt_of_le y with y | y
   ·subst y;exact(Af hl).elim
   ·exact(vn hl (qp near.2 k i y)).elim
 ·have h1:lt near.2 p.2:=by
   have hs:=QM.mp h.inv.srt;obtain⟨q1,q2⟩:=KN.mp hj;obtain⟨q3,q4⟩:=KN.mp h.at_;have:=hs d j q3 q1 z;rw[q2,q4] at this;exact this
  exact(vn hl (vk k i h1)).elim
theorem Out.done{found:List (Row S)}{d:Nat}(h:Out lead s0 last found d)(e:found.length<=d):Res lead s0 last found:=
 ⟨h.inv,.inl ⟨h.nl,fun p hp i hi=>by
  obtain⟨j,hj⟩:=O1 hp;exact h.old j p (by have:=(KN.mp hj).1;omega) hj i hi⟩⟩
theorem out_0(h:last s0=false):Out lead s0 last [(s0,[])] 0:=⟨Fg lead s0,fun p hp=>by rw[Ky.mp hp];exact h,fun near e=>GS s0 near e,fun j p hj=>absurd hj (by omega)⟩
theorem res_0(h:last s0=true):Res lead s0 last [(s0,[])]:=⟨Fg lead s0,.inr ⟨[],(s0,[]),rfl,h,(fun p hp=>absurd hp (by simp)),fun p hp=>absurd hp (by simp)⟩⟩
end
end BF
section
namespace PU
open PySem L2
theorem aG{m n:Nat}{g:PSt->R Fl}{ps:List PV}{p:PV}(hl:ps.length=m)(h:g (PU.start n ps)=.ok (.ret p)):eZ m n g ps=some p:=by
 unfold eZ;rw[if_pos hl,h]
theorem zp{α:Type}{xs:List α}{i:Int}(d:α)(h0:0<=i)(h1:i<xs.length):atI xs i=some (xs.getD i.toNat d):=by
 have h2:i.toNat<xs.length:=by omega
 exact bY (n:=i.toNat) (by omega) (by simp[h2])
def mkS(l:List Nat):Str:=⟨l.toArray⟩
theorem lI(a b:List Nat):mkS a++mkS b=mkS (a++b):=by
 show Str.mk (a.toArray++b.toArray)=_;simp[mkS]
@[simp] theorem dU(a:List Nat):(mkS a).length=a.length:=by simp[mkS,Str.length]
@[simp] theorem gK(a:List Nat):(mkS a).cps.toList=a:=by simp[mkS]
theorem ql(c:Nat):(⟨#[c]⟩:Str)=mkS [c]:=rfl
theorem gh:("":Str)=mkS []:=by decide +kernel
theorem yG(l:List Nat)(z:Int)(h0:0<=z)(h1:z<l.length)(hl:l.length<=16777216):gIx (.str (mkS l)) (.int z)=some (.str ⟨#[l.getD z.toNat 0]⟩):=
 xO (by simpa using hl) (by rw[gK];exact zp 0 h0 h1)
theorem il(x:List Nat)(c:Nat)(hx:x.length<=1000):cj (.str (mkS x)) (.str ⟨#[c]⟩)=some (.str (mkS (x++[c]))):=by
 rw[ql,l8 (by simp;omega),lI]
theorem u7(xs:List Str):kx (xs.map .str)=some xs:=by
 induction xs with
 | nil=>rfl
 | cons x r ih=>simp[kx,ih]
theorem Dp{s:Str}{xs:List Str}(h:(xs.map (·.length)).sum+xs.length * s.length<=16777216):wk (.str s) (.lst (xs.map .str))=some (.str (P5 s xs)):=by
 show (kx (xs.map PV.str)).bind (fun ys=>if (ys.map (·.length)).sum+ys.length * s.length<=16777216 then some (PV.str (Txt.join s ys)) else none)=_;rw[u7,Pe,if_pos h,yF]
end PU
namespace MT
open PySem L2 PU
inductive Room where
 | menu (text:Str) (keys:List (Str×Str)) (wrong waits:Int×Str)
 | names (text:Str) (words:List (Str×Str)) (wrong waits:Int×Str)
 | hours (spans:List (Int×Int×Str)) (last:Str)
 | hand (text:Str)
 | fin (text:Str)
structure House where
 first:Str
 letters:List (Str×Str)
 rooms:List (Str×Room)
def pv2(p:Str×Str):PV:=.tup [.str p.1,.str p.2]
def pvI(p:Int×Str):PV:=.tup [.int p.1,.str p.2]
def pv3(p:Int×Int×Str):PV:=.tup [.int p.1,.int p.2.1,.str p.2.2]
def Room.pv:Room->PV
 | .menu t ks wr wa=>.tup [.str "menu",.str t,.tup (ks.map pv2),pvI wr,pvI wa]
 | .names t ks wr wa=>.tup [.str "names",.str t,.tup (ks.map pv2),pvI wr,pvI wa]
 | .hours sp l=>.tup [.str "hours",.tup (sp.map pv3),.str l]
 | .hand t=>.tup [.str "hand",.str t]
 | .fin t=>.tup [.str "end",.str t]
def aK(rs:List (Str×Room)):PV:=.dct (rs.map fun r=>.inr r.1) (rs.map fun r=>r.2.pv)
def House.pv (h:House):PV:=.dct [.inr "first",.inr "letters",.inr "rooms"] [.str h.first,.lst (h.letters.map pv2),aK h.rooms]
def num(i:Int):Str:=toString i
abbrev sp:Str:=" "
def Ai(kind name:Str)(wr wa:Int×Str)(t:Str):Str:=kind++(sp++(name++(sp++(num wr.1++(sp++(wr.2++(sp++(num wa.1++(sp++(wa.2++(sp++t)))))))))))
def CP(a b c:Str):Str:=a++(sp++(b++(sp++c)))
def JG(a b c d:Str):Str:=a++(sp++(b++(sp++(c++(sp++d)))))
def ya(name:Str):Room->List Str
 | .menu t ks wr wa=>Ai "menu" name wr wa t::ks.map fun k=>CP "key" k.1 k.2
 | .names t ks wr wa=>Ai "names" name wr wa t::ks.map fun k=>CP "name" k.1 k.2
 | .hours sp l=>CP "hours" name l::sp.map fun s=>JG "from" (num s.1) (num s.2.1) s.2.2
 | .hand t=>[CP "hand" name t]
 | .fin t=>[CP "end" name t]
def House.rows (h:House):List Str:=("first"++(sp++h.first):Str)::(h.letters.map (fun l=>CP "letters" l.1 l.2)++h.rooms.flatMap fun r=>ya r.1 r.2)
def House.text (h:House):Str:=P5 "\n" h.rows
end MT
end
namespace PU
open PySem L2
def chZ(fc:PSt->R PV)(g':PV->PV->Option PV)(ρ:PSt)(q:PV):PV->R PV
 | .bl true=>jz (opP g' q) (fc ρ)
 | .bl false=>.ok (.bl false)
 | _=>.no
def chQ(fc:PSt->R PV)(g g':PV->PV->Option PV)(ρ:PSt)(p q:PV):R PV:=jz (chZ fc g' ρ q) (R.ofO (g p q))
@[simp] theorem I8(fc:PSt->R PV)(g':PV->PV->Option PV)(ρ:PSt)(q:PV):chZ fc g' ρ q (.bl true)=jz (opP g' q) (fc ρ):=by unfold chZ;exact LP _
@[simp] theorem JZ(fc:PSt->R PV)(g':PV->PV->Option PV)(ρ:PSt)(q:PV):chZ fc g' ρ q (.bl false)=.ok (.bl false):=by unfold chZ;exact LP _
@[simp] theorem I9(fc:PSt->R PV)(g g':PV->PV->Option PV)(ρ:PSt)(p q:PV):chQ fc g g' ρ p q=jz (chZ fc g' ρ q) (R.ofO (g p q)):=by unfold chQ;exact LP _
@[simp] theorem G9{fa fb fc:PSt->R PV}{g g':PV->PV->Option PV}{ρ:PSt}:sH fa fb fc g g' ρ=oK (chQ fc g g' ρ) (fa ρ) (fb ρ):=by
 unfold sH;cases fa ρ with
 | ok p=>
  cases fb ρ with
  | ok q=>
   simp only[R.ok_bind,vN,I9];cases g p q with
   | none=>rfl
   | some z=>
    simp only[R.ofO_some,R.ok_bind,lQ];cases z with
    | bl b=>
     cases b with
     | true=>
      rw[I8];cases fc ρ <;> rfl
     | false=>rfl
    | _=>rfl
  | _=>rfl
 | _=>cases fb ρ <;> rfl
theorem kq{α:Type}{enc:α->PV}{h:Tgt}{t:PSt->R Bool}{fe:PSt->R PV}{ρ:PSt}(P:α->Bool)(F:α->PV):∀(xs:List α),
  (∀x∈xs,∃ρ1,h (enc x) ρ=some ρ1/\t ρ1=.ok (P x)/\(P x=true->fe ρ1=.ok (F x)))->cQ h t fe ρ (xs.map enc)=.ok ((xs.filter P).map F)
 | [],_=>rfl
 | x::xs,hs=>by
  obtain⟨ρ1,e1,e2,e3⟩:=hs x (LO ..);have ih:=kq P F xs fun y hy=>hs y (LG _ hy);rw[KG];unfold cQ;rw[e1];simp only[R.ofO_some,R.ok_bind,e2];cases hp:P x with
  | true=>
   rw[if_pos rfl,e3 hp,OX hp,KG];simp only[R.ok_bind,ih]
  | false=>
   rw[if_neg KW,OY (by rw[hp];exact KW)];exact ih
theorem jm{α:Type}{enc:α->PV}{h:Tgt}{g:PSt->R Fl}(P:α->Bool)(F:α->PV)(I:PSt->Prop)
  (hs:∀(x:α)(ρ:PSt),I ρ->∃ρ1,h (enc x) ρ=some ρ1/\(P x=true->g ρ1=.ok (.ret (F x)))/\(P x=false->∃ρ2,g ρ1=.ok (.next ρ2)/\I ρ2)) :
  ∀(xs:List α)(ρ:PSt),I ρ->(∀x,xs.find? P=some x->ic h g (xs.map enc) ρ=.ok (.ret (F x)))/\(xs.find? P=none->∃ρ',ic h g (xs.map enc) ρ=.ok (.next ρ')/\I ρ')
 | [],ρ,h0=>⟨fun x e=>(by cases e),fun _=>⟨ρ,rfl,h0⟩⟩
 | x::xs,ρ,h0=>by
  obtain⟨ρ1,e1,e2,e3⟩:=hs x ρ h0;cases hp:P x with
  | true=>
   rw[Qj hp];refine⟨fun y e=>?_,fun e=>by cases e⟩;cases e;rw[KG];unfold ic;rw[e1];simp only[R.ofO_some,R.ok_bind,e2 hp]
  | false=>
   obtain⟨ρ2,e4,i2⟩:=e3 hp;obtain⟨k1,k2⟩:=jm P F I hs xs ρ2 i2;rw[Ng (by rw[hp];exact KW)]
   have e5:ic h g ((x::xs).map enc) ρ=ic h g (xs.map enc) ρ2:=by
    rw[KG]
    conv=>lhs;unfold ic
    rw[e1];simp only[R.ofO_some,R.ok_bind,e4]
   rw[e5];exact⟨k1,k2⟩
@[simp] theorem GC{n:Nat}{t:PSt->R Bool}{g:PSt->R Fl}{ρ:PSt}:whS n t g ρ=whF t g n ρ:=by unfold whS;exact LP _
end PU
namespace WO
open PySem L2 PU MT
def sg(c:Nat):PV:=.str ⟨#[c]⟩
theorem xX(l:List Nat):gB (mkS l)=l.map sg:=by unfold gB sg;rw[gK]
theorem it_mk(l:List Nat):f6 (.str (mkS l))=some (l.map sg):=by rw[← xX];unfold f6;exact LP _
theorem in_one(c:Nat)(l:List Nat):gIn (sg c) (.str (mkS l))=some (.bl (decide (c∈l))):=by
 show some (PV.bl (inS ⟨#[c]⟩ (mkS l)))=_;have e:=PySem.StrLaws.found_one (mkS l) c;rw[gK] at e;unfold inS;rw[e]
def keyPv(o:Option Nat):PV:=match o with
 | some k=>sg k
 | none=>.non
def codePv(o:Option (List Nat)):PV:=match o with
 | some c=>.str (mkS c)
 | none=>.non
abbrev Lts:=List (Nat×List Nat)
def ltPv(ls:Lts):PV:=.lst (ls.map fun l=>.tup [sg l.1,.str (mkS l.2)])
def keyL(ls:Lts)(c:Nat):Option Nat:=(ls.find? fun l=>decide (c∈l.2)).map (·.1)
def codeL(ls:Lts)(x:List Nat):Option (List Nat):=if x.all (fun c=>(keyL ls c).isSome)=true then some (x.map fun c=>(keyL ls c).getD 0) else none
theorem vP:∀l:List Nat,P5 "" (l.map fun c=>(⟨#[c]⟩:Str))=mkS l
 | []=>by rw[← gh];rfl
 | [a]=>rfl
 | a::b::r=>by
  have ih:=vP (b::r);have e:P5 "" (((a::b::r:List Nat)).map fun c=>(⟨#[c]⟩:Str))=(⟨#[a]⟩:Str)++""++P5 "" ((b::r).map fun c=>(⟨#[c]⟩:Str)):=rfl;rw[e,ih,ql,gh,lI,lI];rfl
theorem joinV (l:List Nat) (h:l.length<=1000):wk (.str "") (.lst (l.map sg))=some (.str (mkS l)):=by
 have e:l.map sg=(l.map fun c=>(⟨#[c]⟩:Str)).map PV.str:=by rw[L7];rfl
 rw[e,Dp,vP];rw[L7];have:(Pf ((fun x=>x.length) ∘ fun c=>({ cps:=#[c] }:Str)) l)=l.map fun _=>1:=rfl;rw[this];have:("":Str).length=0:=by decide +kernel
 have h2:∀l:List Nat,(l.map fun _=>1).sum=l.length:=fun l=>by
  induction l with
  | nil=>rfl
  | cons a r ih=>simp only[KG,List.sum_cons,ih,LK];omega
 rw[h2,this];omega
theorem mE(ls:Lts)(x:List Nat):(x.map fun c=>keyPv (keyL ls c)).all pX=true:=by
 rw[Nq];intro p hp;obtain⟨c,_,rfl⟩:=KU.mp hp;cases keyL ls c <;> rfl
theorem none_in(ls:Lts)(x:List Nat):gIn .non (.lst (x.map fun c=>keyPv (keyL ls c)))=some (.bl (!x.all fun c=>(keyL ls c).isSome)):=by
 have e:gIn .non (.lst (x.map fun c=>keyPv (keyL ls c)))=if pX .non=true/\(x.map fun c=>keyPv (keyL ls c)).all pX=true then some (.bl (inV (scV .non) ((x.map fun c=>keyPv (keyL ls c)).map scV))) else none:=rfl
 rw[e,if_pos ⟨rfl,mE ls x⟩]
 congr 2
 clear e
 induction x with
 | nil=>rfl
 | cons c r ih=>
  simp only[KG,Mi,Bool.not_and,inV,M4];rw[← ih];unfold inV;cases keyL ls c <;> simp[keyPv,sg,scV,eqV]
theorem in_list_comp{α:Type}{enc:α->PV}{h:Tgt}{fe:PSt->R PV}{ρ:PSt}(F:α->PV)(xs:List α)
  (hs:∀x∈xs,∃ρ1,h (enc x) ρ=some ρ1/\fe ρ1=.ok (F x)):cQ h mG fe ρ (xs.map enc)=.ok (xs.map F):=by
 have e:=kq (t:=mG) (fun _=>true) F xs fun x hx=>by
  obtain⟨ρ1,a,b⟩:=hs x hx;exact⟨ρ1,a,zA,fun _=>b⟩
 rw[List.filter_eq_self.mpr (fun _ _=>rfl)] at e;exact e
end WO
section
namespace PU
open PySem
theorem wF{α β:Type}{f:α->List β}{b:Nat}:∀{l:List α},(∀x∈l,(f x).length<=b)->(l.flatMap f).length<=l.length * b
 | [],_=>by simp
 | a::l,h=>by
  have:=wF (l:=l) fun x hx=>h x (LG _ hx);have h1:=h a (LO ..);simp only[ON,L0,LK,Nat.succ_mul];omega
end PU
namespace FA
open PySem L2 PU MT
@[simp] theorem yd:(KI "menu"=KI "names")=False:=by decide +kernel
@[simp] theorem ye:(KI "menu"=KI "hours")=False:=by decide +kernel
@[simp] theorem zO:(KI "menu"=KI "hand")=False:=by decide +kernel
@[simp] theorem Bb:(KI "menu"=KI "end")=False:=by decide +kernel
@[simp] theorem yb:(KI "names"=KI "menu")=False:=by decide +kernel
@[simp] theorem xw:(KI "names"=KI "hours")=False:=by decide +kernel
@[simp] theorem yc:(KI "names"=KI "hand")=False:=by decide +kernel
@[simp] theorem zN:(KI "names"=KI "end")=False:=by decide +kernel
@[simp] theorem yf:(KI "hours"=KI "menu")=False:=by decide +kernel
@[simp] theorem xx:(KI "hours"=KI "names")=False:=by decide +kernel
@[simp] theorem zP:(KI "hand"=KI "menu")=False:=by decide +kernel
@[simp] theorem yg:(KI "hand"=KI "names")=False:=by decide +kernel
@[simp] theorem yh:(KI "hand"=KI "hours")=False:=by decide +kernel
@[simp] theorem Bc:(KI "hand"=KI "end")=False:=by decide +kernel
@[simp] theorem Bd:(KI "end"=KI "menu")=False:=by decide +kernel
@[simp] theorem zQ:(KI "end"=KI "names")=False:=by decide +kernel
@[simp] theorem zR:(KI "end"=KI "hours")=False:=by decide +kernel
@[simp] theorem Be:(KI "end"=KI "hand")=False:=by decide +kernel
@[simp] theorem uf:(KI "first"=KI "letters")=False:=by decide +kernel
@[simp] theorem xy:(KI "first"=KI "rooms")=False:=by decide +kernel
@[simp] theorem ue:(KI "letters"=KI "rooms")=False:=by decide +kernel
def holds(hour:Int)(s:Int×Int×Str):Bool:=decide (s.1<=hour) && decide (hour<s.2.1)
def handOf(spans:List (Int×Int×Str))(last:Str)(hour:Int):Str:=match spans.find? (holds hour) with
 | some s=>s.2.2
 | none=>last
abbrev Rooms:=List (Str×Room)
def lookR(rs:Rooms)(n:Str):Option Room:=(rs.find? fun r=>decide (r.1=n)).map (·.2)
def names(rs:Rooms):List Str:=rs.map (·.1)
theorem n9(n:Str):∀rs:Rooms,cq (rs.map fun r=>.inr r.1) (rs.map fun r=>r.2.pv) (.inr n)=(lookR rs n).map Room.pv
 | []=>rfl
 | r::rs=>by
  have ih:=n9 n rs;unfold lookR at ih ⊢
  by_cases h:r.1=n
  ·simp[h]
  ·simp only[KG,mP]
   rw[if_neg (by simpa using h),Ng (by simpa using h)];exact ih
theorem ix_rooms(rs:Rooms)(n:Str):gIx (aK rs) (.str n)=(lookR rs n).map Room.pv:=n9 n rs
theorem look_some(rs:Rooms)(n:Str)(h:n∈names rs):∃r,lookR rs n=some r:=by
 unfold lookR;cases e:rs.find? fun r=>decide (r.1=n) with
 | some r=>exact⟨_,rfl⟩
 | none=>
  obtain⟨r,hr,e2⟩:=KU.mp h;exact absurd (Rn.mp e r hr) (by simpa using e2)
theorem keys_rooms(rs:Rooms):f6 (aK rs)=some ((names rs).map .str):=by
 have e:f6 (aK rs)=some ((rs.map fun r=>(ML r.1:Key)).map yE):=rfl;rw[e,L7];unfold names;rw[L7];rfl
end FA
end
namespace FA
open PySem L2 PU MT
theorem cut_from{α:Type}(xs:List α)(i:Nat)(h:i<xs.length):kJ xs (some ((i:Int)+1)) none=xs.drop (i+1):=by
 unfold kJ HT.sIx;simp;have e1:¬ ((i:Int)+1<0):=by omega
 have e2:((i:Int)+1).toNat=i+1:=by omega
 try simp[e1,e2]
 try rw[Nat.min_eq_left (by omega)]
 try exact Qh (by simp)
end FA
namespace MT
open PySem L2 PU
mutual
def flat:PV->Bool
 | .tup ps=>qF ps
 | .lst ps=>qF ps
 | .dct _ _=>false
 | .dtt _ _=>false
 | .fn _ _=>false
 | _=>true
def qF:List PV->Bool
 | []=>true
 | p::ps=>flat p && qF ps
end
mutual
theorem yp:∀(p:PV),flat p=true->bW p p=some true
 | .non,_=>by simp[bW]
 | .bl _,_=>by simp[bW]
 | .int _,_=>by simp[bW]
 | .str _,_=>by simp[bW]
 | .tup ps,h=>by
  simp only[bW];exact gI ps (by simpa [flat] using h)
 | .lst ps,h=>by
  simp only[bW];exact gI ps (by simpa [flat] using h)
 | .dct _ _,h=>by simp[flat] at h
 | .dtt _ _,h=>by simp[flat] at h
 | .fn _ _,h=>by simp[flat] at h
theorem gI:∀(ps:List PV),qF ps=true->di ps ps=some true
 | [],_=>by simp[di]
 | p::ps,h=>by
  simp only[qF,Lm] at h;simp only[di,yp p h.1,gI ps h.2,Pe,Bool.and_self]
end
def uT(rs:List (Str×Room))(k:Str)(r:Room):List (Str×Room):=if k∈rs.map (·.1) then rs.map (fun x=>if x.1=k then (x.1,r) else x) else rs++[(k,r)]
theorem Bg(rs:List (Str×Room))(k:Str)(r:Room):mK (rs.map fun r=>.inr r.1) (rs.map fun r=>r.2.pv) (.inr k) r.pv=aK (uT rs k r):=by
 unfold mK uT
 by_cases h:k∈rs.map (·.1)
 ·rw[if_pos h,if_pos (by
   obtain⟨x,hx,e⟩:=KU.mp h;rw[Px];exact⟨.inr x.1,KU.mpr ⟨x,hx,rfl⟩,by simp[e]⟩)]
  have e1:(rs.map fun x=>if x.1=k then (x.1,r) else x).map (fun r=>(ML r.1:Key))=rs.map fun r=>.inr r.1:=by
   rw[L7];apply Mm;intro x _;simp only[Mp]
   split <;> rfl
  have e2:kC (rs.map fun r=>.inr r.1) (rs.map fun r=>r.2.pv) (.inr k) r.pv=(rs.map fun x=>if x.1=k then (x.1,r) else x).map fun r=>r.2.pv:=by
   unfold kC;clear h e1
   induction rs with
   | nil=>rfl
   | cons x rs ih=>
    simp only[KG,MI,ih,Q7]
    congr 1
    split <;> rfl
  unfold aK;rw[e1,e2]
 ·rw[if_neg h,if_neg (by
   rw[Px];rintro⟨j,hj,e⟩;obtain⟨x,hx,rfl⟩:=KU.mp hj;exact h (KU.mpr ⟨x,hx,by simpa using e⟩))]
  unfold aK;simp
theorem Bh{rs:List (Str×Room)}{k:Str}{r:Room}(P:Str×Room->Prop)(h:∀x∈rs,P x)(hk:∀x:Str×Room,x.1=k->x.2=r->P x)(nd:(rs.map (·.1)).Nodup) :
  (∀x∈uT rs k r,P x)/\((uT rs k r).map (·.1)).Nodup/\(uT rs k r).length<=rs.length+1:=by
 unfold uT
 by_cases hm:k∈rs.map (·.1)
 ·rw[if_pos hm]
  refine⟨fun x hx=>?_,?_,by simp⟩
  ·obtain⟨y,hy,e⟩:=KU.mp hx
   by_cases hyk:y.1=k
   ·rw[if_pos hyk] at e
    subst e;exact hk _ hyk rfl
   ·rw[if_neg hyk] at e
    subst e;exact h _ hy
  ·rw[L7]
   have:(rs.map ((fun x=>x.1) ∘ fun x=>if x.1=k then (x.1,r) else x))=rs.map (·.1):=by
    apply Mm;intro x _;simp only[Mp]
    split <;> rfl
   rw[this];exact nd
 ·rw[if_neg hm]
  refine⟨fun x hx=>?_,?_,by simp⟩
  ·rcases LW.mp hx with hx | hx
   ·exact h x hx
   ·have:x=(k,r):=by simpa using hx
    subst this;exact hk _ rfl rfl
  ·rw[L8,M6]
   refine⟨nd,by simp,fun a ha b hb e=>?_⟩;have:b=k:=by simpa using hb
   subst this;subst e;exact hm ha
end MT
namespace NM
open PySem L2 PU MT
def c24:List Nat:=[97,99,100,101,102,103,104,105,106,108,109,110,111,112,113,114,115,116,117,118,119,120,121,122]
def En(n:Int):Nat:=(1+n % 8).toNat
def JQ(n:Int):Int:=n / 8 % (1+n % 8)
def Eo(n:Int)(t k:Nat):Nat:=c24.getD ((n / ((k:Int)+2)+(t:Int) * (if (k:Int)=JQ n then 1 else 0)) % 24).toNat 0
def BM(n:Int)(t i:Nat):List Nat:=(KM i).map (Eo n t)
def nm(n:Int)(t:Nat):Str:=mkS (BM n t (En n))
theorem Jk(ss:List Str)(i:Nat)(hi:i<ss.length):atI (ss.map PV.str) (i:Int)=some (.str ss[i]):=bY rfl (by
 rw[L3,LY hi];rfl)
theorem BS(rs:FA.Rooms)(k:Str)(r:Room)(x:Str):x∈FA.names (uT rs k r) ↔ x∈FA.names rs\/x=k:=by
 unfold FA.names uT
 by_cases h:k∈rs.map (·.1)
 ·rw[if_pos h,L7]
  have:(rs.map ((fun x=>x.1) ∘ fun x=>if x.1=k then (x.1,r) else x))=rs.map (·.1):=by
   apply Mm;intro x _;simp only[Mp]
   split <;> rfl
  rw[this];exact⟨.inl,fun z=>z.elim id fun e=>e▸h⟩
 ·rw[if_neg h]
  simp
def comeGo(rs:FA.Rooms)(hour:Int):Nat->Str->Option Str
 | 0,_=>none
 | n+1,x=>match FA.lookR rs x with
  | some (.hours sp l)=>comeGo rs hour n (FA.handOf sp l hour)
  | some _=>some x
  | none=>none
theorem vt(rs:FA.Rooms)(n:Str)(r:Room)(h:FA.lookR rs n=some r):(n,r)∈rs:=by
 unfold FA.lookR at h;cases e:rs.find? fun r=>decide (r.1=n) with
 | none=>rw[e] at h;cases h
 | some q=>
  rw[e] at h;cases h;have h1:=Q5 e;have h1:q.1=n:=by simpa using h1
  subst h1;exact Md e
end NM
section
namespace PU
open PySem L2
def H9(p:PV)(lh:Option Int×Option Int):R PV:=R.ofO (yP p lh.1 lh.2)
@[simp] theorem JU(p:PV)(a b:Option Int):H9 p (a,b)=R.ofO (yP p a b):=by unfold H9;exact LP _
@[simp] theorem G3{f:PSt->R PV}{l h:PSt->R (Option Int)}{ρ:PSt}:k8 f l h ρ=oK H9 (f ρ) (oK kD (l ρ) (h ρ)):=by unfold k8;cases f ρ <;> cases l ρ <;> cases h ρ <;> rfl
theorem AR{x:Str}(lo hi:Option Int)(h:x.length<=16777216):yP (.str x) lo hi=some (.str (M3 x lo hi)):=if_pos h
@[simp] theorem Dj(ps:List PV)(lo hi:Option Int):yP (.lst ps) lo hi=some (.lst (kJ ps lo hi)):=rfl
end PU
namespace NM
open PySem L2 PU MT
theorem fD(ls:List Int)(k:Nat)(hk:k<ls.length):atI (ls.map PV.int) (k:Int)=some (.int ls[k]):=bY rfl (by rw[L3,LY hk];rfl)
theorem cut_1{α:Type}(xs:List α)(h:0<xs.length):kJ xs (some 1) none=xs.drop 1:=FA.cut_from xs 0 h
theorem FL{α:Type}(xs:List α)(n:Nat)(h:n<=xs.length):kJ xs none (some (n:Int))=xs.take n:=by
 have e:HT.sIx xs.length xs.length (some (n:Int))=n:=by
  simp only[HT.sIx];rw[if_neg (by omega)];omega
 unfold kJ;rw[e];show (xs.drop 0).take (n-0)=_;rfl
end NM
end
section
namespace PU
open PySem L2 MT
def GB:PV->PV->R (List PV)
 | .lst ps,.lst qs=>if (ps.all iW || qs.all iW)=true then .ok ((xI ps qs).map .tup) else .no
 | _,_=>.no
@[simp] theorem EM(ps qs:List PV)(h:(ps.all iW || qs.all iW)=true):GB (.lst ps) (.lst qs)=.ok ((xI ps qs).map .tup):=by unfold GB;exact if_pos h
@[simp] theorem pL{α:Type}(f:α->Str)(l:List α):(l.map fun x=>PV.str (f x)).all iW=true:=by induction l <;> simp_all [iW]
@[simp] theorem IA{f g:PSt->R PV}{ρ:PSt}:FZ f g ρ=oK GB (f ρ) (g ρ):=by
 unfold FZ;cases f ρ with
 | ok p=>
  cases g ρ with
  | ok q=>rw[R.ok_bind,R.ok_bind,vN];cases p <;> cases q <;> rfl
  | er x=>rfl
  | no=>rfl
 | er x=>rfl
 | no=>rfl
def Gz(fe fd:PSt->R PV)(g:PV->PV->PV->Option PV)(ρ:PSt)(p:PV):R PV:=if C4 p=true then oK (fun q y=>R.ofO (g p q y)) (fe ρ) (fd ρ) else .no
@[simp] theorem Ja(fe fd:PSt->R PV)(g:PV->PV->PV->Option PV)(ρ:PSt)(ks:List Key)(ps:List PV):Gz fe fd g ρ (.dct ks ps)=oK (fun q y=>R.ofO (g (.dct ks ps) q y)) (fe ρ) (fd ρ):=by unfold Gz;exact if_pos rfl
@[simp] theorem G6{fo fe fd:PSt->R PV}{g:PV->PV->PV->Option PV}{ρ:PSt}:rN fo fe fd g ρ=jz (Gz fe fd g ρ) (fo ρ):=by
 unfold rN;cases fo ρ with
 | ok p=>
  rw[R.ok_bind,lQ];unfold Gz
  split
  ·cases fe ρ with
   | ok q=>cases fd ρ <;> rfl
   | er x=>rfl
   | no=>rfl
  ·rfl
 | er x=>rfl
 | no=>rfl
theorem nO(l:List Nat)(n:Nat):M3 (mkS l) none (some (n:Int))=mkS (l.take n):=by
 have main:∀m:Nat,m<=l.length->M3 (mkS l) none (some (m:Int))=mkS (l.take m):=fun m hm=>by
  have e:=PySem.StrLaws.sliceText_to (x:=mkS l) (j:=m) ⟨by omega,by rw[gK];omega⟩;have e2:M3 (mkS l) none (some (m:Int))=PySem.StrLaws.sliceText (mkS l) none (some (m:Int)):=rfl;rw[e2,e,gK];have:((m:Int)-0).toNat=m:=by omega
  rw[this];rfl
 by_cases h:n<=l.length
 ·exact main n h
 ·have e:M3 (mkS l) none (some (n:Int))=M3 (mkS l) none (some (l.length:Int)):=by
   have e1:Nn none (some (n:Int)) 1 (mkS l).length=Nn none (some (l.length:Int)) 1 (mkS l).length:=by
    rw[dU];unfold Nn;have a:¬ ((n:Int)<0):=by omega
    have b:¬ ((l.length:Int)<0):=by omega
    have c:max (0:Int) (min (n:Int) (l.length:Int))=max 0 (min (l.length:Int) (l.length:Int)):=by omega
    simp only[a,b,if_false,c,show (1:Int) > 0 from by decide,if_true]
   unfold M3;rw[e1]
  rw[e,main l.length (L9 _),List.take_length,Qh (by omega)]
end PU
namespace BG
open PySem L2 PU MT
abbrev W:=List Nat
def pre(p c:W):Bool:=p.isPrefixOf c
theorem jJ{p c:W}:pre p c=true ↔ p <+: c:=List.isPrefixOf_iff_prefix
def many(cs:List W)(p:W):Nat:=(cs.filter (pre p)).length
def own(cs:List W)(c:W):W:=match (KM (c.length-1)).find? (fun i=>decide (many cs (c.take (i+1))=1)) with
 | some i=>c.take (i+1)
 | none=>c
def Code(c:W):Prop:=∃x:W,c=x++[35]/\35 ∉ x
theorem zi{c d:W}(hc:Code c)(hd:Code d)(h:c <+: d):c=d:=by
 obtain⟨x,rfl,hx⟩:=hc;obtain⟨y,rfl,hy⟩:=hd;obtain⟨t,e⟩:=h;cases ht:t.reverse with
 | nil=>
  have:t=[]:=by simpa using ht
  rw[this,Ly] at e;exact e
 | cons a r=>
  exfalso
  have e1:t=r.reverse++[a]:=by
   have:=congrArg List.reverse ht;simpa using this
  rw[e1,← N1] at e;have e2:=List.append_inj' e rfl;exact hy (by rw[← e2.1];simp)
theorem o9(cs:List W)(c:W):own cs c <+: c:=by
 unfold own
 split
 ·exact N6 _ _
 ·exact OU _
theorem zU(cs:List W)(c:W)(h:c≠[]):own cs c≠[]:=by
 unfold own
 split
 ·intro e
  cases c with
  | nil=>exact h rfl
  | cons a r=>simp at e
 ·exact h
theorem vb{cs:List W}(hcs:∀c∈cs,Code c){c d:W}(hc:c∈cs)(hd:d∈cs)(h:own cs c <+: d):c=d:=by
 unfold own at h;split at h
 ·rename_i i e
  have h1:many cs (c.take (i+1))=1:=by simpa using Q5 e
  unfold many at h1;have m1:c∈cs.filter (pre (c.take (i+1))):=M8.mpr ⟨hc,jJ.mpr (N6 _ _)⟩;have m2:d∈cs.filter (pre (c.take (i+1))):=M8.mpr ⟨hd,jJ.mpr h⟩;generalize cs.filter (pre (c.take (i+1)))=l at h1 m1 m2
  match l,h1,m1,m2 with
  | [a],_,m1,m2=>rw[Ky.mp m1,Ky.mp m2]
 ·exact zi (hcs c hc) (hcs d hd) h
theorem Bl{p q r:W}(hp:p <+: r)(hq:q <+: r):p <+: q\/q <+: p:=by
 rcases Nat.le_total p.length q.length with h | h
 ·exact .inl (Pk hp hq h)
 ·exact .inr (Pk hq hp h)
theorem vc{cs:List W}(hcs:∀c∈cs,Code c){c d r:W}(hc:c∈cs)(hd:d∈cs)(h1:own cs c <+: r)(h2:own cs d <+: r):c=d:=by
 rcases Bl h1 h2 with h | h
 ·exact vb hcs hc hd (OS h (o9 cs d))
 ·exact(vb hcs hd hc (OS h (o9 cs c))).symm
def ug(c:W):List W:=(KM c.length).map fun i=>c.take (i+1)
theorem wZ{l:List W}{p:W}(nd:l.Nodup)(h:p∈l):l.count p=1:=by
 induction l with
 | nil=>cases h
 | cons a r ih=>
  rw[Le] at nd
  by_cases e:a=p
  ·subst e
   rw[List.count_cons_self,PY.mpr nd.1]
  ·rw[List.count_cons_of_ne e]
   exact ih nd.2 ((L4.mp h).resolve_left fun z=>e z.symm)
theorem tX(c p:W):(ug c).count p=if p≠[]/\p <+: c then 1 else 0:=by
 have nd:(ug c).Nodup:=by
  unfold ug List.Nodup;rw[Ry];refine Pb (R:=fun a b=>a<b) (fun {a b} ha hb hab e=>?_) Qi;rw[MS] at ha hb;have:=congrArg Lz e;rw[Mo,Mo] at this;omega
 by_cases h:p≠[]/\p <+: c
 ·rw[if_pos h]
  refine wZ nd ?_;unfold ug;refine KU.mpr ⟨p.length-1,MS.mpr ?_,?_⟩
  ·have:=h.2.length_le
   have:p.length≠0:=fun e=>h.1 (OV.mp e);omega
  ·have:p.length≠0:=fun e=>h.1 (OV.mp e)
   rw[show p.length-1+1=p.length by omega];exact(Na.mp h.2).symm
 ·rw[if_neg h]
  refine PY.mpr fun hm=>h ?_;unfold ug at hm;obtain⟨i,hi,rfl⟩:=KU.mp hm;rw[MS] at hi;refine⟨fun e=>?_,N6 _ _⟩;have:=congrArg Lz e;rw[Mo,Mg] at this;omega
theorem x4(cs:List W)(p:W)(hp:p≠[]):(cs.flatMap ug).count p=many cs p:=by
 induction cs with
 | nil=>rfl
 | cons c r ih=>
  rw[ON,S5,ih,tX];unfold many
  by_cases h:p <+: c
  ·rw[if_pos ⟨hp,h⟩,OX (jJ.mpr h),LK]
   omega
  ·rw[if_neg fun z=>h z.2,OY fun z=>h (jJ.mp z)]
   omega
structure Cnt(L:List W)(ks:List Key)(ps:List PV):Prop where
 len:ks.length=ps.length
 le:ks.length<=L.length
 at_:∀p:W,cq ks ps (.inr (mkS p))=if L.count p=0 then none else some (.int (L.count p))
theorem mkS_inj{a b:W}(h:mkS a=mkS b):a=b:=by
 have:=congrArg (fun s:Str=>s.cps.toList) h;simpa using this
theorem look_put(ks:List Key)(ps:List PV)(k:Key)(v:PV)(hl:ks.length=ps.length):∃ks' ps',mK ks ps k v=.dct ks' ps'/\ks'.length=ps'.length/\ks'.length<=ks.length+1/\∀j,cq ks' ps' j=if k=j then some v else cq ks ps j:=by
 unfold mK
 by_cases hk:(ks.any fun j=>decide (j=k))=true
 ·rw[if_pos hk]
  refine⟨ks,kC ks ps k v,rfl,by simp[kC,hl],by omega,fun j=>?_⟩
  induction ks generalizing ps with
  | nil=>simp at hk
  | cons a ks ih=>
   cases ps with
   | nil=>simp at hl
   | cons b ps=>
    have hl':ks.length=ps.length:=by simpa using hl
    have e:kC (a::ks) (b::ps) k v=(if a=k then v else b)::kC ks ps k v:=rfl;rw[e];simp only[mP]
    by_cases haj:a=j
    ·rw[if_pos haj,if_pos haj]
     by_cases hkj:k=j
     ·rw[if_pos (haj.trans hkj.symm),if_pos hkj]
     ·rw[if_neg fun z=>hkj (z.symm.trans haj),if_neg hkj]
    ·rw[if_neg haj,if_neg haj]
     by_cases hk2:(ks.any fun j=>decide (j=k))=true
     ·exact ih ps hl' hk2
     ·have hak:a=k:=by
       rw[M4] at hk;simp only[Q6,decide_eq_true_eq] at hk;exact hk.resolve_right hk2
      have hkj:¬ k=j:=fun z=>haj (hak.trans z);rw[if_neg hkj]
      have:kC ks ps k v=ps:=by
       clear ih hk e hl
       induction ks generalizing ps with
       | nil=>cases ps with
        | nil=>rfl
        | cons=>simp at hl'
       | cons c ks ih=>
        cases ps with
        | nil=>simp at hl'
        | cons d ps=>
         have e:kC (c::ks) (d::ps) k v=(if c=k then v else d)::kC ks ps k v:=rfl;rw[M4] at hk2;simp only[Q6,decide_eq_true_eq,not_or] at hk2;rw[e,if_neg hk2.1,ih ps (by simpa using hl') hk2.2]
      rw[this]
 ·rw[if_neg hk]
  refine⟨ks++[k],ps++[v],rfl,by simp[hl],by simp,fun j=>?_⟩
  induction ks generalizing ps with
  | nil=>
   cases ps with
   | nil=>simp[cq]
   | cons=>simp at hl
  | cons a ks ih=>
   cases ps with
   | nil=>simp at hl
   | cons b ps=>
    rw[M4] at hk;simp only[Q6,decide_eq_true_eq,not_or] at hk;simp only[N9,mP]
    by_cases haj:a=j
    ·rw[if_pos haj,if_pos haj,if_neg fun z=>hk.1 (haj.trans z.symm)]
    ·rw[if_neg haj,if_neg haj]
     exact ih ps (by simpa using hl) hk.2
theorem Cy{L:List W}{ks:List Key}{ps:List PV}(c:Cnt L ks ps)(p:W):∃ks' ps',mK ks ps (.inr (mkS p)) (.int ((L.count p:Int)+1))=.dct ks' ps'/\Cnt (L++[p]) ks' ps':=by
 obtain⟨ks',ps',e,h1,h2,h3⟩:=look_put ks ps (.inr (mkS p)) (.int ((L.count p:Int)+1)) c.len;refine⟨ks',ps',e,h1,by rw[L0,Lv];have:=c.le;omega,fun q=>?_⟩;rw[h3,S5]
 by_cases hq:p=q
 ·subst hq
  rw[if_pos rfl,List.count_singleton_self,if_neg (by omega)]
  congr 2
 ·rw[if_neg fun z=>hq (mkS_inj (NI z)),c.at_ q]
  have:List.count q [p]=0:=PY.mpr (by simp;exact fun z=>hq z.symm);rw[this,Nat.add_zero]
theorem Cz{L:List W}{ks:List Key}{ps:List PV}(c:Cnt L ks ps)(p:W):tR (.dct ks ps) (.str (mkS p)) (.int 0)=some (.int (L.count p)):=by
 show some ((cq ks ps (.inr (mkS p))).getD (.int 0))=_;rw[c.at_ p]
 split
 ·rename_i h
  rw[h];rfl
 ·rfl
end BG
end
namespace NW
open PySem L2 PU MT BG
def kz(p:W)(o:Option PV)(x:W×Str):Option PV:=if x.1=p then some (.str x.2) else if p≠[]/\p <+: x.1 then some .non else o
def AI(bs:List (W×Str))(p:W):Option PV:=bs.foldl (kz p) none
def xE(p:W)(x:W×Str):Bool:=decide (p≠[]) && pre p x.1
theorem ib{p:W}{x:W×Str}:xE p x=true ↔ p≠[]/\p <+: x.1:=by simp[xE,jJ]
theorem j3(p:W)(hp:p≠[]):∀(bs:List (W×Str))(o:Option PV),bs.foldl (kz p) o=match (bs.filter (xE p)).getLast? with
  | none=>o
  | some x=>if x.1=p then some (.str x.2) else some .non
 | [],o=>rfl
 | x::bs,o=>by
  rw[Om,j3 p hp bs]
  by_cases h:xE p x=true
  ·rw[OX h]
   have h':=(ib.mp h)
   have e:kz p o x=if x.1=p then some (.str x.2) else some .non:=by
    unfold kz;rw[if_pos h']
   cases hl:bs.filter (xE p) with
   | nil=>simp only[List.getLast?_nil,List.getLast?_singleton];exact e
   | cons a r=>
    rw[List.getLast?_cons_cons];cases hg:(a::r).getLast? with
    | none=>simp at hg
    | some y=>rfl
  ·rw[OY h]
   have h':¬ (p≠[]/\p <+: x.1):=fun z=>h (ib.mpr z)
   have e:kz p o x=o:=by
    unfold kz;rw[if_neg h',if_neg fun e=>h' ⟨hp,by rw[e];exact OU _⟩]
   rw[e]
section
variable{bs : List (W×Str)}(hne : ∀x ∈ bs, x.1 ≠ [])(hpf : ∀x ∈ bs, ∀y ∈ bs, x.1 <+: y.1 → x = y)
include hne hpf
theorem xM{x:W×Str}(hx:x∈bs):AI bs x.1=some (.str x.2):=by
 unfold AI;rw[j3 x.1 (hne x hx)];have m:x∈bs.filter (xE x.1):=M8.mpr ⟨hx,ib.mpr ⟨hne x hx,OU _⟩⟩;cases e:(bs.filter (xE x.1)).getLast? with
 | none=>rw[QN.mp e] at m;cases m
 | some y=>
  have my:=M8.mp (RE e);have:=hpf x hx y my.1 (ib.mp my.2).2;subst this;simp
theorem xK{x:W×Str}(hx:x∈bs){p:W}(hp:p≠[])(h1:p <+: x.1)(h2:p≠x.1):AI bs p=some .non:=by
 unfold AI;rw[j3 p hp];have m:x∈bs.filter (xE p):=M8.mpr ⟨hx,ib.mpr ⟨hp,h1⟩⟩;cases e:(bs.filter (xE p)).getLast? with
 | none=>rw[QN.mp e] at m;cases m
 | some y=>
  have my:=M8.mp (RE e)
  have h3:¬ y.1=p:=fun z=>by
   have:y=x:=hpf y my.1 x hx (by rw[z];exact h1);exact h2 (by rw[← z,this])
  simp only[if_neg h3]
omit hpf in
theorem uu{p:W}(h:∀x∈bs,p≠[]->¬ p <+: x.1):AI bs p=none:=by
 unfold AI
 by_cases hp:p=[]
 ·subst hp
  have:∀(l:List (W×Str)),(∀x∈l,x.1≠[])->l.foldl (kz []) none=none:=by
   intro l
   induction l with
   | nil=>intro _;rfl
   | cons x l ih=>
    intro hl;rw[Om]
    have e:kz [] none x=none:=by
     unfold kz;rw[if_neg (hl x LO),if_neg (by simp)]
    rw[e];exact ih fun y hy=>hl y (LG _ hy)
  exact this bs hne
 ·rw[j3 p hp]
  have:bs.filter (xE p)=[]:=List.filter_eq_nil_iff.mpr fun x hx z=>h x hx hp (ib.mp z).2;rw[this];rfl
end
structure Tells(ks:List Key)(ps:List PV)(F:W->Option PV):Prop where
 len:ks.length=ps.length
 at_:∀p,cq ks ps (.inr (mkS p))=F p
 nf:∀x∈ps,noFn x=true
theorem gJ:∀ps:List PV,aY ps=true ↔ ∀p∈ps,noFn p=true
 | []=>by simp[aY]
 | p::ps=>by
  have e:aY (p::ps)=(noFn p && aY ps):=by simp[aY]
  rw[e,Lm,gJ ps];constructor
  ·rintro⟨h1,h2⟩ q hq
   rcases L4.mp hq with rfl | hq
   ·exact h1
   ·exact h2 q hq
  ·intro h
   exact⟨h p (by simp),fun q hq=>h q (by simp[hq])⟩
theorem uo{k:Key}{v x:PV}:∀(ks:List Key)(ps:List PV),x∈ks.zipWith (fun j q=>if j=k then v else q) ps->x∈ps\/x=v
 | [],_,h=>by simp at h
 | _::_,[],h=>by simp at h
 | j::ks,p::ps,h=>by
  rw[MI] at h;rcases L4.mp h with h | h
  ·by_cases e:j=k
   ·rw[if_pos e] at h;exact .inr h
   ·rw[if_neg e] at h;exact .inl (by simp[h])
  ·rcases uo ks ps h with h | h
   ·exact .inl (by simp[h])
   ·exact .inr h
theorem uR{ks ks':List Key}{ps ps':List PV}{k:Key}{v:PV}(e:mK ks ps k v=.dct ks' ps'){x:PV}(hx:x∈ps'):x∈ps\/x=v:=by
 unfold mK at e;split at e
 ·injection e with e1 e2
  subst e2;exact uo ks ps hx
 ·injection e with e1 e2
  subst e2;simpa using hx
theorem Tells.put{ks:List Key}{ps:List PV}{F:W->Option PV}(h:Tells ks ps F)(p0:W)(v:PV)(hv:noFn v=true):∃ks' ps',mK ks ps (.inr (mkS p0)) v=.dct ks' ps'/\ks'.length<=ks.length+1/\Tells ks' ps' (fun p=>if p0=p then some v else F p):=by
 obtain⟨ks',ps',e,h1,h2,h3⟩:=look_put ks ps (.inr (mkS p0)) v h.len;refine⟨ks',ps',e,h2,h1,fun p=>?_,fun x hx=>(uR e hx).elim (h.nf x) fun z=>z▸hv⟩;rw[h3,h.at_]
 by_cases hp:p0=p
 ·rw[if_pos hp,if_pos (by rw[hp])]
 ·rw[if_neg hp,if_neg fun z=>hp (mkS_inj (NI z))]
theorem rS{k:Key}:∀(ks:List Key)(ps:List PV),ks.length=ps.length->(ks.any fun j=>decide (j=k))=(cq ks ps k).isSome
 | [],[],_=>rfl
 | [],_::_,h=>by simp at h
 | _::_,[],h=>by simp at h
 | j::ks,p::ps,h=>by
  rw[mP,M4]
  by_cases e:j=k
  ·simp[e]
  ·rw[if_neg e,rS ks ps (by simpa using h)]
   simp[e]
theorem Tells.notIn{ks:List Key}{ps:List PV}{F:W->Option PV}(h:Tells ks ps F)(p:W):iB (.str (mkS p)) (.dct ks ps)=some (.bl (!(F p).isSome)):=by
 have e:iB (.str (mkS p)) (.dct ks ps)=some (.bl (!(ks.any fun j=>decide (j=.inr (mkS p))))):=rfl;rw[e,rS ks ps h.len,h.at_]
theorem Tells.ix{ks:List Key}{ps:List PV}{F:W->Option PV}(h:Tells ks ps F)(p:W):gIx (.dct ks ps) (.str (mkS p))=F p:=h.at_ p
def zG(wt:List (W×Str)):PV:=.tup (wt.map fun p=>.tup [.str (mkS p.1),.str p.2])
def wtD(wt:List (W×Str)):PV:=.dct (wt.map fun p=>.inr (mkS p.1)) (wt.map fun p=>.str p.2)
theorem oZ:∀wt:List (W×Str),kc (wt.map fun p=>PV.tup [.str (mkS p.1),.str p.2])=some (wt.map fun p=>(.inr (mkS p.1),.str p.2))
 | []=>rfl
 | p::wt=>by
  rw[KG,KG];unfold kc;rw[oZ wt];rfl
theorem qg{ks:List Key}{ps:List PV}{k:Key}{v:PV}(h:k ∉ ks):mK ks ps k v=.dct (ks++[k]) (ps++[v]):=by
 unfold mK;rw[if_neg]
 ·simpa using h
theorem wD:∀(wt:List (W×Str))(ks:List Key)(ps:List PV),((wt.map (·.1)).Nodup)->(∀p∈wt,(.inr (mkS p.1):Key) ∉ ks)->(wt.map fun p=>((.inr (mkS p.1):Key),PV.str p.2)).foldl AH (.dct ks ps)=.dct (ks++wt.map fun p=>.inr (mkS p.1)) (ps++wt.map fun p=>.str p.2)
 | [],ks,ps,_,_=>by simp
 | p::wt,ks,ps,nd,hk=>by
  rw[KG,Om];have e:AH (.dct ks ps) (.inr (mkS p.1),.str p.2)=.dct (ks++[.inr (mkS p.1)]) (ps++[.str p.2]):=qg (hk p LO);rw[e,wD wt _ _ (Le.mp nd).2]
  ·simp
  ·intro q hq z
   rcases LW.mp z with z | z
   ·exact hk q (LG _ hq) z
   ·have z:=NI (Ky.mp z)
    have z:=mkS_inj z;exact(Le.mp nd).1 (KU.mpr ⟨q,hq,z⟩)
theorem wR(wt:List (W×Str))(hl:wt.length<=1000)(nd:(wt.map (·.1)).Nodup):pJ (zG wt)=some (wtD wt):=by
 have e:pJ (zG wt)=if (wt.map fun p=>PV.tup [.str (mkS p.1),.str p.2]).length<=1000 then (kc (wt.map fun p=>PV.tup [.str (mkS p.1),.str p.2])).map gL else none:=rfl
 rw[e,if_pos (by simpa using hl),oZ];show some (gL _)=_;have m:∀l,gL l=l.foldl AH (.dct [] []):=fun l=>rfl;rw[m,wD wt [] [] nd (by simp)];simp[wtD]
theorem BU(wt:List (W×Str)):nA (wtD wt)=some (.lst (wt.map fun p=>.str (mkS p.1))):=by
 show some (PV.lst ((wt.map fun p=>(.inr (mkS p.1):Key)).map yE))=_;rw[L7];rfl
theorem xU(wt:List (W×Str))(nd:(wt.map (·.1)).Nodup){p:W×Str}(hp:p∈wt):cq (wt.map fun p=>.inr (mkS p.1)) (wt.map fun p=>.str p.2) (.inr (mkS p.1))=some (.str p.2):=by
 induction wt with
 | nil=>cases hp
 | cons q wt ih=>
  rw[KG,KG,mP];rcases L4.mp hp with rfl | h
  ·rw[if_pos rfl]
  ·have nd':=Le.mp nd
   rw[if_neg fun z=>nd'.1 (KU.mpr ⟨p,h,(mkS_inj (NI z)).symm⟩)];exact ih nd'.2 h
theorem pF{α β:Type}(f:α->β):∀(l:List α),(l.map f).Nodup->∀x∈l,∀y∈l,f x=f y->x=y
 | [],_,x,hx,_,_,_=>by cases hx
 | a::l,nd,x,hx,y,hy,e=>by
  rw[KG,Le] at nd;rcases L4.mp hx with h1 | h1
  ·rcases L4.mp hy with h2 | h2
   ·rw[h1,h2]
   ·exact absurd (KU.mpr ⟨y,h2,by rw[← e,h1]⟩) nd.1
  ·rcases L4.mp hy with h2 | h2
   ·exact absurd (KU.mpr ⟨x,h1,by rw[e,h2]⟩) nd.1
   ·exact pF f l nd.2 x h1 y h2 e
end NW
namespace PU
open PySem L2
theorem xZ{m n:Nat}{g:PSt->R Fl}{ps:List PV}{p:PV}(hl:ps.length=m)(h:g (PU.start n ps)=.ok (.ret p)):runN m n g ps=some p:=by
 unfold runN;rw[if_pos hl,h]
@[simp] theorem GE(p:PV)(ρ:PSt):zM 0 (.own p::ρ)=.ok (.ret p):=by unfold zM;exact LP _
@[simp] theorem GD(i:Nat)(l:Sl)(ρ:PSt):zM (i+1) (l::ρ)=zM i ρ:=by unfold zM;rw[LB]
end PU
namespace K38
open PySem L2 PU
noncomputable section
abbrev eK:Addr:=160
def gY:Stmt:=(bM (Lf.main.body.getD 30 (.Pass ⟨0,0,0,0⟩))).getD 2 (.Pass ⟨0,0,0,0⟩)
def gX:Stmt:=(bM (Lf.main.body.getD 30 (.Pass ⟨0,0,0,0⟩))).getD 3 (.Pass ⟨0,0,0,0⟩)
abbrev PTS:List Addr:=[eK]
abbrev tw (w:LI):TW:={ w:=w,tabs:=PTS,qual:=fun l _=>if l=(sE ⟨0,0,0,0⟩ gX).line then "compare.<locals>.is_apart" else if l=(sE ⟨0,0,0,0⟩ gY).line then "compare.<locals>.lead" else "x" }
theorem mR{w:LI}:eK∈@TW.tabs (tw w):=.head _
def c_CODE_END:PV:=(.str "#")
def c_HEARD:PV:=(.dct [(.inr "menu"),(.inr "names"),(.inr "hand"),(.inr "end")] [(.str "asked"),(.str "asked"),(.str "hand"),(.str "end")])
def c_SIGNS:PV:=(.str "0123456789*#w")
def c_WAIT:PV:=(.str "w")
def eX:PSt->R Fl:=(aH (oG 2 (aj (ai 3) (kI 5040) bz)) (bS 3 (aj (ai 3) (kI 5040) ki)))
def eW:PSt->R Fl:=(aH (bS 3 (aj (aj (aj (aj (ai 3) (ai 4) cj) (kI 1) cj) (kI 48271) wj) (kI 2147483647) bz)) (oG 2 (aj (aj (ai 3) (kI 69621) wj) (kI 2147483629) bz)))
def eB:PSt->R Fl:=(aH (lG 2 (cI ay)) (aH (bS 3 (aj (ai 0) (kI 2) ki)) (aH (ifF (bq (aj (aj (ai 0) (kI 2) bz) (kI 1) gEq)) (aH (kG (zL (ai 1)) (az 4) eX) (qE 2 (ck (ai 2)))) b0) (aH (bS 3 (aj (ai 3) (kI 2147483647) bz)) (aH (kG (zL (aj (ai 1) (kI 1) cj)) (az 4) eW) (ck (bV (dz 2) (d9 (kI 1)) bA)))))))
def aV:List PV->Option PV:=eZ 2 5 eB
def dQ:PSt->R Fl:=(ifF (bq (aj (aj (aj (ai 2) (ai 4) gIx) (kI 3) bz) (kI 0) gEq)) (oG 3 (cg (ab (ai 5) (ab (aj (aj (ai 2) (aj (ai 4) (kI 12) cj) gIx) (kI 7) bz) ay)))) b0)
def jU:PSt->R Fl:=(aH (bS 2 (aD (ab (ai 1) (ab (kI 30) ay)) aV)) (aH (lG 3 (cI ay)) (aH (kG (wL (kS "0123456789*#")) (iq 2 (aT (az 4) (aT (az 5) ir))) dQ) (qE 3 (ck (cI (ab (kS "menu") (ab (ai 0) (ab (ai 3) (ab (cg (ab (aj (kI 1) (aj (aj (ai 2) (kI 24) gIx) (kI 2) bz) cj) (ab (aj (aj (ai 2) (kI 25) gIx) (kI 6) bz) ay))) (ab (cg (ab (aj (kI 1) (aj (aj (ai 2) (kI 26) gIx) (kI 2) bz) cj) (ab (aj (aj (ai 2) (kI 27) gIx) (kI 6) bz) ay))) ay)))))))))))
def dD:List PV->Option PV:=eZ 2 6 jU
def eC:PSt->R Fl:=(aH (ifF (bq (aj (ai 1) (un1 (ai 0) gT) gLt)) (ck (aj (ai 0) (ai 1) gIx)) b0) (ck (kI 0)))
def ax:List PV->Option PV:=eZ 2 2 eC
def jS:PSt->R Fl:=(aH (lG 1 (cI (ab (aD (ab (kS "Hello") (ab (aD (ab (ai 0) (ab (kI 1) ay)) ax) ay)) dD) (ab (aD (ab (kS "Again") (ab (aj (aD (ab (ai 0) (ab (kI 2) ay)) ax) (kI 7919) cj) ay)) dD) ay)))) (aH (bS 2 (aD (ab (aD (ab (ai 0) (ab (kI 3) ay)) ax) (ab (kI 20) ay)) aV)) (aH (ifF (bq (aj (aj (aj (ai 2) (kI 11) gIx) (kI 2) bz) (kI 1) gEq)) (aH (bS 3 (bV (cI (ab (cg (ab (kS "bo") (ab (aj (aj (ai 2) (kI 12) gIx) (kI 6) bz) ay))) (ab (cg (ab (kS "bob") (ab (aj (aj (ai 2) (kI 13) gIx) (kI 6) bz) ay))) ay))) bA (d9 (aj (kI 1) (aj (aj (ai 2) (kI 14) gIx) (kI 2) bz) cj)))) (eA 1 (kI 1) (cI (ab (kS "names") (ab (kS "Again") (ab (ai 3) (ab (cg (ab (kI 1) (ab (aj (aj (ai 2) (kI 15) gIx) (kI 6) bz) ay))) (ab (cg (ab (kI 1) (ab (aj (aj (ai 2) (kI 16) gIx) (kI 6) bz) ay))) ay)))))))) b0) (aH (bS 3 (bV (cI (ab (cg (ab (kS "bo") (ab (aj (aj (ai 2) (kI 0) gIx) (kI 6) bz) ay))) (ab (cg (ab (kS "lee") (ab (aj (aj (ai 2) (kI 1) gIx) (kI 6) bz) ay))) ay))) bA (d9 (aj (kI 1) (aj (aj (ai 2) (kI 2) gIx) (kI 2) bz) cj)))) (aH (oG 1 (cI (ab (kS "names") (ab (aj (cI (ab (kS "Spell") (ab (kS "Hello") ay))) (aj (aj (ai 2) (kI 17) gIx) (kI 2) bz) gIx) (ab (ai 3) (ab (cg (ab (kI 1) (ab (aj (aj (ai 2) (kI 4) gIx) (kI 6) bz) ay))) (ab (cg (ab (kI 1) (ab (aj (aj (ai 2) (kI 6) gIx) (kI 6) bz) ay))) ay))))))) (aH (bS 4 (cg (ab (aj (aj (ai 2) (kI 7) gIx) (kI 12) bz) (ab (aj (kI 13) (aj (aj (ai 2) (kI 8) gIx) (kI 12) bz) cj) (ab (aj (cI (ab (kI 0) (ab (kI 1) (ab (kI 2) (ab (kI 4) ay))))) (aj (aj (ai 2) (kI 9) gIx) (kI 4) bz) gIx) ay))))) (aH (oG 1 (cI (ab (kS "hours") (ab (cI (ab (ai 4) ay)) (ab (aj (cI (ab (kI 0) (ab (kI 1) (ab (kI 2) (ab (kI 5) ay))))) (aj (aj (ai 2) (kI 10) gIx) (kI 4) bz) gIx) ay))))) (ck (aj (dz 1) (cI (ab (cI (ab (kS "hand") (ab (aj (cI (ab (kS "Ann") (ab (kS "Bye") (ab (kS "Hello") ay)))) (aj (aj (ai 2) (kI 18) gIx) (kI 3) bz) gIx) ay))) (ab (cI (ab (kS "end") (ab (aj (cI (ab (kS "Bye") (ab (kS "Ann") (ab (kS "Spell") ay)))) (aj (aj (ai 2) (kI 19) gIx) (kI 3) bz) gIx) ay))) ay))) cj)))))))))
def ij:List PV->Option PV:=eZ 1 5 jS
def eI:PSt->R Fl:=(bS 7 (aj (ai 7) (aj (ai 1) (aj (aj (aj (ai 2) (ai 8) gIx) (aj (aj (kI 3) (ai 6) wj) (un1 (aj (ai 8) (ai 4) gEq) wm) wj) cj) (kI 20) bz) gIx) cj))
def eG:PSt->R Fl:=(aH (bS 7 (kS "")) (aH (kG (zL (ai 3)) (az 8) eI) (oG 5 (ai 7))))
def iU:PSt->R Fl:=(aH (bS 1 (kS "bcdfghjlmnpqrstvwxyz")) (aH (bS 2 (aD (ab (ai 0) (ab (kI 10) ay)) aV)) (aH (bS 3 (aj (kI 1) (aj (aj (ai 2) (kI 8) gIx) (kI 8) bz) cj)) (aH (bS 4 (aj (aj (ai 2) (kI 9) gIx) (ai 3) bz)) (aH (lG 5 (cI ay)) (aH (kG (zL (kI 6)) (az 6) eG) (qE 5 (ck (ai 5)))))))))
def eT:List PV->Option PV:=eZ 1 9 iU
def ft:PSt->R PV:=(cg (ab (ai 0) (ab (ai 1) (ab (aj (ai 3) (ai 2) gIx) ay))))
def cu:PSt->R PV:=(cg (ab (ai 0) (ab (aj (aj (ai 2) (cI (ab (kS "back") ay)) cj) (ai 1) gIx) ay)))
def dC:PSt->R Fl:=(aH (ifF (bq (aj (aj (ai 0) (kI 0) gIx) (kS "hours") gEq)) (ck (cg (ab (kS "hours") (ab (un1 (gZ (itF (aj (ai 0) (kI 1) gIx)) (iq 3 (aT (az 0) (aT (az 1) (aT (az 2) ir)))) mG ft 3 [1]) pH) (ab (aj (ai 1) (aj (ai 0) (kI 2) gIx) gIx) ay))))) b0) (aH (ifF (bq (aj (aj (ai 0) (kI 0) gIx) (cI (ab (kS "hand") (ab (kS "end") ay))) gIn)) (ck (cg (ab (aj (ai 0) (kI 0) gIx) (ab (aj (ai 0) (kI 1) gIx) ay)))) b0) (aH (bS 2 (un1 (gZ (itF (aj (ai 0) (kI 2) gIx)) (iq 2 (aT (az 0) (aT (az 1) ir))) mG cu 2 [1]) pH)) (ck (cg (ab (aj (ai 0) (kI 0) gIx) (ab (aj (ai 0) (kI 1) gIx) (ab (ai 2) (ab (cg (ab (aj (aj (ai 0) (kI 3) gIx) (kI 0) gIx) (ab (aj (ai 1) (aj (aj (ai 0) (kI 3) gIx) (kI 1) gIx) gIx) ay))) (ab (cg (ab (aj (aj (ai 0) (kI 4) gIx) (kI 0) gIx) (ab (aj (ai 1) (aj (aj (ai 0) (kI 4) gIx) (kI 1) gIx) gIx) ay))) ay))))))))))
def ig:List PV->Option PV:=eZ 2 3 dC
def gp:PSt->R Fl:=(uU 4 (aj (ai 1) (ai 5) gIx) (aD (ab (aj (ai 0) (ai 5) gIx) (ab (ai 1) ay)) ig))
def iV:PSt->R Fl:=(aH (lG 4 newD) (aH (kG (zL (kI 6)) (az 5) gp) (aH (bS 6 (cI (ab (cg (ab (kS "2") (ab (kS "abc") ay))) (ab (cg (ab (kS "3") (ab (kS "def") ay))) (ab (cg (ab (kS "5") (ab (kS "jkl") ay))) (ab (cg (ab (kS "6") (ab (kS "mno") ay))) ay)))))) (aH (ifF (bq (ai 3)) (bS 6 (cI (ab (cg (ab (kS "2") (ab (kS "abc") ay))) (ab (cg (ab (kS "3") (ab (kS "jkl") ay))) (ab (cg (ab (kS "5") (ab (kS "def") ay))) (ab (cg (ab (kS "6") (ab (kS "mno") ay))) ay)))))) b0) (qE 4 (ck (zc (tY (kS "first") (aj (ai 1) (ai 2) gIx) (tY (kS "letters") (ai 6) (tY (kS "rooms") (ai 4) Gy))))))))))
def eU:List PV->Option PV:=eZ 4 7 iV
def fK:PSt->R Fl:=(ifF (bq (sH (ai 2) (ai 1) (ai 3) gLe gLt)) (ck (ai 4)) b0)
def kY:PSt->R Fl:=(aH (kG (itF (aj (ai 0) (kI 1) gIx)) (iq 3 (aT (az 2) (aT (az 3) (aT (az 4) ir)))) fK) (ck (aj (ai 0) (kI 2) gIx)))
def l5:List PV->Option PV:=eZ 2 5 kY
def gq:PSt->R Fl:=(bS 3 (aD (ab (aj (aj (ai 0) (kS "rooms") gIx) (ai 3) gIx) (ab (ai 1) ay)) l5))
def lY:PSt->R Fl:=(aH (bS 3 (ai 2)) (aH (whS 300 (bq (aj (aj (aj (aj (ai 0) (kS "rooms") gIx) (ai 3) gIx) (kI 0) gIx) (kS "hours") gEq)) gq) (ck (ai 3))))
def jr:List PV->Option PV:=eZ 3 4 lY
def m3:PSt->R Fl:=(ck (cg (ab (aD (ab (ai 0) (ab (ai 1) (ab (ai 2) ay))) jr) (ab (ai 3) (ab (kI 0) (ab (kI 0) (ab (kS "") ay)))))))
def bX:List PV->Option PV:=eZ 4 4 m3
def dG:PSt->R Fl:=(aH (bS 3 (aj (aj (aj (ai 0) (kS "rooms") gIx) (aj (ai 2) (kI 0) gIx) gIx) (kI 3) gIx)) (aH (bS 4 (aj (aj (ai 2) (kI 2) gIx) (kI 1) cj)) (aH (ifF (bq (aj (ai 4) (aj (ai 3) (kI 0) gIx) gEq)) (ck (aD (ab (ai 0) (ab (ai 1) (ab (aj (ai 3) (kI 1) gIx) (ab (aj (ai 2) (kI 0) gIx) ay)))) bX)) b0) (ck (cg (ab (aj (ai 2) (kI 0) gIx) (ab (aj (ai 2) (kI 1) gIx) (ab (ai 4) (ab (aj (ai 2) (kI 3) gIx) (ab (kS "") ay))))))))))
def bL:List PV->Option PV:=eZ 3 5 dG
def gc:PSt->R Fl:=(aH (bS 5 (aj (aj (ai 3) (kI 4) gIx) (ai 4) cj)) (aH (ifF (bq (aj (ai 5) (ai 2) iB)) (ck (aD (ab (ai 0) (ab (ai 1) (ab (ai 3) ay))) bL)) b0) (aH (bS 6 (ifV (bq (aj (aj (ai 2) (ai 5) gIx) (kS "back") gEq)) (aj (ai 3) (kI 1) gIx) (aj (ai 2) (ai 5) gIx))) (aH (ifF (bq (aj (ai 6) kN tQ)) (ck (cg (ab (aj (ai 3) (kI 0) gIx) (ab (aj (ai 3) (kI 1) gIx) (ab (aj (ai 3) (kI 2) gIx) (ab (aj (ai 3) (kI 3) gIx) (ab (ai 5) ay))))))) b0) (aH (ifF (bq (aj (ai 6) (kS "") gEq)) (ck (aD (ab (ai 0) (ab (ai 1) (ab (ai 3) ay))) bL)) b0) (ck (aD (ab (ai 0) (ab (ai 1) (ab (ai 6) (ab (aj (ai 3) (kI 0) gIx) ay)))) bX)))))))
def eD:List PV->Option PV:=eZ 5 7 gc
def jj:PSt->R Fl:=(aH (bS 3 (aj (aj (aj (ai 0) (kS "rooms") gIx) (aj (ai 2) (kI 0) gIx) gIx) (kI 4) gIx)) (aH (bS 4 (aj (aj (ai 2) (kI 3) gIx) (kI 1) cj)) (aH (ifF (bq (aj (ai 4) (aj (ai 3) (kI 0) gIx) gEq)) (ck (aD (ab (ai 0) (ab (ai 1) (ab (aj (ai 3) (kI 1) gIx) (ab (aj (ai 2) (kI 0) gIx) ay)))) bX)) b0) (ck (cg (ab (aj (ai 2) (kI 0) gIx) (ab (aj (ai 2) (kI 1) gIx) (ab (aj (ai 2) (kI 2) gIx) (ab (ai 4) (ab (kS "") ay))))))))))
def jt:List PV->Option PV:=eZ 3 5 jj
def fh:PSt->R Fl:=(aH (bS 5 (aj (aj (aj (ai 0) (kS "rooms") gIx) (aj (ai 3) (kI 0) gIx) gIx) (kI 0) gIx)) (aH (ifF (orB (bq (aj (ai 5) (kS "hand") gEq)) (bq (aj (ai 5) (kS "end") gEq))) (ck (ai 3)) b0) (aH (ifF (bq (aj (ai 4) (kP c_WAIT) gEq)) (ck (aD (ab (ai 0) (ab (ai 1) (ab (ai 3) ay))) jt)) b0) (ck (aD (ab (ai 0) (ab (ai 1) (ab (ai 2) (ab (ai 3) (ab (ai 4) ay))))) eD)))))
def bH:List PV->Option PV:=eZ 5 6 fh
def jV:PSt->R Fl:=(aH (bS 2 (aj (aj (ai 0) (kS "rooms") gIx) (aj (ai 1) (kI 0) gIx) gIx)) (ck (cg (ab (aj (kP c_HEARD) (aj (ai 2) (kI 0) gIx) gIx) (ab (aj (ai 2) (kI 1) gIx) ay)))))
def cL:List PV->Option PV:=eZ 2 3 jV
def aW:Lam:=Cp "compare.<locals>.lead" ["ways","others","hour","H","G"] (ar (Lf.main.body.getD 30 (.Pass ⟨0,0,0,0⟩))) gY
def gR:PSt->R Fl:=(aH (bS 7 (aD (ab (ai 5) (ab (ai 4) (ab (aj (ai 2) (aj (aj (ai 0) (kI 0) gIx) (kI 0) gIx) gIx) (ab (aj (ai 0) (kI 0) gIx) (ab (ai 1) ay))))) bH)) (ck (cg (ab (ai 7) (ab (aD (ab (ai 6) (ab (ai 4) (ab (aj (ai 3) (aj (aj (ai 0) (kI 1) gIx) (kI 0) gIx) gIx) (ab (aj (ai 0) (kI 1) gIx) (ab (ai 1) ay))))) bH) ay)))))
def ko:PSt->R PV:=qL 1 gR
def aS:Lam:=Cp "compare.<locals>.is_apart" ["H","G"] (ar (Lf.main.body.getD 30 (.Pass ⟨0,0,0,0⟩))) gX
def gQ:PSt->R Fl:=(ck (aj (aD (ab (ai 1) (ab (aj (ai 0) (kI 0) gIx) ay)) cL) (aD (ab (ai 2) (ab (aj (ai 0) (kI 1) gIx) ay)) cL) gNe))
def kn:PSt->R PV:=qL 0 gQ
open Classical in
noncomputable def appL(L:Lam)(qs cs:List PV):Option PV:=if L=aW then CU 2 ko qs cs else if L=aS then CU 1 kn qs cs else none
def bQ:PSt->R Fl:=(uU 1 (k8 (ai 2) bA (d9 (ai 3))) (aj (rN (dz 1) (k8 (ai 2) bA (d9 (ai 3))) (kI 0) tR) (kI 1) cj))
def bP:PSt->R Fl:=(kG (CS (kI 1) (aj (un1 (ai 2) gT) (kI 1) cj)) (az 3) bQ)
def dq:PSt->R Fl:=(aH (lG 1 newD) (aH (kG (itF (ai 0)) (az 2) bP) (qE 1 (ck (ai 1)))))
def bI:List PV->Option PV:=eZ 1 4 dq
def ik:PSt->R Fl:=(ifF (bq (aj (ai 1) (ai 3) gIn)) (ck (ai 2)) b0)
def kX:PSt->R Fl:=(aH (kG (itF (ai 0)) (iq 2 (aT (az 2) (aT (az 3) ir))) ik) (ck kN))
def kZ:List PV->Option PV:=eZ 2 4 kX
def iY:PSt->R PV:=(aD (ab (ai 1) (ab (ai 0) ay)) kZ)
def lZ:PSt->R Fl:=(aH (bS 2 (gZ (itF (ai 1)) (az 0) mG iY 1 [0])) (ck (ifV (bq (aj kN (ai 2) gIn)) kN (tD (kS "") (ai 2) wk))))
def gU:List PV->Option PV:=eZ 2 3 lZ
def cF:PSt->R Fl:=(ifF (bq (aj (aj (ai 1) (k8 (ai 0) bA (d9 (ai 2))) gIx) (kI 1) gEq)) (ck (k8 (ai 0) bA (d9 (ai 2)))) b0)
def dm:PSt->R Fl:=(aH (kG (CS (kI 1) (un1 (ai 0) gT)) (az 2) cF) (ck (ai 0)))
def du:List PV->Option PV:=eZ 2 3 dm
def fB:PSt->R PV:=(aj (aD (ab (ai 1) (ab (ai 0) ay)) gU) (kP c_CODE_END) cj)
def fA:PSt->R PV:=(cg (ab (ai 0) (ab (aD (ab (ai 1) (ab (ai 2) ay)) du) ay)))
def gS:PSt->R Fl:=(aH (bS 2 (gZ (itF (ai 1)) (az 0) mG fB 1 [0])) (aH (bS 3 (aD (ab (ai 2) ay) bI)) (ck (gZ (FZ (ai 1) (ai 2)) (iq 2 (aT (az 0) (aT (az 1) ir))) mG fA 2 [3]))))
def dP:List PV->Option PV:=eZ 2 4 gS
def cS:PSt->R Fl:=(uU 2 (k8 (ai 4) bA (d9 (ai 5))) kN)
def cR:PSt->R Fl:=(aH (kG (CS (kI 1) (un1 (ai 4) gT)) (az 5) cS) (uU 2 (ai 4) (aj (ai 1) (ai 3) gIx)))
def gM:PSt->R Fl:=(aH (lG 2 newD) (aH (kG (itF (aD (ab (ai 0) (ab (un1 (ai 1) nA) ay)) dP)) (iq 2 (aT (az 3) (aT (az 4) ir))) cR) (qE 2 (ck (ai 2)))))
def fq:List PV->Option PV:=eZ 2 6 gM
def dB:PSt->R Fl:=(aH (bS 2 (aj (aj (ai 0) (kS "rooms") gIx) (ai 1) gIx)) (aH (ifF (bq (aj (aj (ai 2) (kI 0) gIx) (kS "menu") gEq)) (ck (un1 (aj (ai 2) (kI 2) gIx) pJ)) b0) (aH (ifF (bq (aj (aj (ai 2) (kI 0) gIx) (kS "names") gEq)) (ck (aD (ab (aj (ai 0) (kS "letters") gIx) (ab (un1 (aj (ai 2) (kI 2) gIx) pJ) ay)) fq)) b0) (ck newD))))
def aM:List PV->Option PV:=eZ 2 3 dB
def fC:PSt->R Fl:=(uU 1 (ai 2) (aD (ab (ai 0) (ab (ai 2) ay)) aM))
def gN:PSt->R Fl:=(aH (lG 1 newD) (aH (kG (itF (aj (ai 0) (kS "rooms") gIx)) (az 2) fC) (qE 1 (ck (ai 1)))))
def bw:List PV->Option PV:=eZ 1 3 gN
def bx:PSt->R Fl:=(aH (bS 8 (mC 1 (ab (aj (ai 6) (kI 0) gIx) (ab (ai 7) ay)) appL)) (ifF (bq (aj (ai 8) (dz 3) gd)) (aH (mJ 3 (ai 8) (kB true)) (aH (oG 4 (cg (ab (ai 8) (ab (aj (aj (ai 6) (kI 1) gIx) (ai 7) cj) ay)))) (ifF (bq (mC 2 (ab (ai 8) ay) appL)) FP b0))) b0))
def bN:PSt->R Fl:=(aH (bS 6 (aj (dz 4) (ai 5) gIx)) (aH (D3 5 (kI 1)) (kG (itF (kP c_SIGNS)) (az 7) bx)))
def gO:PSt->R Fl:=(aH (lG 3 (zb (ai 0) (kB true))) (aH (lG 4 (cI (ab (cg (ab (ai 0) (ab (kS "") ay))) ay))) (aH (bS 5 (kI 0)) (aH (whS 10500000 (pW (bq (aj (ai 5) (un1 (dz 4) gT) gLt)) (vg (bq (mC 2 (ab (aj (aj (dz 4) (un1 (kI 1) oF) gIx) (kI 0) gIx) ay) appL)))) bN) (zM 4)))))
def dO:List PV->Option PV:=runN 3 9 gO
def qD:PSt->R Fl:=(ck (aD (ab (ai 0) (ab (ai 1) (ab (aj (ai 0) (kS "first") gIx) (ab (kS "") ay)))) bX))
def cb:List PV->Option PV:=eZ 2 2 qD
def gi:PSt->R PV:=(cg (ab (aj (ai 0) (kI 0) gIx) (ab (aj (ai 0) (kI 1) gIx) (ab (ai 1) ay))))
def ji:PSt->R Fl:=(aH (bS 3 (aD (ab (ai 0) ay) bw)) (aH (bS 4 (aD (ab (ai 1) ay) bw)) (Az 5 (Az 6 (aH (bS 7 (sJ (Dc (cg (ab (aD (ab (ai 0) (ab (ai 2) ay)) cb) (ab (aD (ab (ai 1) (ab (ai 2) ay)) cb) ay))) (Aj aW [3,4,2,0,1] (Aj aS [0,1] ay))) dO)) (aH (bS 8 (gZ (itF (ai 7)) (iq 2 (aT (az 0) (aT (az 1) ir))) mG gi 2 [])) (aH (bS 9 (aj (ai 7) (un1 (kI 1) oF) gIx)) (aH (ifF (bq (nH aS [0,1] (ab (aj (ai 9) (kI 0) gIx) ay) appL)) (ck (cg (ab (kS "apart") (ab (aj (ai 9) (kI 1) gIx) (ab (bV (ai 8) bA (d9 (un1 (kI 1) oF))) ay))))) b0) (ck (cg (ab (kS "alike") (ab (ai 8) ay))))))))))))
def fI:List PV->Option PV:=eZ 3 10 ji
def iT:PSt->R Fl:=(aH (bS 2 (aj (ai 1) (kI 11) bz)) (aH (bS 3 (aj (aj (ai 1) (kI 11) ki) (kI 2) bz)) (aH (bS 4 (aj (aj (ai 1) (kI 22) ki) (kI 6) bz)) (aH (lG 5 (un1 (aj (ai 0) (ai 3) gIx) nA)) (aH (ifF (pW (bq (aj (ai 2) (kI 1) gEq)) (bq (aj (un1 (aj (dz 5) (kI 2) gIx) gT) (kI 0) gGt))) (aH (bS 6 (aj (aj (ai 1) (kI 132) ki) (un1 (aj (dz 5) (kI 2) gIx) gT) bz)) (eA 5 (kI 2) (aj (aj (bV (aj (dz 5) (kI 2) gIx) bA (d9 (ai 6))) (cI (ab (cg (ab (aj (aj (aj (dz 5) (kI 2) gIx) (ai 6) gIx) (kI 0) gIx) (ab (ai 4) ay))) ay)) cj) (bV (aj (dz 5) (kI 2) gIx) (d9 (aj (ai 6) (kI 1) cj)) bA) cj))) b0) (aH (ifF (pW (bq (aj (ai 2) (kI 2) gEq)) (bq (aj (un1 (aj (dz 5) (kI 2) gIx) gT) (un1 (aj (aj (dz 5) (kI 0) gIx) (kS "names") gEq) wm) gGt))) (aH (bS 6 (aj (aj (ai 1) (kI 132) ki) (un1 (aj (dz 5) (kI 2) gIx) gT) bz)) (eA 5 (kI 2) (aj (bV (aj (dz 5) (kI 2) gIx) bA (d9 (ai 6))) (bV (aj (dz 5) (kI 2) gIx) (d9 (aj (ai 6) (kI 1) cj)) bA) cj))) b0) (aH (ifF (bq (aj (ai 2) (kI 3) gEq)) (eA 5 (kI 1) (aj (cI (ab (kS "Hello") (ab (kS "Again") ay))) (aj (aj (ai 1) (kI 22) ki) (kI 2) bz) gIx)) b0) (aH (ifF (bq (aj (ai 2) (kI 4) gEq)) (eA 5 (kI 3) (cg (ab (aj (kI 3) (aj (aj (dz 5) (kI 3) gIx) (kI 0) gIx) um) (ab (aj (aj (dz 5) (kI 3) gIx) (kI 1) gIx) ay)))) b0) (aH (ifF (bq (aj (ai 2) (kI 5) gEq)) (eA 5 (kI 4) (cg (ab (aj (aj (dz 5) (kI 4) gIx) (kI 0) gIx) (ab (ai 4) ay)))) b0) (aH (qE 5 (lG 7 (aj (aj (bV (ai 0) bA (d9 (ai 3))) (cI (ab (ai 5) ay)) cj) (bV (ai 0) (d9 (aj (ai 3) (kI 1) cj)) bA) CZ))) (aH (ifF (bq (aj (ai 2) (kI 6) gEq)) (aH (bS 8 (aj (cI (ab (cg (ab (aj (aj (aj (aj (ai 0) (kI 2) gIx) (kI 2) gIx) (kI 0) gIx) (kI 0) gIx) (ab (ai 4) ay))) ay)) (bV (aj (aj (ai 0) (kI 2) gIx) (kI 2) gIx) (d9 (kI 1)) bA) cj)) (eA 7 (kI 2) (cI (ab (kS "names") (ab (aj (aj (ai 0) (kI 2) gIx) (kI 1) gIx) (ab (ai 8) (ab (aj (aj (ai 0) (kI 2) gIx) (kI 3) gIx) (ab (aj (aj (ai 0) (kI 2) gIx) (kI 4) gIx) ay)))))))) b0) (aH (ifF (bq (aj (ai 2) (kI 7) gEq)) (aH (bS 9 (aj (aj (aj (ai 0) (kI 3) gIx) (kI 1) gIx) (kI 0) gIx)) (eA 7 (kI 3) (cI (ab (kS "hours") (ab (cI (ab (cg (ab (aj (ai 9) (kI 0) gIx) (ab (aj (aj (aj (ai 9) (kI 1) gIx) (kI 1) um) (aj (aj (ai 1) (kI 22) ki) (kI 2) bz) cj) (ab (aj (ai 9) (kI 2) gIx) ay)))) ay)) (ab (aj (aj (ai 0) (kI 3) gIx) (kI 2) gIx) ay)))))) b0) (aH (ifF (bq (aj (ai 2) (kI 9) gEq)) (eA 7 (kI 4) (cI (ab (aj (cI (ab (kS "end") (ab (kS "hand") ay))) (aj (ai 4) (kI 2) bz) gIx) (ab (aj (aj (ai 0) (aj (kI 4) (aj (aj (ai 4) (kI 2) ki) (kI 2) bz) cj) gIx) (kI 1) gIx) ay)))) b0) (aH (ifF (bq (aj (ai 2) (kI 10) gEq)) (eA 7 (kI 1) (cI (ab (kS "names") (ab (aj (aj (ai 0) (kI 1) gIx) (kI 1) gIx) (ab (cI (ab (cg (ab (kS "lee") (ab (ai 4) ay))) ay)) (ab (aj (aj (ai 0) (kI 1) gIx) (kI 3) gIx) (ab (aj (aj (ai 0) (kI 1) gIx) (kI 4) gIx) ay))))))) b0) (qE 7 (ck (ai 7)))))))))))))))))
def gf:List PV->Option PV:=eZ 2 10 iT
def iX:PSt->R PV:=(tD (kS "0123456789*#w") (ai 0) nB)
def lX:PSt->R Fl:=(ck (cg (ab (un1 (ai 0) gT) (ab (gZ (itF (ai 0)) (az 0) mG iX 1 []) ay))))
def bp:List PV->Option PV:=eZ 1 1 lX
def gj:PSt->R Fl:=(oG 5 (aD (ab (ai 0) (ab (ai 1) (ab (aj (ai 4) (aj (aj (dz 5) (un1 (kI 1) oF) gIx) (kI 0) gIx) gIx) (ab (aj (dz 5) (un1 (kI 1) oF) gIx) (ab (ai 6) ay))))) bH))
def lW:PSt->R Fl:=(aH (bS 4 (aD (ab (ai 0) ay) bw)) (aH (lG 5 (cI (ab (ai 2) ay))) (aH (kG (itF (ai 3)) (az 6) gj) (qE 5 (ck (ai 5))))))
def jo:List PV->Option PV:=eZ 4 7 lW
def we:PSt->R Fl:=(ck (aD (ab (ai 0) (ab (ai 1) (ab (aD (ab (ai 0) (ab (ai 1) ay)) cb) (ab (ai 2) ay)))) jo))
def jq:List PV->Option PV:=eZ 3 3 we
def wg:PSt->R Fl:=(ck (aD (ab (ai 0) (ab (ai 1) (ab (aD (ab (ai 0) (ab (aj (ai 2) (kI 0) gIx) ay)) aM) (ab (ai 2) (ab (ai 3) ay))))) bH))
def m8:List PV->Option PV:=eZ 4 4 wg
def dy:PSt->R Fl:=(aH (ifF (orB (bq (aj (cg (ab (ai 7) (ab (ai 8) ay))) (dz 5) Cc)) (pW (bq (aj (ai 6) (kI 0) gGt)) (bq (aj (aD (ab (aj (aj (ai 3) (aj (ai 6) (kI 1) um) gIx) (kI 2) gIx) ay) bp) (aD (ab (ai 9) ay) bp) yS)))) (ck (kB false)) b0) (aH (ifF (orB (bq (aj (aD (ab (ai 0) (ab (ai 7) ay)) cL) (aD (ab (ai 1) (ab (ai 8) ay)) cL) gNe)) (pW (bq (aj (ai 4) kN pI)) (bq (aj (aD (ab (ai 9) ay) bp) (aD (ab (ai 4) ay) bp) yS)))) (ck (kB false)) b0) (aH (ifF (orB (bq (aj (aj (aD (ab (ai 0) (ab (ai 2) (ab (ai 9) ay))) jq) (un1 (kI 1) oF) gIx) (ai 7) gNe)) (bq (aj (aj (aD (ab (ai 1) (ab (ai 2) (ab (ai 9) ay))) jq) (un1 (kI 1) oF) gIx) (ai 8) gNe))) (ck (kB false)) b0) (mJ 5 (cg (ab (ai 7) (ab (ai 8) ay))) (ai 9)))))
def cG:PSt->R Fl:=(ifF (orB (bq (aj (ai 4) kN tQ)) (bq (aj (aD (ab (aj (ai 9) (ai 10) cj) ay) bp) (aD (ab (ai 4) ay) bp) yR))) (aH (bS 11 (cg (ab (aD (ab (ai 0) (ab (ai 2) (ab (ai 7) (ab (ai 10) ay)))) m8) (ab (aD (ab (ai 1) (ab (ai 2) (ab (ai 8) (ab (ai 10) ay)))) m8) ay)))) (ifF (orB (bq (aj (ai 11) (dz 5) gd)) (bq (aj (aD (ab (aj (dz 5) (ai 11) Fk) ay) bp) (aD (ab (aj (ai 9) (ai 10) cj) ay) bp) Cd))) (ck (kB false)) b0)) b0)
def gk:PSt->R Fl:=(kG (itF (kS "0123456789*#w")) (az 10) cG)
def iS:PSt->R Fl:=(aH (lG 5 HJ) (aH (kG (wL (ai 3)) (iq 2 (aT (az 6) (aT (iq 3 (aT (az 7) (aT (az 8) (aT (az 9) ir)))) ir))) dy) (aH (kG (itF (ai 3)) (iq 3 (aT (az 7) (aT (az 8) (aT (az 9) ir)))) gk) (ck (kB true)))))
def cY:List PV->Option PV:=eZ 5 12 iS
def dF:PSt->R Fl:=(ifF (orB (vg (bq (un1 (ai 1) (sj "tuple")))) (orB (bq (aj (un1 (ai 1) gT) (kI 3) gNe)) (vg (bq (un1 (aj (ai 1) (kI 2) gIx) (sj "str")))))) (ck (kB false)) b0)
def eS:PSt->R Fl:=(aH (ifF (vg (bq (un1 (ai 0) (sj "list")))) (ck (kB false)) b0) (aH (kG (itF (ai 0)) (az 1) dF) (ck (kB true))))
def dw:List PV->Option PV:=eZ 1 2 eS
def tM:PSt->R Fl:=(aH (bS 1 (aD (ab (ai 0) ay) ij)) (aH (bS 2 (aD (ab (aD (ab (ai 0) (ab (kI 0) ay)) ax) ay) eT)) (aH (bS 3 (aj (aD (ab (ai 0) (ab (kI 5) ay)) ax) (kI 6) bz)) (aH (bS 4 (aD (ab (ai 1) (ab (ai 2) (ab (ai 3) (ab (kB false) ay)))) eU)) (aH (bS 5 (aD (ab (aD (ab (ai 0) (ab (kI 4) ay)) ax) ay) eT)) (aH (bS 6 (aD (ab (ai 0) (ab (kI 6) ay)) ax)) (aH (bS 7 (aD (ab (aD (ab (ai 1) (ab (ai 6) ay)) gf) (ab (ai 5) (ab (ai 3) (ab (aj (aj (ai 6) (kI 11) bz) (kI 8) gEq) ay)))) eU)) (aH (bS 8 (aj (aD (ab (ai 0) (ab (kI 7) ay)) ax) (kI 24) bz)) (aH (bS 9 (aD (ab (ai 4) (ab (ai 7) (ab (ai 8) ay))) fI)) (aH (bS 10 (cg (ab (aD (ab (ai 4) (ab (ai 8) ay)) cb) (ab (aD (ab (ai 7) (ab (ai 8) ay)) cb) (ab (kS "") ay))))) (aH (ifF (orB (vg (bq (un1 (ai 9) (sj "tuple")))) (vg (bq (aD (ab (aj (ai 9) (un1 (kI 1) oF) gIx) ay) dw)))) (ck (kB false)) b0) (aH (ifF (bq (aj (aj (ai 9) (kI 0) gIx) (kS "alike") gEq)) (ck (D4 (aj (un1 (ai 9) gT) (kI 2) gEq) (D4 (aj (bV (aj (ai 9) (kI 1) gIx) bA (d9 (kI 1))) (cI (ab (ai 10) ay)) gEq) (aD (ab (ai 4) (ab (ai 7) (ab (ai 8) (ab (aj (ai 9) (kI 1) gIx) (ab kN ay))))) cY)))) b0) (aH (ifF (orB (bq (aj (aj (ai 9) (kI 0) gIx) (kS "apart") gNe)) (orB (bq (aj (un1 (ai 9) gT) (kI 3) gNe)) (vg (bq (un1 (aj (ai 9) (kI 1) gIx) (sj "str")))))) (ck (kB false)) b0) (aH (bS 11 (aj (ai 9) (kI 1) gIx)) (aH (ifF (bq (aj (aD (ab (ai 4) (ab (aj (aD (ab (ai 4) (ab (ai 8) (ab (ai 11) ay))) jq) (un1 (kI 1) oF) gIx) ay)) cL) (aD (ab (ai 7) (ab (aj (aD (ab (ai 7) (ab (ai 8) (ab (ai 11) ay))) jq) (un1 (kI 1) oF) gIx) ay)) cL) gEq)) (ck (kB false)) b0) (aH (ifF (bq (aj (ai 11) (kS "") gEq)) (ck (aj (aj (ai 9) (kI 2) gIx) (cI ay) gEq)) b0) (ck (D4 (aj (bV (aj (ai 9) (kI 2) gIx) bA (d9 (kI 1))) (cI (ab (ai 10) ay)) gEq) (aD (ab (ai 4) (ab (ai 7) (ab (ai 8) (ab (aj (ai 9) (kI 2) gIx) (ab (ai 11) ay))))) cY)))))))))))))))))))
def wH:List PV->Option PV:=eZ 1 12 tM
end
end K38
namespace K38
open PySem L2 PU MT
theorem D9(ls:WO.Lts)(c:Nat):kZ [WO.ltPv ls,WO.sg c]=some (WO.keyPv (WO.keyL ls c)):=by
 refine aG rfl ?_
 obtain⟨k1,k2⟩:=jm (enc:=fun l:Nat×List Nat=>PV.tup [WO.sg l.1,.str (mkS l.2)]) (h:=iq 2 (aT (az 2) (aT (az 3) ir))) (g:=ik) (fun l=>decide (c∈l.2)) (fun l=>WO.sg l.1)
  (I:=fun ρ=>∃a b,ρ=[.val (WO.ltPv ls),.val (WO.sg c),a,b]) (by
   rintro l ρ ⟨a,b,rfl⟩;have e:=WO.in_one c l.2;refine⟨_,rfl,fun hp=>?_,fun hp=>⟨_,?_,.val (WO.sg l.1),.val (.str (mkS l.2)),rfl⟩⟩
   ·rw[hp] at e
    simp[ik,e]
   ·rw[hp] at e
    simp[ik,e]) ls [.val (WO.ltPv ls),.val (WO.sg c),.no,.no] ⟨_,_,rfl⟩
 have ei:f6 (WO.ltPv ls)=some (ls.map fun l=>PV.tup [WO.sg l.1,.str (mkS l.2)]):=rfl;cases e:ls.find? (fun l=>decide (c∈l.2)) with
 | some l=>
  have k:=k1 l e;simp[kX,PU.start,ei];rw[k];simp[WO.keyPv,WO.keyL,e]
 | none=>
  obtain⟨ρ',k,a,b,rfl⟩:=k2 e;simp[kX,PU.start,ei];rw[k];simp[WO.keyPv,WO.keyL,e]
theorem AN(ls:WO.Lts)(x:List Nat)(hx:x.length<=1000):gU [WO.ltPv ls,.str (mkS x)]=some (WO.codePv (WO.codeL ls x)):=by
 refine aG rfl ?_
 have c1:cQ (az 0) mG iY [.no,.val (WO.ltPv ls)] (x.map WO.sg)=.ok (x.map fun c=>WO.keyPv (WO.keyL ls c)):=
  WO.in_list_comp (fun c=>WO.keyPv (WO.keyL ls c)) x fun c _=>⟨_,pY _,by simp[iY,D9]⟩
 have c2:=WO.none_in ls x;have hl:x.length<=16777216:=by omega
 simp[lZ,PU.start,WO.it_mk,ur,La,c1,hl,c2];cases h:x.all fun c=>(WO.keyL ls c).isSome with
 | false=>simp[WO.codeL,h,WO.codePv]
 | true=>
  have e:(x.map fun c=>WO.keyPv (WO.keyL ls c))=(x.map fun c=>(WO.keyL ls c).getD 0).map WO.sg:=by
   rw[L7];apply Mm;intro c hc;have:=Nq.mp h c hc;cases h2:WO.keyL ls c with
   | none=>rw[h2] at this;cases this
   | some k=>simp[WO.keyPv,h2]
  have j:=WO.joinV (x.map fun c=>(WO.keyL ls c).getD 0) (by simpa using hx);rw[e];simp[-L7,j,WO.codeL,h,WO.codePv]
open BG
abbrev bst(codes:PV)(ks:List Key)(ps:List PV)(a b:Sl):PSt:=[.val codes,.own (.dct ks ps),a,b]
theorem Iw(codes:PV)(L:List W)(ks:List Key)(ps:List PV)(h:Cnt L ks ps)(c:W)(n:Nat)(hc:c.length<=100)(hL:L.length<=10000):∃ks' ps',Cnt (L++[c.take n]) ks' ps'/\
  bQ (bst codes ks ps (.val (.str (mkS c))) (.val (.int n)))=.ok (.next (bst codes ks' ps' (.val (.str (mkS c))) (.val (.int n)))):=by
 obtain⟨ks',ps',e,h'⟩:=Cy h (c.take n);have e1:=AR (x:=mkS c) none (some (n:Int)) (by rw[dU];omega);rw[nO] at e1;have e2:=Cz h (c.take n);have z:ks.length<16777216:=by have:=h.le;omega
 refine⟨ks',ps',h',?_⟩;simp[bQ,bst,e1,e2,z,e]
theorem Iv(codes:PV)(L:List W)(ks:List Key)(ps:List PV)(h:Cnt L ks ps)(c:W)(b:Sl)(hc:c.length<=100)(hL:L.length<=9000):∃ks' ps' b',Cnt (L++ug c) ks' ps'/\
  bP (bst codes ks ps (.val (.str (mkS c))) b)=.ok (.next (bst codes ks' ps' (.val (.str (mkS c))) b')):=by
 obtain⟨ρ',f1,ks',ps',b',rfl,h'⟩:=forR (n:=c.length) (lo:=1) (h:=az 3) (g:=bQ) (ρ:=bst codes ks ps (.val (.str (mkS c))) b)
  (I:=fun i ρ=>∃ks ps b,ρ=bst codes ks ps (.val (.str (mkS c))) b/\Cnt (L++(KM i).map fun j=>c.take (j+1)) ks ps) ⟨ks,ps,b,rfl,by simpa using h⟩ (by
   rintro i ρ hi ⟨ks,ps,b,rfl,h⟩;obtain⟨ks',ps',h',e⟩:=Iw codes _ ks ps h c (i+1) hc (by simp;omega);have ei:(1:Int)+(i:Int)=((i+1:Nat):Int):=by omega
   rw[ei];refine⟨_,_,rfl,.inl e,ks',ps',_,rfl,?_⟩;rw[Oj,L8,← N1];exact h')
 refine⟨ks',ps',b',h',?_⟩;have e1:gT (.str (mkS c))=some (.int c.length):=by rw[ja (by rw[dU];omega),dU]
 have e2:CQ (.int 1) (.int ((c.length:Int)+1))=.ok (cn 1 c.length):=by rw[ux (by omega) (by omega) (by omega) (by omega)];congr 2;omega
 simp[bP,e1,e2];exact f1
theorem xk(cs:List W)(hn:cs.length<=12)(hc:∀c∈cs,c.length<=20):∃ks ps,Cnt (cs.flatMap ug) ks ps/\bI [.lst (cs.map fun c=>.str (mkS c))]=some (.dct ks ps):=by
 obtain⟨ρ',f1,ks,ps,a,b,rfl,h⟩:=forM (enc:=fun c:W=>PV.str (mkS c)) (xs:=cs) (h:=az 2) (g:=bP) (ρ:=bst (.lst (cs.map fun c=>.str (mkS c))) [] [] .no .no)
  (I:=fun pre ρ=>∃ks ps a b,ρ=bst (.lst (cs.map fun c=>.str (mkS c))) ks ps a b/\Cnt (pre.flatMap ug) ks ps) ⟨[],[],_,_,rfl,⟨rfl,by simp,fun p=>by simp[cq]⟩⟩ (by
   rintro pre c post ρ hx ⟨ks,ps,a,b,rfl,h⟩;have hcm:c∈cs:=by rw[hx];simp
   have hpl:pre.length<=12:=by
    have:=congrArg Lz hx;rw[L0] at this;omega
   have hfl:=wF (l:=pre) (f:=ug) (b:=20) fun x hxm=>by
    unfold ug;rw[KH,List.length_range];exact hc x (by rw[hx];exact N5 _ hxm)
   obtain⟨ks',ps',b',h',e⟩:=Iv (.lst (cs.map fun c=>.str (mkS c))) _ ks ps h c b (by have:=hc c hcm;omega) (by omega);refine⟨_,_,rfl,.inl e,ks',ps',_,_,rfl,?_⟩;rw[List.flatMap_append];simpa using h')
 refine⟨ks,ps,h,aG rfl ?_⟩;simp[dq,PU.start];rw[f1];simp
theorem FQ(cs:List W)(ks:List Key)(ps:List PV)(h:Cnt (cs.flatMap ug) ks ps)(c:W)(hc:c∈cs)(hne:c≠[])(hl:c.length<=100):du [.str (mkS c),.dct ks ps]=some (.str (mkS (own cs c))):=by
 refine aG rfl ?_
 have key:∀i:Nat,gIx (.dct ks ps) (.str (mkS (c.take (i+1))))=some (.int (many cs (c.take (i+1)))):=fun i=>by
  have hp:c.take (i+1)≠[]:=fun e=>by
   cases c with
   | nil=>exact hne rfl
   | cons a r=>simp at e
  show cq ks ps (.inr (mkS (c.take (i+1))))=_;rw[h.at_,x4 cs _ hp,if_neg];intro e;unfold many at e;have:c∈cs.filter (pre (c.take (i+1))):=M8.mpr ⟨hc,jJ.mpr (N6 _ _)⟩;rw[OV.mp e] at this;cases this
 obtain⟨k1,k2⟩:=jm (enc:=fun i:Nat=>PV.int (1+(i:Nat))) (h:=az 2) (g:=cF) (fun i=>decide (many cs (c.take (i+1))=1)) (fun i=>PV.str (mkS (c.take (i+1))))
  (I:=fun ρ=>∃a,ρ=[.val (.str (mkS c)),.val (.dct ks ps),a]) (by
   rintro i ρ ⟨a,rfl⟩;have e1:=AR (x:=mkS c) none (some ((i+1:Nat):Int)) (by rw[dU];omega);rw[nO] at e1;have ei:(1:Int)+(i:Int)=((i+1:Nat):Int):=by omega
   have e2:=key i;have e2:((fQ (.str (mkS (c.take (i+1))))).bind fun k=>cq ks ps k)=some (.int (many cs (c.take (i+1)))):=e2;rw[ei];refine⟨_,rfl,fun hp=>?_,fun hp=>⟨_,?_,.val (.int ((i+1:Nat):Int)),rfl⟩⟩
   ·have hp:many cs (c.take (i+1))=1:=by simpa using hp
    rw[hp] at e2;have e2:cq ks ps (.inr (mkS (c.take (i+1))))=some (.int 1):=e2;have e1:yP (.str (mkS c)) none (some ((i:Int)+1))=some (.str (mkS (c.take (i+1)))):=e1;simp[cF,e1,e2]
   ·have hp:¬ many cs (c.take (i+1))=1:=by simpa using hp
    have hp2:¬ ((many cs (c.take (i+1)):Nat):Int)=1:=by omega
    have e2:cq ks ps (.inr (mkS (c.take (i+1))))=some (.int (many cs (c.take (i+1)))):=e2;have e1:yP (.str (mkS c)) none (some ((i:Int)+1))=some (.str (mkS (c.take (i+1)))):=e1;simp[cF,e1,e2,hp2]) (KM (c.length-1)) [.val (.str (mkS c)),.val (.dct ks ps),.no] ⟨_,rfl⟩
 have e1:gT (.str (mkS c))=some (.int c.length):=by rw[ja (by rw[dU];omega),dU]
 have e2:CQ (.int 1) (.int (c.length:Int))=.ok ((KM (c.length-1)).map fun i:Nat=>PV.int (1+(i:Nat))):=by rw[ux (by omega) (by omega) (by omega) (by omega),show ((c.length:Int)-1).toNat=c.length-1 by omega];rfl
 unfold own;cases e:(KM (c.length-1)).find? (fun i=>decide (many cs (c.take (i+1))=1)) with
 | some i=>
  have k:=k1 i e;simp only[dm,PU.start,KG,Mh,LK,Mg,La,N9,O5,uq,zD,zB,IM,D7,pZ,lQ,EU,e1,R.ofO_some,vN,e2,EZ,k,vO]
 | none=>
  obtain⟨ρ',k,a,rfl⟩:=k2 e;simp only[dm,PU.start,KG,Mh,LK,Mg,La,N9,O5,uq,zD,zB,IM,D7,pZ,lQ,EU,e1,R.ofO_some,vN,e2,EZ,k,nu,zC,EX]
def cdW(ls:WO.Lts)(w:W):W:=w.map (fun c=>(WO.keyL ls c).getD 0)
def cdH(ls:WO.Lts)(w:W):W:=cdW ls w++[35]
def uc(ls:WO.Lts)(ws:List W)(w:W):PV:=.tup [.str (mkS w),.str (mkS (own (ws.map (cdH ls)) (cdH ls w)))]
theorem zo(ls:WO.Lts)(ws:List W)(hn:ws.length<=12)(hw:∀w∈ws,w.length<=12/\∀c∈w,(WO.keyL ls c).isSome=true):dP [WO.ltPv ls,.lst (ws.map fun w=>.str (mkS w))]=some (.lst (ws.map (uc ls ws))):=by
 refine aG rfl ?_;have hash:("#":Str)=mkS [35]:=by decide +kernel
 have c1:cQ (az 0) mG fB [.no,.val (WO.ltPv ls)] (ws.map fun w=>.str (mkS w))=.ok (ws.map fun w=>.str (mkS (cdH ls w))):=
  WO.in_list_comp (enc:=fun w:W=>PV.str (mkS w)) (fun w=>.str (mkS (cdH ls w))) ws fun w hwm=>by
   have h:=hw w hwm;have e:=AN ls w (by omega)
   have e2:WO.codeL ls w=some (cdW ls w):=by
    unfold WO.codeL;rw[if_pos (Nq.mpr fun c hc=>h.2 c hc)];rfl
   rw[e2] at e;have e:gU [WO.ltPv ls,.str (mkS w)]=some (.str (mkS (cdW ls w))):=e
   have e3:cj (.str (mkS (cdW ls w))) c_CODE_END=some (.str (mkS (cdH ls w))):=by
    show cj (.str (mkS (cdW ls w))) (.str "#")=_;rw[hash,l8 (by simp[cdW];omega),lI];rfl
   exact⟨_,pY _,by simp[fB,e,e3]⟩
 obtain⟨ks,ps,h,e2⟩:=xk (ws.map (cdH ls)) (by simpa using hn) (fun c hc=>by
  obtain⟨w,hwm,rfl⟩:=KU.mp hc;have:=(hw w hwm).1;simp[cdH,cdW];omega)
 have e2:bI [.lst (ws.map fun w=>.str (mkS (cdH ls w)))]=some (.dct ks ps):=by rw[← e2,L7];rfl
 have ez:∀l:List W,(xI (l.map fun w=>PV.str (mkS w)) (l.map fun w=>PV.str (mkS (cdH ls w)))).map PV.tup=l.map fun w=>PV.tup [.str (mkS w),.str (mkS (cdH ls w))]:=by
  intro l;unfold xI
  induction l with
  | nil=>rfl
  | cons a r ih=>simp only[KG,MI];rw[ih]
 have c2:cQ (iq 2 (aT (az 0) (aT (az 1) ir))) mG fA [.no,.no,.val (.dct ks ps)] (ws.map fun w=>PV.tup [.str (mkS w),.str (mkS (cdH ls w))])=.ok (ws.map (uc ls ws)):=
  WO.in_list_comp (enc:=fun w:W=>PV.tup [.str (mkS w),.str (mkS (cdH ls w))]) (uc ls ws) ws fun w hwm=>by
   have:=(hw w hwm).1;have e:=FQ (ws.map (cdH ls)) ks ps h (cdH ls w) (KU.mpr ⟨w,hwm,rfl⟩) (by simp[cdH]) (by simp[cdH,cdW];omega);exact⟨[.val (.str (mkS w)),.val (.str (mkS (cdH ls w))),.val (.dct ks ps)],rfl,by simp[fA,e,uc]⟩
 have z:ws.length<=16777216:=by omega
 have ei:f6 (.lst (ws.map fun w=>PV.str (mkS w)))=some (ws.map fun w=>PV.str (mkS w)):=rfl;have zq:=EM (ws.map fun w=>PV.str (mkS w)) (ws.map fun w=>PV.str (mkS (cdH ls w))) (by rw[pL];rfl);simp[gS,PU.start,ur,La,c1,z,e2,zq];rw[ez,c2];simp[z]
open NW
abbrev xC(L D:PV)(ks:List Key)(ps:List PV)(a b c:Sl):PSt:=[.val L,.val D,.own (.dct ks ps),a,b,c]
theorem HH(L D:PV)(ks:List Key)(ps:List PV)(F:W->Option PV)(h:Tells ks ps F)(a:Sl)(b:W)(n:Nat)(hb:b.length<=100)(hk:ks.length<=100000):∃ks' ps',Tells ks' ps' (fun p=>if b.take n=p then some .non else F p)/\ks'.length<=ks.length+1/\
  cS (xC L D ks ps a (.val (.str (mkS b))) (.val (.int n)))=.ok (.next (xC L D ks' ps' a (.val (.str (mkS b))) (.val (.int n)))):=by
 obtain⟨ks',ps',e,h1,h2⟩:=h.put (b.take n) .non (by simp[noFn]);have e1:=AR (x:=mkS b) none (some (n:Int)) (by rw[dU];omega);rw[nO] at e1;have z:ks.length<16777216:=by omega
 refine⟨ks',ps',h2,h1,?_⟩;simp[cS,xC,e1,z,e]
theorem HF(L D:PV)(ks:List Key)(ps:List PV)(F:W->Option PV)(h:Tells ks ps F)(w b:W)(t:Str)(hne:b≠[])(hD:gIx D (.str (mkS w))=some (.str t))(x:Sl)(hb:b.length<=100)(hk:ks.length<=10000):∃ks' ps' x',Tells ks' ps' (fun p=>kz p (F p) (b,t))/\ks'.length<=ks.length+100/\
  cR (xC L D ks ps (.val (.str (mkS w))) (.val (.str (mkS b))) x)=.ok (.next (xC L D ks' ps' (.val (.str (mkS w))) (.val (.str (mkS b))) x')):=by
 have hbl:1<=b.length:=by cases b with | nil=>exact absurd rfl hne | cons _ _=>simp
 obtain⟨ρ',f1,ks1,ps1,x1,rfl,h1,l1⟩:=forR (n:=b.length-1) (lo:=1) (h:=az 5) (g:=cS) (ρ:=xC L D ks ps (.val (.str (mkS w))) (.val (.str (mkS b))) x)
  (I:=fun i ρ=>∃ks1 ps1 x1,ρ=xC L D ks1 ps1 (.val (.str (mkS w))) (.val (.str (mkS b))) x1/\Tells ks1 ps1 (fun p=>if p∈(KM i).map (fun j=>b.take (j+1)) then some .non else F p)/\ks1.length<=ks.length+i)
  ⟨ks,ps,x,rfl,⟨h.len,fun p=>by rw[h.at_,if_neg (by simp)],h.nf⟩,by omega⟩ (by
   rintro i ρ hi ⟨ks1,ps1,x1,rfl,h1,l1⟩;obtain⟨ks2,ps2,h2,l2,e⟩:=HH L D ks1 ps1 _ h1 (.val (.str (mkS w))) b (i+1) hb (by omega);have ei:(1:Int)+(i:Int)=((i+1:Nat):Int):=by omega
   rw[ei];refine⟨_,_,rfl,.inl e,ks2,ps2,_,rfl,⟨h2.len,fun p=>?_,h2.nf⟩,by omega⟩;rw[h2.at_,Oj,L8]
   by_cases hp:b.take (i+1)=p
   ·rw[if_pos hp,if_pos (Ld _ (by simp[hp]))]
   ·rw[if_neg hp]
    by_cases hq:p∈(KM i).map (fun j=>b.take (j+1))
    ·rw[if_pos hq,if_pos (N5 _ hq)]
    ·rw[if_neg hq,if_neg]
     intro z;rcases LW.mp z with z | z
     ·exact hq z
     ·rw[Rm,Ky] at z
      exact hp z.symm)
 obtain⟨ks2,ps2,e2,l2,h2⟩:=h1.put b (.str t) (by simp[noFn]);refine⟨ks2,ps2,x1,⟨h2.len,fun p=>?_,h2.nf⟩,by omega,?_⟩
 ·rw[h2.at_]
  unfold kz
  by_cases hp:b=p
  ·simp only[if_pos hp]
  ·simp only[if_neg hp]
   by_cases hq:p≠[]/\p <+: b
   ·rw[if_pos hq,if_pos]
    have hl:=M9 hq.2
    have h0:1<=p.length:=by
     cases p with
     | nil=>exact absurd rfl hq.1
     | cons _ _=>simp
    have ht:=Na.mp hq.2;have hlt:p.length≠b.length:=fun z=>hp (by rw[z,List.take_length] at ht;exact ht.symm);exact KU.mpr ⟨p.length-1,MS.mpr (by omega),by rw[show p.length-1+1=p.length by omega];exact ht.symm⟩
   ·rw[if_neg hq,if_neg]
    intro z;obtain⟨j,q2,rfl⟩:=KU.mp z;have q2:=MS.mp q2;refine hq ⟨fun z=>?_,N6 _ _⟩;cases b with
    | nil=>exact hne rfl
    | cons a r=>simp at z
 ·have e1:gT (.str (mkS b))=some (.int b.length):=by rw[ja (by rw[dU];omega),dU]
  have e3:CQ (.int 1) (.int (b.length:Int))=.ok (cn 1 (b.length-1)):=by rw[ux (by omega) (by omega) (by omega) (by omega)];congr 2;omega
  have z:ks1.length<16777216:=by omega
  have f1:ic (az 5) cS (cn 1 (b.length-1)) [.val L,.val D,.own (.dct ks ps),.val (.str (mkS w)),.val (.str (mkS b)),x]=.ok (.next [.val L,.val D,.own (.dct ks1 ps1),.val (.str (mkS w)),.val (.str (mkS b)),x1]):=f1;simp only[xC];simp[cR,e1,e3,f1,hD,z,e2]
def xG(ls:WO.Lts)(wt:List (W×Str)):List (W×Str):=wt.map fun p=>(own ((wt.map (·.1)).map (cdH ls)) (cdH ls p.1),p.2)
theorem yw(ls:WO.Lts)(wt:List (W×Str))(hn:wt.length<=12)(hw:∀p∈wt,p.1.length<=12/\∀c∈p.1,(WO.keyL ls c).isSome=true)(nd:(wt.map (·.1)).Nodup):∃ks ps,Tells ks ps (AI (xG ls wt))/\fq [WO.ltPv ls,wtD wt]=some (.dct ks ps):=by
 have eb:=zo ls (wt.map (·.1)) (by simpa using hn) (fun w hwm=>by obtain⟨p,hp,rfl⟩:=KU.mp hwm;exact hw p hp);have el:=BU wt;rw[L7] at eb;have eb:dP [WO.ltPv ls,.lst (wt.map fun p=>.str (mkS p.1))]=some (.lst ((wt.map (·.1)).map (uc ls (wt.map (·.1))))):=eb;rw[L7] at eb
 let B:W×Str->W:=fun p=>own ((wt.map (·.1)).map (cdH ls)) (cdH ls p.1)
 have hB:∀p∈wt,B p≠[]/\(B p).length<=100:=fun p hp=>⟨zU _ _ (by simp[cdH]),by
  have h1:=M9 (o9 ((wt.map (·.1)).map (cdH ls)) (cdH ls p.1));have h2:=(hw p hp).1;have h3:(cdH ls p.1).length=p.1.length+1:=by simp[cdH,cdW]
  show (own _ _).length<=100;omega⟩
 obtain⟨ρ',f1,ks,ps,a,b,c,rfl,h,l⟩:=forM (enc:=fun p:W×Str=>PV.tup [.str (mkS p.1),.str (mkS (B p))]) (xs:=wt) (h:=iq 2 (aT (az 3) (aT (az 4) ir))) (g:=cR) (ρ:=xC (WO.ltPv ls) (wtD wt) [] [] .no .no .no)
  (I:=fun pre ρ=>∃ks ps a b c,ρ=xC (WO.ltPv ls) (wtD wt) ks ps a b c/\Tells ks ps (fun p=>(pre.map fun q=>(B q,q.2)).foldl (kz p) none)/\ks.length<=pre.length * 100) ⟨[],[],.no,.no,.no,rfl,⟨rfl,fun p=>rfl,by simp⟩,by simp⟩ (by
   rintro pre p post ρ hx ⟨ks,ps,a,b,c,rfl,h,l⟩;have hp:p∈wt:=by rw[hx];simp
   have hpl:pre.length<=12:=by
    have:=congrArg Lz hx;rw[L0] at this;omega
   have hD:gIx (wtD wt) (.str (mkS p.1))=some (.str p.2):=xU wt nd hp;obtain⟨ks',ps',x',h',l',e⟩:=HF (WO.ltPv ls) (wtD wt) ks ps _ h p.1 (B p) p.2 (hB p hp).1 hD c (hB p hp).2 (by omega);refine⟨_,_,rfl,.inl e,ks',ps',_,_,_,rfl,⟨h'.len,fun q=>?_,h'.nf⟩,by simp;omega⟩;rw[h'.at_,L8,Rz];rfl)
 refine⟨ks,ps,h,aG rfl ?_⟩;have ei:f6 (.lst (wt.map (uc ls (wt.map (·.1)) ∘ fun x=>x.1)))=some (wt.map fun p:W×Str=>PV.tup [.str (mkS p.1),.str (mkS (B p))]):=rfl;have f1:ic (iq 2 (aT (az 3) (aT (az 4) ir))) cR (wt.map fun p:W×Str=>PV.tup [.str (mkS p.1),.str (mkS (B p))]) [.val (WO.ltPv ls),.val (wtD wt),.own (.dct [] []),.no,.no,.no]=.ok (.next [.val (WO.ltPv ls),.val (wtD wt),.own (.dct ks ps),a,b,c]):=f1;generalize (wt.map fun p:W×Str=>PV.tup [.str (mkS p.1),.str (mkS (B p))])=TL at *;generalize PV.lst (wt.map (uc ls (wt.map (·.1)) ∘ fun x=>x.1))=TQ at *;generalize PV.lst (wt.map fun p=>.str (mkS p.1))=WL at *;generalize wtD wt=DD at *;generalize WO.ltPv ls=LL at *;simp[gM,PU.start,el,eb,ei,f1]
theorem BY{ls:WO.Lts}{c:Nat}(h:(WO.keyL ls c).isSome=true):∃l∈ls,(WO.keyL ls c).getD 0=l.1:=by
 unfold WO.keyL at h ⊢;cases e:ls.find? fun l=>decide (c∈l.2) with
 | none=>rw[e] at h;cases h
 | some l=>exact⟨l,Md e,rfl⟩
theorem FM{ls:WO.Lts}(hk:∀l∈ls,l.1≠35){w:W}(hw:∀c∈w,(WO.keyL ls c).isSome=true):Code (cdH ls w):=by
 refine⟨cdW ls w,rfl,fun z=>?_⟩;obtain⟨c,hc,e⟩:=KU.mp z;obtain⟨l,hl,e2⟩:=BY (hw c hc);exact hk l hl (by rw[← e2,e])
section
variable{ls : WO.Lts}{wt : List (W×Str)}(hk : ∀l ∈ ls, l.1 ≠ 35)(hw : ∀p ∈ wt, ∀c ∈ p.1, (WO.keyL ls c).isSome = true)(nc : (wt.map fun p => cdH ls p.1).Nodup)
omit hk hw nc in
theorem Iq:∀x∈xG ls wt,x.1≠[]:=fun x hx=>by
 obtain⟨p,_,rfl⟩:=KU.mp hx;exact zU _ _ (by simp[cdH])
include hk hw nc
theorem Cs:∀c∈(wt.map (·.1)).map (cdH ls),Code c:=fun c hc=>by
 obtain⟨w,hwm,rfl⟩:=KU.mp hc;obtain⟨p,hp,rfl⟩:=KU.mp hwm;exact FM hk (hw p hp)
omit hk hw in
theorem FN{p q:W×Str}(hp:p∈wt)(hq:q∈wt)(e:cdH ls p.1=cdH ls q.1):p=q:=
 pF (fun p:W×Str=>cdH ls p.1) wt nc p hp q hq e
theorem Ip:∀x∈xG ls wt,∀y∈xG ls wt,x.1 <+: y.1->x=y:=fun x hx y hy h=>by
 obtain⟨p,hp,rfl⟩:=KU.mp hx;obtain⟨q,hq,rfl⟩:=KU.mp hy;have m:∀{p:W×Str},p∈wt->cdH ls p.1∈(wt.map (·.1)).map (cdH ls):=fun hp=>KU.mpr ⟨_,KU.mpr ⟨_,hp,rfl⟩,rfl⟩;have:=vc (Cs hk hw nc) (m hp) (m hq) h (OU _);rw[FN nc hp hq this]
end
theorem C9 (H:PV) (rs:FA.Rooms) (hR:gIx H (.str "rooms")=some (aK rs)) (hl:rs.length<=1000) (Dn:Str->PV) (hD:∀n∈FA.names rs,aM [H,.str n]=some (Dn n)) (hF:∀n∈FA.names rs,noFn (Dn n)=true):∃ks ps,bw [H]=some (.dct ks ps)/\(∀n∈FA.names rs,gIx (.dct ks ps) (.str n)=some (Dn n))/\noFn (.dct ks ps)=true:=by
 have hnl:(FA.names rs).length=rs.length:=by simp[FA.names]
 obtain⟨ρ',f1,ks,ps,a,rfl,h1,h2,h3,h4⟩:=forM (enc:=PV.str) (xs:=FA.names rs) (h:=az 2) (g:=fC) (ρ:=[.val H,.own (.dct [] []),.no])
  (I:=fun pre ρ=>∃ks ps a,ρ=[.val H,.own (.dct ks ps),a]/\ks.length=ps.length/\ks.length<=pre.length/\(∀n∈pre,cq ks ps (.inr n)=some (Dn n))/\∀x∈ps,noFn x=true) ⟨[],[],.no,rfl,rfl,by simp,by simp,by simp⟩ (by
   rintro pre n post ρ hx ⟨ks,ps,a,rfl,h1,h2,h3,h4⟩;have hn:n∈FA.names rs:=by rw[hx];simp
   have hpl:pre.length<=1000:=by
    have:=congrArg Lz hx;rw[L0] at this;omega
   obtain⟨ks',ps',e,g1,g2,g3⟩:=BG.look_put ks ps (.inr n) (Dn n) h1;have z:ks.length<16777216:=by omega
   have ed:=hD n hn;refine⟨_,[.val H,.own (.dct ks' ps'),.val (.str n)],pY _,.inl ?_,ks',ps',_,rfl,g1,by simp;omega,fun m hm=>?_,fun x hx=>(uR e hx).elim (h4 x) fun z=>z▸hF n hn⟩
   ·simp[fC,ed,z,e]
   ·rw[g3]
    by_cases hmn:n=m
    ·rw[if_pos (by rw[hmn]),hmn]
    ·rw[if_neg fun z=>hmn (NI z)]
     rcases LW.mp hm with hm | hm
     ·exact h3 m hm
     ·exact absurd (Ky.mp hm).symm hmn)
 refine⟨ks,ps,aG rfl ?_,h3,by have:=(gJ ps).mpr h4;simpa [noFn] using this⟩;have ei:=FA.keys_rooms rs;generalize (FA.names rs).map PV.str=NL at *;generalize aK rs=RM at *;simp[gN,PU.start,hR,ei,f1]
theorem wG(spans:List (Int×Int×Str))(last:Str)(hour:Int):l5 [(Room.hours spans last).pv,.int hour]=some (.str (FA.handOf spans last hour)):=by
 refine aG rfl ?_
 obtain⟨k1,k2⟩:=jm (enc:=pv3) (h:=iq 3 (aT (az 2) (aT (az 3) (aT (az 4) ir)))) (g:=fK) (FA.holds hour) (fun s=>PV.str s.2.2)
  (I:=fun ρ=>∃a b c,ρ=[.val (Room.hours spans last).pv,.val (.int hour),a,b,c]) (by
   rintro s ρ ⟨a,b,c,rfl⟩;refine⟨_,rfl,fun hp=>?_,fun hp=>⟨_,?_,.val (.int s.1),.val (.int s.2.1),.val (.str s.2.2),rfl⟩⟩
   ·unfold FA.holds at hp
    simp only[Lm,decide_eq_true_eq] at hp;simp[fK,hp.1,hp.2]
   ·unfold FA.holds at hp
    by_cases h1:s.1<=hour
    ·have h2:¬ hour<s.2.1:=by simpa [h1] using hp
     simp[fK,h1,h2]
    ·simp[fK,h1]) spans [.val (Room.hours spans last).pv,.val (.int hour),.no,.no,.no] ⟨_,_,_,rfl⟩
 unfold FA.handOf;cases e:spans.find? (FA.holds hour) with
 | some s=>
  have k:=k1 s e;simp only[Room.pv] at k ⊢;simp[kY,PU.start];rw[k];rfl
 | none=>
  obtain⟨ρ',k,a,b,c,rfl⟩:=k2 e;simp only[Room.pv] at k ⊢;simp[kY,PU.start];rw[k];simp
theorem xf (H:PV) (rs:FA.Rooms) (hR:gIx H (.str "rooms")=some (aK rs)) (hour:Int) (a:Sl):∀(n N:Nat) (x y:Str),n<=N->NM.comeGo rs hour n x=some y->
  whF (bq (aj (aj (aj (aj (ai 0) (kS "rooms") gIx) (ai 3) gIx) (kI 0) gIx) (kS "hours") gEq)) gq N [.val H,.val (.int hour),a,.val (.str x)]=.ok (.next [.val H,.val (.int hour),a,.val (.str y)])
 | 0,N,x,y,h,e=>by cases e
 | n+1,0,x,y,h,e=>by omega
 | n+1,N+1,x,y,h,e=>by
  have n2:=FA.ix_rooms rs x;unfold NM.comeGo at e;unfold whF;cases hr:FA.lookR rs x with
  | none=>rw[hr] at e;cases e
  | some r=>
   rw[hr] at e n2;have n2:gIx (aK rs) (.str x)=some r.pv:=n2;cases r with
   | hours sp l=>
    have n3:gIx (Room.hours sp l).pv (.int 0)=some (.str "hours"):=rfl;have n4:=wG sp l hour;have ih:=xf H rs hR hour a n N (FA.handOf sp l hour) y (by omega) e;have t:bq (aj (aj (aj (aj (ai 0) (kS "rooms") gIx) (ai 3) gIx) (kI 0) gIx) (kS "hours") gEq) [.val H,.val (.int hour),a,.val (.str x)]=.ok true:=by simp[hR,n2,n3]
    have b:gq [.val H,.val (.int hour),a,.val (.str x)]=.ok (.next [.val H,.val (.int hour),a,.val (.str (FA.handOf sp l hour))]):=by simp[gq,hR,n2,n4]
    simp only[t,R.ok_bind,if_true,b];exact ih
   | menu t ks wr wa=>
    have n3:gIx (Room.menu t ks wr wa).pv (.int 0)=some (.str "menu"):=rfl;have t:bq (aj (aj (aj (aj (ai 0) (kS "rooms") gIx) (ai 3) gIx) (kI 0) gIx) (kS "hours") gEq) [.val H,.val (.int hour),a,.val (.str x)]=.ok false:=by simp[hR,n2,n3]
    cases e;simp only[t,R.ok_bind,LV,if_false]
   | names t ks wr wa=>
    have n3:gIx (Room.names t ks wr wa).pv (.int 0)=some (.str "names"):=rfl;have t:bq (aj (aj (aj (aj (ai 0) (kS "rooms") gIx) (ai 3) gIx) (kI 0) gIx) (kS "hours") gEq) [.val H,.val (.int hour),a,.val (.str x)]=.ok false:=by simp[hR,n2,n3]
    cases e;simp only[t,R.ok_bind,LV,if_false]
   | hand t=>
    have n3:gIx (Room.hand t).pv (.int 0)=some (.str "hand"):=rfl;have t:bq (aj (aj (aj (aj (ai 0) (kS "rooms") gIx) (ai 3) gIx) (kI 0) gIx) (kS "hours") gEq) [.val H,.val (.int hour),a,.val (.str x)]=.ok false:=by simp[hR,n2,n3]
    cases e;simp only[t,R.ok_bind,LV,if_false]
   | fin t=>
    have n3:gIx (Room.fin t).pv (.int 0)=some (.str "end"):=rfl;have t:bq (aj (aj (aj (aj (ai 0) (kS "rooms") gIx) (ai 3) gIx) (kI 0) gIx) (kS "hours") gEq) [.val H,.val (.int hour),a,.val (.str x)]=.ok false:=by simp[hR,n2,n3]
    cases e;simp only[t,R.ok_bind,LV,if_false]
theorem Cw (H:PV) (rs:FA.Rooms) (hR:gIx H (.str "rooms")=some (aK rs)) (hour:Int) (n:Nat) (x y:Str) (hn:n<=300) (e:NM.comeGo rs hour n x=some y):jr [H,.int hour,.str x]=some (.str y):=by
 refine aG rfl ?_;have k:=xf H rs hR hour (.val (.str x)) n 300 x y hn e;simp only[lY,PU.start,KG,Mh,LK,Mg,La,N9,O5,uq,D8,AM,pZ,EX,HU,nu,List.set_cons_succ,List.set_cons_zero,GC,k,zC]
theorem oy(ns:List Int)(k:Nat):ax [.lst (ns.map .int),.int k]=some (.int (ns.getD k 0)):=by
 refine aG rfl ?_
 by_cases hk:k<ns.length
 ·have h2:(k:Int)<ns.length:=by omega
  have h3:atI (ns.map PV.int) (k:Int)=some (.int ns[k]):=bY rfl (by simp[hk]);simp[eC,PU.start,h2,h3,hk]
 ·have h2:¬ (k:Int)<ns.length:=by omega
  simp[eC,PU.start,h2,hk]
theorem qi(cell:Int)(many:Nat)(hm:many<=100):∃ls:List Int,ls.length=many/\(∀x∈ls,0<=x)/\aV [.int cell,.int many]=some (.lst (ls.map .int)):=by
 by_cases h2:cell % 2=1
 ·obtain⟨ρ',f1,ls,n,a,rfl,h1,h3⟩:=forR (n:=many) (lo:=0) (h:=az 4) (g:=eX) (ρ:=[.val (.int cell),.val (.int many),.own (.lst []),.val (.int (cell / 2)),.no])
   (I:=fun i ρ=>∃(ls:List Int)(n:Int)(a:Sl),ρ=[.val (.int cell),.val (.int many),.own (.lst (ls.map .int)),.val (.int n),a]/\ls.length=i/\∀x∈ls,0<=x) ⟨[],_,_,rfl,rfl,by simp⟩ (by
    rintro i ρ hi ⟨ls,n,a,rfl,h1,h3⟩;have hq:ls.length<16777216:=by omega
    refine⟨_,[.val (.int cell),.val (.int many),.own (.lst ((ls++[n % 5040]).map .int)),.val (.int (n / 5040)),.val (.int (0+(i:Int)))],rfl,.inl ?_,ls++[n % 5040],n / 5040,_,rfl,by simp[h1],fun x hx=>?_⟩
    ·simp (disch:=omega) [eX,dH,mH,hq]
    ·rcases LW.mp hx with hx | hx
     ·exact h3 x hx
     ·rw[Ky.mp hx];omega)
  refine⟨ls,h1,h3,aG rfl ?_⟩;simp (disch:=omega) [eB,PU.start,dH,mH,h2,uy];rw[f1];simp
 ·obtain⟨ρ',f1,ls,n,a,rfl,h1,h3⟩:=forR (n:=many+1) (lo:=0) (h:=az 4) (g:=eW) (ρ:=[.val (.int cell),.val (.int many),.own (.lst []),.val (.int (cell / 2 % 2147483647)),.no])
   (I:=fun i ρ=>∃(ls:List Int)(n:Int)(a:Sl),ρ=[.val (.int cell),.val (.int many),.own (.lst (ls.map .int)),.val (.int n),a]/\ls.length=i/\∀x∈ls,0<=x) ⟨[],_,_,rfl,rfl,by simp⟩ (by
    rintro i ρ hi ⟨ls,n,a,rfl,h1,h3⟩;have hq:ls.length<16777216:=by omega
    rw[Pl];have m1:wj (.int (n+(i:Int)+1)) (.int 48271)=some (.int ((n+(i:Int)+1) * 48271)):=xN (.inr (by decide));have m2:∀z:Int,wj (.int z) (.int 69621)=some (.int (z * 69621)):=fun z=>xN (.inr (by decide));refine⟨_,[.val (.int cell),.val (.int many),.own (.lst ((ls++[(n+(i:Int)+1) * 48271 % 2147483647 * 69621 % 2147483629]).map .int)),.val (.int ((n+(i:Int)+1) * 48271 % 2147483647)),.val (.int (i:Int))],rfl,.inl ?_,_,_,_,rfl,by simp[h1],fun x hx=>?_⟩
    ·simp (disch:=omega) [eW,dH,m1,m2,hq]
    ·rcases LW.mp hx with hx | hx
     ·exact h3 x hx
     ·rw[Ky.mp hx];omega)
  refine⟨ls.drop 1,by simp[h1],fun x hx=>h3 x (RC hx),aG rfl ?_⟩;have e1:(((many:Int)+1)).toNat=many+1:=by omega
  have e2:=NM.cut_1 (ls.map PV.int) (by rw[KH];omega);simp (disch:=omega) [eB,PU.start,dH,mH,h2,uy,e1];rw[f1];simp[e2]
end K38
namespace K38
open PySem L2 PU MT NM BG NW
def c20:List Nat:=[98,99,100,102,103,104,106,108,109,110,112,113,114,115,116,118,119,120,121,122]
theorem FO:("bcdfghjlmnpqrstvwxyz":Str)=mkS c20:=by decide +kernel
theorem zk:∀i:Fin 20,∀j:Fin 20,c20.getD i.1 0=c20.getD j.1 0->i.1=j.1:=by decide +kernel
theorem CD(i j:Nat)(hi:i<20)(hj:j<20)(e:c20.getD i 0=c20.getD j 0):i=j:=zk ⟨i,hi⟩ ⟨j,hj⟩ e
def sgn(ls:List Int)(at_:Int)(t k:Nat):Nat:=c20.getD ((ls.getD k 0+3 * (t:Int) * (if (k:Int)=at_ then 1 else 0)) % 20).toNat 0
def cds(ls:List Int)(at_:Int)(t i:Nat):List Nat:=(KM i).map (sgn ls at_ t)
abbrev nst(c:Int)(ls:List Int)(size at_:Int)(done:List PV)(a b d:Sl):PSt:=
 [.val (.int c),.val (.str (mkS c20)),.val (.lst (ls.map .int)),.val (.int size),.val (.int at_),.own (.lst done),a,b,d]
theorem yz(c:Int)(ls:List Int)(size at_:Int)(done:List PV)(t k:Nat)(x:List Nat)(hl:ls.length=10)(hk:k<8)(hx:x.length<=100) :
  eI (nst c ls size at_ done (.val (.int t)) (.val (.str (mkS x))) (.val (.int k)))=.ok (.next (nst c ls size at_ done (.val (.int t)) (.val (.str (mkS (x++[sgn ls at_ t k])))) (.val (.int k)))):=by
 have i1:atI (ls.map PV.int) (k:Int)=some (.int (ls.getD k 0)):=by
  rw[fD ls k (by omega),MU,LY (by omega)];rfl
 have m1:wj (.int 3) (.int t)=some (.int (3 * t)):=xN (.inl (by decide));have hq:(if (k:Int)=at_ then (1:Int) else 0).natAbs<18446744073709551616:=by split <;> decide
 have m2:wj (.int (3 * (t:Int))) (.int (if (k:Int)=at_ then 1 else 0))=some (.int (3 * (t:Int) * (if (k:Int)=at_ then 1 else 0))):=xN (.inr hq);have h3:∀z:Int,gIx (.str (mkS c20)) (.int (z % 20))=some (.str ⟨#[c20.getD (z % 20).toNat 0]⟩):=fun z=>yG c20 (z % 20) (by omega) (by show _<(20:Int);omega) (by decide);have h4:=il x (sgn ls at_ t k) (by omega);unfold sgn at h4 ⊢;simp (disch:=omega) [-MU,eI,nst,i1,m1,m2,dH,h3,h4]
theorem yy(c:Int)(ls:List Int)(size:Nat)(at_:Int)(done:List PV)(t:Nat)(b d:Sl)(hl:ls.length=10)(hs:size<=8)(hd:done.length<=100):∃d',
  eG (nst c ls size at_ done (.val (.int t)) b d)=.ok (.next (nst c ls size at_ (done++[.str (mkS (cds ls at_ t size))]) (.val (.int t)) (.val (.str (mkS (cds ls at_ t size)))) d')):=by
 obtain⟨ρ',f1,d',rfl⟩:=forR (n:=size) (lo:=0) (h:=az 8) (g:=eI) (ρ:=nst c ls size at_ done (.val (.int t)) (.val (.str (mkS []))) d)
  (I:=fun i ρ=>∃d,ρ=nst c ls size at_ done (.val (.int t)) (.val (.str (mkS (cds ls at_ t i)))) d) ⟨d,rfl⟩ (by
   rintro i ρ hi ⟨d,rfl⟩;have e:=yz c ls size at_ done t i (cds ls at_ t i) hl (by omega) (by simp[cds];omega);have:cds ls at_ t (i+1)=cds ls at_ t i++[sgn ls at_ t i]:=by simp[cds,Oj]
   rw[Pl,this];exact⟨_,_,rfl,.inl e,_,rfl⟩)
 refine⟨d',?_⟩;have hq:done.length<16777216:=by omega
 simp (disch:=omega) [eG,gh,uy];rw[f1];simp[hq]
theorem names (c:Int):∃nms:List Str,nms.length=6/\nms.Nodup/\(∀x∈nms,x≠"back"/\x≠"")/\eT [.int c]=some (.lst (nms.map .str)):=by
 obtain⟨ls,l1,l2,el⟩:=qi c 10 (by omega);have el:aV [.int c,.int 10]=some (.lst (ls.map .int)):=el;have i8:atI (ls.map PV.int) 8=some (.int ls[8]):=fD ls 8 (by omega);have i9:atI (ls.map PV.int) 9=some (.int ls[9]):=fD ls 9 (by omega);generalize ls[8]=z8 at i8;generalize ls[9]=z9 at i9;obtain⟨size,hsz,h1,h8⟩:∃size:Nat,(1+z8 % 8)=(size:Int)/\1<=size/\size<=8:=⟨(1+z8 % 8).toNat,by omega,by omega,by omega⟩;obtain⟨at_,hat,ha0,ha1⟩:∃at_:Int,z9 % (size:Int)=at_/\0<=at_/\at_<size:=⟨z9 % (size:Int),rfl,QB _ (by omega),Pc _ (by omega)⟩
 obtain⟨ρ',f1,a,b,d,rfl⟩:=forR (n:=6) (lo:=0) (h:=az 6) (g:=eG) (ρ:=nst c ls size at_ [] .no .no .no)
  (I:=fun i ρ=>∃a b d,ρ=nst c ls size at_ ((KM i).map fun t=>.str (mkS (cds ls at_ t size))) a b d) ⟨_,_,_,rfl⟩ (by
   rintro i ρ hi ⟨a,b,d,rfl⟩;obtain⟨d',e⟩:=yy c ls size at_ ((KM i).map fun t=>.str (mkS (cds ls at_ t size))) i b d l1 h8 (by simp;omega);rw[Pl,Oj,L8];exact⟨_,_,rfl,.inl e,_,_,_,rfl⟩)
 refine⟨(KM 6).map fun t=>mkS (cds ls at_ t size),by simp,?_,?_,aG rfl ?_⟩
 ·unfold List.Nodup
  rw[Ry];refine Pb (R:=fun a b=>a<b) (fun {i j} hi hj hij e=>?_) Qi;rw[MS] at hi hj;have e:=BG.mkS_inj e;have hs:at_.toNat<size:=by omega
  have e2:=congrArg (fun l:List Nat=>l[at_.toNat]?) e;simp only[cds,L3,O7 hs,Oa] at e2;have e3:sgn ls at_ i at_.toNat=sgn ls at_ j at_.toNat:=Lh e2;unfold sgn at e3;rw[if_pos (by omega)] at e3;have e4:=CD _ _ (by omega) (by omega) e3;omega
 ·intro x hx
  obtain⟨t,_,rfl⟩:=KU.mp hx;have hb:("back":Str)=mkS [98,97,99,107]:=by decide +kernel
  refine⟨fun e=>?_,fun e=>?_⟩
  ·rw[hb] at e
   have e:=BG.mkS_inj e;have m:97∈cds ls at_ t size:=by rw[e];simp
   obtain⟨k,_,ek⟩:=KU.mp m;have:∀z:Nat,z<20->c20.getD z 0≠97:=by decide +kernel
   exact this _ (by omega) ek
  ·rw[gh] at e
   have e:=BG.mkS_inj e;have:=congrArg Lz e;simp[cds] at this;omega
 ·simp only[nst] at f1
  have hsz0:(0:Int)<size:=by omega
  simp (disch:=omega) [-L7,iU,PU.start,FO,el,i8,i9,dH,hsz,hat,uy];rw[f1];simp
def enc(w:W):PV:=.str (mkS w)
def W8:List W:=[[98,111],[98,111,98],[108,101,101]]
def LSa:WO.Lts:=[(50,[97,98,99]),(51,[100,101,102]),(53,[106,107,108]),(54,[109,110,111])]
def LSb:WO.Lts:=[(50,[97,98,99]),(51,[106,107,108]),(53,[100,101,102]),(54,[109,110,111])]
class LX where
 ls:WO.Lts
 two:ls=LSa\/ls=LSb
def LS5[LX]:WO.Lts:=LX.ls
theorem p9[LX]:LS5=LSa\/LS5=LSb:=LX.two
theorem EC[LX]:∀w∈W8,∀c∈w,(WO.keyL LS5 c).isSome=true:=by rcases p9 with h | h <;> rw[h] <;> decide +kernel
theorem HR[LX]:(W8.map (cdH LS5)).Nodup:=by rcases p9 with h | h <;> rw[h] <;> decide +kernel
theorem HQ[LX]:∀l∈LS5,l.1≠35:=by rcases p9 with h | h <;> rw[h] <;> decide +kernel
theorem GP:W8.Nodup:=by decide +kernel
theorem zH:∀w∈W8,w.length<=4:=by decide +kernel
theorem lpa:PV.lst [.tup [.str "2",.str "abc"],.tup [.str "3",.str "def"],.tup [.str "5",.str "jkl"],.tup [.str "6",.str "mno"]]=WO.ltPv LSa:=by kernel_rfl
theorem lpb:PV.lst [.tup [.str "2",.str "abc"],.tup [.str "3",.str "jkl"],.tup [.str "5",.str "def"],.tup [.str "6",.str "mno"]]=WO.ltPv LSb:=by kernel_rfl
theorem HM(a b:W):gEq (.str (mkS a)) (.str (mkS b))=some (.bl (decide (a=b))):=by
 rw[hJ]
 congr 2
 exact decide_eq_decide.mpr ⟨fun e=>mkS_inj e,fun e=>by rw[e]⟩
def K12:List Nat:=[48,49,50,51,52,53,54,55,56,57,42,35]
def E12:List (Nat×Nat):=[(0,48),(1,49),(2,50),(3,51),(4,52),(5,53),(6,54),(7,55),(8,56),(9,57),(10,42),(11,35)]
def e12(p:Nat×Nat):PV:=.tup [.int p.1,WO.sg p.2]
theorem FG:pO (.str "0123456789*#")=some (E12.map e12):=by kernel_rfl
theorem Im:E12.map (·.2)=K12:=by decide
theorem FF:∀p∈E12,p.1<12:=by decide
theorem F6:K12.Nodup:=by decide
def pvk(p:Nat×Str):PV:=.tup [WO.sg p.1,.str p.2]
def mk2(p:Nat×Str):Str×Str:=(⟨#[p.1]⟩,p.2)
theorem Ad(ks:List (Nat×Str)):(ks.map mk2).map pv2=ks.map pvk:=by rw[L7];rfl
def mw2(p:W×Str):Str×Str:=(mkS p.1,p.2)
theorem Et(wt:List (W×Str)):PV.tup ((wt.map mw2).map pv2)=zG wt:=by rw[L7];rfl
def RW(nms:List Str):Room->Prop
 | .menu _ ks wr wa=>(∃kt:List (Nat×Str),ks=kt.map mk2/\ME (kt.map (·.1)) K12/\∀k∈kt,k.2="back"\/k.2∈nms)/\wr.2∈nms/\wa.2∈nms/\(1<=wr.1/\wr.1<=2)/\(1<=wa.1/\wa.1<=2)
 | .names _ ws wr wa=>(∃wt:List (W×Str),ws=wt.map mw2/\ME (wt.map (·.1)) W8/\wt≠[]/\∀p∈wt,p.2∈nms)/\wr.2∈nms/\wa.2∈nms/\(1<=wr.1/\wr.1<=2)/\(1<=wa.1/\wa.1<=2)
 | _=>True
def Fit(nms ord:List Str)(r:Str×Room):Prop:=∃(k:Nat)(hk:k<ord.length),ord[k]=r.1/\(∀sp l,r.2=.hours sp l->l∈ord.drop (k+1)/\∀s∈sp,s.2.2∈ord.drop (k+1))/\RW nms r.2
structure Good(nms ord:List Str)(rs:FA.Rooms):Prop where
 ok:∀r∈rs,Fit nms ord r
 nd:(rs.map (·.1)).Nodup
theorem DT(nms:List Str)(rs:FA.Rooms)(k:Str)(r:Room)(ord:List Str)(g:Good nms ord rs)(hr:Fit nms ord (k,r)):Good nms ord (uT rs k r)/\(uT rs k r).length<=rs.length+1:=by
 obtain⟨a,b,c⟩:=Bh (rs:=rs) (k:=k) (r:=r) (Fit nms ord) g.ok (fun x e1 e2=>by have:x=(k,r):=Pd e1 e2;rw[this];exact hr) g.nd;exact⟨⟨a,b⟩,c⟩
theorem AS(rs:FA.Rooms):aK rs=.dct (rs.map fun r=>.inr r.1) (rs.map fun r=>r.2.pv):=rfl
theorem xc(nms ord:List Str)(rs:FA.Rooms)(nd:ord.Nodup)(g:Good nms ord rs)(hall:∀x∈ord,x∈FA.names rs)(hour:Int):∀(n k:Nat)(hk:k<ord.length),ord.length-k<=n->∃y r,comeGo rs hour n ord[k]=some y/\FA.lookR rs y=some r/\y∈ord/\∀sp l,r≠.hours sp l
 | 0,k,hk,h=>by omega
 | n+1,k,hk,h=>by
  obtain⟨r,hr⟩:=FA.look_some rs ord[k] (hall _ (N8 hk));obtain⟨k',hk',e,ht,_⟩:=g.ok _ (vt rs _ r hr);have ek:k'=k:=(Pw nd).mp e;subst ek;unfold comeGo;rw[hr]
  by_cases hh:∃sp l,r=.hours sp l
  ·obtain⟨sp,l,rfl⟩:=hh
   obtain⟨h1,h2⟩:=ht sp l rfl
   have hin:FA.handOf sp l hour∈ord.drop (k'+1):=by
    unfold FA.handOf;cases e:sp.find? (FA.holds hour) with
    | none=>exact h1
    | some s=>exact h2 s (Md e)
   obtain⟨j,hj,e2⟩:=Mn hin;rw[OW] at hj;rw[List.getElem_drop] at e2;dsimp only;rw[← e2];exact xc nms ord rs nd g hall hour n (k'+1+j) (by omega) (by omega)
  ·refine⟨ord[k'],r,?_,hr,N8 _,fun sp l e=>hh ⟨sp,l,e⟩⟩
   cases r with
   | hours sp l=>exact absurd ⟨sp,l,rfl⟩ hh
   | _=>rfl
structure HG[LX](h:House)(nms ord:List Str):Prop where
 nd:ord.Nodup
 ol:ord.length<=20
 g:Good nms ord h.rooms
 all:∀x∈ord,x∈FA.names h.rooms
 nm:∀x∈nms,x∈ord
 mn:∀x∈ord,x∈nms
 nb:∀x∈nms,x≠"back"/\x≠""
 fst:h.first∈nms
 lets:gIx h.pv (.str "letters")=some (WO.ltPv LS5)
 rl:h.rooms.length<=20
 nl:nms.length<=6
def ltS(ls:WO.Lts):List (Str×Str):=ls.map fun l=>(⟨#[l.1]⟩,mkS l.2)
theorem EB(ls:WO.Lts):PV.lst ((ltS ls).map pv2)=WO.ltPv ls:=by
 unfold ltS WO.ltPv;rw[L7];rfl
def sT(r b:Str)(w v:Int)(t:W):PV:=.tup [.str r,.str b,.int w,.int v,.str (mkS t)]
section
variable[LX]
def beg(wt:List (W×Str))(w:W):W:=own ((wt.map (·.1)).map (cdH LS5)) (cdH LS5 w)
def TY:Room->W->Prop
 | .menu ..,t=>t=[]
 | .names _ ws _ _,t=>∀wt:List (W×Str),ws=wt.map mw2->(t=[]\/∃p∈wt,t <+: beg wt p.1/\t≠beg wt p.1)
 | _,t=>t=[]
theorem uA(r:Room):TY r []:=by
 cases r with
 | names=>exact fun _ _=>.inl rfl
 | _=>exact rfl
def wrB:Room->Int
 | .menu _ _ wr _=>wr.1
 | .names _ _ wr _=>wr.1
 | _=>2
def waB:Room->Int
 | .menu _ _ _ wa=>wa.1
 | .names _ _ _ wa=>wa.1
 | _=>2
theorem RW.b{nms:List Str}{room:Room}(h:RW nms room):(1<=wrB room/\wrB room<=2)/\1<=waB room/\waB room<=2:=by
 cases room with
 | menu t ks wr wa=>exact⟨h.2.2.2.1,h.2.2.2.2⟩
 | names t ks wr wa=>exact⟨h.2.2.2.1,h.2.2.2.2⟩
 | _=>exact⟨⟨show (1:Int)<=2 by decide,show (2:Int)<=2 by decide⟩,show (1:Int)<=2 by decide,show (2:Int)<=2 by decide⟩
structure OK(h:House)(nms:List Str)(r b:Str)(room:Room)(w v:Int)(t:W):Prop where
 lk:FA.lookR h.rooms r=some room
 nh:∀sp l,room≠.hours sp l
 rn:r∈nms
 bn:b=""\/b∈nms
 tl:t.length<=50
 ty:TY room t
 hw:0<=w/\w<wrB room
 hv:0<=v/\v<waB room
section
variable{h : House}{nms ord : List Str}(hg : HG h nms ord)(hour : Int)
theorem AY(r b:Str)(w v:Int)(t:W)(S D X:PV)(h1:aM [h.pv,.str r]=some D)(h2:bH [h.pv,.int hour,D,sT r b w v t,S]=some X):m8 [h.pv,.int hour,sT r b w v t,S]=some X:=by
 have s0:gIx (sT r b w v t) (.int 0)=some (.str r):=rfl;generalize sT r b w v t=S at *;refine aG rfl ?_;simp[wg,PU.start,s0,h1,h2]
include hg
theorem hRo:gIx h.pv (.str "rooms")=some (aK h.rooms):=by simp[House.pv]
theorem tF(r:Str)(room:Room)(lk:FA.lookR h.rooms r=some room):RW nms room:=by
 obtain⟨_,_,_,_,hw⟩:=hg.g.ok _ (vt h.rooms r room lk);exact hw
theorem cm (x:Str) (hx:x∈nms):∃y room,comeGo h.rooms hour 20 x=some y/\∀b:Str,(b=""\/b∈nms)->OK h nms y b room 0 0 []:=by
 obtain⟨k,hk,ek⟩:=Mn (hg.nm x hx);obtain⟨y,r,ey,hr,hy,hh⟩:=xc nms ord h.rooms hg.nd hg.g hg.all hour 20 k hk (by have:=hg.ol;omega);rw[ek] at ey;have bb:=(tF hg y r hr).b;exact⟨y,r,ey,fun b hb=>⟨hr,hh,hg.mn y hy,hb,by simp,uA r,⟨by omega,by omega⟩,⟨by omega,by omega⟩⟩⟩
theorem arr (x:Str) (hx:x∈nms) (b:Str) (hb:b=""\/b∈nms):∃y room,OK h nms y b room 0 0 []/\bX [h.pv,.int hour,.str x,.str b]=some (sT y b 0 0 []):=by
 obtain⟨y,room,e,ok⟩:=cm hg hour x hx;refine⟨y,room,ok b hb,?_⟩;have k:=Cw h.pv h.rooms (hRo hg) hour 20 x y (by omega) e;refine aG rfl ?_;have em:=gh;have u:sT y b 0 0 []=.tup [.str y,.str b,.int 0,.int 0,.str ""]:=by unfold sT;rw[← em]
 rw[u];simp[m3,PU.start,k]
theorem wrong(r b:Str)(w v:Int)(t:W)(room:Room)(ok:OK h nms r b room w v t)(m:Int)(x:Str)(h3:gIx room.pv (.int 3)=some (.tup [.int m,.str x]))(hm:wrB room=m)(hx:x∈nms) :
  ∃r' b' w' v' room',OK h nms r' b' room' w' v' []/\bL [h.pv,.int hour,sT r b w v t]=some (sT r' b' w' v' []):=by
 have n2:=FA.ix_rooms h.rooms r;rw[ok.lk] at n2;have n2:gIx (aK h.rooms) (.str r)=some room.pv:=n2;have hR:=hRo hg;have em:=gh;have u:∀r b w v,sT r b w v []=.tup [.str r,.str b,.int w,.int v,.str ""]:=fun r b w v=>by unfold sT;rw[← em]
 by_cases hw:w+1=m
 ·obtain⟨y,room',ok',e1⟩:=arr hg hour x hx r (.inr ok.rn)
  refine⟨y,r,0,0,room',ok',aG rfl ?_⟩;unfold sT at e1 ⊢;generalize mkS t=T at *;generalize room.pv=RP at *;generalize aK h.rooms=RM at *;generalize h.pv=H at *;simp[dG,PU.start,hR,n2,h3,hw,e1]
 ·have hw1:=ok.hw
  refine⟨r,b,w+1,v,room,⟨ok.lk,ok.nh,ok.rn,ok.bn,by simp,uA room,⟨by omega,by omega⟩,ok.hv⟩,aG rfl ?_⟩;rw[u];unfold sT;generalize mkS t=T at *;generalize room.pv=RP at *;generalize aK h.rooms=RM at *;generalize h.pv=H at *;simp[dG,PU.start,hR,n2,h3,hw]
theorem wait(r b:Str)(w v:Int)(t:W)(room:Room)(ok:OK h nms r b room w v t)(m:Int)(x:Str)(h3:gIx room.pv (.int 4)=some (.tup [.int m,.str x]))(hm:waB room=m)(hx:x∈nms) :
  ∃r' b' w' v' room',OK h nms r' b' room' w' v' []/\jt [h.pv,.int hour,sT r b w v t]=some (sT r' b' w' v' []):=by
 have n2:=FA.ix_rooms h.rooms r;rw[ok.lk] at n2;have n2:gIx (aK h.rooms) (.str r)=some room.pv:=n2;have hR:=hRo hg;have em:=gh;have u:∀r b w v,sT r b w v []=.tup [.str r,.str b,.int w,.int v,.str ""]:=fun r b w v=>by unfold sT;rw[← em]
 by_cases hw:v+1=m
 ·obtain⟨y,room',ok',e1⟩:=arr hg hour x hx r (.inr ok.rn)
  refine⟨y,r,0,0,room',ok',aG rfl ?_⟩;unfold sT at e1 ⊢;generalize mkS t=T at *;generalize room.pv=RP at *;generalize aK h.rooms=RM at *;generalize h.pv=H at *;simp[jj,PU.start,hR,n2,h3,hw,e1]
 ·have hw1:=ok.hv
  refine⟨r,b,w,v+1,room,⟨ok.lk,ok.nh,ok.rn,ok.bn,by simp,uA room,ok.hw,⟨by omega,by omega⟩⟩,aG rfl ?_⟩;rw[u];unfold sT;generalize mkS t=T at *;generalize room.pv=RP at *;generalize aK h.rooms=RM at *;generalize h.pv=H at *;simp[jj,PU.start,hR,n2,h3,hw]
end
theorem Ha(a b:Nat):gEq (WO.sg a) (WO.sg b)=some (.bl (decide (a=b))):=by
 unfold WO.sg;rw[hJ]
 congr 2
 exact decide_eq_decide.mpr ⟨fun e=>by injection e with e;injection e with e;injection e,fun e=>by rw[e]⟩
theorem Jr:PV.str "w"=WO.sg 119:=by kernel_rfl
theorem J2 (c:Nat):gEq (WO.sg c) (.str "w")=some (.bl (decide (c=119))):=by rw[Jr,Ha]
section
variable{h : House}{nms ord : List Str}(hg : HG h nms ord)(hour : Int)
include hg
structure Goes(h:House)(nms:List Str)(hour:Int)(D:PV)(st:PV)(c:Nat)(r' b':Str)(w' v':Int)(t':W)(room':Room):Prop where
 ok:OK h nms r' b' room' w' v' t'
 fo:bH [h.pv,.int hour,D,st,WO.sg c]=some (sT r' b' w' v' t')
theorem sf (r b:Str) (w v:Int) (t:W) (room:Room) (ok:OK h nms r b room w v t) (c:Nat) (k:Str) (h0:gIx room.pv (.int 0)=some (.str k)) (hk:k="hand"\/k="end") (D:PV):Goes h nms hour D (sT r b w v t) c r b w v t room:=by
 have n2:=FA.ix_rooms h.rooms r;rw[ok.lk] at n2;have n2:gIx (aK h.rooms) (.str r)=some room.pv:=n2;have hR:=hRo hg;have s0:gIx (sT r b w v t) (.int 0)=some (.str r):=rfl;refine⟨ok,aG rfl ?_⟩;generalize sT r b w v t=S at *;generalize room.pv=RP at *;generalize aK h.rooms=RM at *;generalize h.pv=H at *;rcases hk with rfl | rfl
 ·simp[fh,PU.start,s0,hR,n2,h0]
 ·simp[fh,PU.start,s0,hR,n2,h0]
theorem As (r b:Str) (w v:Int) (t:W) (room:Room) (ok:OK h nms r b room w v t) (k:Str) (h0:gIx room.pv (.int 0)=some (.str k)) (hk:k="menu"\/k="names") (m:Int) (x:Str) (h4:gIx room.pv (.int 4)=some (.tup [.int m,.str x])) (hm:waB room=m) (hx:x∈nms) (D:PV):∃r' b' w' v' t' room',Goes h nms hour D (sT r b w v t) 119 r' b' w' v' t' room':=by
 obtain⟨r',b',w',v',room',ok',e1⟩:=wait hg hour r b w v t room ok m x h4 hm hx;have n2:=FA.ix_rooms h.rooms r;rw[ok.lk] at n2;have n2:gIx (aK h.rooms) (.str r)=some room.pv:=n2;have hR:=hRo hg;have s0:gIx (sT r b w v t) (.int 0)=some (.str r):=rfl;have q:=J2 119;have cw:c_WAIT=.str "w":=rfl;refine⟨r',b',w',v',[],room',ok',aG rfl ?_⟩;generalize sT r b w v t=S at *;generalize sT r' b' w' v' []=S' at *;generalize room.pv=RP at *;generalize aK h.rooms=RM at *;generalize h.pv=H at *;generalize WO.sg 119=G at *;rcases hk with rfl | rfl
 ·simp[fh,PU.start,s0,hR,n2,h0,cw,q,e1]
 ·simp[fh,PU.start,s0,hR,n2,h0,cw,q,e1]
theorem m5 (r b:Str) (w v:Int) (t:W) (room:Room) (ok:OK h nms r b room w v t) (k:Str) (h0:gIx room.pv (.int 0)=some (.str k)) (hk:k="menu"\/k="names") (D X:PV) (c:Nat) (hc:c≠119) (e:eD [h.pv,.int hour,D,sT r b w v t,WO.sg c]=some X):bH [h.pv,.int hour,D,sT r b w v t,WO.sg c]=some X:=by
 have n2:=FA.ix_rooms h.rooms r;rw[ok.lk] at n2;have n2:gIx (aK h.rooms) (.str r)=some room.pv:=n2;have hR:=hRo hg;have s0:gIx (sT r b w v t) (.int 0)=some (.str r):=rfl;have q:=J2 c;rw[decide_eq_false hc] at q;have cw:c_WAIT=.str "w":=rfl;generalize sT r b w v t=S at *;generalize room.pv=RP at *;generalize aK h.rooms=RM at *;generalize h.pv=H at *;generalize WO.sg c=G at *;refine aG rfl ?_;rcases hk with rfl | rfl
 ·simp[fh,PU.start,s0,hR,n2,h0,cw,q,e]
 ·simp[fh,PU.start,s0,hR,n2,h0,cw,q,e]
end
section
variable{h : House}{nms ord : List Str}(hg : HG h nms ord)(hour : Int)
theorem Am(r b:Str)(w v:Int)(t:W)(c:Nat)(ht:t.length<=100)(ks:List Key)(ps:List PV)(F:W->Option PV)(T:Tells ks ps F)(hF:F (t++[c])=none)(X:PV)(e:bL [h.pv,.int hour,sT r b w v t]=some X):eD [h.pv,.int hour,.dct ks ps,sT r b w v t,WO.sg c]=some X:=by
 have ad:cj (.str (mkS t)) (WO.sg c)=some (.str (mkS (t++[c]))):=il t c (by omega);have ni:=T.notIn (t++[c]);rw[hF] at ni;have ni:iB (.str (mkS (t++[c]))) (.dct ks ps)=some (.bl true):=ni;have s4:gIx (sT r b w v t) (.int 4)=some (.str (mkS t)):=rfl;generalize sT r b w v t=S at *;generalize PV.dct ks ps=D at *;generalize WO.sg c=G at *;generalize mkS (t++[c])=TT at *;generalize h.pv=H at *;refine aG rfl ?_;simp[gc,PU.start,s4,ad,ni,e]
theorem BX(r b:Str)(w v:Int)(t:W)(c:Nat)(ht:t.length<=100)(ks:List Key)(ps:List PV)(F:W->Option PV)(T:Tells ks ps F)(hF:F (t++[c])=some .non):eD [h.pv,.int hour,.dct ks ps,sT r b w v t,WO.sg c]=some (sT r b w v (t++[c])):=by
 have ad:cj (.str (mkS t)) (WO.sg c)=some (.str (mkS (t++[c]))):=il t c (by omega);have ni:=T.notIn (t++[c]);have ix:=T.ix (t++[c]);rw[hF] at ni ix;have ni:iB (.str (mkS (t++[c]))) (.dct ks ps)=some (.bl false):=ni;have s0:gIx (sT r b w v t) (.int 0)=some (.str r):=rfl;have s1:gIx (sT r b w v t) (.int 1)=some (.str b):=rfl;have s2:gIx (sT r b w v t) (.int 2)=some (.int w):=rfl;have s3:gIx (sT r b w v t) (.int 3)=some (.int v):=rfl;have s4:gIx (sT r b w v t) (.int 4)=some (.str (mkS t)):=rfl;have q:gEq .non (.str "back")=some (.bl false):=rfl;have n:tQ .non .non=some (.bl true):=rfl;generalize sT r b w v t=S at *;generalize PV.dct ks ps=D at *;generalize WO.sg c=G at *;unfold sT;generalize mkS (t++[c])=TT at *;generalize h.pv=H at *;refine aG rfl ?_;simp[gc,PU.start,s0,s1,s2,s3,s4,ad,ni,ix,q,n]
theorem An (r b:Str) (w v:Int) (t:W) (c:Nat) (ht:t.length<=100) (ks:List Key) (ps:List PV) (F:W->Option PV) (T:Tells ks ps F) (x:Str) (hF:F (t++[c])=some (.str x)) (h1:x≠"back") (h2:x≠"") (X:PV) (e:bX [h.pv,.int hour,.str x,.str r]=some X):eD [h.pv,.int hour,.dct ks ps,sT r b w v t,WO.sg c]=some X:=by
 have ad:cj (.str (mkS t)) (WO.sg c)=some (.str (mkS (t++[c]))):=il t c (by omega);have ni:=T.notIn (t++[c]);have ix:=T.ix (t++[c]);rw[hF] at ni ix;have ni:iB (.str (mkS (t++[c]))) (.dct ks ps)=some (.bl false):=ni;have s0:gIx (sT r b w v t) (.int 0)=some (.str r):=rfl;have s1:gIx (sT r b w v t) (.int 1)=some (.str b):=rfl;have s4:gIx (sT r b w v t) (.int 4)=some (.str (mkS t)):=rfl;have n:tQ (.str x) .non=some (.bl false):=rfl;generalize sT r b w v t=S at *;generalize PV.dct ks ps=D at *;generalize WO.sg c=G at *;generalize mkS (t++[c])=TT at *;generalize h.pv=H at *;refine aG rfl ?_;simp[gc,PU.start,s0,s1,s4,ad,ni,ix,h1,h2,n,e]
theorem yC (r b:Str) (w v:Int) (t:W) (c:Nat) (ht:t.length<=100) (ks:List Key) (ps:List PV) (F:W->Option PV) (T:Tells ks ps F) (hF:F (t++[c])=some (.str "back")) (h2:b≠"") (X:PV) (e:bX [h.pv,.int hour,.str b,.str r]=some X):eD [h.pv,.int hour,.dct ks ps,sT r b w v t,WO.sg c]=some X:=by
 have ad:cj (.str (mkS t)) (WO.sg c)=some (.str (mkS (t++[c]))):=il t c (by omega);have ni:=T.notIn (t++[c]);have ix:=T.ix (t++[c]);rw[hF] at ni ix;have ni:iB (.str (mkS (t++[c]))) (.dct ks ps)=some (.bl false):=ni;have s0:gIx (sT r b w v t) (.int 0)=some (.str r):=rfl;have s1:gIx (sT r b w v t) (.int 1)=some (.str b):=rfl;have s4:gIx (sT r b w v t) (.int 4)=some (.str (mkS t)):=rfl;have n:tQ (.str b) .non=some (.bl false):=rfl;generalize sT r b w v t=S at *;generalize PV.dct ks ps=D at *;generalize WO.sg c=G at *;generalize mkS (t++[c])=TT at *;generalize h.pv=H at *;refine aG rfl ?_;simp[gc,PU.start,s0,s1,s4,ad,ni,ix,h2,n,e]
theorem qw (r:Str) (w v:Int) (t:W) (c:Nat) (ht:t.length<=100) (ks:List Key) (ps:List PV) (F:W->Option PV) (T:Tells ks ps F) (hF:F (t++[c])=some (.str "back")) (X:PV) (e:bL [h.pv,.int hour,sT r "" w v t]=some X):eD [h.pv,.int hour,.dct ks ps,sT r "" w v t,WO.sg c]=some X:=by
 have ad:cj (.str (mkS t)) (WO.sg c)=some (.str (mkS (t++[c]))):=il t c (by omega);have ni:=T.notIn (t++[c]);have ix:=T.ix (t++[c]);rw[hF] at ni ix;have ni:iB (.str (mkS (t++[c]))) (.dct ks ps)=some (.bl false):=ni;have s0:gIx (sT r "" w v t) (.int 0)=some (.str r):=rfl;have s1:gIx (sT r "" w v t) (.int 1)=some (.str ""):=rfl;have s4:gIx (sT r "" w v t) (.int 4)=some (.str (mkS t)):=rfl;have n:tQ (.str "") .non=some (.bl false):=rfl;generalize sT r "" w v t=S at *;generalize PV.dct ks ps=D at *;generalize WO.sg c=G at *;generalize mkS (t++[c])=TT at *;generalize h.pv=H at *;refine aG rfl ?_;simp[gc,PU.start,s0,s1,s4,ad,ni,ix,n,e]
def kw(kt:List (Nat×Str)):List (W×Str):=kt.map fun p=>([p.1],p.2)
def kF(kt:List (Nat×Str))(p:W):Option PV:=((kw kt).find? fun q=>decide (q.1=p)).map fun q=>.str q.2
theorem jC:∀(wt:List (W×Str)),Tells (wt.map fun p=>.inr (mkS p.1)) (wt.map fun p=>.str p.2) fun p=>(wt.find? fun q=>decide (q.1=p)).map fun q=>.str q.2
 | []=>⟨rfl,fun p=>rfl,by simp⟩
 | q::wt=>⟨by simp,fun p=>by
   rw[KG,KG,mP]
   by_cases h:q.1=p
   ·rw[if_pos (by rw[h]),Qj (by simpa using h)]
    rfl
   ·rw[if_neg fun z=>h (mkS_inj (NI z)),Ng (by simpa using h)]
    exact(jC wt).at_ p,fun x hx=>by
   obtain⟨p,_,rfl⟩:=KU.mp hx;simp[noFn]⟩
theorem BV(kt:List (Nat×Str))(c:Nat):kF kt [c]=(kt.find? fun q=>decide (q.1=c)).map fun q=>.str q.2:=by
 unfold kF kw;rw[List.find?_map,Option.map_map]
 have:((fun q:W×Str=>decide (q.1=[c])) ∘ fun p:Nat×Str=>([p.1],p.2))=fun q:Nat×Str=>decide (q.1=c):=by
  funext q
  simp
 rw[this];rfl
include hg in
theorem lK(r:Str)(room:Room)(lk:FA.lookR h.rooms r=some room)(t:Str)(kt:List (Nat×Str))(wr wa:Int×Str)(hr:room=.menu t (kt.map mk2) wr wa)(hs:ME (kt.map (·.1)) K12):aM [h.pv,.str r]=some (wtD (kw kt)):=by
 have n2:=FA.ix_rooms h.rooms r;rw[lk,hr] at n2;have n2:gIx (aK h.rooms) (.str r)=some (.tup [.str "menu",.str t,.tup ((kt.map mk2).map pv2),.tup [.int wr.1,.str wr.2],.tup [.int wa.1,.str wa.2]]):=n2;have hR:=hRo hg
 have e:PV.tup ((kt.map mk2).map pv2)=zG (kw kt):=by
  rw[Ad];unfold zG kw;rw[L7];rfl
 have kl:kt.length<=12:=by
  have h1:=hs.length_le;have h2:K12.length=12:=rfl;rw[KH] at h1;omega
 have d:=wR (kw kt) (by simp[kw];omega) (by
  unfold kw;rw[L7];have nd:=hs.nodup F6;have:(Pf ((fun x:W×Str=>x.1) ∘ fun p:Nat×Str=>([p.1],p.2)) kt)=(kt.map (·.1)).map (fun c=>[c]):=by rw[L7];rfl
  rw[this]
  have inj:∀l:List Nat,l.Nodup->(l.map fun c=>[c]).Nodup:=by
   intro l
   induction l with
   | nil=>intro _;simp
   | cons a l ih=>
    intro h1;rw[Le] at h1;rw[KG,Le];refine⟨fun z=>?_,ih h1.2⟩;obtain⟨b,hb,e⟩:=KU.mp z;have:b=a:=by simpa using e
    subst this;exact h1.1 hb
  exact inj _ nd)
 rw[e] at n2;generalize zG (kw kt)=KP at *;generalize wtD (kw kt)=KD at *;generalize aK h.rooms=RM at *;generalize h.pv=H at *;refine aG rfl ?_;simp[dB,PU.start,hR,n2,d]
include hg in
theorem vZ(r b:Str)(w v:Int)(room:Room)(tt:W)(ok:OK h nms r b room w v tt)(t:Str)(ks:List (Str×Str))(wr wa:Int×Str)(hr:room=.menu t ks wr wa)(c:Nat)(hc:c≠119):∃D r' b' w' v' t' room',aM [h.pv,.str r]=some D/\Goes h nms hour D (sT r b w v tt) c r' b' w' v' t' room':=by
 have hw:=tF hg r room ok.lk;rw[hr] at hw;obtain⟨⟨kt,rfl,hs,ht⟩,hwr,hwa,_,_⟩:=hw;have tt0:tt=[]:=by have:=ok.ty;rw[hr] at this;exact this
 subst tt0;have ew:=lK hg r room ok.lk t kt wr wa hr hs;have TL:=jC (kw kt);have TLf:∀c,((kw kt).find? fun q=>decide (q.1=[c])).map (fun q=>PV.str q.2)=(kt.find? fun q=>decide (q.1=c)).map fun q=>.str q.2:=BV kt;have h0:gIx room.pv (.int 0)=some (.str "menu"):=by rw[hr];rfl
 have h3:gIx room.pv (.int 3)=some (.tup [.int wr.1,.str wr.2]):=by rw[hr];rfl
 obtain⟨r1,b1,w1,v1,room1,ok1,e1⟩:=wrong hg hour r b w v [] room ok wr.1 wr.2 h3 (by rw[hr];rfl) hwr;cases hf:kt.find? fun q=>decide (q.1=c) with
 | none=>
  refine⟨_,r1,b1,w1,v1,[],room1,ew,ok1,m5 hg hour r b w v [] room ok "menu" h0 (.inl rfl) _ _ c hc ?_⟩;exact Am hour r b w v [] c (by simp) _ _ _ TL (by show ((kw kt).find? fun q=>decide (q.1=[c])).map (fun q=>PV.str q.2)=none;rw[TLf,hf];rfl) _ e1
 | some p=>
  have pm:=Md hf
  have hF:((kw kt).find? fun q=>decide (q.1=[]++[c])).map (fun q=>PV.str q.2)=some (.str p.2):=by
   show ((kw kt).find? fun q=>decide (q.1=[c])).map (fun q=>PV.str q.2)=_;rw[TLf,hf];rfl
  by_cases hb:p.2=KI "back"
  ·by_cases hbb:b=KI ""
   ·subst hbb
    rw[hb] at hF;refine⟨_,r1,b1,w1,v1,[],room1,ew,ok1,m5 hg hour r "" w v [] room ok "menu" h0 (.inl rfl) _ _ c hc ?_⟩;exact qw hour r w v [] c (by simp) _ _ _ TL hF _ e1
   ·have hbn:b∈nms:=ok.bn.resolve_left hbb
    obtain⟨y,room2,ok2,a1⟩:=arr hg hour b hbn r (.inr ok.rn);rw[hb] at hF;refine⟨_,y,r,0,0,[],room2,ew,ok2,m5 hg hour r b w v [] room ok "menu" h0 (.inl rfl) _ _ c hc ?_⟩;exact yC hour r b w v [] c (by simp) _ _ _ TL hF hbb _ a1
  ·have hpn:p.2∈nms:=(ht p pm).resolve_left hb
   obtain⟨y,room2,ok2,a1⟩:=arr hg hour p.2 hpn r (.inr ok.rn);refine⟨_,y,r,0,0,[],room2,ew,ok2,m5 hg hour r b w v [] room ok "menu" h0 (.inl rfl) _ _ c hc ?_⟩;exact An hour r b w v [] c (by simp) _ _ _ TL p.2 hF hb (hg.nb p.2 hpn).2 _ a1
end
theorem CA{a:W}(ha:a∈W8):(cdH LS5 a).length<=5/\1<=(cdH LS5 a).length:=by
 have:=zH a ha;simp[cdH,cdW];omega
structure WT(wt:List (W×Str))(nms:List Str):Prop where
 sb:ME (wt.map (·.1)) W8
 ne:wt≠[]
 tn:∀p∈wt,p.2∈nms
section
variable{wt : List (W×Str)}{nms : List Str}(k : WT wt nms)
include k
theorem WT.w8:∀p∈wt,p.1∈W8:=fun p hp=>k.sb.subset (KU.mpr ⟨p,hp,rfl⟩)
theorem WT.nd:(wt.map (·.1)).Nodup:=k.sb.nodup GP
theorem WT.len:wt.length<=8:=by
 have h1:=k.sb.length_le;have h2:W8.length<=8:=by decide
 rw[KH] at h1;omega
theorem WT.ok:∀p∈wt,p.1.length<=12/\∀c∈p.1,(WO.keyL LS5 c).isSome=true:=fun p hp=>⟨by have:=zH p.1 (k.w8 p hp);omega,EC p.1 (k.w8 p hp)⟩
theorem WT.nc:(wt.map fun p=>cdH LS5 p.1).Nodup:=by
 have:((wt.map (·.1)).map (cdH LS5)).Nodup:=(k.sb.map (cdH LS5)).nodup HR;rw[L7] at this;exact this
theorem WT.bs:(∀x∈xG LS5 wt,x.1≠[])/\∀x∈xG LS5 wt,∀y∈xG LS5 wt,x.1 <+: y.1->x=y:=⟨Iq,Ip HQ (fun p hp=>(k.ok p hp).2) k.nc⟩
theorem WT.mem{p:W×Str}(hp:p∈wt):(beg wt p.1,p.2)∈xG LS5 wt:=KU.mpr ⟨p,hp,rfl⟩
theorem WT.inv{x:W×Str}(hx:x∈xG LS5 wt):∃p∈wt,x=(beg wt p.1,p.2):=by
 obtain⟨p,hp,rfl⟩:=KU.mp hx;exact⟨p,hp,rfl⟩
theorem WT.pre{p:W×Str}(hp:p∈wt):beg wt p.1 <+: cdH LS5 p.1:=by unfold beg;exact o9 _ _
theorem WT.bl{p:W×Str}(hp:p∈wt):(beg wt p.1).length<=5:=by
 have h1:=M9 (k.pre hp);have h2:=(CA (k.w8 p hp)).1;omega
end
theorem qT(b ty:W):b.take ty.length=ty ↔ ty <+: b:=⟨fun e=>by rw[← e];exact N6 _ _,fun e=>(Na.mp e).symm⟩
def fits(wt:List (W×Str))(ty:W)(q:W×Str):Bool:=decide ((beg wt q.1).take ty.length=ty)
theorem BR:∀(a b:List (W×Str)),a.map mw2=b.map mw2->a=b:=by
 intro a
 induction a with
 | nil=>intro b e;cases b with | nil=>rfl | cons _ _=>cases e
 | cons x a ih=>
  intro b e;cases b with
  | nil=>cases e
  | cons y b=>
   rw[KG,KG] at e;injection e with e1 e2;have e3:x.1=y.1:=mkS_inj (show (mw2 x).1=(mw2 y).1 by rw[e1]);have e4:x.2=y.2:=(show (mw2 x).2=(mw2 y).2 by rw[e1]);rw[ih b e2,Pd e3 e4]
section
variable{h : House}{nms ord : List Str}(hg : HG h nms ord)(hour : Int)
include hg
theorem DP (r:Str) (room:Room) (lk:FA.lookR h.rooms r=some room) (t:Str) (wt:List (W×Str)) (wr wa:Int×Str) (hr:room=.names t (wt.map mw2) wr wa):gIx (aK h.rooms) (.str r)=some (.tup [.str "names",.str t,zG wt,.tup [.int wr.1,.str wr.2],.tup [.int wa.1,.str wa.2]]):=by
 have n2:=FA.ix_rooms h.rooms r;rw[lk,hr] at n2;rw[← Et];exact n2
theorem kW(r:Str)(room:Room)(lk:FA.lookR h.rooms r=some room)(t:Str)(ks:List (Str×Str))(wr wa:Int×Str)(hr:room=.names t ks wr wa):∃wt,ks=wt.map mw2/\WT wt nms/\wr.2∈nms/\wa.2∈nms:=by
 have hw:=tF hg r room lk;rw[hr] at hw;obtain⟨⟨wt,e,hs,hne,ht⟩,hwr,hwa,_,_⟩:=hw;exact⟨wt,e,⟨hs,hne,ht⟩,hwr,hwa⟩
theorem g7(r:Str)(room:Room)(lk:FA.lookR h.rooms r=some room)(t:Str)(wt:List (W×Str))(wr wa:Int×Str)(hr:room=.names t (wt.map mw2) wr wa)(k:WT wt nms):∃ks ps,Tells ks ps (AI (xG LS5 wt))/\aM [h.pv,.str r]=some (.dct ks ps):=by
 obtain⟨ks,ps,tl,e⟩:=yw LS5 wt (by have:=k.len;omega) k.ok k.nd;have d:=wR wt (by have:=k.len;omega) k.nd;have n2:=DP hg r room lk t wt wr wa hr;have hR:=hRo hg;have hL:=hg.lets;refine⟨ks,ps,tl,aG rfl ?_⟩;generalize zG wt=WP at *;generalize wtD wt=WD at *;generalize WO.ltPv LS5=LL at *;generalize aK h.rooms=RM at *;generalize h.pv=H at *;simp[dB,PU.start,hR,n2,hL,d,e]
theorem tK(r b:Str)(w v:Int)(room:Room)(tt:W)(ok:OK h nms r b room w v tt)(t:Str)(ks:List (Str×Str))(wr wa:Int×Str)(hr:room=.names t ks wr wa)(c:Nat)(hc:c≠119):∃D r' b' w' v' t' room',aM [h.pv,.str r]=some D/\Goes h nms hour D (sT r b w v tt) c r' b' w' v' t' room':=by
 obtain⟨wt,rfl,k,hwr,hwa⟩:=kW hg r room ok.lk t ks wr wa hr;obtain⟨dk,dp,TL,ew⟩:=g7 hg r room ok.lk t wt wr wa hr k;have h0:gIx room.pv (.int 0)=some (.str "names"):=by rw[hr];rfl
 have h3:gIx room.pv (.int 3)=some (.tup [.int wr.1,.str wr.2]):=by rw[hr];rfl
 have tl:=ok.tl;obtain⟨b1,b2⟩:=k.bs;cases hf:wt.find? (fits wt (tt++[c])) with
 | none=>
  obtain⟨r1,bb1,w1,v1,room1,ok1,e1⟩:=wrong hg hour r b w v tt room ok wr.1 wr.2 h3 (by rw[hr];rfl) hwr;refine⟨_,r1,bb1,w1,v1,[],room1,ew,ok1,m5 hg hour r b w v tt room ok "names" h0 (.inr rfl) _ _ c hc ?_⟩;refine Am hour r b w v tt c (by omega) _ _ _ TL ?_ _ e1;refine uu b1 fun x hx _ hp=>?_;obtain⟨p,hp2,rfl⟩:=k.inv hx;have:=Rn.mp hf p hp2;exact this (decide_eq_true ((qT _ _).mpr hp))
 | some p=>
  have pm:=Md hf;have pf:fits wt (tt++[c]) p=true:=Q5 hf;have pp:(tt++[c]) <+: beg wt p.1:=(qT _ _).mp (of_decide_eq_true pf)
  by_cases hb:beg wt p.1=tt++[c]
  ·have hpn:=k.tn p pm
   obtain⟨y,room2,ok2,a1⟩:=arr hg hour p.2 hpn r (.inr ok.rn);refine⟨_,y,r,0,0,[],room2,ew,ok2,m5 hg hour r b w v tt room ok "names" h0 (.inr rfl) _ _ c hc ?_⟩;refine An hour r b w v tt c (by omega) _ _ _ TL p.2 ?_ (hg.nb p.2 hpn).1 (hg.nb p.2 hpn).2 _ a1;rw[← hb];exact xM b1 b2 (k.mem pm)
  ·have bl:=k.bl pm
   have ttl:=M9 pp;refine⟨_,r,b,w,v,tt++[c],room,ew,⟨ok.lk,ok.nh,ok.rn,ok.bn,by omega,?_,ok.hw,ok.hv⟩,m5 hg hour r b w v tt room ok "names" h0 (.inr rfl) _ _ c hc ?_⟩
   ·rw[hr]
    intro wt' e';have:=BR wt wt' e';subst this;exact .inr ⟨p,pm,pp,fun z=>hb z.symm⟩
   ·refine BX hour r b w v tt c (by omega) _ _ _ TL ?_
    exact xK b1 b2 (k.mem pm) (by simp) pp (fun z=>hb z.symm)
theorem K5(r b:Str)(w v:Int)(room:Room)(tt:W)(ok:OK h nms r b room w v tt)(c:Nat):∃D r' b' w' v' t' room',aM [h.pv,.str r]=some D/\Goes h nms hour D (sT r b w v tt) c r' b' w' v' t' room':=by
 have n2:=FA.ix_rooms h.rooms r;rw[ok.lk] at n2;have n2:gIx (aK h.rooms) (.str r)=some room.pv:=n2;have hR:=hRo hg
 have plain:∀k:Str,gIx room.pv (.int 0)=some (.str k)->¬ k="menu"->¬ k="names"->aM [h.pv,.str r]=some (.dct [] []):=fun k h0 h1 h2=>by
  refine aG rfl ?_;generalize room.pv=RP at *;generalize aK h.rooms=RM at *;generalize h.pv=H at *;simp[dB,PU.start,hR,n2,h0,h1,h2]
 cases hroom:room with
 | hours sp l=>exact absurd hroom (ok.nh sp l)
 | menu t ks wr wa=>
  by_cases hc:c=119
  ·subst hc
   have hw:=tF hg r room ok.lk;rw[hroom] at hw;obtain⟨⟨kt,rfl,hs,ht⟩,hwr,hwa,_,_⟩:=hw;have ew:=lK hg r room ok.lk t kt wr wa hroom hs;obtain⟨r',b',w',v',t',room',B⟩:=As hg hour r b w v tt room ok "menu" (by rw[hroom];rfl) (.inl rfl) wa.1 wa.2 (by rw[hroom];rfl) (by rw[hroom];rfl) hwa (wtD (kw kt));exact⟨_,r',b',w',v',t',room',ew,B⟩
  ·exact vZ hg hour r b w v room tt ok t ks wr wa hroom c hc
 | names t ks wr wa=>
  by_cases hc:c=119
  ·subst hc
   obtain⟨wt,rfl,k,hwr,hwa⟩:=kW hg r room ok.lk t ks wr wa hroom;obtain⟨dk,dp,TL,ew⟩:=g7 hg r room ok.lk t wt wr wa hroom k;obtain⟨r',b',w',v',t',room',B⟩:=As hg hour r b w v tt room ok "names" (by rw[hroom];rfl) (.inr rfl) wa.1 wa.2 (by rw[hroom];rfl) (by rw[hroom];rfl) hwa (.dct dk dp);exact⟨_,r',b',w',v',t',room',ew,B⟩
  ·exact tK hg hour r b w v room tt ok t ks wr wa hroom c hc
 | hand t=>exact⟨_,r,b,w,v,tt,room,plain "hand" (by rw[hroom];rfl) (by simp) (by simp),sf hg hour r b w v tt room ok c "hand" (by rw[hroom];rfl) (.inl rfl) _⟩
 | fin t=>exact⟨_,r,b,w,v,tt,room,plain "end" (by rw[hroom];rfl) (by simp) (by simp),sf hg hour r b w v tt room ok c "end" (by rw[hroom];rfl) (.inr rfl) _⟩
theorem B6(n:Str)(room:Room)(lk:FA.lookR h.rooms n=some room):∃D,aM [h.pv,.str n]=some D/\noFn D=true:=by
 have n2:=FA.ix_rooms h.rooms n;rw[lk] at n2;have n2:gIx (aK h.rooms) (.str n)=some room.pv:=n2;have hR:=hRo hg
 have plain:∀k:Str,gIx room.pv (.int 0)=some (.str k)->¬ k="menu"->¬ k="names"->aM [h.pv,.str n]=some (.dct [] []):=fun k h0 h1 h2=>by
  refine aG rfl ?_;generalize room.pv=RP at *;generalize aK h.rooms=RM at *;generalize h.pv=H at *;simp[dB,PU.start,hR,n2,h0,h1,h2]
 have z:noFn (.dct [] [])=true:=by simp[noFn,aY]
 cases hroom:room with
 | hours sp l=>exact⟨_,plain "hours" (by rw[hroom];rfl) (by simp) (by simp),z⟩
 | hand t=>exact⟨_,plain "hand" (by rw[hroom];rfl) (by simp) (by simp),z⟩
 | fin t=>exact⟨_,plain "end" (by rw[hroom];rfl) (by simp) (by simp),z⟩
 | menu t ks wr wa=>
  have hw:=tF hg n room lk;rw[hroom] at hw;obtain⟨⟨kt,rfl,hs,ht⟩,hwr,hwa,_,_⟩:=hw;refine⟨_,lK hg n room lk t kt wr wa hroom hs,?_⟩;have:=(gJ _).mpr (jC (kw kt)).nf;simpa [wtD,noFn] using this
 | names t ks wr wa=>
  obtain⟨wt,rfl,k,hwr,hwa⟩:=kW hg n room lk t ks wr wa hroom;obtain⟨dk,dp,TL,ew⟩:=g7 hg n room lk t wt wr wa hroom k;refine⟨_,ew,?_⟩;have:=(gJ _).mpr TL.nf;simpa [noFn] using this
theorem AO:∃WD,bw [h.pv]=some WD/\noFn WD=true/\∀r b room w v tt,OK h nms r b room w v tt->∀D,aM [h.pv,.str r]=some D->gIx WD (.str r)=some D:=by
 have rx:∀n∈FA.names h.rooms,∃D,aM [h.pv,.str n]=some D/\noFn D=true:=fun n hn=>by
  obtain⟨room,hr⟩:=FA.look_some h.rooms n hn;exact B6 hg n room hr
 obtain⟨ks,ps,e,g,nf⟩:=C9 h.pv h.rooms (hRo hg) (by have:=hg.rl;omega) (fun n=>(aM [h.pv,.str n]).getD .non) (fun n hn=>by
  obtain⟨D,e,_⟩:=rx n hn;rw[e];rfl) (fun n hn=>by
  obtain⟨D,e,f⟩:=rx n hn;rw[e];exact f)
 refine⟨_,e,nf,fun r b room w v tt ok D hD=>?_⟩;rw[g r (hg.all r (hg.nm r ok.rn)),hD];rfl
theorem zm:∃y room,OK h nms y "" room 0 0 []/\cb [h.pv,.int hour]=some (sT y "" 0 0 []):=by
 obtain⟨y,room,ok,e1⟩:=arr hg hour h.first hg.fst "" (.inl rfl);refine⟨y,room,ok,aG rfl ?_⟩;have hF:gIx h.pv (.str "first")=some (.str h.first):=by simp[House.pv]
 generalize h.pv=H at *;simp[qD,PU.start,hF,e1]
end
end
structure St where
 r:Str
 b:Str
 w:Int
 v:Int
 t:W
deriving DecidableEq
def St.pv(s:St):PV:=sT s.r s.b s.w s.v s.t
def St.key(s:St):cV:=[.inl (.inr s.r),.inl (.inr s.b),.inl (.inl s.w),.inl (.inl s.v),.inl (.inr (mkS s.t))]
theorem St.tk(s:St):q8 s.pv=some s.key:=rfl
theorem St.nf(s:St):noFn s.pv=true:=by simp[St.pv,sT,noFn,aY]
def S13:List Nat:=[48,49,50,51,52,53,54,55,56,57,42,35,119]
def cd(i:Nat):Nat:=S13.getD i 0
theorem zK:f6 (.str "0123456789*#w")=some ((KM 13).map fun i=>WO.sg (cd i)):=by kernel_rfl
theorem oC(L:List PV)(st:PV):gIx (.lst (L++[st])) (.int (-1))=some st:=by
 show atI (L++[st]) (-1)=some st
 have e:ixN (L++[st]).length (-1)=some L.length:=by
  rw[L0,Lv];unfold ixN;rw[if_neg (by omega)]
  first
   | (rw[if_pos (by omega)];congr 1;omega)
   | (simp;omega)
   | simp
 unfold atI;rw[e];simp
theorem vI{n:Nat}{fe:PSt->R PV}{qs cs:List PV}{p:PV}(hl:qs.length=n)(h:fe ((qs++cs).map .val)=.ok p):CU n fe qs cs=some p:=by
 unfold CU;rw[if_pos hl,h]
theorem q0{i:Nat}{fs:PSt->R (List PV)}{app:Lam->List PV->List PV->Option PV}{ρ:PSt}{L:Lam}{cs qs:List PV}{p:PV}(h:ρ[i]?=some (.val (.fn L cs)))(hq:fs ρ=.ok qs)(n1:aY qs=true)(n2:aY cs=true)(e:app L qs cs=some p):mC i fs app ρ=.ok p:=by
 unfold mC;rw[h];show (fs ρ >>= fun qs=>if aY qs=true/\aY cs=true then R.ofO (app L qs cs) else .no)=_;rw[hq];show (if aY qs=true/\aY cs=true then R.ofO (app L qs cs) else .no)=_;rw[if_pos ⟨n1,n2⟩,e];rfl
theorem fG{α:Type}(f:α->PV)(l:List α)(h:∀x∈l,noFn (f x)=true):aY (l.map f)=true:=(gJ _).mpr fun p hp=>by
 obtain⟨x,hx,rfl⟩:=KU.mp hp;exact h x hx
theorem vh(p:Str×Str):noFn (pv2 p)=true:=by simp[pv2,noFn,aY]
theorem Er(p:Int×Int×Str):noFn (pv3 p)=true:=by simp[pv3,noFn,aY]
theorem BN(r:Room):noFn r.pv=true:=by
 cases r with
 | menu t ks wr wa=>simp[Room.pv,pvI,noFn,aY,fG pv2 ks fun x _=>vh x]
 | names t ks wr wa=>simp[Room.pv,pvI,noFn,aY,fG pv2 ks fun x _=>vh x]
 | hours sp l=>simp[Room.pv,noFn,aY,fG pv3 sp fun x _=>Er x]
 | hand t=>simp[Room.pv,noFn,aY]
 | fin t=>simp[Room.pv,noFn,aY]
theorem yx(h:House):noFn h.pv=true:=by
 have h1:=fG pv2 h.letters fun x _=>vh x;have h2:=fG (fun r:Str×Room=>r.2.pv) h.rooms fun x _=>BN x.2;simp[House.pv,aK,noFn,aY,h1,h2]
theorem ri{ks:List cV}{ps:List PV}{k:cV}{v:PV}(h:(ks.any fun j=>decide (j=k))=false):xA ks ps k v=.dtt (ks++[k]) (ps++[v]):=by
 unfold xA;rw[h];rfl
theorem uz{i:Nat}{fk fv:PSt->R PV}{ρ:PSt}{ks:List cV}{ps:List PV}{p kp:PV}{k:cV}(h:ρ[i]?=some (.own (.dtt ks ps)))(hv:fv ρ=.ok p)(hk:fk ρ=.ok kp)(ht:q8 kp=some k)(hl:ks.length<16777216):mJ i fk fv ρ=.ok (.next (ρ.set i (.own (xA ks ps k p)))):=by
 unfold mJ;rw[h];show (fv ρ >>= fun p=>fk ρ >>= fun kp=>R.ofO (q8 kp) >>= fun k=>if ks.length<16777216 then R.ok (Fl.next (ρ.set i (.own (xA ks ps k p)))) else R.no)=_;rw[hv];show (fk ρ >>= fun kp=>R.ofO (q8 kp) >>= fun k=>if ks.length<16777216 then R.ok (Fl.next (ρ.set i (.own (xA ks ps k p)))) else R.no)=_;rw[hk];show (R.ofO (q8 kp) >>= fun k=>if ks.length<16777216 then R.ok (Fl.next (ρ.set i (.own (xA ks ps k p)))) else R.no)=_;rw[ht];exact if_pos hl
section
variable[LX]
def Ok(h:House)(nms:List Str)(s:St):Prop:=∃room,OK h nms s.r s.b room s.w s.v s.t
def Nx(h:House)(nms:List Str)(hour:Int)(s:St)(i:Nat)(s':St):Prop:=Ok h nms s'/\∃D,aM [h.pv,.str s.r]=some D/\bH [h.pv,.int hour,D,s.pv,WO.sg (cd i)]=some s'.pv
open Classical in
noncomputable def lead(h:House)(nms:List Str)(hour:Int)(s:St)(i:Nat):St:=if e:∃s',Nx h nms hour s i s' then e.choose else s
def TL:List W:=W8.flatMap fun w=>(KM (cdH LS5 w).length).map fun n=>(cdH LS5 w).take n
def univ (nms:List Str):List St:=nms.flatMap fun r=>(KI ""::nms).flatMap fun b=>[(0:Int),1].flatMap fun w=>[(0:Int),1].flatMap fun v=>TL.map fun t=>⟨r,b,w,v,t⟩
theorem pA{α β:Type}(f:α->List β)(n:Nat):∀l:List α,(∀x∈l,(f x).length=n)->(l.flatMap f).length=l.length * n
 | [],_=>by simp
 | x::l,h=>by
  rw[ON,L0,h x (by simp),pA f n l fun y hy=>h y (by simp[hy]),LK,Nat.add_mul];omega
theorem xR(nms:List Str)(h:nms.length<=6):(univ nms).length<=1848:=by
 have hT:TL.length=11:=by unfold TL;rcases p9 with q | q <;> rw[q] <;> decide +kernel
 have e:(univ nms).length=nms.length * ((nms.length+1) * (2 * (2 * 11))):=by
  unfold univ;refine pA _ _ _ fun r _=>?_;refine(pA _ (2 * (2 * 11)) _ fun b _=>?_);refine(pA _ (2 * 11) _ fun w _=>?_);refine(pA _ 11 _ fun v _=>?_);rw[KH,hT]
 rw[e];have h2:nms.length * ((nms.length+1) * (2 * (2 * 11)))<=6 * ((6+1) * (2 * (2 * 11))):=QL h (QL (by omega) (L9 _));omega
section
variable{h : House}{nms ord : List Str}(hg : HG h nms ord)(hour : Int)
include hg
theorem xQ(s:St)(hs:Ok h nms s):s∈univ nms:=by
 obtain⟨room,ok⟩:=hs;have bb:=(tF hg s.r room ok.lk).b;have h1:=ok.hw;have h2:=ok.hv
 have ht:s.t∈TL:=by
  have z:([]:W)∈TL:=by unfold TL;rcases p9 with q | q <;> rw[q] <;> decide +kernel
  have ty:=ok.ty;cases hroom:room with
  | names t ks wr wa=>
   obtain⟨wt,rfl,k,_,_⟩:=kW hg s.r room ok.lk t ks wr wa hroom;rw[hroom] at ty;rcases ty wt rfl with e | ⟨p,hp,h1,h2⟩
   ·rw[e];exact z
   ·have pre:=OS h1 (k.pre hp)
    have l1:=M9 h1;have l3:=M9 (k.pre hp);have l4:s.t.length≠(beg wt p.1).length:=fun e=>h2 (h1.eq_of_length e);refine N7.mpr ⟨p.1,k.w8 p hp,KU.mpr ⟨s.t.length,MS.mpr (by omega),?_⟩⟩;exact(Na.mp pre).symm
  | _=>
   rw[hroom] at ty;have ty:s.t=[]:=ty;rw[ty];exact z
 have hw:s.w=0\/s.w=1:=by omega
 have hv:s.v=0\/s.v=1:=by omega
 refine N7.mpr ⟨s.r,ok.rn,N7.mpr ⟨s.b,?_,N7.mpr ⟨s.w,?_,N7.mpr ⟨s.v,?_,KU.mpr ⟨s.t,ht,rfl⟩⟩⟩⟩⟩
 ·rcases ok.bn with e | e
  ·rw[e];exact LO
  ·exact LG _ e
 ·rcases hw with e | e <;> simp[e]
 ·rcases hv with e | e <;> simp[e]
theorem qu(s:St)(hs:Ok h nms s)(i:Nat):Nx h nms hour s i (lead h nms hour s i):=by
 have ex:∃s',Nx h nms hour s i s':=by
  obtain⟨room,ok⟩:=hs;obtain⟨D,r',b',w',v',t',room',e,g⟩:=K5 hg hour s.r s.b s.w s.v room s.t ok (cd i);exact⟨⟨r',b',w',v',t'⟩,⟨room',g.ok⟩,D,e,g.fo⟩
 unfold lead;rw[dif_pos ex];exact ex.choose_spec
theorem uL(s:St)(hs:Ok h nms s)(i:Nat):m8 [h.pv,.int hour,s.pv,WO.sg (cd i)]=some (lead h nms hour s i).pv:=by
 obtain⟨_,D,e1,e2⟩:=qu hg hour s hs i;exact AY hour s.r s.b s.w s.v s.t _ D _ e1 e2
end
structure WD(h:House)(nms:List Str)(D:PV):Prop where
 eq:bw [h.pv]=some D
 nf:noFn D=true
 ix:∀s:St,Ok h nms s->∀X,aM [h.pv,.str s.r]=some X->gIx D (.str s.r)=some X
theorem GO{h:House}{nms ord:List Str}(hg:HG h nms ord):∃D,WD h nms D:=by
 obtain⟨D,h1,h2,h3⟩:=AO hg;exact⟨D,h1,h2,fun s ⟨room,ok⟩ X hX=>h3 s.r s.b room s.w s.v s.t ok X hX⟩
section
variable{h : House}{nms ord : List Str}(hg : HG h nms ord)(hour : Int){D : PV}(hD : WD h nms D)
include hg hD
theorem K8(s:St)(hs:Ok h nms s)(i:Nat):∃X,gIx D (.str s.r)=some X/\bH [h.pv,.int hour,X,s.pv,WO.sg (cd i)]=some (lead h nms hour s i).pv:=by
 obtain⟨_,X,e1,e2⟩:=qu hg hour s hs i;exact⟨X,hD.ix s hs X e1,e2⟩
end
end
def kindOf:Room->Str
 | .hand _=>"hand"
 | .fin _=>"end"
 | _=>"asked"
def mQ:Room->Str
 | .menu t ..=>t
 | .names t ..=>t
 | .hand t=>t
 | .fin t=>t
 | .hours ..=>""
def hP(h:House)(s:St):Str×Str:=match FA.lookR h.rooms s.r with
 | some room=>(kindOf room,mQ room)
 | none=>("","")
def hE(x:Str×Str):PV:=.tup [.str x.1,.str x.2]
structure Mach(H:PV)(hour:Int) where
 ok:St->Prop
 lead:St->Nat->St
 hp:St->Str×Str
 univ:List St
 ways:PV
 s0:St
 nfH:noFn H=true
 nfW:noFn ways=true
 ok0:ok s0
 okl:∀s,ok s->∀i,ok (lead s i)
 eb:cb [H,.int hour]=some s0.pv
 ew:bw [H]=some ways
 fol:∀s,ok s->∀i,∃X,gIx ways (.str s.r)=some X/\bH [H,.int hour,X,s.pv,WO.sg (cd i)]=some (lead s i).pv
 hrd:∀s,ok s->cL [H,s.pv]=some (hE (hp s))
 stp:∀s,ok s->∀i,m8 [H,.int hour,s.pv,WO.sg (cd i)]=some (lead s i).pv
 mem:∀s,ok s->s∈univ
 ul:univ.length<=1848
section
variable[LX]
section
variable{h : House}{nms ord : List Str}(hg : HG h nms ord)
include hg
theorem heard(r b:Str)(w v:Int)(room:Room)(tt:W)(ok:OK h nms r b room w v tt):cL [h.pv,sT r b w v tt]=some (.tup [.str (kindOf room),.str (mQ room)]):=by
 refine aG rfl ?_;have n2:=FA.ix_rooms h.rooms r;rw[ok.lk] at n2;have n2:gIx (aK h.rooms) (.str r)=some room.pv:=n2;have hR:=hRo hg;have g0:gIx (sT r b w v tt) (.int 0)=some (.str r):=rfl;have c:c_HEARD=.dct [.inr "menu",.inr "names",.inr "hand",.inr "end"] [.str "asked",.str "asked",.str "hand",.str "end"]:=rfl;have nh:=ok.nh;generalize sT r b w v tt=S at *;generalize aK h.rooms=RM at *;generalize h.pv=H at *;cases room with
 | hours sp l=>exact absurd rfl (nh sp l)
 | menu t ks wr wa=>
  have n2:gIx RM (.str r)=some (.tup [.str "menu",.str t,.tup (ks.map pv2),.tup [.int wr.1,.str wr.2],.tup [.int wa.1,.str wa.2]]):=n2;simp[jV,PU.start,hR,g0,n2,c,kindOf,mQ]
 | names t ks wr wa=>
  have n2:gIx RM (.str r)=some (.tup [.str "names",.str t,.tup (ks.map pv2),.tup [.int wr.1,.str wr.2],.tup [.int wa.1,.str wa.2]]):=n2;simp[jV,PU.start,hR,g0,n2,c,kindOf,mQ]
 | hand t=>
  have n2:gIx RM (.str r)=some (.tup [.str "hand",.str t]):=n2;simp[jV,PU.start,hR,g0,n2,c,kindOf,mQ]
 | fin t=>
  have n2:gIx RM (.str r)=some (.tup [.str "end",.str t]):=n2;simp[jV,PU.start,hR,g0,n2,c,kindOf,mQ]
end
section
variable{h : House}{nms ord : List Str}(hg : HG h nms ord)(hour : Int)
include hg
theorem zl:∃s0:St,Ok h nms s0/\cb [h.pv,.int hour]=some s0.pv:=by
 obtain⟨y,room,ok,e⟩:=zm hg hour;exact⟨⟨y,"",0,0,[]⟩,⟨room,ok⟩,e⟩
end
theorem yO{h:House}{nms ord:List Str}(hg:HG h nms ord)(s:St)(hs:Ok h nms s):cL [h.pv,s.pv]=some (hE (hP h s)):=by
 obtain⟨room,ok⟩:=hs;have:=heard hg s.r s.b s.w s.v room s.t ok;unfold hP;rw[ok.lk];exact this
theorem vj{h:House}{nms ord:List Str}(hg:HG h nms ord)(hour:Int):Nonempty (Mach h.pv hour):=by
 obtain⟨D,hD⟩:=GO hg;obtain⟨s0,h0,hb⟩:=zl hg hour;exact⟨⟨Ok h nms,lead h nms hour,hP h,univ nms,D,s0,yx h,hD.nf,h0,fun s hs i=>(qu hg hour s hs i).1,hb,hD.eq,fun s hs i=>K8 hg hour hD s hs i,fun s hs=>yO hg s hs,fun s hs i=>uL hg hour s hs i,fun s hs=>xQ hg s hs,xR nms hg.nl⟩⟩
end
theorem xp(x:List Nat)(c:Nat)(hx:x.length<=16000000):cj (.str (mkS x)) (.str ⟨#[c]⟩)=some (.str (mkS (x++[c]))):=by
 rw[ql,l8 (by simp;omega),lI]
def bF(l:List Nat):Str:=mkS (l.map cd)
theorem uP(r:List Nat)(i:Nat)(h:r.length<=16000000):cj (.str (bF r)) (WO.sg (cd i))=some (.str (bF (r++[i]))):=by
 unfold bF;rw[L8];exact xp (r.map cd) (cd i) (by simp;omega)
theorem vC{α β:Type}(f:α->List β)(n:Nat):∀l:List α,(∀x∈l,(f x).length=n)->(l.flatMap f).length=l.length * n
 | [],_=>by simp
 | x::l,h=>by
  rw[ON,L0,h x (by simp),vC f n l fun y hy=>h y (by simp[hy]),LK,Nat.add_mul];omega
abbrev P2:=St×St
def p2(s:P2):PV:=.tup [s.1.pv,s.2.pv]
def kf(s:St):List Key:=[.inr s.r,.inr s.b,.inl s.w,.inl s.v,.inr (mkS s.t)]
theorem Al{a b:St}(e:kf a=kf b):a=b:=by
 cases a;cases b;simp only[kf,MV,Q7,Sum.inl.injEq,and_true] at e;obtain⟨h1,h2,h3,h4,h5⟩:=e;have h5:=mkS_inj h5;subst h1 h2 h3 h4 h5;rfl
def oj(s:P2):cV:=[.inr (kf s.1),.inr (kf s.2)]
theorem tk2(s:P2):q8 (p2 s)=some (oj s):=rfl
theorem F5{a b:P2}(e:oj a=oj b):a=b:=by
 unfold oj at e;simp only[MV,Q7,and_true] at e;exact Pd (Al e.1) (Al e.2)
theorem tm(s:P2):noFn (p2 s)=true:=by simp[p2,noFn,aY,St.nf]
def ba(p:BF.Row P2):PV:=.tup [p2 p.1,.str (bF p.2)]
def kL(found:List (BF.Row P2)):List cV:=found.map fun p=>oj p.1
def tL(found:List (BF.Row P2)):List PV:=found.map fun _=>PV.bl true
theorem qN(found:List (BF.Row P2))(s:P2):((kL found).any fun j=>decide (j=oj s))=decide (s∈found.map (·.1)):=by
 rw[Mv];simp only[kL,NA,Px,Mp,decide_eq_true_eq,KU];constructor
 ·rintro⟨p,hp,e⟩
  exact⟨p,hp,F5 e⟩
 ·rintro⟨p,hp,e⟩
  exact⟨p,hp,by rw[e]⟩
theorem HK(a b:Str×Str):gNe (hE a) (hE b)=some (.bl (!decide (a=b)))/\gEq (hE a) (hE b)=some (.bl (decide (a=b))):=by
 have e:di [PV.str a.1,.str a.2] [PV.str b.1,.str b.2]=some (decide (a=b)):=by
  have:decide (a=b)=(decide (a.1=b.1) && decide (a.2=b.2)):=by
   rw[← Bool.decide_and];exact decide_eq_decide.mpr Prod.ext_iff
  rw[this]
  have qq:∀x y:Str,bW (PV.str x) (.str y)=some (decide (x=y)):=fun x y=>by
   show some (x == y)=_;rw[show (x == y)=decide (x=y) by rw[Mv,beq_iff_eq,decide_eq_true_iff]]
  simp only[di,qq,Pe,PL]
 have z:dN [PV.str a.1,.str a.2]<=60:=by simp[va,dN]
 constructor
 ·have q:gNe (hE a) (hE b)=if dN [PV.str a.1,.str a.2]<=60 then (di [PV.str a.1,.str a.2] [PV.str b.1,.str b.2]).map fun b=>.bl (!b) else none:=rfl
  rw[q,if_pos z,e];rfl
 ·have q:gEq (hE a) (hE b)=if dN [PV.str a.1,.str a.2]<=60 then (di [PV.str a.1,.str a.2] [PV.str b.1,.str b.2]).map .bl else none:=rfl
  rw[q,if_pos z,e];rfl
theorem sC(q:Str)(k:List Str)(sc:Scope)(e:Stmt):(Cp q k sc e).kept=k:=by
 cases e <;> rfl
theorem xj{n:Nat}{g:PSt->R Fl}{ρ:PSt}{p:PV}(h:g (ρ++La n .no)=.ok (.ret p)):qL n g ρ=.ok p:=by
 unfold qL;rw[h]
theorem Kg(S1 S2 G W1 W2 T1 T2 X1 X2 H1 H2:PV)(hour:Int)(r1 r2:Str)(h0:gIx S1 (.int 0)=some (.str r1))(h0':gIx S2 (.int 0)=some (.str r2))(h1:gIx W1 (.str r1)=some X1)(h1':gIx W2 (.str r2)=some X2)(h2:bH [H1,.int hour,X1,S1,G]=some T1)(h2':bH [H2,.int hour,X2,S2,G]=some T2) :
  appL aW [.tup [S1,S2],G] [W1,W2,.int hour,H1,H2]=some (.tup [T1,T2]):=by
 unfold appL;rw[if_pos rfl];refine vI rfl (xj ?_);show gR [.val (.tup [S1,S2]),.val G,.val W1,.val W2,.val (.int hour),.val H1,.val H2,.no]=_;have i0:gIx (.tup [S1,S2]) (.int 0)=some S1:=rfl;have i1:gIx (.tup [S1,S2]) (.int 1)=some S2:=rfl;generalize PV.tup [S1,S2]=SS at *;simp[gR,i0,i1,h0,h0',h1,h1',h2,h2']
theorem Kf(S1 S2 H1 H2:PV)(a b:Str×Str)(h1:cL [H1,S1]=some (hE a))(h2:cL [H2,S2]=some (hE b)):appL aS [.tup [S1,S2]] [H1,H2]=some (.bl (!decide (a=b))):=by
 unfold appL;rw[if_neg,if_pos rfl]
 ·refine vI rfl (xj ?_)
  show gQ [.val (.tup [S1,S2]),.val H1,.val H2]=_;have i0:gIx (.tup [S1,S2]) (.int 0)=some S1:=rfl;have i1:gIx (.tup [S1,S2]) (.int 1)=some S2:=rfl;have e:=(HK a b).1;generalize PV.tup [S1,S2]=SS at *;generalize hE a=A at *;generalize hE b=B at *;simp[gQ,i0,i1,h1,h2,e]
 ·intro e
  have:=congrArg Lam.kept e;unfold aW aS at this;rw[sC,sC] at this;cases this
theorem Ij(S0 F1 F2:PV)(KS:List cV)(PS FS:List PV)(d:Int)(NP SG T:PV)(c:Sl)(x x':Str)(k:cV)(lb:Bool)
  (h1:mC 1 (ab (aj (ai 6) (kI 0) gIx) (ab (ai 7) ay)) appL [.val S0,.val F1,.val F2,.own (.dtt KS PS),.own (.lst FS),.val (.int d),.val NP,.val SG,c]=.ok T)
  (h2:∀KS PS FS,mC 2 (ab (ai 8) ay) appL [.val S0,.val F1,.val F2,.own (.dtt KS PS),.own (.lst FS),.val (.int d),.val NP,.val SG,.val T]=.ok (.bl lb))
  (hk:q8 T=some k) (hx:gIx NP (.int 1)=some (.str x)) (ha:cj (.str x) SG=some (.str x')) (hl:KS.length<16777216) (hf:FS.length<16777216) :
  bx [.val S0,.val F1,.val F2,.own (.dtt KS PS),.own (.lst FS),.val (.int d),.val NP,.val SG,c]=.ok (if (KS.any fun j=>decide (j=k))=true then .next [.val S0,.val F1,.val F2,.own (.dtt KS PS),.own (.lst FS),.val (.int d),.val NP,.val SG,.val T] else if lb=true then .brk [.val S0,.val F1,.val F2,.own (.dtt (KS++[k]) (PS++[.bl true])),.own (.lst (FS++[.tup [T,.str x']])),.val (.int d),.val NP,.val SG,.val T] else .next [.val S0,.val F1,.val F2,.own (.dtt (KS++[k]) (PS++[.bl true])),.own (.lst (FS++[.tup [T,.str x']])),.val (.int d),.val NP,.val SG,.val T]):=by
 have ni:gd T (.dtt KS PS)=some (.bl (!(KS.any fun j=>decide (j=k)))):=by
  show (q8 T).map _=_;rw[hk];rfl
 by_cases hh:(KS.any fun j=>decide (j=k))=true
 ·rw[if_pos hh]
  rw[hh] at ni;simp[bx,h1,ni]
 ·have hh':(KS.any fun j=>decide (j=k))=false:=(NB _).mp hh
  rw[if_neg hh];rw[hh'] at ni
  have pt:mJ 3 (ai 8) (kB true) [.val S0,.val F1,.val F2,.own (.dtt KS PS),.own (.lst FS),.val (.int d),.val NP,.val SG,.val T]=.ok (.next [.val S0,.val F1,.val F2,.own (.dtt (KS++[k]) (PS++[.bl true])),.own (.lst FS),.val (.int d),.val NP,.val SG,.val T]):=by
   rw[uz (ks:=KS) (ps:=PS) (p:=.bl true) (kp:=T) (k:=k) rfl rfl rfl hk hl,ri hh'];rfl
  have h3:=h2 (KS++[k]) (PS++[.bl true]) (FS++[.tup [T,.str x']]);cases lb with
  | false=>simp[bx,h1,ni,pt,hx,ha,hf,h3]
  | true=>simp[bx,h1,ni,pt,hx,ha,hf,h3]
abbrev m4(S0 F1 F2:PV)(found:List (BF.Row P2))(d:Nat)(a b c:Sl):PSt:=[.val S0,.val F1,.val F2,.own (.dtt (kL found) (tL found)),.own (.lst (found.map ba)),.val (.int d),a,b,c]
section
variable{H G : PV}{hour : Int}(M : Mach H hour)(N : Mach G hour)
abbrev F1:PV:=.fn aW [M.ways,N.ways,.int hour,H,G]
abbrev F2(H G:PV):PV:=.fn aS [H,G]
def bT(s:P2)(i:Nat):P2:=(M.lead s.1 i,N.lead s.2 i)
def dj(s:P2):Bool:=!decide (M.hp s.1=N.hp s.2)
def ok2(s:P2):Prop:=M.ok s.1/\N.ok s.2
def u2:List P2:=M.univ.flatMap fun a=>N.univ.map fun b=>(a,b)
theorem Dv:(u2 M N).length<=3415104:=by
 have:(u2 M N).length=M.univ.length * N.univ.length:=by
  unfold u2;exact vC _ _ _ fun a _=>by rw[KH]
 rw[this];exact Lk (QL M.ul N.ul) (by decide)
theorem Du(s:P2)(h:ok2 M N s):s∈u2 M N:=by
 unfold u2;exact N7.mpr ⟨s.1,M.mem _ h.1,KU.mpr ⟨s.2,N.mem _ h.2,rfl⟩⟩
theorem El(s:P2)(h:ok2 M N s)(i:Nat):ok2 M N (bT M N s i):=⟨M.okl _ h.1 i,N.okl _ h.2 i⟩
theorem kh(s0:P2)(h0:ok2 M N s0){found:List (BF.Row P2)}(I:BF.Inv (bT M N) s0 found):(∀p∈found,ok2 M N p.1)/\found.length<=3415104:=by
 have a:=BF.inv_P (bT M N) s0 (ok2 M N) h0 fun s hs i _=>El M N s hs i;refine⟨a found I,?_⟩;have:=BF.inv_len (bT M N) s0 (u2 M N) (fun f J p hp=>Du M N p.1 (a f J p hp)) I;have:=Dv M N;omega
theorem Io(s:P2)(h:ok2 M N s)(i:Nat):appL aW [p2 s,WO.sg (cd i)] [M.ways,N.ways,.int hour,H,G]=some (p2 (bT M N s i)):=by
 obtain⟨X1,a1,b1⟩:=M.fol s.1 h.1 i;obtain⟨X2,a2,b2⟩:=N.fol s.2 h.2 i;exact Kg s.1.pv s.2.pv _ _ _ _ _ X1 X2 H G hour s.1.r s.2.r rfl rfl a1 a2 b1 b2
theorem CC(s:P2)(h:ok2 M N s):appL aS [p2 s] [H,G]=some (.bl (dj M N s)):=Kf _ _ _ _ _ _ (M.hrd _ h.1) (N.hrd _ h.2)
theorem Fn(S0:PV)(found:List (BF.Row P2))(near:BF.Row P2)(hn:ok2 M N near.1)(i d:Nat)(c:Sl)(hl:found.length<16000000)(hr:near.2.length<=16000000) :
  bx (m4 S0 (F1 M N) (F2 H G) found d (.val (ba near)) (.val (WO.sg (cd i))) c)=.ok (if bT M N near.1 i∈found.map (·.1) then .next (m4 S0 (F1 M N) (F2 H G) found d (.val (ba near)) (.val (WO.sg (cd i))) (.val (p2 (bT M N near.1 i))))
   else if dj M N (bT M N near.1 i)=true then .brk (m4 S0 (F1 M N) (F2 H G) (found++[(bT M N near.1 i,near.2++[i])]) d (.val (ba near)) (.val (WO.sg (cd i))) (.val (p2 (bT M N near.1 i))))
   else .next (m4 S0 (F1 M N) (F2 H G) (found++[(bT M N near.1 i,near.2++[i])]) d (.val (ba near)) (.val (WO.sg (cd i))) (.val (p2 (bT M N near.1 i))))):=by
 have n1:aY [p2 near.1,WO.sg (cd i)]=true:=by simp[aY,tm,WO.sg,noFn]
 have n2:aY [M.ways,N.ways,.int hour,H,G]=true:=by simp[aY,M.nfW,N.nfW,M.nfH,N.nfH,noFn]
 have n3:aY [p2 (bT M N near.1 i)]=true:=by simp[aY,tm]
 have n4:aY [H,G]=true:=by simp[aY,M.nfH,N.nfH]
 have B:=Ij S0 (F1 M N) (F2 H G) (kL found) (tL found) (found.map ba) d (ba near) (WO.sg (cd i)) (p2 (bT M N near.1 i)) c (bF near.2) (bF (near.2++[i])) (oj (bT M N near.1 i)) (dj M N (bT M N near.1 i))
  (q0 (L:=aW) (cs:=[M.ways,N.ways,.int hour,H,G]) (qs:=[p2 near.1,WO.sg (cd i)]) rfl rfl n1 n2 (Io M N near.1 hn i))
  (fun KS PS FS=>q0 (L:=aS) (cs:=[H,G]) (qs:=[p2 (bT M N near.1 i)]) rfl rfl n3 n4 (CC M N _ (El M N _ hn i)))
  (tk2 _) rfl (uP near.2 i hr) (by simp[kL];omega) (by simp;omega)
 rw[qN] at B;refine B.trans ?_
 by_cases hm:bT M N near.1 i∈found.map (·.1)
 ·rw[if_pos hm,if_pos (decide_eq_true hm)]
 ·rw[if_neg hm,if_neg (by simpa using hm)]
  simp only[m4,kL,tL,L8];rfl
theorem oq(S0:PV)(s0:P2)(h0:ok2 M N s0)(near:BF.Row P2)(d:Nat):∀(m k:Nat)(found:List (BF.Row P2))(b c:Sl),k+m=13->BF.Mid (bT M N) s0 (dj M N) found d k near->∃found' b' c',
  ic (az 7) bx ((RB k m).map fun i=>WO.sg (cd i)) (m4 S0 (F1 M N) (F2 H G) found (d+1) (.val (ba near)) b c)=.ok (.next (m4 S0 (F1 M N) (F2 H G) found' (d+1) (.val (ba near)) b' c'))/\
   (BF.Mid (bT M N) s0 (dj M N) found' d 13 near\/∃init fin,found'=init++[fin]/\dj M N fin.1=true/\BF.Res (bT M N) s0 (dj M N) found')
 | 0,k,found,b,c,hk,I=>⟨found,b,c,rfl,.inl ((show k=13 by omega)▸I)⟩
 | m+1,k,found,b,c,hk,I=>by
  have hn:ok2 M N near.1:=(kh M N s0 h0 I.inv).1 near (LF I.at_);have hl:=(kh M N s0 h0 I.inv).2;have hd:=(KN.mp I.at_).1;have hr:=I.inv.len d near I.at_;have e1:=Fn M N S0 found near hn k (d+1) c (by omega) (by omega);have e0:az 7 (WO.sg (cd k)) (m4 S0 (F1 M N) (F2 H G) found (d+1) (.val (ba near)) b c)=some (m4 S0 (F1 M N) (F2 H G) found (d+1) (.val (ba near)) (.val (WO.sg (cd k))) c):=rfl;rw[Pr,KG];unfold ic;rw[e0];simp only[R.ofO_some,R.ok_bind,e1]
  by_cases hm:bT M N near.1 k∈found.map (·.1)
  ·rw[if_pos hm]
   have lf:dj M N (bT M N near.1 k)=false:=by
    obtain⟨q,hq,e⟩:=KU.mp hm;rw[← e];exact I.nl q hq
   have I2:=I.go (by omega) lf;unfold BF.inn at I2;rw[if_pos hm] at I2;exact oq S0 s0 h0 near d m (k+1) found _ _ (by omega) I2
  ·rw[if_neg hm]
   by_cases hb:dj M N (bT M N near.1 k)=true
   ·rw[if_pos hb]
    exact⟨_,_,_,rfl,.inr ⟨found,_,rfl,hb,I.stop (by omega) hm hb⟩⟩
   ·rw[if_neg hb]
    have I2:=I.go (by omega) ((NB _).mp hb);unfold BF.inn at I2;rw[if_neg hm] at I2;exact oq S0 s0 h0 near d m (k+1) _ _ _ (by omega) I2
theorem Ii(S0:PV)(s0:P2)(h0:ok2 M N s0)(found:List (BF.Row P2))(near:BF.Row P2)(d:Nat)(hd:found[d]?=some near)(O:BF.Out (bT M N) s0 (dj M N) found d)(a b c:Sl):∃found' b' c',
  bN (m4 S0 (F1 M N) (F2 H G) found d a b c)=.ok (.next (m4 S0 (F1 M N) (F2 H G) found' (d+1) (.val (ba near)) b' c'))/\
   ((BF.Out (bT M N) s0 (dj M N) found' (d+1)/\d<found'.length)\/∃init fin,found'=init++[fin]/\dj M N fin.1=true/\BF.Res (bT M N) s0 (dj M N) found'):=by
 obtain⟨found',b',c',e,r⟩:=oq M N S0 s0 h0 near d 13 0 found b c rfl (O.mid hd);refine⟨found',b',c',?_,r.imp (fun r=>⟨r.out,(KN.mp r.at_).1⟩) id⟩;have i0:atI (found.map ba) (d:Int)=some (ba near):=bY rfl (by rw[L3,hd];rfl);have es:c_SIGNS=.str "0123456789*#w":=rfl;have it:=zK;have er:RB 0 13=KM 13:=rfl;rw[er] at e;have ag:∀(A1 A2 A3 A4 A5 A6 A7 A8:Sl),D3 5 (kI 1) [A1,A2,A3,A4,A5,.val (.int d),A6,A7,A8]=.ok (.next [A1,A2,A3,A4,A5,.val (.int ((d+1:Nat):Int)),A6,A7,A8]):=fun _ _ _ _ _ _ _ _=>rfl;have e:ic (az 7) bx ((KM 13).map fun i=>WO.sg (cd i)) [.val S0,.val (F1 M N),.val (F2 H G),.own (.dtt (kL found) (tL found)),.own (.lst (found.map ba)),.val (.int ((d+1:Nat):Int)),.val (ba near),b,c]=_:=e;rw[← e];simp only[m4];generalize F1 M N=G1 at *;generalize F2 H G=G2 at *;generalize found.map ba=FS at *;generalize PV.dtt (kL found) (tL found)=KD at *;generalize ba near=NP at *;generalize (KM 13).map (fun i=>WO.sg (cd i))=SS at *;simp[bN,i0,ag,es,it]
noncomputable def tst:PSt->R Bool:=(pW (bq (aj (ai 5) (un1 (dz 4) gT) gLt)) (vg (bq (mC 2 (ab (aj (aj (dz 4) (un1 (kI 1) oF) gIx) (kI 0) gIx) ay) appL))))
theorem Au(S0 G1:PV)(f':List (BF.Row P2))(p:BF.Row P2)(hp:ok2 M N p.1)(d:Nat)(a b c:Sl):tst (m4 S0 G1 (F2 H G) (f'++[p]) d a b c)=.ok (decide (d<(f'++[p]).length) && !dj M N p.1):=by
 by_cases hd:d<(f'++[p]).length
 ·have l:gIx (.lst ((f'++[p]).map ba)) (.int (-1))=some (ba p):=by
   rw[L8];exact oC (f'.map ba) (ba p)
  have ng:oF (.int 1)=some (.int (-1)):=rfl;have g0:gIx (ba p) (.int 0)=some (p2 p.1):=rfl
  have cv:mC 2 (ab (aj (aj (dz 4) (un1 (kI 1) oF) gIx) (kI 0) gIx) ay) appL (m4 S0 G1 (F2 H G) (f'++[p]) d a b c)=.ok (.bl (dj M N p.1)):=by
   refine q0 (L:=aS) (cs:=[H,G]) (qs:=[p2 p.1]) rfl ?_ (by simp[aY,tm]) (by simp[aY,M.nfH,N.nfH]) (CC M N _ hp);simp only[m4];generalize (f'++[p]).map ba=FS at *;generalize ba p=NP at *;simp[ng,l,g0]
  have hd':(d:Int)<((f'++[p]).map ba).length:=by rw[KH];omega
  rw[decide_eq_true hd];simp only[m4] at cv ⊢;generalize (f'++[p]).map ba=FS at *;generalize PV.dtt (kL (f'++[p])) (tL (f'++[p]))=KD at *;simp[tst,hd',cv]
 ·rw[decide_eq_false hd]
  have hd':¬ (d:Int)<(((f'++[p]).map ba).length:Nat):=by rw[KH];omega
  simp only[m4];generalize (f'++[p]).map ba=FS at *;simp[tst,hd']
theorem Av(S0 G1:PV)(f':List (BF.Row P2))(p:BF.Row P2)(hp:ok2 M N p.1)(hl:dj M N p.1=true)(n d:Nat)(a b c:Sl):whF tst bN (n+1) (m4 S0 G1 (F2 H G) (f'++[p]) d a b c)=.ok (.next (m4 S0 G1 (F2 H G) (f'++[p]) d a b c)):=by
 unfold whF;rw[Au M N S0 G1 f' p hp d a b c,hl,R.ok_bind];simp
theorem sk(S0:PV)(s0:P2)(h0:ok2 M N s0):∀(n d:Nat)(found:List (BF.Row P2))(a b c:Sl),BF.Out (bT M N) s0 (dj M N) found d->d<=found.length->3415104<d+n->∃found' d' a' b' c',
  whF tst bN (n+1) (m4 S0 (F1 M N) (F2 H G) found d a b c)=.ok (.next (m4 S0 (F1 M N) (F2 H G) found' d' a' b' c'))/\BF.Res (bT M N) s0 (dj M N) found'
 | n,d,found,a,b,c,O,hd,hn=>by
  obtain⟨k1,k2⟩:=kh M N s0 h0 O.inv;have hne:found≠[]:=by obtain⟨tl,e⟩:=O.inv.h0;rw[e];simp
  obtain⟨f',p,hf⟩:∃f' p,found=f'++[p]:=⟨found.dropLast,found.getLast hne,(O6 hne).symm⟩;have pm:p∈found:=by rw[hf];simp
  have ht:=Au M N S0 (F1 M N) f' p (k1 p pm) d a b c;rw[← hf,O.nl p pm] at ht;cases e:found[d]? with
  | none=>
   have hge:¬ d<found.length:=by have:=List.getElem?_eq_none_iff.mp e;omega
   rw[decide_eq_false hge] at ht;refine⟨found,d,a,b,c,?_,O.done (by omega)⟩;unfold whF;rw[ht,R.ok_bind];simp
  | some near=>
   have hdl:d<found.length:=(KN.mp e).1;rw[decide_eq_true hdl] at ht;obtain⟨found1,b',c',eb,r⟩:=Ii M N S0 s0 h0 found near d e O a b c;cases n with
   | zero=>omega
   | succ n=>
    unfold whF;rw[ht,R.ok_bind];simp only[Bool.not_false,Bool.and_self,if_true];rw[eb,R.ok_bind];rcases r with⟨r,hge⟩|⟨init,fin,rfl,hb,r⟩
    ·exact sk S0 s0 h0 n (d+1) found1 _ b' c' r hge (by omega)
    ·exact⟨_,_,_,_,_,Av M N S0 (F1 M N) init fin ((kh M N s0 h0 r.inv).1 fin (by simp)) hb n (d+1) _ b' c',r⟩
termination_by n=>n
end
def bR(p:BF.Row P2):PV:=.tup [p.1.1.pv,p.1.2.pv,.str (bF p.2)]
theorem zd{α:Type}(l:List α)(x:α):kJ (l++[x]) none (some (-1))=l:=by
 have e0:HT.sIx (l++[x]).length 0 none=0:=rfl
 have e1:HT.sIx (l++[x]).length (l++[x]).length (some (-1))=l.length:=by
  rw[L0,Lv];unfold HT.sIx
  first
   | (simp;omega)
   | simp
   | (split <;> omega)
 unfold kJ;rw[e0,e1];simp
theorem xP{L:Lam}{idx:List Nat}{fs:PSt->R (List PV)}{app:Lam->List PV->List PV->Option PV}{ρ:PSt}{cs qs:List PV}{p:PV}(hc:u4 ρ idx=.ok cs)(hq:fs ρ=.ok qs)(n1:aY qs=true)(n2:aY cs=true)(e:app L qs cs=some p)(n3:noFn p=true):nH L idx fs app ρ=.ok p:=by
 unfold nH;rw[hc];show (fs ρ >>= _)=_;rw[hq];show (if aY qs=true/\aY cs=true then _ else _)=_;rw[if_pos ⟨n1,n2⟩,e];show (if noFn p=true then _ else _)=_;rw[if_pos n3]
theorem zE{i:Nat}{g:PSt->R Fl}{ρ:PSt}(h:ρ[i]?=some .no):Az i g ρ=g ρ:=by
 unfold Az;rw[h]
theorem DO(p:BF.Row P2):noFn (ba p)=true:=by simp[ba,noFn,aY,tm]
section
variable{H G : PV}{hour : Int}(M : Mach H hour)(N : Mach G hour)
theorem yW:∃found,BF.Res (bT M N) (M.s0,N.s0) (dj M N) found/\dO [p2 (M.s0,N.s0),F1 M N,F2 H G]=some (.lst (found.map ba)):=by
 have h0:ok2 M N (M.s0,N.s0):=⟨M.ok0,N.ok0⟩
 have r0:ba ((M.s0,N.s0),[])=.tup [p2 (M.s0,N.s0),.str ""]:=by
  unfold ba bF;rfl
 obtain⟨found,d',a',b',c',ew,RR0⟩:∃found d' a' b' c',whF tst bN 10500000 (m4 (p2 (M.s0,N.s0)) (F1 M N) (F2 H G) [((M.s0,N.s0),[])] 0 .no .no .no)=.ok (.next (m4 (p2 (M.s0,N.s0)) (F1 M N) (F2 H G) found d' a' b' c'))/\BF.Res (bT M N) (M.s0,N.s0) (dj M N) found:=by
  cases hl:dj M N (M.s0,N.s0) with
  | true=>exact⟨_,_,_,_,_,Av M N (p2 (M.s0,N.s0)) (F1 M N) [] ((M.s0,N.s0),[]) h0 hl 10499999 0 .no .no .no,BF.res_0 hl⟩
  | false=>exact sk M N (p2 (M.s0,N.s0)) (M.s0,N.s0) h0 10499999 0 [((M.s0,N.s0),[])] .no .no .no (BF.out_0 hl) (by simp) (by decide)
 refine⟨found,RR0,xZ rfl ?_⟩;have tk:=tk2 (M.s0,N.s0);have ew:whF tst bN 10500000 [.val (p2 (M.s0,N.s0)),.val (F1 M N),.val (F2 H G),.own (.dtt [oj (M.s0,N.s0)] [.bl true]),.own (.lst [ba ((M.s0,N.s0),[])]),.val (.int 0),.no,.no,.no]=.ok (.next [.val (p2 (M.s0,N.s0)),.val (F1 M N),.val (F2 H G),.own (.dtt (kL found) (tL found)),.own (.lst (found.map ba)),.val (.int d'),a',b',c']):=ew;rw[r0] at ew
 have dt:zb (ai 0) (kB true) [.val (p2 (M.s0,N.s0)),.val (F1 M N),.val (F2 H G),.no,.no,.no,.no,.no,.no]=.ok (.dtt [oj (M.s0,N.s0)] [.bl true]):=by
  unfold zb;rw[show ai 0 [.val (p2 (M.s0,N.s0)),.val (F1 M N),.val (F2 H G),.no,.no,.no,.no,.no,.no]=.ok (p2 (M.s0,N.s0)) from rfl];simp only[R.ok_bind,Jn,tk,R.ofO_some]
 unfold tst at ew;generalize F1 M N=G1 at *;generalize F2 H G=G2 at *;generalize PV.dtt (kL found) (tL found)=KD at *;generalize PV.dtt [oj (M.s0,N.s0)] [.bl true]=K0 at *;generalize found.map ba=FS at *;generalize p2 (M.s0,N.s0)=S at *;simp[gO,PU.start,dt];rw[ew];simp
theorem tZ:∃found,BF.Inv (bT M N) (M.s0,N.s0) found/\((BF.Whole (bT M N) (dj M N) found/\fI [H,G,.int hour]=some (.tup [.str "alike",.lst (found.map bR)])) ∨
  ∃init fin,found=init++[fin]/\BF.Stops (bT M N) (dj M N) init fin/\fI [H,G,.int hour]=some (.tup [.str "apart",.str (bF fin.2),.lst (init.map bR)])):=by
 obtain⟨found,RR0,ef⟩:=yW M N;have h0:ok2 M N (M.s0,N.s0):=⟨M.ok0,N.ok0⟩;obtain⟨k1,k2⟩:=kh M N _ h0 RR0.inv;refine⟨found,RR0.inv,?_⟩;have hne:found≠[]:=by obtain⟨tl,e⟩:=RR0.inv.h0;rw[e];simp
 obtain⟨f',p,hf⟩:∃f' p,found=f'++[p]:=⟨found.dropLast,found.getLast hne,(O6 hne).symm⟩;have pm:p∈found:=by rw[hf];simp
 have ew1:=M.ew;have ew2:=N.ew;have eb1:=M.eb;have eb2:=N.eb
 have nfl:noFn (.lst (found.map ba))=true:=by
  have:=fG ba found fun p _=>DO p;simpa [noFn] using this
 have n0:noFn (p2 (M.s0,N.s0))=true:=tm _
 have fa:∀a5 a6 a7 a8 a9:Sl,sJ (Dc (cg (ab (aD (ab (ai 0) (ab (ai 2) ay)) cb) (ab (aD (ab (ai 1) (ab (ai 2) ay)) cb) ay))) (Aj aW [3,4,2,0,1] (Aj aS [0,1] ay))) dO [.val H,.val G,.val (.int hour),.val M.ways,.val N.ways,a5,a6,a7,a8,a9]=.ok (.lst (found.map ba)):=fun a5 a6 a7 a8 a9=>by
  have e1:(Dc (cg (ab (aD (ab (ai 0) (ab (ai 2) ay)) cb) (ab (aD (ab (ai 1) (ab (ai 2) ay)) cb) ay))) (Aj aW [3,4,2,0,1] (Aj aS [0,1] ay))) [.val H,.val G,.val (.int hour),.val M.ways,.val N.ways,a5,a6,a7,a8,a9]=.ok [p2 (M.s0,N.s0),F1 M N,F2 H G]:=by
   unfold Dc;rw[show cg (ab (aD (ab (ai 0) (ab (ai 2) ay)) cb) (ab (aD (ab (ai 1) (ab (ai 2) ay)) cb) ay)) [.val H,.val G,.val (.int hour),.val M.ways,.val N.ways,a5,a6,a7,a8,a9]=.ok (p2 (M.s0,N.s0)) by simp[eb1,eb2,p2]];simp only[R.ok_bind,n0,if_true];rfl
  unfold sJ;rw[e1];simp only[R.ok_bind,ef,R.ofO_some,nfl,if_true]
 have it:f6 (.lst (found.map ba))=some (found.map ba):=rfl
 have cc:cQ (iq 2 (aT (az 0) (aT (az 1) ir))) mG gi [.no,.no] (found.map ba)=.ok (found.map bR):=by
  exact WO.in_list_comp (enc:=ba) (h:=iq 2 (aT (az 0) (aT (az 1) ir))) (fe:=gi) (ρ:=[.no,.no]) bR found fun p _=>⟨[.val (p2 p.1),.val (.str (bF p.2))],rfl,by
   have i0:gIx (p2 p.1) (.int 0)=some p.1.1.pv:=rfl;have i1:gIx (p2 p.1) (.int 1)=some p.1.2.pv:=rfl;unfold bR;generalize p2 p.1=Q at *;generalize bF p.2=RR at *;generalize p.1.1.pv=A at *;generalize p.1.2.pv=B at *;simp[gi,i0,i1]⟩
 have z1:(found.map bR).length<=16777216:=by rw[KH];omega
 have la:gIx (.lst (found.map ba)) (.int (-1))=some (ba p):=by
  rw[hf,L8];exact oC (f'.map ba) (ba p)
 have ng:oF (.int 1)=some (.int (-1)):=rfl;have g0:gIx (ba p) (.int 0)=some (p2 p.1):=rfl;have g1:gIx (ba p) (.int 1)=some (.str (bF p.2)):=rfl
 have cf:∀a2 a3 a4 a5 a6 a7 a8:Sl,nH aS [0,1] (ab (aj (ai 9) (kI 0) gIx) ay) appL [.val H,.val G,a2,a3,a4,a5,a6,a7,a8,.val (ba p)]=.ok (.bl (dj M N p.1)):=fun _ _ _ _ _ _ _=>by
  refine xP (cs:=[H,G]) (qs:=[p2 p.1]) rfl ?_ (by simp[aY,tm]) (by simp[aY,M.nfH,N.nfH]) (CC M N _ (k1 p pm)) rfl;generalize ba p=NP at *;simp[g0]
 have sl:gSl (.lst (found.map bR)) none (some (-1))=some (.lst (f'.map bR)):=by
  show some (PV.lst (kJ (found.map bR) none (some (-1))))=_;rw[hf,L8,Rm,zd]
 have d5:∀(g:PSt->R Fl)(A B C D E a7 a8 a9:Sl),Az 5 g [A,B,C,D,E,.no,.no,a7,a8,a9]=g [A,B,C,D,E,.no,.no,a7,a8,a9]:=fun g A B C D E a7 a8 a9=>zE rfl;have d6:∀(g:PSt->R Fl)(A B C D E a7 a8 a9:Sl),Az 6 g [A,B,C,D,E,.no,.no,a7,a8,a9]=g [A,B,C,D,E,.no,.no,a7,a8,a9]:=fun g A B C D E a7 a8 a9=>zE rfl
 have main:fI [H,G,.int hour]=some (if dj M N p.1=true then .tup [.str "apart",.str (bF p.2),.lst (f'.map bR)] else .tup [.str "alike",.lst (found.map bR)]):=by
  refine aG rfl ?_;generalize F1 M N=G1 at *;generalize found.map ba=FS at *;generalize found.map bR=FT at *;generalize f'.map bR=IT at *;generalize ba p=RP at *;generalize bF p.2=RR at *;generalize M.ways=W1 at *;generalize N.ways=W2 at *;cases hb:dj M N p.1 with
  | true=>
   rw[hb] at cf;simp[ji,PU.start,ew1,ew2,d5,d6,fa,it,cE,cc,z1,ng,la,cf,g1,sl]
  | false=>
   rw[hb] at cf;simp[ji,PU.start,ew1,ew2,d5,d6,fa,it,cE,cc,z1,ng,la,cf]
 rcases RR0.res with W | ⟨init,fin,e,S⟩
 ·refine .inl ⟨W,?_⟩
  rw[main,W.1 p pm];rfl
 ·have e2:=hf.symm.trans e
  obtain⟨e3,e4⟩:=List.append_inj' e2 rfl;injection e4 with e4 _;refine .inr ⟨init,fin,e,S,?_⟩;rw[main,e4,S.1,e3];rfl
end
def kR(r:List Nat):PV:=.tup [.int r.length,.lst (r.map fun i:Nat=>PV.int (i:Int))]
theorem K3 (i:Nat) (hi:i<13):nB (.str "0123456789*#w") (WO.sg (cd i))=some (.int i):=by
 match i,hi with
 | 0,_=>kernel_rfl
 | 1,_=>kernel_rfl
 | 2,_=>kernel_rfl
 | 3,_=>kernel_rfl
 | 4,_=>kernel_rfl
 | 5,_=>kernel_rfl
 | 6,_=>kernel_rfl
 | 7,_=>kernel_rfl
 | 8,_=>kernel_rfl
 | 9,_=>kernel_rfl
 | 10,_=>kernel_rfl
 | 11,_=>kernel_rfl
 | 12,_=>kernel_rfl
theorem rW(ρ:PSt)(hρ:ρ=[.no]):∀(r:List Nat),(∀i∈r,i<13)->cQ (az 0) mG iX ρ (r.map fun i=>WO.sg (cd i))=.ok (r.map fun i:Nat=>PV.int (i:Int))
 | [],_=>rfl
 | i::r,h=>by
  have ih:=rW ρ hρ r fun j hj=>h j (by simp[hj]);have e:=K3 i (h i (by simp))
  have e1:iX [.val (WO.sg (cd i))]=.ok (.int i):=by
   generalize WO.sg (cd i)=G at *;show tD (kS "0123456789*#w") (ai 0) nB _=_;simp[e]
  rw[KG];unfold cQ;rw[show az 0 (WO.sg (cd i)) ρ=some [.val (WO.sg (cd i))] by rw[hρ];rfl];simp only[R.ofO_some,R.ok_bind,zA,if_true,e1,ih];rfl
theorem lP(r:List Nat)(h:∀i∈r,i<13)(hl:r.length<=16000000):bp [.str (bF r)]=some (kR r):=by
 have ei:f6 (.str (bF r))=some (r.map fun i=>WO.sg (cd i)):=by
  unfold bF;rw[WO.it_mk,L7];rfl
 have gl:gT (.str (bF r))=some (.int r.length):=by
  unfold bF;rw[ja (by rw[dU,KH];omega),dU,KH]
 have ec:=rW [.no] rfl r h;have z:(r.map fun i:Nat=>PV.int (i:Int)).length<=16777216:=by simp;omega
 unfold kR;generalize bF r=RR at *;generalize (r.map fun i=>WO.sg (cd i))=RS at *;generalize (r.map fun i:Nat=>PV.int (i:Int))=RI at *;refine aG rfl ?_;simp[lX,PU.start,gl,ei,cE,ec,z]
def iL(r:List Nat):List Int:=r.map fun i:Nat=>(i:Int)
theorem iQ:∀r:List Nat,iR (r.map fun i:Nat=>PV.int (i:Int))=some (iL r)
 | []=>rfl
 | i::r=>by
  show (iR (r.map fun i:Nat=>PV.int (i:Int))).map ((i:Int)::·)=_;rw[iQ r];rfl
theorem wd:∀a b:List Nat,a.length=b.length->BF.lexLt a b=true->geL (iL a) (iL b)=false
 | [],_,_,h=>by simp[BF.lexLt] at h
 | _::_,[],h,_=>by simp at h
 | x::xs,y::ys,hl,h=>by
  simp only[BF.lexLt] at h;show (if (x:Int)=(y:Int) then geL (iL xs) (iL ys) else decide ((y:Int)<=(x:Int)))=false
  by_cases e:x=y
  ·rw[if_pos e] at h
   rw[if_pos (by omega)];exact wd xs ys (by simpa using hl) h
  ·rw[if_neg e] at h
   rw[if_neg (by omega)];simp at h ⊢;omega
theorem sd:∀a:List Nat,gtL (iL a) (iL a)=false
 | []=>rfl
 | x::xs=>by
  show (if (x:Int)=(x:Int) then gtL (iL xs) (iL xs) else _)=false;rw[if_pos rfl];exact sd xs
theorem vY:∀a b:List Nat,a.length=b.length->BF.lexLt a b=true->gtL (iL a) (iL b)=false
 | [],_,_,h=>by simp[BF.lexLt] at h
 | _::_,[],h,_=>by simp at h
 | x::xs,y::ys,hl,h=>by
  simp only[BF.lexLt] at h;show (if (x:Int)=(y:Int) then gtL (iL xs) (iL ys) else decide ((y:Int)<(x:Int)))=false
  by_cases e:x=y
  ·rw[if_pos e] at h
   rw[if_pos (by omega)];exact vY xs ys (by simpa using hl) h
  ·rw[if_neg e] at h
   rw[if_neg (by omega)];simp at h ⊢;omega
theorem Fj(a b:List Nat)(h:BF.lt a b):yS (kR a) (kR b)=some (.bl false):=by
 show (match iR (a.map fun i:Nat=>PV.int (i:Int)),iR (b.map fun i:Nat=>PV.int (i:Int)) with
  | some xs,some ys=>if (a.length:Int)=(b.length:Int)/\¬ xs.length=ys.length then none else some (PV.bl (if (a.length:Int)=(b.length:Int) then geL xs ys else decide ((b.length:Int)<=(a.length:Int))))
  | _,_=>none)=_
 rw[iQ,iQ];show (if (a.length:Int)=(b.length:Int)/\¬ (iL a).length=(iL b).length then none else some (PV.bl (if (a.length:Int)=(b.length:Int) then geL (iL a) (iL b) else decide ((b.length:Int)<=(a.length:Int)))))=_;rw[if_neg (by simp[iL];omega)];rcases h with h | ⟨h,e⟩
 ·rw[if_neg (by omega),decide_eq_false (by omega)]
 ·rw[if_pos (by omega),wd a b h e]
theorem Ig(a b:List Nat)(h:a=b\/BF.lt a b):Cd (kR a) (kR b)=some (.bl false):=by
 show (match iR (a.map fun i:Nat=>PV.int (i:Int)),iR (b.map fun i:Nat=>PV.int (i:Int)) with
  | some xs,some ys=>if (a.length:Int)=(b.length:Int)/\¬ xs.length=ys.length then none else some (PV.bl (if (a.length:Int)=(b.length:Int) then gtL xs ys else decide ((b.length:Int)<(a.length:Int))))
  | _,_=>none)=_
 rw[iQ,iQ];show (if (a.length:Int)=(b.length:Int)/\¬ (iL a).length=(iL b).length then none else some (PV.bl (if (a.length:Int)=(b.length:Int) then gtL (iL a) (iL b) else decide ((b.length:Int)<(a.length:Int)))))=_;rw[if_neg (by simp[iL];omega)];rcases h with rfl | h | ⟨h,e⟩
 ·rw[if_pos rfl,sd]
 ·rw[if_neg (by omega),decide_eq_false (by omega)]
 ·rw[if_pos (by omega),vY a b h e]
theorem rQ:∀a b:List Nat,ltL (iL a) (iL b)=true->BF.lexLt a b=true
 | [],[],h=>by simp[iL,ltL] at h
 | [],_::_,h=>by simp[iL,ltL] at h
 | _::_,[],h=>by simp[iL,ltL] at h
 | x::xs,y::ys,h=>by
  have h:(if (x:Int)=(y:Int) then ltL (iL xs) (iL ys) else decide ((x:Int)<(y:Int)))=true:=h;simp only[BF.lexLt]
  by_cases e:x=y
  ·rw[if_pos (by omega)] at h
   rw[if_pos e];exact rQ xs ys h
  ·rw[if_neg (by omega)] at h
   rw[if_neg e];simp at h ⊢;omega
theorem HP(a b:List Nat):∃z:Bool,yR (kR a) (kR b)=some (.bl z)/\(z=true->BF.lt a b):=by
 have l1:(iL a).length=a.length:=by simp[iL]
 have l2:(iL b).length=b.length:=by simp[iL]
 unfold kR;simp only[yR,iQ];rw[if_neg (by omega)];refine⟨_,rfl,fun h=>?_⟩
 by_cases e:(a.length:Int)=(b.length:Int)
 ·rw[if_pos e] at h
  exact .inr ⟨by omega,rQ a b h⟩
 ·rw[if_neg e] at h
  exact .inl (by simpa using h)
def scan(f:St->Nat->St):St->List Nat->List St
 | s,[]=>[s]
 | s,i::r=>s::scan f (f s i) r
theorem oS(f:St->Nat->St):∀(r:List Nat)(s:St),∃L,scan f s r=L++[r.foldl f s]
 | [],s=>⟨[],rfl⟩
 | i::r,s=>by
  obtain⟨L,e⟩:=oS f r (f s i);exact⟨s::L,by rw[scan,e];rfl⟩
theorem Fb(r:List Nat):f6 (.str (bF r))=some (r.map fun i=>WO.sg (cd i)):=by unfold bF;rw[WO.it_mk,L7];rfl
section
variable{H : PV}{hour : Int}(M : Mach H hour)
theorem oI(z row:PV):∀(r:List Nat)(s:St)(L:List PV)(a:Sl),M.ok s->L.length+r.length<=16000000->∃a',ic (az 6) gj (r.map fun i=>WO.sg (cd i)) [.val H,.val (.int hour),.val z,.val row,.val M.ways,.own (.lst (L++[s.pv])),a]=.ok (.next [.val H,.val (.int hour),.val z,.val row,.val M.ways,.own (.lst (L++(scan M.lead s r).map St.pv)),a'])
 | [],s,L,a,_,_=>⟨a,rfl⟩
 | i::r,s,L,a,hs,hl=>by
  rw[LK] at hl;obtain⟨X,e1,e2⟩:=M.fol s hs i;have hs':=M.okl s hs i;have g0:gIx s.pv (.int 0)=some (.str s.r):=rfl;have e0:az 6 (WO.sg (cd i)) [.val H,.val (.int hour),.val z,.val row,.val M.ways,.own (.lst (L++[s.pv])),a]=some [.val H,.val (.int hour),.val z,.val row,.val M.ways,.own (.lst (L++[s.pv])),.val (WO.sg (cd i))]:=rfl;have hz:(L++[s.pv]).length<16777216:=by rw[L0,Lv];omega
  have b1:gj [.val H,.val (.int hour),.val z,.val row,.val M.ways,.own (.lst (L++[s.pv])),.val (WO.sg (cd i))]=.ok (.next [.val H,.val (.int hour),.val z,.val row,.val M.ways,.own (.lst ((L++[s.pv])++[(M.lead s i).pv])),.val (WO.sg (cd i))]):=by
   have l:=oC L s.pv;have ng:oF (.int 1)=some (.int (-1)):=rfl;generalize L++[s.pv]=LS at *;generalize WO.sg (cd i)=G at *;generalize (M.lead s i).pv=S' at *;generalize s.pv=S at *;generalize M.ways=W1 at *;simp[gj,ng,l,g0,e1,e2,hz]
  obtain⟨a',f⟩:=oI z row r (M.lead s i) (L++[s.pv]) (.val (WO.sg (cd i))) hs' (by rw[L0,Lv];omega);refine⟨a',?_⟩;rw[KG];unfold ic;rw[e0];simp only[R.ofO_some,R.ok_bind,b1];rw[show L++(scan M.lead s (i::r)).map St.pv=(L++[s.pv])++(scan M.lead (M.lead s i) r).map St.pv by simp[scan]];exact f
theorem AQ(r:List Nat)(hl:r.length<=15000000):jq [H,.int hour,.str (bF r)]=some (.lst ((scan M.lead M.s0 r).map St.pv)):=by
 obtain⟨a,f⟩:=oI M M.s0.pv (.str (bF r)) r M.s0 [] .no M.ok0 (by simpa using by omega);have ei:=Fb r;have hW:=M.ew;have hb:=M.eb;simp only[O5] at f;generalize (scan M.lead M.s0 r).map St.pv=T at *;generalize (r.map fun i=>WO.sg (cd i))=RS at *;generalize bF r=MR at *;generalize M.s0.pv=S0 at *;generalize M.ways=W1 at *
 have wo:jo [H,.int hour,S0,.str MR]=some (.lst T):=by
  refine aG rfl ?_;simp[lW,PU.start,hW,ei];rw[f];simp
 refine aG rfl ?_;simp[we,PU.start,hb,wo]
theorem su(r:List Nat)(hl:r.length<=15000000):∃W,jq [H,.int hour,.str (bF r)]=some W/\gIx W (.int (-1))=some (r.foldl M.lead M.s0).pv:=by
 obtain⟨L,e⟩:=oS M.lead r M.s0;refine⟨_,AQ M r hl,?_⟩;rw[e,L8];exact oC _ _
end
theorem DK(r b:Str)(w v:Int)(t:W):gNe (sT r b w v t) (sT r b w v t)=some (.bl false):=by
 have e:gNe (sT r b w v t) (sT r b w v t)=if dN [.str r,.str b,.int w,.int v,.str (mkS t)]<=60 then (di [.str r,.str b,.int w,.int v,.str (mkS t)] [.str r,.str b,.int w,.int v,.str (mkS t)]).map fun b=>.bl (!b) else none:=rfl
 rw[e,if_pos (by simp[va,dN]),gI _ (by simp[flat,qF])];rfl
def rL(found:List (BF.Row P2)):List PV:=found.map fun p=>PV.str (bF p.2)
theorem Ag:∀(f:List (BF.Row P2))(p:BF.Row P2),(f.map (·.1)).Nodup->p∈f->pj (kL f) (rL f) (oj p.1)=some (.str (bF p.2))
 | [],_,_,h=>nomatch h
 | q::f,p,nd,h=>by
  show (if oj q.1=oj p.1 then some (PV.str (bF q.2)) else pj (kL f) (rL f) (oj p.1))=_;rw[KG,Le] at nd;rcases L4.mp h with e | h
  ·rw[e,if_pos rfl]
  ·rw[if_neg fun e=>nd.1 (by rw[F5 e];exact Ra h)]
   exact Ag f p nd.2 h
theorem vq:∀a b:List Nat,a.length=b.length->BF.lexLt a b=true->ltL (iL a) (iL b)=true
 | [],_,_,h=>by simp[BF.lexLt] at h
 | _::_,[],h,_=>by simp at h
 | x::xs,y::ys,hl,h=>by
  simp only[BF.lexLt] at h;show (if (x:Int)=(y:Int) then ltL (iL xs) (iL ys) else decide ((x:Int)<(y:Int)))=true
  by_cases e:x=y
  ·rw[if_pos e] at h
   rw[if_pos (by omega)];exact vq xs ys (by simpa using hl) h
  ·rw[if_neg e] at h
   rw[if_neg (by omega)];simp at h ⊢;omega
theorem Ez(a b:List Nat)(h:BF.lt a b):yR (kR a) (kR b)=some (.bl true):=by
 have l1:(iL a).length=a.length:=by simp[iL]
 have l2:(iL b).length=b.length:=by simp[iL]
 unfold kR;simp only[yR,iQ];rw[if_neg (by omega)];rcases h with h | ⟨h,e⟩
 ·rw[if_neg (by omega),decide_eq_true (by omega)]
 ·rw[if_pos (by omega),vq a b h e]
theorem sq2{f g:PSt->R Fl}{ρ ρ1:PSt}(h:f ρ=.ok (.next ρ1)):aH f g ρ=g ρ1:=by
 unfold aH;rw[h];rfl
theorem C8{t:PSt->R Bool}{f g:PSt->R Fl}{ρ:PSt}(h:t ρ=.ok false):ifF t f g ρ=g ρ:=by
 unfold ifF;rw[h];rfl
theorem Hq{a b:PSt->R Bool}{ρ:PSt}(h:a ρ=.ok false)(k:b ρ=.ok false):orB a b ρ=.ok false:=by
 unfold orB;rw[h];exact k
theorem Ib(s:P2)(ks:List cV)(ps:List PV):Cc (.tup [s.1.pv,s.2.pv]) (.dtt ks ps)=some (.bl (ks.any fun j=>decide (j=oj s))):=rfl
theorem Ep(s:P2)(ks:List cV)(ps:List PV):gd (.tup [s.1.pv,s.2.pv]) (.dtt ks ps)=some (.bl (!(ks.any fun j=>decide (j=oj s)))):=rfl
def Ah(ro:Option (List Nat))(q:List Nat):Prop:=∀t,ro=some t->BF.lt q t
def roP:Option (List Nat)->PV
 | none=>.non
 | some t=>.str (bF t)
section
variable{H G : PV}{hour : Int}(M : Mach H hour)(N : Mach G hour)
structure Sh(L:List (BF.Row P2))(ro:Option (List Nat)):Prop where
 nd:(L.map (·.1)).Nodup
 srt:L.Pairwise fun a b=>BF.lt a.2 b.2
 run:∀p∈L,p.2.foldl M.lead M.s0=p.1.1/\p.2.foldl N.lead N.s0=p.1.2
 rng:∀p∈L,∀i∈p.2,i<13
 ok:∀p∈L,ok2 M N p.1
 ln:L.length<=3415104
 rl:∀p∈L,p.2.length<=3415104
 hd:∀p∈L,M.hp p.1.1=N.hp p.1.2
 ah:∀p∈L,Ah ro p.2
 cl:∀p∈L,∀i<13,Ah ro (p.2++[i])->BF.Cl (bT M N) L p i
 ro:∀t,ro=some t->(∀i∈t,i<13)/\t.length<=3415104
abbrev jB(H G:PV)(hour:Int)(L:List (BF.Row P2))(ro:Option (List Nat))(f:List (BF.Row P2))(a b c d e g:Sl):PSt:=[.val H,.val G,.val (.int hour),.val (.lst (L.map bR)),.val (roP ro),.own (.dtt (kL f) (rL f)),a,b,c,d,e,g]
def enT(x:Nat×BF.Row P2):PV:=.tup [.int x.1,bR x.2]
theorem wN:∀(l:List Nat)(f:List (BF.Row P2)),(l.zipWith (fun (i:Nat) p=>[PV.int (i:Int),p]) (f.map bR)).map PV.tup=(l.zip f).map enT
 | [],_=>by simp
 | _::_,[]=>by simp
 | i::l,p::f=>by
  simp only[KG,MI,List.zip_cons_cons,wN l f];rfl
theorem Fx(f:List (BF.Row P2)):pO (.lst (f.map bR))=some (((KM f.length).zip f).map enT):=by
 have e:=wN (KM f.length) f;have z:pO (.lst (f.map bR))=some (((KM (f.map bR).length).zipWith (fun (i:Nat) p=>[PV.int (i:Int),p]) (f.map bR)).map PV.tup):=rfl;rw[z,KH,e]
theorem D6{α:Type}{f:List α}{pre post:List (Nat×α)}{x:Nat×α}(h:(KM f.length).zip f=pre++x::post):x.1=pre.length/\f=pre.map (·.2)++x.2::post.map (·.2):=by
 have hl:((KM f.length).zip f).map (·.2)=f:=Pu (by simp);have hr:((KM f.length).zip f).map (·.1)=KM f.length:=Pv (by simp);rw[h] at hl hr;refine⟨?_,by rw[← hl];simp⟩;rw[L8,KG] at hr
 have e:(pre.map (·.1)++x.1::post.map (·.1))[pre.length]?=some x.1:=by
  rw[LJ (by simp)];simp
 rw[hr] at e;have:=(KN.mp e);obtain⟨h1,h2⟩:=this;rw[List.getElem_range] at h2;exact h2.symm
theorem zr(f:List (BF.Row P2))(s:P2)(h:s ∉ f.map (·.1)):((kL f).any fun j=>decide (j=oj s))=false:=by
 rw[qN];exact decide_eq_false h
theorem sh1{L:List (BF.Row P2)}{ro:Option (List Nat)}(S:Sh M N L ro):∃a b c d,ic (iq 2 (aT (az 6) (aT (iq 3 (aT (az 7) (aT (az 8) (aT (az 9) ir)))) ir))) dy (((KM L.length).zip L).map enT) (jB H G hour L ro [] .no .no .no .no .no .no)=.ok (.next (jB H G hour L ro L a b c d .no .no)):=by
 obtain⟨ρ',f1,a,b,c,d,rfl⟩:=forM (enc:=enT) (xs:=(KM L.length).zip L) (h:=iq 2 (aT (az 6) (aT (iq 3 (aT (az 7) (aT (az 8) (aT (az 9) ir)))) ir))) (g:=dy) (ρ:=jB H G hour L ro [] .no .no .no .no .no .no)
  (I:=fun pre ρ=>∃a b c d,ρ=jB H G hour L ro (pre.map (·.2)) a b c d .no .no) ⟨_,_,_,_,rfl⟩ (by
   rintro pre x post ρ hx ⟨a,b,c,d,rfl⟩;obtain⟨hi,hf⟩:=D6 hx;obtain⟨i,p⟩:=x;have hi:i=pre.length:=hi;have hf:L=pre.map (·.2)++p::post.map (·.2):=hf;have pm:p∈L:=by rw[hf];simp
   have fresh:p.1 ∉ (pre.map (·.2)).map (·.1):=fun z=>by
    have nd:=S.nd;rw[hf,L8,KG,M6] at nd;exact nd.2.2 p.1 z p.1 (by simp) rfl
   have hany:=zr (pre.map (·.2)) p.1 fresh;have hln:=S.ln;have hpl:pre.length<L.length:=by rw[hf];simp
   have ok:=S.ok p pm;have rlp:=S.rl p pm;have kp:=lP p.2 (S.rng p pm) (by omega)
   have ins:Cc (.tup [p.1.1.pv,p.1.2.pv]) (.dtt (kL (pre.map (·.2))) (rL (pre.map (·.2))))=some (.bl false):=by
    rw[Ib p.1,hany]
   have h1:=M.hrd p.1.1 ok.1;have h2:=N.hrd p.1.2 ok.2;have h3:=(HK (M.hp p.1.1) (N.hp p.1.2)).1;rw[decide_eq_true (S.hd p pm)] at h3;obtain⟨W1,w1,w2⟩:=su M p.2 (by omega);obtain⟨W2,w3,w4⟩:=su N p.2 (by omega);rw[(S.run p pm).1] at w2;rw[(S.run p pm).2] at w4;have n1:gNe p.1.1.pv p.1.1.pv=some (.bl false):=DK _ _ _ _ _;have n2:gNe p.1.2.pv p.1.2.pv=some (.bl false):=DK _ _ _ _ _;have ng:oF (.int 1)=some (.int (-1)):=rfl
   have pt:∀(A B C D E F:Sl),mJ 5 (cg (ab (ai 7) (ab (ai 8) ay))) (ai 9) [A,B,C,D,E,.own (.dtt (kL (pre.map (·.2))) (rL (pre.map (·.2)))),F,.val p.1.1.pv,.val p.1.2.pv,.val (.str (bF p.2)),.no,.no]=.ok (.next [A,B,C,D,E,.own (.dtt (kL ((pre++[(i,p)]).map (·.2))) (rL ((pre++[(i,p)]).map (·.2)))),F,.val p.1.1.pv,.val p.1.2.pv,.val (.str (bF p.2)),.no,.no]):=fun A B C D E F=>by
    rw[uz (ks:=kL (pre.map (·.2))) (ps:=rL (pre.map (·.2))) (p:=.str (bF p.2)) (kp:=.tup [p.1.1.pv,p.1.2.pv]) (k:=oj p.1) rfl rfl (by
     generalize p.1.1.pv=A1;generalize p.1.2.pv=A2;generalize bF p.2=RR;generalize PV.dtt (kL (pre.map (·.2))) (rL (pre.map (·.2)))=DD;simp) rfl (by simp[kL];omega),ri hany]
    simp only[kL,rL,L8];rfl
   have prev:∀(Z:PSt),Z=jB H G hour L ro (pre.map (·.2)) (.val (.int i)) (.val p.1.1.pv) (.val p.1.2.pv) (.val (.str (bF p.2))) .no .no->pW (bq (aj (ai 6) (kI 0) gGt)) (bq (aj (aD (ab (aj (aj (ai 3) (aj (ai 6) (kI 1) um) gIx) (kI 2) gIx) ay) bp) (aD (ab (ai 9) ay) bp) yS)) Z=.ok false:=fun Z hZ=>by
    subst hZ
    by_cases z:i=0
    ·subst z
     simp only[jB];generalize p.1.1.pv=A1 at *;generalize p.1.2.pv=A2 at *;generalize bF p.2=RR at *;generalize L.map bR=LT at *;generalize PV.dtt (kL (pre.map (·.2))) (rL (pre.map (·.2)))=DD at *;generalize roP ro=RO at *;simp
    ·obtain⟨pre',y,rfl⟩:∃pre' y,pre=pre'++[y]:=by
      have:pre≠[]:=fun e=>by rw[e] at hi;exact z (by simpa using hi)
      exact⟨pre.dropLast,pre.getLast this,(O6 this).symm⟩
     have ym:y.2∈L:=by rw[hf];simp
     have yl:BF.lt y.2.2 p.2:=by
      have:=S.srt;rw[hf,Nz] at this;exact this.2.2 y.2 (by simp) p (by simp)
     have iy:gIx (.lst (L.map bR)) (.int ((i:Int)-1))=some (bR y.2):=by
      refine bY (n:=pre'.length) (by rw[hi,L0,Lv];omega) ?_;rw[L3,hf];simp
     have i2:gIx (bR y.2) (.int 2)=some (.str (bF y.2.2)):=rfl;have ky:=lP y.2.2 (S.rng y.2 ym) (by have:=S.rl y.2 ym;omega);have gn:=Fj _ _ yl;have ip:0<i:=by omega
     simp only[jB];generalize bR y.2=TY at *;generalize kR y.2.2=K1 at *;generalize kR p.2=K2 at *;generalize bF y.2.2=RY at *;generalize p.1.1.pv=A1 at *;generalize p.1.2.pv=A2 at *;generalize bF p.2=RR at *;generalize L.map bR=LT at *;generalize PV.dtt (kL ((pre'++[y]).map (·.2))) (rL ((pre'++[y]).map (·.2)))=DD at *;generalize roP ro=RO at *;simp[ip,iy,i2,ky,kp,gn]
   have uc:∀(Z:PSt),Z=jB H G hour L ro (pre.map (·.2)) (.val (.int i)) (.val p.1.1.pv) (.val p.1.2.pv) (.val (.str (bF p.2))) .no .no->pW (bq (aj (ai 4) kN pI)) (bq (aj (aD (ab (ai 9) ay) bp) (aD (ab (ai 4) ay) bp) yS)) Z=.ok false:=fun Z hZ=>by
    subst hZ;cases ro with
    | none=>
     have gn:pI .non .non=some (.bl false):=rfl;simp only[jB,roP];generalize p.1.1.pv=A1 at *;generalize p.1.2.pv=A2 at *;generalize bF p.2=RR at *;generalize L.map bR=LT at *;generalize PV.dtt (kL (pre.map (·.2))) (rL (pre.map (·.2)))=DD at *;simp[gn]
    | some t=>
     have gn:pI (.str (bF t)) .non=some (.bl true):=rfl;obtain⟨t1,t2⟩:=S.ro t rfl;have kt:=lP t t1 (by omega);have gg:=Fj _ _ (S.ah p pm t rfl);simp only[jB,roP];generalize kR t=K1 at *;generalize kR p.2=K2 at *;generalize bF t=RT at *;generalize p.1.1.pv=A1 at *;generalize p.1.2.pv=A2 at *;generalize bF p.2=RR at *;generalize L.map bR=LT at *;generalize PV.dtt (kL (pre.map (·.2))) (rL (pre.map (·.2)))=DD at *;simp[gn,kt,kp,gg]
   have prev:=prev _ rfl;have uc:=uc _ rfl;refine⟨jB H G hour L ro (pre.map (·.2)) (.val (.int i)) (.val p.1.1.pv) (.val p.1.2.pv) (.val (.str (bF p.2))) .no .no,jB H G hour L ro ((pre++[(i,p)]).map (·.2)) (.val (.int i)) (.val p.1.1.pv) (.val p.1.2.pv) (.val (.str (bF p.2))) .no .no,rfl,.inl ?_,_,_,_,_,rfl⟩;simp only[jB] at prev uc ⊢;have pt:=pt (.val H) (.val G) (.val (.int hour)) (.val (.lst (L.map bR))) (.val (roP ro)) (.val (.int i));generalize hE (M.hp p.1.1)=E1 at *;generalize hE (N.hp p.1.2)=E2 at *;generalize p.1.1.pv=A1 at *;generalize p.1.2.pv=A2 at *;generalize bF p.2=RR at *;generalize L.map bR=LT at *;generalize PV.dtt (kL (pre.map (·.2))) (rL (pre.map (·.2)))=DD at *;generalize PV.dtt (kL ((pre++[(i,p)]).map (·.2))) (rL ((pre++[(i,p)]).map (·.2)))=DD2 at *;generalize roP ro=RO at *;unfold dy;rw[sq2 (by rw[C8 (Hq (by simp[ins]) prev)];rfl),sq2 (by rw[C8 (Hq (by simp[h1,h2,h3]) uc)];rfl),sq2 (by rw[C8 (Hq (by simp[w1,w2,n1,ng]) (by simp[w3,w4,n2,ng]))];rfl)];exact pt)
 have h2:((KM L.length).zip L).map (·.2)=L:=Pu (by simp);rw[h2] at f1;exact⟨a,b,c,d,f1⟩
theorem B1{L:List (BF.Row P2)}{ro:Option (List Nat)}(S:Sh M N L ro)(p:BF.Row P2)(pm:p∈L)(i:Nat)(hi:i<13)(a e:Sl):∃e',cG (jB H G hour L ro L a (.val p.1.1.pv) (.val p.1.2.pv) (.val (.str (bF p.2))) (.val (WO.sg (cd i))) e)=.ok (.next (jB H G hour L ro L a (.val p.1.1.pv) (.val p.1.2.pv) (.val (.str (bF p.2))) (.val (WO.sg (cd i))) e')):=by
 have ok:=S.ok p pm;have rlp:=S.rl p pm;have ra:=uP p.2 i (by omega)
 have rr:∀j∈p.2++[i],j<13:=fun j hj=>by
  rcases LW.mp hj with z | z
  ·exact S.rng p pm j z
  ·rw[Ky.mp z];exact hi
 have ka:=lP (p.2++[i]) rr (by simp;omega);have s1:=M.stp p.1.1 ok.1 i;have s2:=N.stp p.1.2 ok.2 i
 have step:Ah ro (p.2++[i])->∃KR,gd (.tup [(M.lead p.1.1 i).pv,(N.lead p.1.2 i).pv]) (.dtt (kL L) (rL L))=some (.bl false)/\∃q,Fk (.dtt (kL L) (rL L)) (.tup [(M.lead p.1.1 i).pv,(N.lead p.1.2 i).pv])=some (.str (bF q))/\bp [.str (bF q)]=some KR/\Cd KR (kR (p.2++[i]))=some (.bl false):=fun ha=>by
  obtain⟨q,qm,e,o⟩:=S.cl p pm i hi ha;have e1:(M.lead p.1.1 i).pv=q.1.1.pv:=by rw[e];rfl
  have e2:(N.lead p.1.2 i).pv=q.1.2.pv:=by rw[e];rfl
  refine⟨kR q.2,?_,q.2,?_,lP q.2 (S.rng q qm) (by have:=S.rl q qm;omega),Ig _ _ o⟩
  ·rw[Ep (M.lead p.1.1 i,N.lead p.1.2 i),qN,decide_eq_true (by rw[show (M.lead p.1.1 i,N.lead p.1.2 i)=q.1 from e.symm];exact Ra qm)]
   rfl
  ·rw[e1,e2]
   rw[show Fk (.dtt (kL L) (rL L)) (.tup [q.1.1.pv,q.1.2.pv])=pj (kL L) (rL L) (oj q.1) from rfl,Ag L q S.nd qm]
 by_cases ha:Ah ro (p.2++[i])
 ·obtain⟨KR,n1,q,n2,n3,n4⟩:=step ha
  refine⟨.val (.tup [(M.lead p.1.1 i).pv,(N.lead p.1.2 i).pv]),?_⟩;cases ro with
  | none=>
   have gn:tQ .non .non=some (.bl true):=rfl;simp only[jB,roP];generalize kR (p.2++[i])=K1 at *;generalize bF q=RQ at *;generalize bF (p.2++[i])=RI at *;generalize bF p.2=RR at *;generalize WO.sg (cd i)=SG at *;generalize (M.lead p.1.1 i).pv=T1 at *;generalize (N.lead p.1.2 i).pv=T2 at *;generalize p.1.1.pv=A1 at *;generalize p.1.2.pv=A2 at *;generalize L.map bR=LT at *;generalize PV.dtt (kL L) (rL L)=DD at *;simp[cG,gn,s1,s2,n1,n2,n3,n4,ra,ka]
  | some t=>
   have gn:tQ (.str (bF t)) .non=some (.bl false):=rfl;obtain⟨t1,t2⟩:=S.ro t rfl;have kt:=lP t t1 (by omega);have gl:=Ez _ _ (ha t rfl);simp only[jB,roP];generalize kR (p.2++[i])=K1 at *;generalize kR t=K2 at *;generalize bF t=RT at *;generalize bF q=RQ at *;generalize bF (p.2++[i])=RI at *;generalize bF p.2=RR at *;generalize WO.sg (cd i)=SG at *;generalize (M.lead p.1.1 i).pv=T1 at *;generalize (N.lead p.1.2 i).pv=T2 at *;generalize p.1.1.pv=A1 at *;generalize p.1.2.pv=A2 at *;generalize L.map bR=LT at *;generalize PV.dtt (kL L) (rL L)=DD at *;simp[cG,gn,kt,gl,s1,s2,n1,n2,n3,n4,ra,ka]
 ·obtain⟨t,rfl,hn⟩:∃t,ro=some t/\¬ BF.lt (p.2++[i]) t:=by
   cases ro with
   | none=>exact absurd (fun t e=>by cases e) ha
   | some t=>exact⟨t,rfl,fun h=>ha fun u e=>by cases e;exact h⟩
  have gn:tQ (.str (bF t)) .non=some (.bl false):=rfl;obtain⟨t1,t2⟩:=S.ro t rfl;have kt:=lP t t1 (by omega);obtain⟨z,gl,hz⟩:=HP (p.2++[i]) t
  have zf:z=false:=by
   cases z with
   | false=>rfl
   | true=>exact absurd (hz rfl) hn
  subst zf;refine⟨e,?_⟩;simp only[jB,roP];generalize kR (p.2++[i])=K1 at *;generalize kR t=K2 at *;generalize bF t=RT at *;generalize bF (p.2++[i])=RI at *;generalize bF p.2=RR at *;generalize WO.sg (cd i)=SG at *;generalize p.1.1.pv=A1 at *;generalize p.1.2.pv=A2 at *;generalize L.map bR=LT at *;generalize PV.dtt (kL L) (rL L)=DD at *;simp[cG,gn,kt,gl,ra,ka]
theorem oR{L:List (BF.Row P2)}{ro:Option (List Nat)}(S:Sh M N L ro)(p:BF.Row P2)(pm:p∈L)(a:Sl):∀(l:List Nat)(d e:Sl),(∀i∈l,i<13)->∃d' e',ic (az 10) cG (l.map fun i=>WO.sg (cd i)) (jB H G hour L ro L a (.val p.1.1.pv) (.val p.1.2.pv) (.val (.str (bF p.2))) d e)=.ok (.next (jB H G hour L ro L a (.val p.1.1.pv) (.val p.1.2.pv) (.val (.str (bF p.2))) d' e'))
 | [],d,e,_=>⟨d,e,rfl⟩
 | i::l,d,e,hl=>by
  obtain⟨e1,h1⟩:=B1 M N S p pm i (hl i (by simp)) a e;obtain⟨d2,e2,h2⟩:=oR S p pm a l (.val (WO.sg (cd i))) e1 fun j hj=>hl j (by simp[hj]);refine⟨d2,e2,?_⟩;have e0:az 10 (WO.sg (cd i)) (jB H G hour L ro L a (.val p.1.1.pv) (.val p.1.2.pv) (.val (.str (bF p.2))) d e)=some (jB H G hour L ro L a (.val p.1.1.pv) (.val p.1.2.pv) (.val (.str (bF p.2))) (.val (WO.sg (cd i))) e):=rfl;rw[KG];unfold ic;rw[e0];simp only[R.ofO_some,R.ok_bind,h1];exact h2
theorem qX{L:List (BF.Row P2)}{ro:Option (List Nat)}(S:Sh M N L ro):cY [H,G,.int hour,.lst (L.map bR),roP ro]=some (.bl true):=by
 obtain⟨a,b,c,d,f1⟩:=sh1 M N S
 obtain⟨ρ',f2,_⟩:=forM (enc:=bR) (xs:=L) (h:=iq 3 (aT (az 7) (aT (az 8) (aT (az 9) ir)))) (g:=gk) (ρ:=jB H G hour L ro L a b c d .no .no)
  (I:=fun _ ρ=>∃b c d e g,ρ=jB H G hour L ro L a b c d e g) ⟨_,_,_,_,_,rfl⟩ (by
   rintro pre p post ρ hx ⟨b,c,d,e,g,rfl⟩;have pm:p∈L:=by rw[hx];simp
   obtain⟨d',e',h⟩:=oR M N S p pm a (KM 13) e g fun i hi=>MS.mp hi;refine⟨jB H G hour L ro L a (.val p.1.1.pv) (.val p.1.2.pv) (.val (.str (bF p.2))) e g,jB H G hour L ro L a (.val p.1.1.pv) (.val p.1.2.pv) (.val (.str (bF p.2))) d' e',rfl,.inl ?_,_,_,_,_,_,rfl⟩;have it:=zK;unfold gk;generalize (KM 13).map (fun i=>WO.sg (cd i))=SS at *;simp only[jB] at h ⊢;generalize p.1.1.pv=A1 at *;generalize p.1.2.pv=A2 at *;generalize bF p.2=RR at *;generalize L.map bR=LT at *;generalize PV.dtt (kL L) (rL L)=DD at *;simp[it];exact h)
 have en:=Fx L;have it:f6 (.lst (L.map bR))=some (L.map bR):=rfl;refine aG rfl ?_;simp only[jB] at f1 f2;have f1:ic _ dy (((KM L.length).zip L).map enT) [.val H,.val G,.val (.int hour),.val (.lst (L.map bR)),.val (roP ro),.own (.dtt [] []),.no,.no,.no,.no,.no,.no]=_:=f1;generalize ((KM L.length).zip L).map enT=EN at *;generalize PV.dtt (kL L) (rL L)=DD at *;generalize L.map bR=LT at *;generalize roP ro=RO at *;simp[iS,PU.start,HJ,en];rw[f1];simp[it];rw[f2];simp
end
inductive PR where
 | menu (t:Str) (kt:List (Nat×Nat)) (wr wa:Int×Nat)
 | names (t:Str) (wt:List (W×Nat)) (wr wa:Int×Nat)
 | hours (sp:List (Int×Int×Nat)) (l:Nat)
 | hand (t:Str)
 | fin (t:Str)
def kP(p:Nat×Nat):PV:=.tup [WO.sg p.1,.int p.2]
def wP(p:W×Nat):PV:=.tup [.str (mkS p.1),.int p.2]
def tP(p:Int×Nat):PV:=.tup [.int p.1,.int p.2]
def sP(p:Int×Int×Nat):PV:=.tup [.int p.1,.int p.2.1,.int p.2.2]
def PR.pv:PR->PV
 | .menu t kt wr wa=>.lst [.str "menu",.str t,.lst (kt.map kP),tP wr,tP wa]
 | .names t wt wr wa=>.lst [.str "names",.str t,.lst (wt.map wP),tP wr,tP wa]
 | .hours sp l=>.lst [.str "hours",.lst (sp.map sP),.int l]
 | .hand t=>.lst [.str "hand",.str t]
 | .fin t=>.lst [.str "end",.str t]
def Lim(w:Int×Nat):Prop:=w.2<6/\1<=w.1/\w.1<=2
def PR.Ok:PR->Prop
 | .menu _ kt wr wa=>ME (kt.map (·.1)) K12/\(∀k∈kt,k.2<7)/\Lim wr/\Lim wa
 | .names _ wt wr wa=>ME (wt.map (·.1)) W8/\wt≠[]/\(∀p∈wt,p.2<6)/\Lim wr/\Lim wa
 | .hours sp l=>(l<6/\l≠3)/\(∀s∈sp,s.2.2<6/\s.2.2≠3)/\sp.length<=3
 | _=>True
def nm (nms:List Str) (i:Nat):Str:=(nms++[KI "back"]).getD i ""
theorem jQ{nms:List Str}(h:nms.length=6)(i:Nat)(hi:i<6):nm nms i∈nms/\atI (nms.map PV.str) (i:Int)=some (.str (nm nms i)):=by
 have e:nm nms i=nms[i]:=by
  unfold nm;rw[MU,L5 (by omega),LY (by omega)];rfl
 rw[e];exact⟨N8 _,Jk nms i (by omega)⟩
theorem BL {nms:List Str} (h:nms.length=6) (i:Nat) (hi:i<7):(nm nms i="back"\/nm nms i∈nms)/\atI (nms.map PV.str++[.str "back"]) (i:Int)=some (.str (nm nms i)):=by
 have e2:atI (nms.map PV.str++[.str "back"]) (i:Int)=some (.str (nm nms i)):=by
  have:=Jk (nms++[KI "back"]) i (by simp;omega);rw[L8] at this;refine this.trans ?_;unfold nm;rw[MU,LY (by simp;omega)];rfl
 refine⟨?_,e2⟩;rcases Lr i 6 with z | z
 ·exact .inr (jQ h i z).1
 ·have:i=6:=by omega
  subst this;unfold nm;rw[MU,LJ (by omega),h];exact .inl rfl
def PR.real(nms:List Str):PR->Room
 | .menu t kt wr wa=>.menu t ((kt.map fun k=>(k.1,nm nms k.2)).map mk2) (wr.1,nm nms wr.2) (wa.1,nm nms wa.2)
 | .names t wt wr wa=>.names t ((wt.map fun k=>(k.1,nm nms k.2)).map mw2) (wr.1,nm nms wr.2) (wa.1,nm nms wa.2)
 | .hours sp l=>.hours (sp.map fun s=>(s.1,s.2.1,nm nms s.2.2)) (nm nms l)
 | .hand t=>.hand t
 | .fin t=>.fin t
theorem B9{nms:List Str}(h:nms.length=6)(p:PR)(ok:p.Ok):RW nms (p.real nms):=by
 cases p with
 | menu t kt wr wa=>
  obtain⟨a,b,c,d⟩:=ok;refine⟨⟨kt.map fun k=>(k.1,nm nms k.2),rfl,?_,fun k hk=>?_⟩,(jQ h _ c.1).1,(jQ h _ d.1).1,c.2,d.2⟩
  ·rw[L7];exact a
  ·obtain⟨x,hx,rfl⟩:=KU.mp hk
   exact(BL h _ (b x hx)).1
 | names t wt wr wa=>
  obtain⟨a,n,b,c,d⟩:=ok;refine⟨⟨wt.map fun k=>(k.1,nm nms k.2),rfl,?_,?_,fun k hk=>?_⟩,(jQ h _ c.1).1,(jQ h _ d.1).1,c.2,d.2⟩
  ·rw[L7];exact a
  ·simpa using n
  ·obtain⟨x,hx,rfl⟩:=KU.mp hk
   exact(jQ h _ (b x hx)).1
 | hours sp l=>exact trivial
 | hand t=>exact trivial
 | fin t=>exact trivial
theorem B7{nms:List Str}(h:nms.length=6)(p:PR)(ok:p.Ok):ig [p.pv,.lst (nms.map .str)]=some (p.real nms).pv:=by
 have ad:cj (.lst (nms.map .str)) (.lst [.str "back"])=some (.lst (nms.map .str++[.str "back"])):=fF (by simp[h]);have qh:∀x:Str,gEq (.str x) (.str "hours")=some (.bl (decide (x=KI "hours"))):=fun x=>hJ x _;have n1:(KI "menu"=KI "hours")=False:=by simp
 have n2:(KI "names"=KI "hours")=False:=by simp
 have n3:(KI "hand"=KI "hours")=False:=by simp
 have n4:(KI "end"=KI "hours")=False:=by simp
 have im:gIn (.str "menu") (.lst [.str "hand",.str "end"])=some (.bl false):=by kernel_rfl
 have inn:gIn (.str "names") (.lst [.str "hand",.str "end"])=some (.bl false):=by kernel_rfl
 have ih:gIn (.str "hand") (.lst [.str "hand",.str "end"])=some (.bl true):=by kernel_rfl
 have ie:gIn (.str "end") (.lst [.str "hand",.str "end"])=some (.bl true):=by kernel_rfl
 have lim:∀w:Int×Nat,Lim w->gIx (.lst (nms.map .str)) (.int w.2)=some (.str (nm nms w.2)):=fun w hw=>(jQ h _ hw.1).2;refine aG rfl ?_;cases p with
 | menu t kt wr wa=>
  obtain⟨a,b,c,d⟩:=ok;have l1:=lim wr c;have l2:=lim wa d;have hk:kt.length<=12:=by have:=a.length_le;simpa [K12] using this
  have cc:cQ (iq 2 (aT (az 0) (aT (az 1) ir))) mG cu [.no,.no,.val (.lst (nms.map .str))] (kt.map kP)=.ok (kt.map fun k=>pvk (k.1,nm nms k.2)):=
   WO.in_list_comp (enc:=kP) (h:=iq 2 (aT (az 0) (aT (az 1) ir))) (fe:=cu) (ρ:=[.no,.no,.val (.lst (nms.map .str))]) (fun k=>pvk (k.1,nm nms k.2)) kt fun k hk=>⟨[.val (WO.sg k.1),.val (.int k.2),.val (.lst (nms.map .str))],rfl,by
    have e:=(BL h _ (b k hk)).2;have e:gIx (.lst (nms.map PV.str++[.str "back"])) (.int k.2)=some (.str (nm nms k.2)):=e;unfold pvk;generalize nms.map PV.str=NN at *;generalize WO.sg k.1=SG at *;simp[cu,ad,e]⟩
  have z:(kt.map fun k=>pvk (k.1,nm nms k.2)).length<=16777216:=by simp;omega
  have it:f6 (.lst (kt.map kP))=some (kt.map kP):=rfl
  have ev:((PR.menu t kt wr wa).real nms).pv=.tup [.str "menu",.str t,.tup (kt.map fun k=>pvk (k.1,nm nms k.2)),.tup [.int wr.1,.str (nm nms wr.2)],.tup [.int wa.1,.str (nm nms wa.2)]]:=by
   show PV.tup [.str "menu",.str t,.tup (((kt.map fun k=>(k.1,nm nms k.2)).map mk2).map pv2),pvI _,pvI _]=_;rw[Ad,L7];rfl
  rw[ev];have i0:gIx (PR.menu t kt wr wa).pv (.int 0)=some (.str "menu"):=rfl;have i1:gIx (PR.menu t kt wr wa).pv (.int 1)=some (.str t):=rfl;have i2:gIx (PR.menu t kt wr wa).pv (.int 2)=some (.lst (kt.map kP)):=rfl;have i3:gIx (PR.menu t kt wr wa).pv (.int 3)=some (tP wr):=rfl;have i4:gIx (PR.menu t kt wr wa).pv (.int 4)=some (tP wa):=rfl;have t1:gIx (tP wr) (.int 0)=some (.int wr.1):=rfl;have t2:gIx (tP wr) (.int 1)=some (.int wr.2):=rfl;have t3:gIx (tP wa) (.int 0)=some (.int wa.1):=rfl;have t4:gIx (tP wa) (.int 1)=some (.int wa.2):=rfl;generalize (PR.menu t kt wr wa).pv=PP at *;generalize tP wr=T1 at *;generalize tP wa=T2 at *;generalize kt.map (fun k=>pvk (k.1,nm nms k.2))=KK at *;generalize kt.map kP=KT at *;generalize nms.map PV.str=NN at *;simp[dC,PU.start,i0,i1,i2,i3,i4,qh,n1,im,it,cE,roS,cc,z,t1,t2,t3,t4,l1,l2]
 | names t wt wr wa=>
  obtain⟨a,n,b,c,d⟩:=ok;have l1:=lim wr c;have l2:=lim wa d;have hk:wt.length<=3:=by have:=a.length_le;simpa [W8] using this
  have cc:cQ (iq 2 (aT (az 0) (aT (az 1) ir))) mG cu [.no,.no,.val (.lst (nms.map .str))] (wt.map wP)=.ok (wt.map fun k=>PV.tup [.str (mkS k.1),.str (nm nms k.2)]):=
   WO.in_list_comp (enc:=wP) (h:=iq 2 (aT (az 0) (aT (az 1) ir))) (fe:=cu) (ρ:=[.no,.no,.val (.lst (nms.map .str))]) (fun k=>PV.tup [.str (mkS k.1),.str (nm nms k.2)]) wt fun k hk=>⟨[.val (.str (mkS k.1)),.val (.int k.2),.val (.lst (nms.map .str))],rfl,by
    have e:=(BL h _ (OP (b k hk))).2;have e:gIx (.lst (nms.map PV.str++[.str "back"])) (.int k.2)=some (.str (nm nms k.2)):=e;generalize nms.map PV.str=NN at *;generalize mkS k.1=SG at *;simp[cu,ad,e]⟩
  have z:(wt.map fun k=>PV.tup [.str (mkS k.1),.str (nm nms k.2)]).length<=16777216:=by simp;omega
  have it:f6 (.lst (wt.map wP))=some (wt.map wP):=rfl
  have ev:((PR.names t wt wr wa).real nms).pv=.tup [.str "names",.str t,.tup (wt.map fun k=>PV.tup [.str (mkS k.1),.str (nm nms k.2)]),.tup [.int wr.1,.str (nm nms wr.2)],.tup [.int wa.1,.str (nm nms wa.2)]]:=by
   show PV.tup [.str "names",.str t,.tup (((wt.map fun k=>(k.1,nm nms k.2)).map mw2).map pv2),pvI _,pvI _]=_;rw[L7,L7];rfl
  rw[ev];have i0:gIx (PR.names t wt wr wa).pv (.int 0)=some (.str "names"):=rfl;have i1:gIx (PR.names t wt wr wa).pv (.int 1)=some (.str t):=rfl;have i2:gIx (PR.names t wt wr wa).pv (.int 2)=some (.lst (wt.map wP)):=rfl;have i3:gIx (PR.names t wt wr wa).pv (.int 3)=some (tP wr):=rfl;have i4:gIx (PR.names t wt wr wa).pv (.int 4)=some (tP wa):=rfl;have t1:gIx (tP wr) (.int 0)=some (.int wr.1):=rfl;have t2:gIx (tP wr) (.int 1)=some (.int wr.2):=rfl;have t3:gIx (tP wa) (.int 0)=some (.int wa.1):=rfl;have t4:gIx (tP wa) (.int 1)=some (.int wa.2):=rfl;generalize (PR.names t wt wr wa).pv=PP at *;generalize tP wr=T1 at *;generalize tP wa=T2 at *;generalize wt.map (fun k=>PV.tup [.str (mkS k.1),.str (nm nms k.2)])=KK at *;generalize wt.map wP=KT at *;generalize nms.map PV.str=NN at *;simp[dC,PU.start,i0,i1,i2,i3,i4,qh,n2,inn,it,cE,roS,cc,z,t1,t2,t3,t4,l1,l2]
 | hours sp l=>
  obtain⟨a,b,c⟩:=ok
  have cc:cQ (iq 3 (aT (az 0) (aT (az 1) (aT (az 2) ir)))) mG ft [.no,.no,.no,.val (.lst (nms.map .str))] (sp.map sP)=.ok (sp.map fun k=>PV.tup [.int k.1,.int k.2.1,.str (nm nms k.2.2)]):=
   WO.in_list_comp (enc:=sP) (h:=iq 3 (aT (az 0) (aT (az 1) (aT (az 2) ir)))) (fe:=ft) (ρ:=[.no,.no,.no,.val (.lst (nms.map .str))]) (fun k=>PV.tup [.int k.1,.int k.2.1,.str (nm nms k.2.2)]) sp fun k hk=>⟨[.val (.int k.1),.val (.int k.2.1),.val (.int k.2.2),.val (.lst (nms.map .str))],rfl,by
    have e:=(jQ h _ (b k hk).1).2;have e:gIx (.lst (nms.map PV.str)) (.int k.2.2)=some (.str (nm nms k.2.2)):=e;generalize nms.map PV.str=NN at *;simp[ft,e]⟩
  have z:(sp.map fun k=>PV.tup [.int k.1,.int k.2.1,.str (nm nms k.2.2)]).length<=16777216:=by simp;omega
  have it:f6 (.lst (sp.map sP))=some (sp.map sP):=rfl;have el:gIx (.lst (nms.map PV.str)) (.int l)=some (.str (nm nms l)):=(jQ h _ a.1).2
  have ev:((PR.hours sp l).real nms).pv=.tup [.str "hours",.tup (sp.map fun k=>PV.tup [.int k.1,.int k.2.1,.str (nm nms k.2.2)]),.str (nm nms l)]:=by
   show PV.tup [.str "hours",.tup ((sp.map fun s=>(s.1,s.2.1,nm nms s.2.2)).map pv3),.str (nm nms l)]=_;rw[L7];rfl
  rw[ev];have i0:gIx (PR.hours sp l).pv (.int 0)=some (.str "hours"):=rfl;have i1:gIx (PR.hours sp l).pv (.int 1)=some (.lst (sp.map sP)):=rfl;have i2:gIx (PR.hours sp l).pv (.int 2)=some (.int l):=rfl;generalize (PR.hours sp l).pv=PP at *;generalize sp.map (fun k=>PV.tup [.int k.1,.int k.2.1,.str (nm nms k.2.2)])=KK at *;generalize sp.map sP=KT at *;generalize nms.map PV.str=NN at *;simp[dC,PU.start,i0,i1,i2,qh,it,cE,roS,cc,z,el]
 | hand t=>
  have i0:gIx (PR.hand t).pv (.int 0)=some (.str "hand"):=rfl;have i1:gIx (PR.hand t).pv (.int 1)=some (.str t):=rfl;have ev:((PR.hand t).real nms).pv=.tup [.str "hand",.str t]:=rfl;rw[ev];generalize (PR.hand t).pv=PP at *;generalize nms.map PV.str=NN at *;simp[dC,PU.start,i0,i1,qh,n3,ih]
 | fin t=>
  have i0:gIx (PR.fin t).pv (.int 0)=some (.str "end"):=rfl;have i1:gIx (PR.fin t).pv (.int 1)=some (.str t):=rfl;have ev:((PR.fin t).real nms).pv=.tup [.str "end",.str t]:=rfl;rw[ev];generalize (PR.fin t).pv=PP at *;generalize nms.map PV.str=NN at *;simp[dC,PU.start,i0,i1,qh,n4,ie]
structure PlanOk(rs:List PR):Prop where
 len:rs.length=6
 ok:∀p∈rs,p.Ok
 oth:∀(k:Nat)(p:PR),rs[k]?=some p->k≠3->∀sp l,p≠.hours sp l
abbrev host(rs:List PR)(nms:List Str)(fst:Nat)(tu:Bool)(D:PV)(a b:Sl):PSt:=[.val (.lst (rs.map PR.pv)),.val (.lst (nms.map .str)),.val (.int fst),.val (.bl tu),.own D,a,b]
theorem Fi (rs:List PR) (P:PlanOk rs) (nms:List Str) (hnl:nms.length=6) (hnd:nms.Nodup) (hnb:∀x∈nms,x≠"back"/\x≠"") (fst:Nat) (hf:fst<6) (tu:Bool) :
  ∃(X:LX)(h:House)(ord:List Str),@HG X h nms ord/\eU [.lst (rs.map PR.pv),.lst (nms.map .str),.int fst,.bl tu]=some h.pv:=by
 obtain⟨ord,hord⟩:∃ord,ord=nm nms 3::nms.eraseIdx 3:=⟨_,rfl⟩
 obtain⟨n0,n1,n2,n3,n4,n5,rfl⟩:∃n0 n1 n2 n3 n4 n5,nms=[n0,n1,n2,n3,n4,n5]:=by
  match nms,hnl with
  | [a,b,c,d,e,f],_=>exact⟨a,b,c,d,e,f,rfl⟩
 have hord:ord=[n3,n0,n1,n2,n4,n5]:=hord
 have hperm:∀x,x∈[n0,n1,n2,n3,n4,n5] ↔ x∈ord:=fun x=>by
  rw[hord];simp only[L4,MC,or_false];constructor
  ·rintro (h | h | h | h | h | h) <;> simp[h]
  ·rintro (h | h | h | h | h | h) <;> simp[h]
 have hond:ord.Nodup:=by
  rw[hord]
  have pm:List.Perm [n0,n1,n2,n3,n4,n5] [n3,n0,n1,n2,n4,n5]:=by
   show List.Perm ([n0,n1,n2]++([n3]++[n4,n5])) ([n3]++([n0,n1,n2]++[n4,n5]));rw[← N1,← N1];exact List.Perm.append_right _ List.perm_append_comm
  exact pm.nodup_iff.mp hnd
 have ol:ord.length=6:=by rw[hord];rfl
 have dr:∀i,i<6->i≠3->nm [n0,n1,n2,n3,n4,n5] i∈ord.drop 1:=fun i hi h3=>by
  rw[hord]
  match i,hi,h3 with
  | 0,_,_=>simp[nm]
  | 1,_,_=>simp[nm]
  | 2,_,_=>simp[nm]
  | 4,_,_=>simp[nm]
  | 5,_,_=>simp[nm]
 obtain⟨nms,hnms⟩:∃nms,nms=[n0,n1,n2,n3,n4,n5]:=⟨_,rfl⟩;rw[← hnms] at hnl hnd hnb hperm dr ⊢
 have fit:∀(k:Nat)(p:PR),rs[k]?=some p->Fit nms ord (nm nms k,p.real nms):=fun k p hp=>by
  have hk:k<6:=by have:=(KN.mp hp).1;have:=P.len;omega
  have okp:=P.ok p (LF hp);obtain⟨j,hj,e⟩:=Mn ((hperm _).mp (jQ hnl k hk).1);refine⟨j,hj,e,fun sp l er=>?_,B9 hnl p okp⟩
  by_cases h3:k=3
  ·subst h3
   have j0:j=0:=by
    have:ord[0]'(by omega)=nm nms 3:=by simp only[hord,hnms];rfl
    exact(Pw hond).mp (e.trans this.symm)
   subst j0;cases p with
   | hours sp' l'=>
    cases er;obtain⟨a,b,c⟩:=okp;refine⟨dr _ a.1 a.2,fun s hs=>?_⟩;obtain⟨y,hy,rfl⟩:=KU.mp hs;exact dr _ (b y hy).1 (b y hy).2
   | menu=>cases er
   | names=>cases er
   | hand=>cases er
   | fin=>cases er
  ·cases p with
   | hours sp' l'=>exact absurd rfl (P.oth k _ hp h3 sp' l')
   | menu=>cases er
   | names=>cases er
   | hand=>cases er
   | fin=>cases er
 obtain⟨ρ',f1,rm,a,rfl,g,gl,gm⟩:=forR (n:=6) (lo:=0) (h:=az 5) (g:=gp) (ρ:=host rs nms fst tu (.dct [] []) .no .no)
  (I:=fun k ρ=>∃(rm:FA.Rooms)(a:Sl),ρ=host rs nms fst tu (aK rm) a .no/\Good nms ord rm/\rm.length<=k/\∀j,j<k->nm nms j∈FA.names rm) ⟨[],.no,rfl,⟨by simp,by simp⟩,by simp,fun j hj=>absurd hj (by omega)⟩ (by
   rintro k ρ hk ⟨rm,a,rfl,g,gl,gm⟩;rw[Pl];obtain⟨p,hp⟩:∃p,rs[k]?=some p:=⟨_,LY (by have:=P.len;omega)⟩;have okp:=P.ok p (LF hp);obtain⟨g2,e2⟩:=DT nms rm (nm nms k) (p.real nms) ord g (fit k p hp);have p2':=Bg rm (nm nms k) (p.real nms);have q2:=fun x=>BS rm (nm nms k) (p.real nms) x;have re:=B7 hnl p okp;have i1:gIx (.lst (nms.map PV.str)) (.int k)=some (.str (nm nms k)):=(jQ hnl k hk).2;have i2:gIx (.lst (rs.map PR.pv)) (.int k)=some p.pv:=bY (n:=k) rfl (by rw[L3,hp];rfl);have z3:rm.length<16777216:=by omega
   refine⟨host rs nms fst tu (aK rm) (.val (.int (k:Nat))) .no,host rs nms fst tu (aK (uT rm (nm nms k) (p.real nms))) (.val (.int (k:Nat))) .no,rfl,.inl ?_,_,_,rfl,g2,by omega,fun j hj=>?_⟩
   ·simp only[host]
    generalize (p.real nms).pv=RP at *;generalize p.pv=PP at *;generalize rs.map PR.pv=RS at *;generalize nms.map PV.str=NN at *;generalize nm nms k=NK at *;simp[gp,i1,i2,re,AS rm,z3,p2']
   ·rw[q2]
    rcases Lr j k with z | z
    ·exact .inl (gm j z)
    ·have:j=k:=by omega
     subst this;exact .inr rfl)
 have hall:∀x∈ord,x∈FA.names rm:=fun x hx=>by
  rw[hord] at hx;have g:=fun j hj=>gm j hj;rw[hnms] at g;simp only[L4,MC,or_false] at hx;rcases hx with h | h | h | h | h | h <;> rw[h]
  ·exact g 3 (by omega)
  ·exact g 0 (by omega)
  ·exact g 1 (by omega)
  ·exact g 2 (by omega)
  ·exact g 4 (by omega)
  ·exact g 5 (by omega)
 obtain⟨X,hX⟩:∃X:LX,X.ls=if tu=true then LSb else LSa:=by
  cases tu
  ·exact⟨⟨LSa,.inl rfl⟩,rfl⟩
  ·exact⟨⟨LSb,.inr rfl⟩,rfl⟩
 have hX:@LS5 X=if tu=true then LSb else LSa:=hX
 have uH:House.pv ⟨nm nms fst,ltS LS5,rm⟩=.dct [.inr "first",.inr "letters",.inr "rooms"] [.str (nm nms fst),WO.ltPv LS5,aK rm]:=by rw[← EB];rfl
 refine⟨X,⟨nm nms fst,ltS LS5,rm⟩,ord,⟨hond,by omega,g,hall,fun x hx=>(hperm x).mp hx,fun x hx=>(hperm x).mpr hx,hnb,(jQ hnl fst hf).1,by rw[uH];simp,by show rm.length<=20;omega,by omega⟩,aG rfl ?_⟩;rw[uH,hX];have la:=lpa;have lb:=lpb;have ef:gIx (.lst (nms.map PV.str)) (.int fst)=some (.str (nm nms fst)):=(jQ hnl fst hf).2;have rg:Gr (.int 6)=.ok (cn 0 6):=uy (by omega) (by omega);simp only[host] at f1;generalize rs.map PR.pv=RS at *;generalize nms.map PV.str=NN at *;generalize nm nms fst=NF at *;generalize aK rm=RM at *;generalize cn 0 6=RG at *;simp[iV,PU.start,newD,rg];rw[f1];cases tu with
 | true=>simp[lb,ef,gL,mK]
 | false=>simp[la,ef,gL,mK]
theorem m6(y:Int):∃k:Nat,y % 6=(k:Int)/\k<6:=⟨(y % 6).toNat,by omega,by omega⟩
theorem m7(y:Int):∃k:Nat,y % 7=(k:Int)/\k<7:=⟨(y % 7).toNat,by omega,by omega⟩
abbrev mst(t:Str)(z:Int)(ls:List Int)(kt:List (Nat×Nat))(a b:Sl):PSt:=[.val (.str t),.val (.int z),.val (.lst (ls.map .int)),.own (.lst (kt.map kP)),a,b]
theorem vi(t:Str)(z:Int):∃kt wr wa,(PR.menu t kt wr wa).Ok/\dD [.str t,.int z]=some (PR.menu t kt wr wa).pv:=by
 obtain⟨ls,l1,_,el⟩:=qi z 30 (by omega);have el:aV [.int z,.int 30]=some (.lst (ls.map .int)):=el
 obtain⟨ρ',f1,kt,a,b,rfl,h1,h2⟩:=forM (enc:=e12) (xs:=E12) (h:=iq 2 (aT (az 4) (aT (az 5) ir))) (g:=dQ) (ρ:=mst t z ls [] .no .no)
  (I:=fun pre ρ=>∃(kt:List (Nat×Nat))(a b:Sl),ρ=mst t z ls kt a b/\ME (kt.map (·.1)) (pre.map (·.2))/\∀k∈kt,k.2<7) ⟨[],.no,.no,rfl,O3 _,by simp⟩ (by
   rintro pre p post ρ hx ⟨kt,a,b,rfl,h1,h2⟩;have hp:p.1<12:=FF p (by rw[hx];simp);have hE:E12.length=12:=rfl
   have hkl:kt.length<=12:=by
    have e1:=h1.length_le;have e2:=congrArg Lz hx;rw[L0] at e2;simp at e1;omega
   have i1:=fD ls p.1 (by omega);have i2:=fD ls (p.1+12) (by omega);have n2:((p.1+12:Nat):Int)=(p.1:Int)+12:=by omega
   rw[n2] at i2;generalize ls[p.1]=x at i1;generalize ls[p.1+12]=y at i2;have d3:bz (.int x) (.int 3)=some (.int (x % 3)):=dH (by decide);have d7:bz (.int y) (.int 7)=some (.int (y % 7)):=dH (by decide);obtain⟨k,hk,hk7⟩:=m7 y;rw[hk] at d7;have z:(kt.map kP).length<16777216:=by simp;omega
   by_cases g1:x % 3=0
   ·refine⟨mst t _ ls kt (.val (.int p.1)) (.val (WO.sg p.2)),mst t _ ls (kt++[(p.2,k)]) (.val (.int p.1)) (.val (WO.sg p.2)),rfl,.inl ?_,kt++[(p.2,k)],_,_,rfl,?_,?_⟩
    ·have e:(kt++[(p.2,k)]).map kP=kt.map kP++[.tup [WO.sg p.2,.int k]]:=by rw[L8];rfl
     simp only[mst,e];generalize kt.map kP=KT at *;simp[dQ,i1,i2,d3,d7,g1,z]
    ·rw[L8,L8]
     exact List.Sublist.append h1 (O3 _)
    ·intro j hj
     rcases LW.mp hj with hj | hj
     ·exact h2 j hj
     ·rw[Ky.mp hj];exact hk7
   ·refine⟨mst t _ ls kt (.val (.int p.1)) (.val (WO.sg p.2)),mst t _ ls kt (.val (.int p.1)) (.val (WO.sg p.2)),rfl,.inl ?_,kt,_,_,rfl,?_,h2⟩
    ·simp only[mst]
     generalize kt.map kP=KT at *;simp[dQ,i1,d3,g1]
    ·rw[L8]
     exact Og h1 (List.sublist_append_left _ _))
 rw[Im] at h1;have i24:atI (ls.map PV.int) 24=some (.int ls[24]):=fD ls 24 (l1▸by decide);have i25:atI (ls.map PV.int) 25=some (.int ls[25]):=fD ls 25 (l1▸by decide);have i26:atI (ls.map PV.int) 26=some (.int ls[26]):=fD ls 26 (l1▸by decide);have i27:atI (ls.map PV.int) 27=some (.int ls[27]):=fD ls 27 (l1▸by decide);generalize ls[24]=x24 at i24;generalize ls[25]=x25 at i25;generalize ls[26]=x26 at i26;generalize ls[27]=x27 at i27;have d2:∀z:Int,bz (.int z) (.int 2)=some (.int (z % 2)):=fun z=>dH (by decide);have d6:∀z:Int,bz (.int z) (.int 6)=some (.int (z % 6)):=fun z=>dH (by decide);obtain⟨k1,hk1,hk16⟩:=m6 x25;obtain⟨k2,hk2,hk26⟩:=m6 x27;refine⟨kt,(1+x24 % 2,k1),(1+x26 % 2,k2),⟨h1,h2,⟨hk16,by show 1<=1+x24 % 2;omega,by show 1+x24 % 2<=2;omega⟩,⟨hk26,by show 1<=1+x26 % 2;omega,by show 1+x26 % 2<=2;omega⟩⟩,aG rfl ?_⟩;have ev:(PR.menu t kt (1+x24 % 2,k1) (1+x26 % 2,k2)).pv=.lst [.str "menu",.str t,.lst (kt.map kP),.tup [.int (1+x24 % 2),.int k1],.tup [.int (1+x26 % 2),.int k2]]:=rfl;rw[ev];have ee:=FG;simp only[mst] at f1;have f1:ic _ dQ (E12.map e12) [.val (.str t),.val (.int z),.val (.lst (ls.map .int)),.own (.lst []),.no,.no]=_:=f1;generalize E12.map e12=EE at *;generalize kt.map kP=KT at *;generalize ls.map PV.int=LN at *;simp[jU,PU.start,el,ee];rw[f1];simp[i24,i25,i26,i27,d2,d6,hk1,hk2]
def MN(p:PR):Prop:=(∃t kt wr wa,p=.menu t kt wr wa)\/∃t wt wr wa,p=.names t wt wr wa
structure Plan6(rs:List PR):Prop where
 ex:∃a b t wt wr wa s l e f,rs=[a,b,.names t wt wr wa,.hours [s] l,e,f]/\MN a/\MN b/\(∃x,e=.hand x\/e=.fin x)/\(∃x,f=.hand x\/f=.fin x)
 ok:∀p∈rs,p.Ok
theorem HL{p:PR}(h:MN p):∀sp l,p≠.hours sp l:=fun sp l e=>by
 subst e;rcases h with⟨_,_,_,_,e⟩|⟨_,_,_,_,e⟩ <;> cases e
theorem Plan6.plan{rs:List PR}(h:Plan6 rs):PlanOk rs:=by
 obtain⟨a,b,t,wt,wr,wa,s,l,e,f,rfl,ma,mb,he,hf⟩:=h.ex;refine⟨rfl,h.ok,fun k p hp h3 sp l' q=>?_⟩;subst q
 match k,hp with
 | 0,hp=>cases hp;exact HL ma _ _ rfl
 | 1,hp=>cases hp;exact HL mb _ _ rfl
 | 2,hp=>cases hp
 | 3,hp=>exact h3 rfl
 | 4,hp=>cases hp;obtain⟨x,e | e⟩:=he <;> cases e
 | 5,hp=>cases hp;obtain⟨x,e | e⟩:=hf <;> cases e
 | n+6,hp=>simp at hp
theorem zF(a b:W)(hs:ME [a,b] W8)(hs1:ME [a] W8)(t0 t1:Nat)(h0:t0<6)(h1:t1<6)(y:Int):∃wt:List (W×Nat),ME (wt.map (·.1)) W8/\wt≠[]/\(∀p∈wt,p.2<6)/\gSl (.lst [.tup [.str (mkS a),.int t0],.tup [.str (mkS b),.int t1]]) none (some (1+y % 2))=some (.lst (wt.map wP)):=by
 obtain⟨k,hk,hk9⟩:∃k:Nat,y % 2=(k:Int)/\k<2:=⟨(y % 2).toNat,by omega,by omega⟩;rw[hk]
 match k,hk9 with
 | 0,_=>exact⟨[(a,t0)],hs1,by simp,fun p hp=>by rw[Ky.mp hp];exact h0,rfl⟩
 | 1,_=>exact⟨[(a,t0),(b,t1)],hs,by simp,(fun p hp=>by rcases L4.mp hp with rfl | hp;exact h0;rw[Ky.mp hp];exact h1),rfl⟩
theorem qR(a b c:Str)(z:Int):∃t:Str,atI [PV.str a,.str b,.str c] (z % 3)=some (.str t):=by
 obtain⟨k,hk,hk9⟩:∃k:Nat,z % 3=(k:Int)/\k<3:=⟨(z % 3).toNat,by omega,by omega⟩;rw[hk]
 match k,hk9 with
 | 0,_=>exact⟨a,bY (n:=0) rfl rfl⟩
 | 1,_=>exact⟨b,bY (n:=1) rfl rfl⟩
 | 2,_=>exact⟨c,bY (n:=2) rfl rfl⟩
theorem zI(a b:Str)(z:Int):∃t:Str,atI [PV.str a,.str b] (z % 2)=some (.str t):=by
 obtain⟨k,hk,hk9⟩:∃k:Nat,z % 2=(k:Int)/\k<2:=⟨(z % 2).toNat,by omega,by omega⟩;rw[hk]
 match k,hk9 with
 | 0,_=>exact⟨a,bY (n:=0) rfl rfl⟩
 | 1,_=>exact⟨b,bY (n:=1) rfl rfl⟩
theorem wz(c:Nat)(hc:c<6/\c≠3)(z:Int):∃t:Nat,(t<6/\t≠3)/\atI [PV.int 0,.int 1,.int 2,.int c] (z % 4)=some (.int t):=by
 obtain⟨k,hk,hk9⟩:∃k:Nat,z % 4=(k:Int)/\k<4:=⟨(z % 4).toNat,by omega,by omega⟩;rw[hk]
 match k,hk9 with
 | 0,_=>exact⟨0,by omega,bY (n:=0) rfl rfl⟩
 | 1,_=>exact⟨1,by omega,bY (n:=1) rfl rfl⟩
 | 2,_=>exact⟨2,by omega,bY (n:=2) rfl rfl⟩
 | 3,_=>exact⟨c,hc,bY (n:=3) rfl rfl⟩
theorem iw{i:Nat}{fk fv:PSt->R PV}{ρ:PSt}{ps:List PV}{p:PV}{j:Nat}(h:ρ[i]?=some (.own (.lst ps)))(hv:fv ρ=.ok p)(hk:fk ρ=.ok (.int j))(hj:j<ps.length):eA i fk fv ρ=.ok (.next (ρ.set i (.own (.lst (ps.set j p))))):=by
 unfold eA;rw[h];show (fv ρ >>= _)=_;rw[hv,R.ok_bind,hk,R.ok_bind];show (if 0<=(j:Int)/\(j:Int)<ps.length then _ else _)=_;rw[if_pos ⟨by omega,by omega⟩];rfl
theorem sq{f g:PSt->R Fl}{ρ ρ1:PSt}(h:f ρ=.ok (.next ρ1)):aH f g ρ=g ρ1:=by
 unfold aH;rw[h];rfl
theorem uk{t:PSt->R Bool}{f g:PSt->R Fl}{ρ:PSt}(h:t ρ=.ok false):ifF t f g ρ=g ρ:=by
 unfold ifF;rw[h];rfl
theorem xD{t:PSt->R Bool}{f g:PSt->R Fl}{ρ:PSt}(h:t ρ=.ok true):ifF t f g ρ=f ρ:=by
 unfold ifF;rw[h];rfl
def pl1:PSt->R Fl:=(lG 1 (cI (ab (aD (ab (kS "Hello") (ab (aD (ab (ai 0) (ab (kI 1) ay)) ax) ay)) dD) (ab (aD (ab (kS "Again") (ab (aj (aD (ab (ai 0) (ab (kI 2) ay)) ax) (kI 7919) cj) ay)) dD) ay))))
def pl2:PSt->R Fl:=(bS 2 (aD (ab (aD (ab (ai 0) (ab (kI 3) ay)) ax) (ab (kI 20) ay)) aV))
def pl3:PSt->R Fl:=(ifF (bq (aj (aj (aj (ai 2) (kI 11) gIx) (kI 2) bz) (kI 1) gEq)) (aH (bS 3 (bV (cI (ab (cg (ab (kS "bo") (ab (aj (aj (ai 2) (kI 12) gIx) (kI 6) bz) ay))) (ab (cg (ab (kS "bob") (ab (aj (aj (ai 2) (kI 13) gIx) (kI 6) bz) ay))) ay))) bA (d9 (aj (kI 1) (aj (aj (ai 2) (kI 14) gIx) (kI 2) bz) cj)))) (eA 1 (kI 1) (cI (ab (kS "names") (ab (kS "Again") (ab (ai 3) (ab (cg (ab (kI 1) (ab (aj (aj (ai 2) (kI 15) gIx) (kI 6) bz) ay))) (ab (cg (ab (kI 1) (ab (aj (aj (ai 2) (kI 16) gIx) (kI 6) bz) ay))) ay)))))))) b0)
def pl4:PSt->R Fl:=(bS 3 (bV (cI (ab (cg (ab (kS "bo") (ab (aj (aj (ai 2) (kI 0) gIx) (kI 6) bz) ay))) (ab (cg (ab (kS "lee") (ab (aj (aj (ai 2) (kI 1) gIx) (kI 6) bz) ay))) ay))) bA (d9 (aj (kI 1) (aj (aj (ai 2) (kI 2) gIx) (kI 2) bz) cj))))
def pl5:PSt->R Fl:=(oG 1 (cI (ab (kS "names") (ab (aj (cI (ab (kS "Spell") (ab (kS "Hello") ay))) (aj (aj (ai 2) (kI 17) gIx) (kI 2) bz) gIx) (ab (ai 3) (ab (cg (ab (kI 1) (ab (aj (aj (ai 2) (kI 4) gIx) (kI 6) bz) ay))) (ab (cg (ab (kI 1) (ab (aj (aj (ai 2) (kI 6) gIx) (kI 6) bz) ay))) ay)))))))
def pl6:PSt->R Fl:=(bS 4 (cg (ab (aj (aj (ai 2) (kI 7) gIx) (kI 12) bz) (ab (aj (kI 13) (aj (aj (ai 2) (kI 8) gIx) (kI 12) bz) cj) (ab (aj (cI (ab (kI 0) (ab (kI 1) (ab (kI 2) (ab (kI 4) ay))))) (aj (aj (ai 2) (kI 9) gIx) (kI 4) bz) gIx) ay)))))
def pl7:PSt->R Fl:=(oG 1 (cI (ab (kS "hours") (ab (cI (ab (ai 4) ay)) (ab (aj (cI (ab (kI 0) (ab (kI 1) (ab (kI 2) (ab (kI 5) ay))))) (aj (aj (ai 2) (kI 10) gIx) (kI 4) bz) gIx) ay)))))
def pl8:PSt->R Fl:=(ck (aj (dz 1) (cI (ab (cI (ab (kS "hand") (ab (aj (cI (ab (kS "Ann") (ab (kS "Bye") (ab (kS "Hello") ay)))) (aj (aj (ai 2) (kI 18) gIx) (kI 3) bz) gIx) ay))) (ab (cI (ab (kS "end") (ab (aj (cI (ab (kS "Bye") (ab (kS "Ann") (ab (kS "Spell") ay)))) (aj (aj (ai 2) (kI 19) gIx) (kI 3) bz) gIx) ay))) ay))) cj))
theorem kE:jS=aH pl1 (aH pl2 (aH pl3 (aH pl4 (aH pl5 (aH pl6 (aH pl7 pl8)))))):=rfl
theorem Bp(ns:List Int):∃rs,Plan6 rs/\ij [.lst (ns.map .int)]=some (.lst (rs.map PR.pv)):=by
 have c1:ax [PV.lst (ns.map PV.int),PV.int 1]=some (PV.int (ns.getD 1 0)):=oy ns 1;have c2:ax [PV.lst (ns.map PV.int),PV.int 2]=some (PV.int (ns.getD 2 0)):=oy ns 2;have c3:ax [PV.lst (ns.map PV.int),PV.int 3]=some (PV.int (ns.getD 3 0)):=oy ns 3;generalize ns.getD 1 0=z1 at c1;generalize ns.getD 2 0=z2 at c2;generalize ns.getD 3 0=z3 at c3;obtain⟨kt0,wr0,wa0,ok0,em0⟩:=vi "Hello" z1;obtain⟨kt1,wr1,wa1,ok1,em1⟩:=vi "Again" (z2+7919);obtain⟨ms,m1,_,em⟩:=qi z3 20 (by omega);have em:aV [.int z3,.int 20]=some (.lst (ms.map .int)):=em;have j:∀(k:Nat)(hk:k<20),atI (ms.map PV.int) (k:Int)=some (.int (ms[k]'(by rw[m1];exact hk))):=fun k hk=>fD ms k (by rw[m1];exact hk);have j0:atI (ms.map PV.int) 0=_:=j 0 (by decide);have j1:atI (ms.map PV.int) 1=_:=j 1 (by decide);have j2:atI (ms.map PV.int) 2=_:=j 2 (by decide);have j4:atI (ms.map PV.int) 4=_:=j 4 (by decide);have j6:atI (ms.map PV.int) 6=_:=j 6 (by decide);have j7:atI (ms.map PV.int) 7=_:=j 7 (by decide);have j8:atI (ms.map PV.int) 8=_:=j 8 (by decide);have j9:atI (ms.map PV.int) 9=_:=j 9 (by decide);have j10:atI (ms.map PV.int) 10=_:=j 10 (by decide);have j11:atI (ms.map PV.int) 11=_:=j 11 (by decide);have j12:atI (ms.map PV.int) 12=_:=j 12 (by decide);have j13:atI (ms.map PV.int) 13=_:=j 13 (by decide);have j14:atI (ms.map PV.int) 14=_:=j 14 (by decide);have j15:atI (ms.map PV.int) 15=_:=j 15 (by decide);have j16:atI (ms.map PV.int) 16=_:=j 16 (by decide);have j17:atI (ms.map PV.int) 17=_:=j 17 (by decide);have j18:atI (ms.map PV.int) 18=_:=j 18 (by decide);have j19:atI (ms.map PV.int) 19=_:=j 19 (by decide);generalize ms[0]=y0 at j0;generalize ms[1]=y1 at j1;generalize ms[2]=y2 at j2;generalize ms[4]=y4 at j4;generalize ms[6]=y6 at j6;generalize ms[7]=y7 at j7;generalize ms[8]=y8 at j8;generalize ms[9]=y9 at j9;generalize ms[10]=y10 at j10;generalize ms[11]=y11 at j11;generalize ms[12]=y12 at j12;generalize ms[13]=y13 at j13;generalize ms[14]=y14 at j14;generalize ms[15]=y15 at j15;generalize ms[16]=y16 at j16;generalize ms[17]=y17 at j17;generalize ms[18]=y18 at j18;generalize ms[19]=y19 at j19;clear j;have d2:∀z:Int,bz (.int z) (.int 2)=some (.int (z % 2)):=fun z=>dH (by decide);have d3:∀z:Int,bz (.int z) (.int 3)=some (.int (z % 3)):=fun z=>dH (by decide);have d4:∀z:Int,bz (.int z) (.int 4)=some (.int (z % 4)):=fun z=>dH (by decide);have d6:∀z:Int,bz (.int z) (.int 6)=some (.int (z % 6)):=fun z=>dH (by decide);have d12:∀z:Int,bz (.int z) (.int 12)=some (.int (z % 12)):=fun z=>dH (by decide);obtain⟨a0,e0,l0⟩:=m6 y0;obtain⟨a1,e1,l1⟩:=m6 y1;obtain⟨a4,e4,l4⟩:=m6 y4;obtain⟨a6,e6,l6⟩:=m6 y6;obtain⟨a12,e12',l12⟩:=m6 y12;obtain⟨a13,e13,l13⟩:=m6 y13;obtain⟨a15,e15,l15⟩:=m6 y15;obtain⟨a16,e16,l16⟩:=m6 y16;have eb:(KI "bo")=mkS [98,111]:=by decide +kernel
 have ebb:(KI "bob")=mkS [98,111,98]:=by decide +kernel
 have ee:(KI "lee")=mkS [108,101,101]:=by decide +kernel
 obtain⟨wu,hu1,hu2,hu3,esu⟩:=zF [98,111] [98,111,98] (by decide +kernel) (by decide +kernel) a12 a13 l12 l13 y14;obtain⟨wt,hws,hwn,hwm,esl⟩:=zF [98,111] [108,101,101] (by decide +kernel) (by decide +kernel) a0 a1 l0 l1 y2;rw[← eb,← ebb] at esu;rw[← eb,← ee] at esl;obtain⟨tb,etb⟩:=zI "Spell" "Hello" y17;obtain⟨tc,etc⟩:=qR "Ann" "Bye" "Hello" y18;obtain⟨td,etd⟩:=qR "Bye" "Ann" "Spell" y19;obtain⟨s9,h9,es9⟩:=wz 4 (by omega) y9;obtain⟨s10,h10,es10⟩:=wz 5 (by omega) y10;have es9:atI [PV.int 0,.int 1,.int 2,.int 4] (y9 % 4)=some (.int s9):=es9;have es10:atI [PV.int 0,.int 1,.int 2,.int 5] (y10 % 4)=some (.int s10):=es10;have lim1:∀k,k<6->Lim (1,k):=fun k hk=>⟨hk,by show (1:Int)<=1;omega,by show (1:Int)<=2;omega⟩
 obtain⟨B,MB,okB,e8⟩:∃B:PR,MN B/\B.Ok/\∃s3,pl3 [.val (.lst (ns.map .int)),.own (.lst [(PR.menu "Hello" kt0 wr0 wa0).pv,(PR.menu "Again" kt1 wr1 wa1).pv]),.val (.lst (ms.map .int)),.no,.no]=.ok (.next [.val (.lst (ns.map .int)),.own (.lst [(PR.menu "Hello" kt0 wr0 wa0).pv,B.pv]),.val (.lst (ms.map .int)),s3,.no]):=by
  by_cases c:y11 % 2=1
  ·refine⟨.names "Again" wu (1,a15) (1,a16),.inr ⟨_,_,_,_,rfl⟩,⟨hu1,hu2,hu3,lim1 _ l15,lim1 _ l16⟩,.val (.lst (wu.map wP)),?_⟩
   unfold pl3
   rw[xD (by generalize ms.map PV.int=MM at *;simp[j11,d2,c]),sq (ρ1:=[.val (.lst (ns.map .int)),.own (.lst [(PR.menu "Hello" kt0 wr0 wa0).pv,(PR.menu "Again" kt1 wr1 wa1).pv]),.val (.lst (ms.map .int)),.val (.lst (wu.map wP)),.no]) (by
    generalize ms.map PV.int=MM at *;generalize wu.map wP=WU at *;simp[j12,j13,j14,d6,d2,e12',e13,esu,kD]),iw (ps:=[(PR.menu "Hello" kt0 wr0 wa0).pv,(PR.menu "Again" kt1 wr1 wa1).pv]) (j:=1) (p:=(PR.names "Again" wu (1,a15) (1,a16)).pv) rfl (by
    show _=R.ok (PV.lst [.str "names",.str "Again",.lst (wu.map wP),.tup [.int 1,.int a15],.tup [.int 1,.int a16]]);generalize ms.map PV.int=MM at *;generalize wu.map wP=WU at *;simp[j15,j16,d6,e15,e16]) rfl (by simp)]
   rfl
  ·refine⟨.menu "Again" kt1 wr1 wa1,.inl ⟨_,_,_,_,rfl⟩,ok1,.no,?_⟩
   unfold pl3;rw[uk (by generalize ms.map PV.int=MM at *;simp[j11,d2,c])];rfl
 obtain⟨s3,e8⟩:=e8;obtain⟨rs,hrs⟩:∃rs,rs=[PR.menu "Hello" kt0 wr0 wa0,B,.names tb wt (1,a4) (1,a6),.hours [(y7 % 12,13+y8 % 12,s9)] s10,.hand tc,.fin td]:=⟨_,rfl⟩;have okh:(PR.hours [(y7 % 12,13+y8 % 12,s9)] s10).Ok:=⟨h10,by intro s hs;rw[Ky.mp hs];exact h9,by simp⟩;have okn:(PR.names tb wt (1,a4) (1,a6)).Ok:=⟨hws,hwn,hwm,lim1 _ l4,lim1 _ l6⟩;refine⟨rs,⟨⟨_,_,_,_,_,_,_,_,_,_,hrs,.inl ⟨_,_,_,_,rfl⟩,MB,⟨_,.inl rfl⟩,⟨_,.inr rfl⟩⟩,fun p hp=>?_⟩,aG rfl ?_⟩
 ·rw[hrs] at hp
  simp only[L4,MC,or_false] at hp;rcases hp with rfl | rfl | rfl | rfl | rfl | rfl
  ·exact ok0
  ·exact okB
  ·exact okn
  ·exact okh
  ·exact trivial
  ·exact trivial
 ·have ev:rs.map PR.pv=[(PR.menu "Hello" kt0 wr0 wa0).pv,B.pv,.lst [.str "names",.str tb,.lst (wt.map wP),.tup [.int 1,.int a4],.tup [.int 1,.int a6]],.lst [.str "hours",.lst [.tup [.int (y7 % 12),.int (13+y8 % 12),.int s9]],.int s10],.lst [.str "hand",.str tc],.lst [.str "end",.str td]]:=by rw[hrs];rfl
  rw[ev,kE]
  rw[sq (ρ1:=[.val (.lst (ns.map .int)),.own (.lst [(PR.menu "Hello" kt0 wr0 wa0).pv,(PR.menu "Again" kt1 wr1 wa1).pv]),.no,.no,.no]) (by
   generalize (PR.menu "Hello" kt0 wr0 wa0).pv=P0 at *;generalize (PR.menu "Again" kt1 wr1 wa1).pv=P1 at *;generalize ns.map PV.int=NN at *;simp[pl1,PU.start,c1,c2,em0,em1]),sq (ρ1:=[.val (.lst (ns.map .int)),.own (.lst [(PR.menu "Hello" kt0 wr0 wa0).pv,(PR.menu "Again" kt1 wr1 wa1).pv]),.val (.lst (ms.map .int)),.no,.no]) (by
   generalize (PR.menu "Hello" kt0 wr0 wa0).pv=P0 at *;generalize (PR.menu "Again" kt1 wr1 wa1).pv=P1 at *;generalize ns.map PV.int=NN at *;generalize ms.map PV.int=MM at *;simp[pl2,c3,em]),sq e8]
  generalize (PR.menu "Hello" kt0 wr0 wa0).pv=P0 at *;generalize B.pv=P1 at *;generalize ns.map PV.int=NN at *;generalize ms.map PV.int=MM at *;generalize wt.map wP=WT at *;simp[pl4,pl5,pl6,pl7,pl8,j0,j1,j2,j4,j6,j7,j8,j9,j10,j17,j18,j19,d2,d3,d4,d6,d12,e0,e1,e4,e6,esl,kD,etb,etc,etd,es9,es10];rfl
def ot1:PSt->R Fl:=(bS 2 (aj (ai 1) (kI 11) bz))
def ot2:PSt->R Fl:=(bS 3 (aj (aj (ai 1) (kI 11) ki) (kI 2) bz))
def ot3:PSt->R Fl:=(bS 4 (aj (aj (ai 1) (kI 22) ki) (kI 6) bz))
def ot4:PSt->R Fl:=(lG 5 (un1 (aj (ai 0) (ai 3) gIx) nA))
def ot5:PSt->R Fl:=(ifF (pW (bq (aj (ai 2) (kI 1) gEq)) (bq (aj (un1 (aj (dz 5) (kI 2) gIx) gT) (kI 0) gGt))) (aH (bS 6 (aj (aj (ai 1) (kI 132) ki) (un1 (aj (dz 5) (kI 2) gIx) gT) bz)) (eA 5 (kI 2) (aj (aj (bV (aj (dz 5) (kI 2) gIx) bA (d9 (ai 6))) (cI (ab (cg (ab (aj (aj (aj (dz 5) (kI 2) gIx) (ai 6) gIx) (kI 0) gIx) (ab (ai 4) ay))) ay)) cj) (bV (aj (dz 5) (kI 2) gIx) (d9 (aj (ai 6) (kI 1) cj)) bA) cj))) b0)
def ot6:PSt->R Fl:=(ifF (pW (bq (aj (ai 2) (kI 2) gEq)) (bq (aj (un1 (aj (dz 5) (kI 2) gIx) gT) (un1 (aj (aj (dz 5) (kI 0) gIx) (kS "names") gEq) wm) gGt))) (aH (bS 6 (aj (aj (ai 1) (kI 132) ki) (un1 (aj (dz 5) (kI 2) gIx) gT) bz)) (eA 5 (kI 2) (aj (bV (aj (dz 5) (kI 2) gIx) bA (d9 (ai 6))) (bV (aj (dz 5) (kI 2) gIx) (d9 (aj (ai 6) (kI 1) cj)) bA) cj))) b0)
def ot7:PSt->R Fl:=(ifF (bq (aj (ai 2) (kI 3) gEq)) (eA 5 (kI 1) (aj (cI (ab (kS "Hello") (ab (kS "Again") ay))) (aj (aj (ai 1) (kI 22) ki) (kI 2) bz) gIx)) b0)
def ot8:PSt->R Fl:=(ifF (bq (aj (ai 2) (kI 4) gEq)) (eA 5 (kI 3) (cg (ab (aj (kI 3) (aj (aj (dz 5) (kI 3) gIx) (kI 0) gIx) um) (ab (aj (aj (dz 5) (kI 3) gIx) (kI 1) gIx) ay)))) b0)
def ot9:PSt->R Fl:=(ifF (bq (aj (ai 2) (kI 5) gEq)) (eA 5 (kI 4) (cg (ab (aj (aj (dz 5) (kI 4) gIx) (kI 0) gIx) (ab (ai 4) ay)))) b0)
def J4:PSt->R Fl:=(qE 5 (lG 7 (aj (aj (bV (ai 0) bA (d9 (ai 3))) (cI (ab (ai 5) ay)) cj) (bV (ai 0) (d9 (aj (ai 3) (kI 1) cj)) bA) CZ)))
def Gx:PSt->R Fl:=(ifF (bq (aj (ai 2) (kI 6) gEq)) (aH (bS 8 (aj (cI (ab (cg (ab (aj (aj (aj (aj (ai 0) (kI 2) gIx) (kI 2) gIx) (kI 0) gIx) (kI 0) gIx) (ab (ai 4) ay))) ay)) (bV (aj (aj (ai 0) (kI 2) gIx) (kI 2) gIx) (d9 (kI 1)) bA) cj)) (eA 7 (kI 2) (cI (ab (kS "names") (ab (aj (aj (ai 0) (kI 2) gIx) (kI 1) gIx) (ab (ai 8) (ab (aj (aj (ai 0) (kI 2) gIx) (kI 3) gIx) (ab (aj (aj (ai 0) (kI 2) gIx) (kI 4) gIx) ay)))))))) b0)
def Gw:PSt->R Fl:=(ifF (bq (aj (ai 2) (kI 7) gEq)) (aH (bS 9 (aj (aj (aj (ai 0) (kI 3) gIx) (kI 1) gIx) (kI 0) gIx)) (eA 7 (kI 3) (cI (ab (kS "hours") (ab (cI (ab (cg (ab (aj (ai 9) (kI 0) gIx) (ab (aj (aj (aj (ai 9) (kI 1) gIx) (kI 1) um) (aj (aj (ai 1) (kI 22) ki) (kI 2) bz) cj) (ab (aj (ai 9) (kI 2) gIx) ay)))) ay)) (ab (aj (aj (ai 0) (kI 3) gIx) (kI 2) gIx) ay)))))) b0)
def Gv:PSt->R Fl:=(ifF (bq (aj (ai 2) (kI 9) gEq)) (eA 7 (kI 4) (cI (ab (aj (cI (ab (kS "end") (ab (kS "hand") ay))) (aj (ai 4) (kI 2) bz) gIx) (ab (aj (aj (ai 0) (aj (kI 4) (aj (aj (ai 4) (kI 2) ki) (kI 2) bz) cj) gIx) (kI 1) gIx) ay)))) b0)
def Gu:PSt->R Fl:=(ifF (bq (aj (ai 2) (kI 10) gEq)) (eA 7 (kI 1) (cI (ab (kS "names") (ab (aj (aj (ai 0) (kI 1) gIx) (kI 1) gIx) (ab (cI (ab (cg (ab (kS "lee") (ab (ai 4) ay))) ay)) (ab (aj (aj (ai 0) (kI 1) gIx) (kI 3) gIx) (ab (aj (aj (ai 0) (kI 1) gIx) (kI 4) gIx) ay))))))) b0)
def J3:PSt->R Fl:=(qE 7 (ck (ai 7)))
theorem jT:iT=aH ot1 (aH ot2 (aH ot3 (aH ot4 (aH ot5 (aH ot6 (aH ot7 (aH ot8 (aH ot9 (aH J4 (aH Gx (aH Gw (aH Gv (aH Gu J3))))))))))))):=rfl
theorem FU{a b:PSt->R Bool}{ρ:PSt}(h:a ρ=.ok false):pW a b ρ=.ok false:=by
 unfold pW;rw[h];rfl
theorem zt{a b:PSt->R Bool}{ρ:PSt}{z:Bool}(h:a ρ=.ok true)(k:b ρ=.ok z):pW a b ρ=.ok z:=by
 unfold pW;rw[h];exact k
def eY(kind t:Str)(items:List PV)(wr wa:Int×Nat):List PV:=[.str kind,.str t,.lst items,tP wr,tP wa]
abbrev ost(RS:PV)(cell:Int)(s a to:Nat)(P:List PV)(x6 x7 x8 x9:Sl):PSt:=[.val RS,.val (.int cell),.val (.int s),.val (.int a),.val (.int to),.own (.lst P),x6,x7,x8,x9]
theorem srt(RS:PV)(cell:Int)(s a to:Nat)(P:List PV)(x6 x7 x8 x9:Sl)(c:Int):bq (aj (ai 2) (kI c) gEq) (ost RS cell s a to P x6 x7 x8 x9)=.ok (decide ((s:Int)=c)):=by
 have e:gEq (.int (s:Int)) (.int c)=some (.bl (decide ((s:Int)=c))):=by simp
 simp only[ost];generalize decide ((s:Int)=c)=b at *;generalize (s:Int)=S at *;simp[e]
def eP{α:Type}(x:α->PV)(p:α×Nat):PV:=.tup [x p.1,.int p.2]
section
variable(RS : PV)(cell : Int)(s a to : Nat)(x6 x7 x8 x9 : Sl){α : Type}(x : α → PV)(kind t : Str)(wr wa : Int×Nat)
theorem ze{β:Type}(l:List β)(k:Nat)(h:k<=l.length):kJ l none (some (k:Int))=l.take k:=FL l k h
theorem Cr{β:Type}(l:List β)(k:Nat)(h:k<l.length):kJ l (some ((k:Int)+1)) none=l.drop (k+1):=FA.cut_from l k h
theorem zZ(l:List (α×Nat))(hl:l.length<=20):∃l':List (α×Nat),l'.map (·.1)=l.map (·.1)/\(∀p∈l',p∈l\/p.2=to)/\∃y6,ot5 (ost RS cell s a to (eY kind t (l.map (eP x)) wr wa) x6 x7 x8 x9)=.ok (.next (ost RS cell s a to (eY kind t (l'.map (eP x)) wr wa) y6 x7 x8 x9)):=by
 by_cases c:s=1
 ·have st:=srt RS cell s a to (eY kind t (l.map (eP x)) wr wa) x6 x7 x8 x9 1
  rw[decide_eq_true (by omega)] at st;have st:bq (aj (ai 2) (kI 1) gEq) (ost RS cell s a to (eY kind t (l.map (eP x)) wr wa) x6 x7 x8 x9)=.ok true:=st;have i2:gIx (.lst (eY kind t (l.map (eP x)) wr wa)) (.int 2)=some (.lst (l.map (eP x))):=rfl
  have gl:gT (.lst (l.map (eP x)))=some (.int (l.length:Int)):=by
   show some (PV.int ((l.map (eP x)).length:Int))=_;rw[KH]
  by_cases h0:0<l.length
  ·obtain⟨k,ek,hk⟩:∃k:Nat,cell / 132 % (l.length:Int)=(k:Int)/\k<l.length:=by
    have h1:=QB (cell / 132) (b:=(l.length:Int)) (by omega);have h2:=Pc (cell / 132) (b:=(l.length:Int)) (by omega);exact⟨(cell / 132 % (l.length:Int)).toNat,by omega,by omega⟩
   have dv:ki (.int cell) (.int 132)=some (.int (cell / 132)):=mH (by decide);have md:bz (.int (cell / 132)) (.int (l.length:Int))=some (.int (k:Int)):=by rw[dH (by omega),ek]
   have ix:gIx (.lst (l.map (eP x))) (.int (k:Int))=some (eP x l[k]):=bY (n:=k) rfl (by rw[L3,LY hk];rfl)
   have tk:l.take k++[l[k]]++l.drop (k+1)=l:=by
    rw[N1];simp
   generalize l[k]=lk at ix tk;have ix0:gIx (eP x lk) (.int 0)=some (x lk.1):=rfl
   have s1:gSl (.lst (l.map (eP x))) none (some (k:Int))=some (.lst ((l.take k).map (eP x))):=by
    show some (PV.lst (kJ (l.map (eP x)) none (some (k:Int))))=_;rw[ze _ k (by rw[KH];omega),QU]
   have s2:gSl (.lst (l.map (eP x))) (some ((k:Int)+1)) none=some (.lst ((l.drop (k+1)).map (eP x))):=by
    show some (PV.lst (kJ (l.map (eP x)) (some ((k:Int)+1)) none))=_;rw[Cr _ k (by rw[KH];omega),QV]
   have a1:cj (.lst ((l.take k).map (eP x))) (.lst [.tup [x lk.1,.int to]])=some (.lst ((l.take k).map (eP x)++[.tup [x lk.1,.int to]])):=fF (by simp;omega);have a2:cj (.lst ((l.take k).map (eP x)++[.tup [x lk.1,.int to]])) (.lst ((l.drop (k+1)).map (eP x)))=some (.lst ((l.take k).map (eP x)++[.tup [x lk.1,.int to]]++(l.drop (k+1)).map (eP x))):=fF (by simp;omega);have ev:(l.take k++[(lk.1,to)]++l.drop (k+1)).map (eP x)=(l.take k).map (eP x)++[.tup [x lk.1,.int to]]++(l.drop (k+1)).map (eP x):=by rw[L8,L8];rfl
   refine⟨l.take k++[(lk.1,to)]++l.drop (k+1),?_,fun p hp=>?_,.val (.int (k:Int)),?_⟩
   ·have:=congrArg (Pf (·.1)) tk
    simpa only[L8,KG,Mh] using this
   ·rcases LW.mp hp with hp | hp
    ·rcases LW.mp hp with hp | hp
     ·exact .inl (List.mem_of_mem_take hp)
     ·rw[Ky.mp hp];exact .inr rfl
    ·exact .inl (RC hp)
   ·unfold ot5
    rw[xD (zt st (by
     simp only[ost];generalize eY kind t (l.map (eP x)) wr wa=F at *;generalize l.map (eP x)=LE at *;have:(0:Int)<(l.length:Int):=by omega
     generalize (l.length:Int)=LL at *;simp[i2,gl,this])),sq (ρ1:=ost RS cell s a to (eY kind t (l.map (eP x)) wr wa) (.val (.int (k:Int))) x7 x8 x9) (by
     simp only[ost];generalize eY kind t (l.map (eP x)) wr wa=F at *;generalize l.map (eP x)=LE at *;generalize (l.length:Int)=LL at *;simp[i2,gl,dv,md]),iw (ps:=eY kind t (l.map (eP x)) wr wa) (j:=2) (p:=.lst ((l.take k).map (eP x)++[.tup [x lk.1,.int to]]++(l.drop (k+1)).map (eP x))) rfl (by
     simp only[ost];generalize (l.take k).map (eP x)++[.tup [x lk.1,.int to]]++(l.drop (k+1)).map (eP x)=R2 at *;generalize (l.take k).map (eP x)++[.tup [x lk.1,.int to]]=R1 at *;generalize (l.take k).map (eP x)=R0 at *;generalize (l.drop (k+1)).map (eP x)=R3 at *;generalize eY kind t (l.map (eP x)) wr wa=F at *;generalize l.map (eP x)=LE at *;generalize eP x lk=EK at *;generalize x lk.1=XK at *;simp[i2,ix,ix0,s1,s2,a1,a2,kD]) rfl (by show 2<5;decide),ev]
    rfl
  ·refine⟨l,rfl,fun p hp=>.inl hp,x6,?_⟩
   unfold ot5
   rw[uk (zt st (by
    simp only[ost];generalize eY kind t (l.map (eP x)) wr wa=F at *;generalize l.map (eP x)=LE at *;have:¬ (0:Int)<(l.length:Int):=by omega
    generalize (l.length:Int)=LL at *;simp[i2,gl];omega))]
   rfl
 ·have st:=srt RS cell s a to (eY kind t (l.map (eP x)) wr wa) x6 x7 x8 x9 1
  rw[decide_eq_false (by omega)] at st;refine⟨l,rfl,fun p hp=>.inl hp,x6,?_⟩;unfold ot5;rw[uk (FU st)];rfl
theorem zY (l:List (α×Nat)) (hl:l.length<=20):∃l':List (α×Nat),ME l' l/\(kind="names"->l≠[]->l'≠[])/\∃y6,ot6 (ost RS cell s a to (eY kind t (l.map (eP x)) wr wa) x6 x7 x8 x9)=.ok (.next (ost RS cell s a to (eY kind t (l'.map (eP x)) wr wa) y6 x7 x8 x9)):=by
 by_cases c:s=2
 ·have st:=srt RS cell s a to (eY kind t (l.map (eP x)) wr wa) x6 x7 x8 x9 2
  rw[decide_eq_true (by omega)] at st;have st:bq (aj (ai 2) (kI 2) gEq) (ost RS cell s a to (eY kind t (l.map (eP x)) wr wa) x6 x7 x8 x9)=.ok true:=st;have i2:gIx (.lst (eY kind t (l.map (eP x)) wr wa)) (.int 2)=some (.lst (l.map (eP x))):=rfl;have i0:gIx (.lst (eY kind t (l.map (eP x)) wr wa)) (.int 0)=some (.str kind):=rfl
  have gl:gT (.lst (l.map (eP x)))=some (.int (l.length:Int)):=by
   show some (PV.int ((l.map (eP x)).length:Int))=_;rw[KH]
  have qe:=hJ kind "names"
  obtain⟨u,eu,hu⟩:∃u:Int,wm (.bl (decide (kind=KI "names")))=some (.int u)/\((kind=KI "names"/\u=1)\/u=0):=by
   by_cases q:kind=KI "names"
   ·rw[decide_eq_true q];exact⟨1,rfl,.inl ⟨q,rfl⟩⟩
   ·rw[decide_eq_false q];exact⟨0,rfl,.inr rfl⟩
  have tst:bq (aj (un1 (aj (dz 5) (kI 2) gIx) gT) (un1 (aj (aj (dz 5) (kI 0) gIx) (kS "names") gEq) wm) gGt) (ost RS cell s a to (eY kind t (l.map (eP x)) wr wa) x6 x7 x8 x9)=.ok (decide (u<(l.length:Int))):=by
   have gt:gGt (.int (l.length:Int)) (.int u)=some (.bl (decide (u<(l.length:Int)))):=rfl;simp only[ost];generalize eY kind t (l.map (eP x)) wr wa=F at *;generalize l.map (eP x)=LE at *;generalize (l.length:Int)=LL at *;generalize decide (u<LL)=B at *;generalize decide (kind=KI "names")=B2 at *;have qe:gEq (.str kind) (.str "names")=some (.bl B2):=qe
   have r1:un1 (aj (aj (dz 5) (kI 0) gIx) (kS "names") gEq) wm [.val RS,.val (.int cell),.val (.int s),.val (.int a),.val (.int to),.own (.lst F),x6,x7,x8,x9]=.ok (.int u):=by
    show ((R.ofO (gIx (.lst F) (.int 0)) >>= fun p=>R.ofO (gEq p (.str "names"))) >>= fun p=>R.ofO (wm p))=_;rw[i0,R.ofO_some,R.ok_bind,qe,R.ofO_some,R.ok_bind,eu];rfl
   have r2:un1 (aj (dz 5) (kI 2) gIx) gT [.val RS,.val (.int cell),.val (.int s),.val (.int a),.val (.int to),.own (.lst F),x6,x7,x8,x9]=.ok (.int LL):=by
    simp[i2,gl]
   generalize hA:un1 (aj (dz 5) (kI 2) gIx) gT=A at *;generalize hB:un1 (aj (aj (dz 5) (kI 0) gIx) (kS "names") gEq) wm=B3 at *;show ((A _ >>= fun p=>B3 _ >>= fun q=>R.ofO (gGt p q)) >>= fun p=>R.ofO (ub p))=_;rw[r2,R.ok_bind,r1,R.ok_bind,gt];rfl
  by_cases h0:u<(l.length:Int)
  ·rw[decide_eq_true h0] at tst
   have h0':0<l.length:=by rcases hu with⟨_,h⟩ | h <;> omega
   obtain⟨k,ek,hk⟩:∃k:Nat,cell / 132 % (l.length:Int)=(k:Int)/\k<l.length:=by
    have h1:=QB (cell / 132) (b:=(l.length:Int)) (by omega);have h2:=Pc (cell / 132) (b:=(l.length:Int)) (by omega);exact⟨(cell / 132 % (l.length:Int)).toNat,by omega,by omega⟩
   have dv:ki (.int cell) (.int 132)=some (.int (cell / 132)):=mH (by decide);have md:bz (.int (cell / 132)) (.int (l.length:Int))=some (.int (k:Int)):=by rw[dH (by omega),ek]
   have s1:gSl (.lst (l.map (eP x))) none (some (k:Int))=some (.lst ((l.take k).map (eP x))):=by
    show some (PV.lst (kJ (l.map (eP x)) none (some (k:Int))))=_;rw[ze _ k (by rw[KH];omega),QU]
   have s2:gSl (.lst (l.map (eP x))) (some ((k:Int)+1)) none=some (.lst ((l.drop (k+1)).map (eP x))):=by
    show some (PV.lst (kJ (l.map (eP x)) (some ((k:Int)+1)) none))=_;rw[Cr _ k (by rw[KH];omega),QV]
   have a2:cj (.lst ((l.take k).map (eP x))) (.lst ((l.drop (k+1)).map (eP x)))=some (.lst ((l.take k).map (eP x)++(l.drop (k+1)).map (eP x))):=fF (by simp;omega);have ev:(l.take k++l.drop (k+1)).map (eP x)=(l.take k).map (eP x)++(l.drop (k+1)).map (eP x):=L8;refine⟨l.take k++l.drop (k+1),?_,fun q _ e=>?_,.val (.int (k:Int)),?_⟩
   ·rw[← List.eraseIdx_eq_take_drop_succ]
    exact List.eraseIdx_sublist _ _
   ·have:=congrArg Lz e
    rw[L0,Mo,OW,Mg] at this;rcases hu with⟨_,h⟩ | h
    ·omega
    ·have q:kind=KI "names":=q
     rw[decide_eq_true q] at eu;have eu:some (PV.int 1)=some (.int u):=eu;injection eu with eu;injection eu with eu;omega
   ·unfold ot6
    rw[xD (zt st tst),sq (ρ1:=ost RS cell s a to (eY kind t (l.map (eP x)) wr wa) (.val (.int (k:Int))) x7 x8 x9) (by
     simp only[ost];generalize eY kind t (l.map (eP x)) wr wa=F at *;generalize l.map (eP x)=LE at *;generalize (l.length:Int)=LL at *;simp[i2,gl,dv,md]),iw (ps:=eY kind t (l.map (eP x)) wr wa) (j:=2) (p:=.lst ((l.take k).map (eP x)++(l.drop (k+1)).map (eP x))) rfl (by
     simp only[ost];generalize (l.take k).map (eP x)++(l.drop (k+1)).map (eP x)=R2 at *;generalize (l.take k).map (eP x)=R0 at *;generalize (l.drop (k+1)).map (eP x)=R3 at *;generalize eY kind t (l.map (eP x)) wr wa=F at *;generalize l.map (eP x)=LE at *;simp[i2,s1,s2,a2,kD]) rfl (by show 2<5;decide),ev]
    rfl
  ·rw[decide_eq_false h0] at tst
   refine⟨l,O3 _,fun _ h=>h,x6,?_⟩;unfold ot6;rw[uk (zt st tst)];rfl
 ·have st:=srt RS cell s a to (eY kind t (l.map (eP x)) wr wa) x6 x7 x8 x9 2
  rw[decide_eq_false (by omega)] at st;refine⟨l,O3 _,fun _ h=>h,x6,?_⟩;unfold ot6;rw[uk (FU st)];rfl
theorem zX(I:List PV):∃t':Str,ot7 (ost RS cell s a to (eY kind t I wr wa) x6 x7 x8 x9)=.ok (.next (ost RS cell s a to (eY kind t' I wr wa) x6 x7 x8 x9)):=by
 have st:=srt RS cell s a to (eY kind t I wr wa) x6 x7 x8 x9 3
 by_cases c:s=3
 ·rw[decide_eq_true (by omega)] at st
  obtain⟨t',et⟩:=zI "Hello" "Again" (cell / 22);have dv:ki (.int cell) (.int 22)=some (.int (cell / 22)):=mH (by decide);have md:bz (.int (cell / 22)) (.int 2)=some (.int (cell / 22 % 2)):=dH (by decide);refine⟨t',?_⟩;unfold ot7
  rw[xD st,iw (ps:=eY kind t I wr wa) (j:=1) (p:=.str t') rfl (by
   simp only[ost];generalize eY kind t I wr wa=F at *;simp[dv,md,et]) rfl (by show 1<5;decide)]
  rfl
 ·rw[decide_eq_false (by omega)] at st
  exact⟨t,by unfold ot7;rw[uk st];rfl⟩
theorem zW(I:List PV)(hw:Lim wr):∃wr',Lim wr'/\ot8 (ost RS cell s a to (eY kind t I wr wa) x6 x7 x8 x9)=.ok (.next (ost RS cell s a to (eY kind t I wr' wa) x6 x7 x8 x9)):=by
 have st:=srt RS cell s a to (eY kind t I wr wa) x6 x7 x8 x9 4
 by_cases c:s=4
 ·rw[decide_eq_true (by omega)] at st
  have i3:gIx (.lst (eY kind t I wr wa)) (.int 3)=some (tP wr):=rfl;have t0:gIx (tP wr) (.int 0)=some (.int wr.1):=rfl;have t1:gIx (tP wr) (.int 1)=some (.int wr.2):=rfl;have sb:um (.int 3) (.int wr.1)=some (.int (3-wr.1)):=rfl;refine⟨(3-wr.1,wr.2),⟨hw.1,by show 1<=3-wr.1;have:=hw.2;omega,by show 3-wr.1<=2;have:=hw.2;omega⟩,?_⟩;unfold ot8
  rw[xD st,iw (ps:=eY kind t I wr wa) (j:=3) (p:=.tup [.int (3-wr.1),.int wr.2]) rfl (by
   simp only[ost];generalize eY kind t I wr wa=F at *;generalize tP wr=TW at *;simp[i3,t0,t1,sb]) rfl (by show 3<5;decide)]
  rfl
 ·rw[decide_eq_false (by omega)] at st
  exact⟨wr,hw,by unfold ot8;rw[uk st];rfl⟩
theorem zV(I:List PV)(hw:Lim wa)(ht:to<6):∃wa',Lim wa'/\ot9 (ost RS cell s a to (eY kind t I wr wa) x6 x7 x8 x9)=.ok (.next (ost RS cell s a to (eY kind t I wr wa') x6 x7 x8 x9)):=by
 have st:=srt RS cell s a to (eY kind t I wr wa) x6 x7 x8 x9 5
 by_cases c:s=5
 ·rw[decide_eq_true (by omega)] at st
  have i4:gIx (.lst (eY kind t I wr wa)) (.int 4)=some (tP wa):=rfl;have t0:gIx (tP wa) (.int 0)=some (.int wa.1):=rfl;refine⟨(wa.1,to),⟨ht,hw.2⟩,?_⟩;unfold ot9
  rw[xD st,iw (ps:=eY kind t I wr wa) (j:=4) (p:=.tup [.int wa.1,.int to]) rfl (by
   simp only[ost];generalize eY kind t I wr wa=F at *;generalize tP wa=TW at *;simp[i4,t0]) rfl (by show 4<5;decide)]
  rfl
 ·rw[decide_eq_false (by omega)] at st
  exact⟨wa,hw,by unfold ot9;rw[uk st];rfl⟩
theorem Ho(p:PR)(mp:MN p)(ok:p.Ok)(ht:to<6):∃q,MN q/\q.Ok/\∃P y6 Q,p.pv=.lst P/\q.pv=.lst Q/\∀g,(aH ot5 (aH ot6 (aH ot7 (aH ot8 (aH ot9 g))))) (ost RS cell s a to P .no .no .no .no)=g (ost RS cell s a to Q y6 .no .no .no):=by
 rcases mp with⟨t,kt,wr,wa,rfl⟩|⟨t,wt,wr,wa,rfl⟩
 ·obtain⟨o1,o2,o3,o4⟩:=ok
  have hk:kt.length<=12:=by have:=o1.length_le;simpa [K12] using this
  obtain⟨l1,a1,a2,y1,e1⟩:=zZ RS cell s a to .no .no .no .no WO.sg "menu" t wr wa kt (by omega);have hl1:l1.length<=20:=by have:=congrArg Lz a1;simp at this;omega
  obtain⟨l2,b1,b2,y2,e2⟩:=zY RS cell s a to y1 .no .no .no WO.sg "menu" t wr wa l1 hl1;obtain⟨t3,e3⟩:=zX RS cell s a to y2 .no .no .no "menu" t wr wa (l2.map (eP WO.sg));obtain⟨wr4,c1,e4⟩:=zW RS cell s a to y2 .no .no .no "menu" t3 wr wa (l2.map (eP WO.sg)) o3;obtain⟨wa5,d1,e5⟩:=zV RS cell s a to y2 .no .no .no "menu" t3 wr4 wa (l2.map (eP WO.sg)) o4 ht;refine⟨.menu t3 l2 wr4 wa5,.inl ⟨_,_,_,_,rfl⟩,⟨?_,fun k hk=>?_,c1,d1⟩,eY "menu" t (kt.map (eP WO.sg)) wr wa,y2,eY "menu" t3 (l2.map (eP WO.sg)) wr4 wa5,rfl,rfl,fun g=>?_⟩
  ·exact Og (b1.map _) (by rw[a1];exact o1)
  ·rcases a2 k (b1.subset hk) with z | z
   ·exact o2 k z
   ·omega
  ·rw[sq e1,sq e2,sq e3,sq e4,sq e5]
 ·obtain⟨o1,on,o2,o3,o4⟩:=ok
  have hk:wt.length<=3:=by have:=o1.length_le;simpa [W8] using this
  obtain⟨l1,a1,a2,y1,e1⟩:=zZ RS cell s a to .no .no .no .no (fun w:W=>PV.str (mkS w)) "names" t wr wa wt (by omega);have hl1:l1.length<=20:=by have:=congrArg Lz a1;simp at this;omega
  have hn1:l1≠[]:=fun z=>by
   have:=congrArg Lz a1;rw[z] at this;simp at this;exact on (Lu this.symm)
  obtain⟨l2,b1,b2,y2,e2⟩:=zY RS cell s a to y1 .no .no .no (fun w:W=>PV.str (mkS w)) "names" t wr wa l1 hl1;obtain⟨t3,e3⟩:=zX RS cell s a to y2 .no .no .no "names" t wr wa (l2.map (eP fun w:W=>PV.str (mkS w)));obtain⟨wr4,c1,e4⟩:=zW RS cell s a to y2 .no .no .no "names" t3 wr wa (l2.map (eP fun w:W=>PV.str (mkS w))) o3;obtain⟨wa5,d1,e5⟩:=zV RS cell s a to y2 .no .no .no "names" t3 wr4 wa (l2.map (eP fun w:W=>PV.str (mkS w))) o4 ht;refine⟨.names t3 l2 wr4 wa5,.inr ⟨_,_,_,_,rfl⟩,⟨?_,b2 rfl hn1,fun k hk=>?_,c1,d1⟩,eY "names" t (wt.map (eP fun w:W=>PV.str (mkS w))) wr wa,y2,eY "names" t3 (l2.map (eP fun w:W=>PV.str (mkS w))) wr4 wa5,rfl,rfl,fun g=>?_⟩
  ·exact Og (b1.map _) (by rw[a1];exact o1)
  ·rcases a2 k (b1.subset hk) with z | z
   ·exact o2 k z
   ·omega
  ·rw[sq e1,sq e2,sq e3,sq e4,sq e5]
end
def Ed(R R':List PR)(k:Nat):Prop:=R'=R\/∃p,R'=R.set k p/\p.Ok/\(k≠3->∀sp l,p≠.hours sp l)
theorem Ed.plan{R R':List PR}{k:Nat}(P:PlanOk R)(h:Ed R R' k):PlanOk R':=by
 rcases h with rfl | ⟨p,rfl,ok,ht⟩
 ·exact P
 ·refine⟨by rw[Ol];exact P.len,fun q hq=>?_,fun j q hq h3 sp l e=>?_⟩
  ·obtain⟨j,hj⟩:=O1 hq
   rw[Nf] at hj;split at hj
   ·split at hj
    ·cases hj;exact ok
    ·cases hj
   ·exact P.ok q (LF hj)
  ·rw[Nf] at hq
   split at hq
   ·rename_i hkj
    split at hq
    ·cases hq;exact ht (by omega) sp l e
    ·cases hq
   ·exact P.oth j q hq h3 sp l e
abbrev pst(RS:PV)(cell:Int)(s a to:Nat)(Q:PV)(y6:Sl)(R:List PR)(x8 x9:Sl):PSt:=[.val RS,.val (.int cell),.val (.int s),.val (.int a),.val (.int to),.val Q,y6,.own (.lst (R.map PR.pv)),x8,x9]
theorem Gq(RS:PV)(cell:Int)(s a to:Nat)(Q:PV)(y6:Sl)(R:List PR)(x8 x9:Sl)(c:Int):bq (aj (ai 2) (kI c) gEq) (pst RS cell s a to Q y6 R x8 x9)=.ok (decide ((s:Int)=c)):=by
 have e:gEq (.int (s:Int)) (.int c)=some (.bl (decide ((s:Int)=c))):=by simp
 simp only[pst];generalize decide ((s:Int)=c)=b at *;generalize (s:Int)=S at *;generalize R.map PR.pv=RR at *;simp[e]
theorem rh(R:List PR)(k:Nat)(p:PR):(R.map PR.pv).set k p.pv=(R.set k p).map PR.pv:=by
 rw[List.map_set]
section
variable(cell : Int)(s a' to : Nat)(Q : PV)(y6 x8 x9 : Sl)(R : List PR)(hR : R.length = 6)(ht : to<6)
include hR ht
theorem BA(A B:PV)(t:Str)(wt:List (W×Nat))(wr wa:Int×Nat)(D E F:PV)(ok:(PR.names t wt wr wa).Ok):∃R' z8,Ed R R' 2/\Gx (pst (.lst [A,B,(PR.names t wt wr wa).pv,D,E,F]) cell s a' to Q y6 R x8 x9)=.ok (.next (pst (.lst [A,B,(PR.names t wt wr wa).pv,D,E,F]) cell s a' to Q y6 R' z8 x9)):=by
 have st:=Gq (.lst [A,B,(PR.names t wt wr wa).pv,D,E,F]) cell s a' to Q y6 R x8 x9 6
 by_cases c:s=6
 ·rw[decide_eq_true (by omega)] at st
  obtain⟨o1,on,o2,o3,o4⟩:=ok
  obtain⟨w0,wt,rfl⟩:∃w0 wt',wt=w0::wt':=by
   cases wt with
   | nil=>exact absurd rfl on
   | cons w wt=>exact⟨w,wt,rfl⟩
  have hk:wt.length<=3:=by have:=o1.length_le;simp[W8] at this;omega
  have i2:gIx (.lst [A,B,(PR.names t (w0::wt) wr wa).pv,D,E,F]) (.int 2)=some (PR.names t (w0::wt) wr wa).pv:=rfl;have g1:gIx (PR.names t (w0::wt) wr wa).pv (.int 1)=some (.str t):=rfl;have g2:gIx (PR.names t (w0::wt) wr wa).pv (.int 2)=some (.lst ((w0::wt).map wP)):=rfl;have g3:gIx (PR.names t (w0::wt) wr wa).pv (.int 3)=some (tP wr):=rfl;have g4:gIx (PR.names t (w0::wt) wr wa).pv (.int 4)=some (tP wa):=rfl;have h0:gIx (.lst ((w0::wt).map wP)) (.int 0)=some (wP w0):=bY (n:=0) rfl rfl;have h00:gIx (wP w0) (.int 0)=some (.str (mkS w0.1)):=rfl
  have sl:gSl (.lst ((w0::wt).map wP)) (some 1) none=some (.lst (wt.map wP)):=by
   show some (PV.lst (kJ ((w0::wt).map wP) (some 1) none))=_;rw[cut_1 _ (by simp)];rfl
  have ad:cj (.lst [.tup [.str (mkS w0.1),.int to]]) (.lst (wt.map wP))=some (.lst ([.tup [.str (mkS w0.1),.int to]]++wt.map wP)):=fF (by simp;omega);have ad:cj (.lst [.tup [.str (mkS w0.1),.int to]]) (.lst (wt.map wP))=some (.lst (((w0.1,to)::wt).map wP)):=ad;refine⟨R.set 2 (.names t ((w0.1,to)::wt) wr wa),.val (.lst (((w0.1,to)::wt).map wP)),.inr ⟨_,rfl,⟨o1,by simp,fun p hp=>?_,o3,o4⟩,fun _ _ _ e=>by cases e⟩,?_⟩
  ·rcases L4.mp hp with rfl | hp
   ·exact ht
   ·exact o2 p (by simp[hp])
  ·unfold Gx
   rw[xD st,sq (ρ1:=pst (.lst [A,B,(PR.names t (w0::wt) wr wa).pv,D,E,F]) cell s a' to Q y6 R (.val (.lst (((w0.1,to)::wt).map wP))) x9) (by
    simp only[pst];generalize PV.lst [A,B,(PR.names t (w0::wt) wr wa).pv,D,E,F]=RS at *;generalize (PR.names t (w0::wt) wr wa).pv=NP at *;generalize ((w0.1,to)::wt).map wP=W2 at *;generalize (w0::wt).map wP=W1 at *;generalize wt.map wP=W0 at *;generalize wP w0=X0 at *;generalize R.map PR.pv=RR at *;simp[i2,g2,h0,h00,sl,ad,kD]),iw (ps:=R.map PR.pv) (j:=2) (p:=(PR.names t ((w0.1,to)::wt) wr wa).pv) rfl (by
    show _=PU.R.ok (PV.lst [.str "names",.str t,.lst (((w0.1,to)::wt).map wP),tP wr,tP wa]);simp only[pst];generalize PV.lst [A,B,(PR.names t (w0::wt) wr wa).pv,D,E,F]=RS at *;generalize (PR.names t (w0::wt) wr wa).pv=NP at *;generalize ((w0.1,to)::wt).map wP=W2 at *;generalize R.map PR.pv=RR at *;generalize tP wr=T1 at *;generalize tP wa=T2 at *;simp[i2,g1,g3,g4]) rfl (by rw[KH];omega),rh]
   rfl
 ·rw[decide_eq_false (by omega)] at st
  exact⟨R,x8,.inl rfl,by unfold Gx;rw[uk st];rfl⟩
theorem Bz(A B C E F:PV)(sp:Int×Int×Nat)(l:Nat)(ok:(PR.hours [sp] l).Ok):∃R' z9,Ed R R' 3/\Gw (pst (.lst [A,B,C,(PR.hours [sp] l).pv,E,F]) cell s a' to Q y6 R x8 x9)=.ok (.next (pst (.lst [A,B,C,(PR.hours [sp] l).pv,E,F]) cell s a' to Q y6 R' x8 z9)):=by
 have st:=Gq (.lst [A,B,C,(PR.hours [sp] l).pv,E,F]) cell s a' to Q y6 R x8 x9 7
 by_cases c:s=7
 ·rw[decide_eq_true (by omega)] at st
  obtain⟨o1,o2,o3⟩:=ok;have i3:gIx (.lst [A,B,C,(PR.hours [sp] l).pv,E,F]) (.int 3)=some (PR.hours [sp] l).pv:=rfl;have g1:gIx (PR.hours [sp] l).pv (.int 1)=some (.lst [sP sp]):=rfl;have g2:gIx (PR.hours [sp] l).pv (.int 2)=some (.int l):=rfl;have h0:gIx (.lst [sP sp]) (.int 0)=some (sP sp):=rfl;have p0:gIx (sP sp) (.int 0)=some (.int sp.1):=rfl;have p1:gIx (sP sp) (.int 1)=some (.int sp.2.1):=rfl;have p2:gIx (sP sp) (.int 2)=some (.int sp.2.2):=rfl;have dv:ki (.int cell) (.int 22)=some (.int (cell / 22)):=mH (by decide);have md:bz (.int (cell / 22)) (.int 2)=some (.int (cell / 22 % 2)):=dH (by decide);have sb:um (.int sp.2.1) (.int 1)=some (.int (sp.2.1-1)):=rfl;refine⟨R.set 3 (.hours [(sp.1,sp.2.1-1+cell / 22 % 2,sp.2.2)] l),.val (sP sp),.inr ⟨_,rfl,⟨o1,fun x hx=>?_,by simp⟩,fun h=>absurd rfl h⟩,?_⟩
  ·rw[Ky.mp hx]
   exact o2 sp (by simp)
  ·unfold Gw
   rw[xD st,sq (ρ1:=pst (.lst [A,B,C,(PR.hours [sp] l).pv,E,F]) cell s a' to Q y6 R x8 (.val (sP sp))) (by
    simp only[pst];generalize PV.lst [A,B,C,(PR.hours [sp] l).pv,E,F]=RS at *;generalize (PR.hours [sp] l).pv=NP at *;generalize R.map PR.pv=RR at *;generalize PV.lst [sP sp]=LL at *;generalize sP sp=SS at *;simp[i3,g1,h0]),iw (ps:=R.map PR.pv) (j:=3) (p:=(PR.hours [(sp.1,sp.2.1-1+cell / 22 % 2,sp.2.2)] l).pv) rfl (by
    show _=PU.R.ok (PV.lst [.str "hours",.lst [.tup [.int sp.1,.int (sp.2.1-1+cell / 22 % 2),.int sp.2.2]],.int l]);simp only[pst];generalize PV.lst [A,B,C,(PR.hours [sp] l).pv,E,F]=RS at *;generalize (PR.hours [sp] l).pv=NP at *;generalize R.map PR.pv=RR at *;generalize sP sp=SS at *;simp[i3,g2,p0,p1,p2,dv,md,sb]) rfl (by rw[KH];omega),rh]
   rfl
 ·rw[decide_eq_false (by omega)] at st
  exact⟨R,x9,.inl rfl,by unfold Gw;rw[uk st];rfl⟩
theorem By(A B C D:PV)(e f:PR)(he:∃x,e=.hand x\/e=.fin x)(hf:∃x,f=.hand x\/f=.fin x):∃R',Ed R R' 4/\Gv (pst (.lst [A,B,C,D,e.pv,f.pv]) cell s a' to Q y6 R x8 x9)=.ok (.next (pst (.lst [A,B,C,D,e.pv,f.pv]) cell s a' to Q y6 R' x8 x9)):=by
 have st:=Gq (.lst [A,B,C,D,e.pv,f.pv]) cell s a' to Q y6 R x8 x9 9
 by_cases c:s=9
 ·rw[decide_eq_true (by omega)] at st
  have txt:∀e:PR,(∃x,e=.hand x\/e=.fin x)->∃x,gIx e.pv (.int 1)=some (.str x):=fun e ⟨x,h⟩=>by
   rcases h with rfl | rfl <;> exact⟨x,rfl⟩
  have dv:ki (.int (to:Int)) (.int 2)=some (.int ((to:Int) / 2)):=mH (by decide);have md:∀z:Int,bz (.int z) (.int 2)=some (.int (z % 2)):=fun z=>dH (by decide)
  obtain⟨PX,x,ix,gx⟩:∃PX x,gIx (.lst [A,B,C,D,e.pv,f.pv]) (.int (4+(to:Int) / 2 % 2))=some PX/\gIx PX (.int 1)=some (.str x):=by
   obtain⟨k,hk,hk2⟩:∃k:Nat,(to:Int) / 2 % 2=(k:Int)/\k<2:=⟨((to:Int) / 2 % 2).toNat,by omega,by omega⟩;rw[hk];obtain⟨x1,e1⟩:=txt e he;obtain⟨x2,e2⟩:=txt f hf
   match k,hk2 with
   | 0,_=>exact⟨e.pv,x1,rfl,e1⟩
   | 1,_=>exact⟨f.pv,x2,rfl,e2⟩
  obtain⟨p',okp,hp',kd,pe,ek⟩:∃p':PR,p'.Ok/\(∀sp l,p'≠.hours sp l)/\∃kd:Str,p'.pv=.lst [.str kd,.str x]/\atI [PV.str "end",.str "hand"] ((to:Int) % 2)=some (.str kd):=by
   obtain⟨k,hk,hk2⟩:∃k:Nat,(to:Int) % 2=(k:Int)/\k<2:=⟨((to:Int) % 2).toNat,by omega,by omega⟩;rw[hk]
   match k,hk2 with
   | 0,_=>exact⟨.fin x,trivial,fun _ _ e=>(by cases e),"end",rfl,bY (n:=0) rfl rfl⟩
   | 1,_=>exact⟨.hand x,trivial,fun _ _ e=>(by cases e),"hand",rfl,bY (n:=1) rfl rfl⟩
  refine⟨R.set 4 p',.inr ⟨_,rfl,okp,fun _=>hp'⟩,?_⟩;unfold Gv
  rw[xD st,iw (ps:=R.map PR.pv) (j:=4) (p:=p'.pv) rfl (by
   rw[pe];simp only[pst];generalize PV.lst [A,B,C,D,e.pv,f.pv]=RS at *;generalize R.map PR.pv=RR at *;generalize (to:Int)=T at *;simp[dv,md,ix,gx,ek]) rfl (by rw[KH];omega),rh]
  rfl
 ·rw[decide_eq_false (by omega)] at st
  exact⟨R,.inl rfl,by unfold Gv;rw[uk st];rfl⟩
theorem Bx(A:PV)(b:PR)(mb:MN b)(okb:b.Ok)(C D E F:PV):∃R',Ed R R' 1/\Gu (pst (.lst [A,b.pv,C,D,E,F]) cell s a' to Q y6 R x8 x9)=.ok (.next (pst (.lst [A,b.pv,C,D,E,F]) cell s a' to Q y6 R' x8 x9)):=by
 have st:=Gq (.lst [A,b.pv,C,D,E,F]) cell s a' to Q y6 R x8 x9 10
 by_cases c:s=10
 ·rw[decide_eq_true (by omega)] at st
  obtain⟨t,wr,wa,g1,g3,g4,lr,la⟩:∃t wr wa,gIx b.pv (.int 1)=some (.str t)/\gIx b.pv (.int 3)=some (tP wr)/\gIx b.pv (.int 4)=some (tP wa)/\Lim wr/\Lim wa:=by
   rcases mb with⟨t,kt,wr,wa,rfl⟩|⟨t,wt,wr,wa,rfl⟩
   ·exact⟨t,wr,wa,rfl,rfl,rfl,okb.2.2.1,okb.2.2.2⟩
   ·exact⟨t,wr,wa,rfl,rfl,rfl,okb.2.2.2.1,okb.2.2.2.2⟩
  have i1:gIx (.lst [A,b.pv,C,D,E,F]) (.int 1)=some b.pv:=rfl;have ee:(KI "lee")=mkS [108,101,101]:=by decide +kernel
  refine⟨R.set 1 (.names t [([108,101,101],to)] wr wa),.inr ⟨_,rfl,⟨(by decide +kernel:ME [[108,101,101]] W8),by simp,fun p hp=>by rw[Ky.mp hp];exact ht,lr,la⟩,fun _ _ _ e=>by cases e⟩,?_⟩;unfold Gu
  rw[xD st,iw (ps:=R.map PR.pv) (j:=1) (p:=(PR.names t [([108,101,101],to)] wr wa).pv) rfl (by
   show _=PU.R.ok (PV.lst [.str "names",.str t,.lst [.tup [.str (mkS [108,101,101]),.int to]],tP wr,tP wa]);rw[← ee];simp only[pst];generalize PV.lst [A,b.pv,C,D,E,F]=RS at *;generalize b.pv=BP at *;generalize R.map PR.pv=RR at *;generalize tP wr=T1 at *;generalize tP wa=T2 at *;simp[i1,g1,g3,g4]) rfl (by rw[KH];omega),rh]
  rfl
 ·rw[decide_eq_false (by omega)] at st
  exact⟨R,.inl rfl,by unfold Gu;rw[uk st];rfl⟩
end
theorem yu(rs:List PR)(P:Plan6 rs)(cell:Int):∃rs',PlanOk rs'/\gf [.lst (rs.map PR.pv),.int cell]=some (.lst (rs'.map PR.pv)):=by
 have P0:=P.plan;obtain⟨a,b,t,wt,wr,wa,s,l,e,f,hrs,ma,mb,he,hf⟩:=P.ex;have oka:a.Ok:=P.ok a (by rw[hrs];simp);have okb:b.Ok:=P.ok b (by rw[hrs];simp);have okc:(PR.names t wt wr wa).Ok:=P.ok _ (by rw[hrs];simp);have okd:(PR.hours [s] l).Ok:=P.ok _ (by rw[hrs];simp);obtain⟨s',es,_⟩:∃k:Nat,cell % 11=(k:Int)/\k<11:=⟨(cell % 11).toNat,by omega,by omega⟩;obtain⟨at_,ea,ha2⟩:∃k:Nat,cell / 11 % 2=(k:Int)/\k<2:=⟨(cell / 11 % 2).toNat,by omega,by omega⟩;obtain⟨to,et,ht⟩:=m6 (cell / 22);have d1:bz (.int cell) (.int 11)=some (.int (s':Int)):=by rw[dH (by decide),es]
 have d2:ki (.int cell) (.int 11)=some (.int (cell / 11)):=mH (by decide);have d3:bz (.int (cell / 11)) (.int 2)=some (.int (at_:Int)):=by rw[dH (by decide),ea]
 have d4:ki (.int cell) (.int 22)=some (.int (cell / 22)):=mH (by decide);have d5:bz (.int (cell / 22)) (.int 6)=some (.int (to:Int)):=by rw[dH (by decide),et]
 obtain⟨p,mp,okp,hp⟩:∃p,MN p/\p.Ok/\rs[at_]?=some p:=by
  rw[hrs]
  match at_,ha2 with
  | 0,_=>exact⟨a,ma,oka,rfl⟩
  | 1,_=>exact⟨b,mb,okb,rfl⟩
 obtain⟨q,mq,okq,PP,y6,QQ,pp,pq,h59⟩:=Ho (.lst (rs.map PR.pv)) cell s' at_ to p mp okp ht;have ix:gIx (.lst (rs.map PR.pv)) (.int (at_:Int))=some p.pv:=bY (n:=at_) rfl (by rw[L3,hp];rfl);have la:nA (.lst PP)=some (.lst PP):=rfl;rw[pp] at ix;have E1:Ed rs (rs.set at_ q) at_:=.inr ⟨q,rfl,okq,fun _=>HL mq⟩
 have s1:gSl (.lst (rs.map PR.pv)) none (some (at_:Int))=some (.lst ((rs.take at_).map PR.pv)):=by
  show some (PV.lst (kJ (rs.map PR.pv) none (some (at_:Int))))=_;rw[ze _ at_ (by rw[KH,P0.len];omega),QU]
 have s2:gSl (.lst (rs.map PR.pv)) (some ((at_:Int)+1)) none=some (.lst ((rs.drop (at_+1)).map PR.pv)):=by
  show some (PV.lst (kJ (rs.map PR.pv) (some ((at_:Int)+1)) none))=_;rw[Cr _ at_ (by rw[KH,P0.len];omega),QV]
 have len:=P0.len;have a1:cj (.lst ((rs.take at_).map PR.pv)) (.lst [.lst QQ])=some (.lst ((rs.take at_).map PR.pv++[.lst QQ])):=fF (by simp;omega);have a2:CZ (.lst ((rs.take at_).map PR.pv++[.lst QQ])) (.lst ((rs.drop (at_+1)).map PR.pv))=some (.lst ((rs.take at_).map PR.pv++[.lst QQ]++(rs.drop (at_+1)).map PR.pv)):=if_pos (by simp;omega)
 have a3:(rs.take at_).map PR.pv++[.lst QQ]++(rs.drop (at_+1)).map PR.pv=(rs.set at_ q).map PR.pv:=by
  rw[← pq,List.set_eq_take_append_cons_drop,if_pos (by omega),L8,KG,N1];rfl
 rw[a3] at a2;have L1:(rs.set at_ q).length=6:=by rw[Ol];exact len
 have RS:rs.map PR.pv=[a.pv,b.pv,(PR.names t wt wr wa).pv,(PR.hours [s] l).pv,e.pv,f.pv]:=by rw[hrs];rfl
 obtain⟨R2,z8,e2,h11⟩:=BA cell s' at_ to (.lst QQ) y6 .no .no (rs.set at_ q) L1 ht a.pv b.pv t wt wr wa (PR.hours [s] l).pv e.pv f.pv okc;have P2:=e2.plan (E1.plan P0);obtain⟨R3,z9,e3,h12⟩:=Bz cell s' at_ to (.lst QQ) y6 z8 .no R2 P2.len ht a.pv b.pv (PR.names t wt wr wa).pv e.pv f.pv s l okd;have P3:=e3.plan P2;obtain⟨R4,e4,h13⟩:=By cell s' at_ to (.lst QQ) y6 z8 z9 R3 P3.len ht a.pv b.pv (PR.names t wt wr wa).pv (PR.hours [s] l).pv e f he hf;have P4:=e4.plan P3;obtain⟨R5,e5,h14⟩:=Bx cell s' at_ to (.lst QQ) y6 z8 z9 R4 P4.len ht a.pv b mb okb (PR.names t wt wr wa).pv (PR.hours [s] l).pv e.pv f.pv;rw[← RS] at h11 h12 h13 h14;refine⟨R5,e5.plan P4,aG rfl ?_⟩;rw[jT]
 rw[sq (ρ1:=[.val (.lst (rs.map PR.pv)),.val (.int cell),.val (.int (s':Int)),.no,.no,.no,.no,.no,.no,.no]) (by
  generalize rs.map PR.pv=RR at *;simp[ot1,PU.start,d1]),sq (ρ1:=[.val (.lst (rs.map PR.pv)),.val (.int cell),.val (.int (s':Int)),.val (.int (at_:Int)),.no,.no,.no,.no,.no,.no]) (by
  generalize rs.map PR.pv=RR at *;simp[ot2,d2,d3]),sq (ρ1:=[.val (.lst (rs.map PR.pv)),.val (.int cell),.val (.int (s':Int)),.val (.int (at_:Int)),.val (.int (to:Int)),.no,.no,.no,.no,.no]) (by
  generalize rs.map PR.pv=RR at *;simp[ot3,d4,d5]),sq (ρ1:=ost (.lst (rs.map PR.pv)) cell s' at_ to PP .no .no .no .no) (by
  simp only[ost];generalize rs.map PR.pv=RR at *;simp[ot4,ix,la]),h59,sq (ρ1:=pst (.lst (rs.map PR.pv)) cell s' at_ to (.lst QQ) y6 (rs.set at_ q) .no .no) (by
  simp only[ost,pst];generalize (rs.set at_ q).map PR.pv=R1 at *;generalize (rs.take at_).map PR.pv++[PV.lst QQ]=RT1 at *;generalize (rs.take at_).map PR.pv=RT at *;generalize (rs.drop (at_+1)).map PR.pv=RD at *;generalize rs.map PR.pv=RR at *;simp[J4,s1,s2,a1,a2,kD]),sq h11,sq h12,sq h13,sq h14]
 simp only[pst];generalize rs.map PR.pv=RR at *;generalize R5.map PR.pv=R5' at *;simp[J3]
theorem rE(L:List (BF.Row P2)):dw [.lst (L.map bR)]=some (.bl true):=by
 obtain⟨ρ',f1,_⟩:=forM (enc:=bR) (xs:=L) (h:=az 1) (g:=dF) (ρ:=[.val (.lst (L.map bR)),.no])
  (I:=fun _ ρ=>∃a,ρ=[.val (.lst (L.map bR)),a]) ⟨_,rfl⟩ (by
   rintro pre p post ρ hx ⟨a,rfl⟩;have g1:sj "tuple" (bR p)=some (.bl true):=rfl;have g2:gT (bR p)=some (.int 3):=rfl;have g3:gIx (bR p) (.int 2)=some (.str (bF p.2)):=rfl;have g4:sj "str" (.str (bF p.2))=some (.bl true):=rfl;have g5:gNe (.int 3) (.int 3)=some (.bl false):=rfl;refine⟨[.val (.lst (L.map bR)),.val (bR p)],[.val (.lst (L.map bR)),.val (bR p)],rfl,.inl ?_,_,rfl⟩;generalize bR p=T at *;generalize L.map bR=LT at *;generalize bF p.2=RR at *;simp[dF,g1,g2,g3,g4,g5])
 have g0:sj "list" (.lst (L.map bR))=some (.bl true):=rfl;have it:f6 (.lst (L.map bR))=some (L.map bR):=rfl;refine aG rfl ?_;generalize L.map bR=LT at *;simp[eS,PU.start,g0,it];rw[f1];simp
theorem H8 (s t:St):gEq (.lst [.tup [s.pv,t.pv,.str ""]]) (.lst [.tup [s.pv,t.pv,.str ""]])=some (.bl true):=by
 have q:gEq (.lst [.tup [s.pv,t.pv,.str ""]]) (.lst [.tup [s.pv,t.pv,.str ""]])=if dN [.tup [s.pv,t.pv,.str ""]]<=60 then (di [.tup [s.pv,t.pv,.str ""]] [.tup [s.pv,t.pv,.str ""]]).map .bl else none:=rfl
 rw[q,if_pos (by simp[St.pv,sT,va,dN]),gI _ (by simp[St.pv,sT,flat,qF])];rfl
theorem He{H G:PV}{hour:Int}(M:Mach H hour)(N:Mach G hour):∀(r:List Nat)(s:P2),BF.run (bT M N) s r=(r.foldl M.lead s.1,r.foldl N.lead s.2)
 | [],_=>rfl
 | i::r,s=>He M N r (bT M N s i)
section
variable{H G : PV}{hour : Int}(M : Mach H hour)(N : Mach G hour)
theorem DH{found L:List (BF.Row P2)}{ro:Option (List Nat)}(I:BF.Inv (bT M N) (M.s0,N.s0) found)(hs:∃tl,found=L++tl)(nl:BF.NL (dj M N) L)(ah:∀p∈L,Ah ro p.2)(cl:∀p∈L,∀i<13,Ah ro (p.2++[i])->BF.Cl (bT M N) L p i)(hro:∀t,ro=some t->(∀i∈t,i<13)/\t.length<=3415104):Sh M N L ro:=by
 obtain⟨tl,rfl⟩:=hs;obtain⟨k1,k2⟩:=kh M N _ ⟨M.ok0,N.ok0⟩ I;have sub:∀p∈L,p∈L++tl:=fun p hp=>N5 _ hp;rw[L0] at k2;refine⟨?_,?_,fun p hp=>?_,fun p hp=>I.rng p (sub p hp),fun p hp=>k1 p (sub p hp),by omega,fun p hp=>?_,fun p hp=>?_,ah,cl,hro⟩
 ·have:=I.nd
  rw[L8,M6] at this;exact this.1
 ·have:=I.srt
  rw[Nz] at this;exact this.1
 ·have:=I.run p (sub p hp)
  rw[He] at this;rw[← this];exact⟨rfl,rfl⟩
 ·obtain⟨j,hj⟩:=O1 (sub p hp)
  have h1:=I.len j p hj;have h2:=(KN.mp hj).1;rw[L0] at h2;omega
 ·have:=nl p hp
  unfold dj at this;simpa using this
end
theorem yA(ns:List Int):wH [.lst (ns.map .int)]=some (.bl true):=by
 refine aG rfl ?_;have cc:∀k:Nat,ax [PV.lst (ns.map PV.int),PV.int k]=some (PV.int (ns.getD k 0)):=oy ns;have c0:ax [PV.lst (ns.map PV.int),PV.int 0]=_:=cc 0;have c4:ax [PV.lst (ns.map PV.int),PV.int 4]=_:=cc 4;have c5:ax [PV.lst (ns.map PV.int),PV.int 5]=_:=cc 5;have c6:ax [PV.lst (ns.map PV.int),PV.int 6]=_:=cc 6;have c7:ax [PV.lst (ns.map PV.int),PV.int 7]=_:=cc 7;generalize ns.getD 0 0=z0 at c0;generalize ns.getD 4 0=z4 at c4;generalize ns.getD 5 0=z5 at c5;generalize ns.getD 6 0=z6 at c6;generalize ns.getD 7 0=z7 at c7;clear cc;have m24:bz (.int z7) (.int 24)=some (.int (z7 % 24)):=dH (by decide);generalize z7 % 24=hour at m24;obtain⟨fst,ef,hfst⟩:=m6 z5;have mf:bz (.int z5) (.int 6)=some (.int (fst:Int)):=by rw[dH (by decide),ef]
 have m11:bz (.int z6) (.int 11)=some (.int (z6 % 11)):=dH (by decide);obtain⟨tu,etu⟩:∃tu:Bool,gEq (.int (z6 % 11)) (.int 8)=some (.bl tu):=⟨decide (z6 % 11=8),by simp⟩;obtain⟨nms,a1,a2,a3,en⟩:=names z0;obtain⟨mms,b1,b2,b3,em⟩:=names z4;obtain⟨rs,P,epl⟩:=Bp ns;obtain⟨rs',P',eot⟩:=yu rs P z6;obtain⟨X1,h1,ord1,hg1,eh1⟩:=Fi rs P.plan nms a1 a2 a3 fst hfst false;obtain⟨X2,h2,ord2,hg2,eh2⟩:=Fi rs' P' mms b1 b2 b3 fst hfst tu;obtain⟨M⟩:=@vj X1 h1 nms ord1 hg1 hour;obtain⟨N⟩:=@vj X2 h2 mms ord2 hg2 hour;have eb1:=M.eb;have eb2:=N.eb;have ng:oF (.int 1)=some (.int (-1)):=rfl
 have first:∀{found:List (BF.Row P2)},BF.Inv (bT M N) (M.s0,N.s0) found->∀L tl,found=L++tl->L≠[]->gSl (.lst (L.map bR)) none (some 1)=some (.lst [.tup [M.s0.pv,N.s0.pv,.str ""]]):=fun {found} I L tl e hne=>by
  obtain⟨tl',e'⟩:=I.h0;cases L with
  | nil=>exact absurd rfl hne
  | cons p L=>
   rw[e] at e';injection e' with e1 e2;show some (PV.lst (kJ ((p::L).map bR) none (some ((1:Nat):Int))))=_;rw[ze _ 1 (by simp),e1];rfl
 have qs:=H8 M.s0 N.s0;obtain⟨found,I,hcmp⟩:=tZ M N;rcases hcmp with⟨W,ec⟩|⟨init,fin,rfl,S,ec⟩
 ·have sh:Sh M N found none:=DH M N I ⟨[],by simp⟩ W.1 (fun p _ t e=>by cases e) (fun p hp i hi _=>W.2 p hp i hi) (fun t e=>by cases e)
  have shw:cY [h1.pv,h2.pv,.int hour,.lst (found.map bR),.non]=some (.bl true):=qX M N sh;have hne:found≠[]:=by obtain⟨tl,e⟩:=I.h0;rw[e];simp
  have s1:=first I found [] (by simp) hne;have pr:=rE found;have g0:gIx (.tup [.str "alike",.lst (found.map bR)]) (.int 0)=some (.str "alike"):=rfl;have g1:gIx (.tup [.str "alike",.lst (found.map bR)]) (.int 1)=some (.lst (found.map bR)):=rfl;have gm:gIx (.tup [.str "alike",.lst (found.map bR)]) (.int (-1))=some (.lst (found.map bR)):=rfl;have gt:sj "tuple" (.tup [.str "alike",.lst (found.map bR)])=some (.bl true):=rfl;have gl:gT (.tup [.str "alike",.lst (found.map bR)])=some (.int 2):=rfl;have q2:gEq (.int 2) (.int 2)=some (.bl true):=rfl;have qa:gEq (.str "alike") (.str "alike")=some (.bl true):=by rw[hJ,decide_eq_true rfl]
  generalize PV.tup [.str "alike",.lst (found.map bR)]=T1 at *;generalize found.map bR=FT at *;generalize M.s0.pv=S1 at *;generalize N.s0.pv=S2 at *;generalize rs.map PR.pv=R1 at *;generalize rs'.map PR.pv=R2 at *;generalize ns.map PV.int=NS at *;generalize nms.map PV.str=NM1 at *;generalize mms.map PV.str=NM2 at *;generalize h1.pv=H at *;generalize h2.pv=G at *;simp[tM,PU.start,epl,c0,c4,c5,c6,c7,en,em,mf,eh1,eot,m11,etu,eh2,m24,ec,eb1,eb2,gt,ng,gm,pr,g0,qa,gl,q2,g1,s1,qs,shw,kD]
 ·have fm:fin∈init++[fin]:=by simp
  have srt:=I.srt;rw[Nz] at srt
  have flen:fin.2.length<=3415104:=by
   have h1:=I.len init.length fin (by simp);have h2:=(kh M N _ ⟨M.ok0,N.ok0⟩ I).2;rw[L0,Lv] at h2;omega
  have ahp:∀p∈init,BF.lt p.2 fin.2:=fun p hp=>srt.2.2 p hp fin (by simp);have sh:Sh M N init (some fin.2):=DH M N I ⟨[fin],rfl⟩ S.2.1 (fun p hp t e=>by cases e;exact ahp p hp) (fun p hp i hi ha=>S.2.2 p hp i hi (ha _ rfl)) (fun t e=>by cases e;exact⟨I.rng fin fm,flen⟩);have shw:cY [h1.pv,h2.pv,.int hour,.lst (init.map bR),.str (bF fin.2)]=some (.bl true):=qX M N sh;have pr:=rE init;have g0:gIx (.tup [.str "apart",.str (bF fin.2),.lst (init.map bR)]) (.int 0)=some (.str "apart"):=rfl;have g1:gIx (.tup [.str "apart",.str (bF fin.2),.lst (init.map bR)]) (.int 1)=some (.str (bF fin.2)):=rfl;have g2:gIx (.tup [.str "apart",.str (bF fin.2),.lst (init.map bR)]) (.int 2)=some (.lst (init.map bR)):=rfl;have gm:gIx (.tup [.str "apart",.str (bF fin.2),.lst (init.map bR)]) (.int (-1))=some (.lst (init.map bR)):=rfl;have gt:sj "tuple" (.tup [.str "apart",.str (bF fin.2),.lst (init.map bR)])=some (.bl true):=rfl;have gs:sj "str" (.str (bF fin.2))=some (.bl true):=rfl;have gl:gT (.tup [.str "apart",.str (bF fin.2),.lst (init.map bR)])=some (.int 3):=rfl;have n3:gNe (.int 3) (.int 3)=some (.bl false):=rfl;have qa:gEq (.str "apart") (.str "alike")=some (.bl false):=by rw[hJ,decide_eq_false (by decide +kernel)]
  have na:gNe (.str "apart") (.str "apart")=some (.bl false):=by kernel_rfl
  obtain⟨W1,f1,f2⟩:=su M fin.2 (by omega);obtain⟨W2,f3,f4⟩:=su N fin.2 (by omega);have okf:=(kh M N _ ⟨M.ok0,N.ok0⟩ I).1 fin fm;have rf:=I.run fin fm;rw[He] at rf;have r1:fin.2.foldl M.lead M.s0=fin.1.1:=by rw[← rf]
  have r2:fin.2.foldl N.lead N.s0=fin.1.2:=by rw[← rf]
  rw[r1] at f2;rw[r2] at f4;have hd1:=M.hrd _ okf.1;have hd2:=N.hrd _ okf.2;have qn:=(HK (M.hp fin.1.1) (N.hp fin.1.2)).2
  have dn:¬ M.hp fin.1.1=N.hp fin.1.2:=by
   have:=S.1;unfold dj at this;simpa using this
  rw[decide_eq_false dn] at qn;have qe:gEq (.str (bF fin.2)) (.str "")=some (.bl (decide (fin.2.map cd=[]))):=HM (fin.2.map cd) []
  by_cases e0:fin.2=[]
  ·have i0:init=[]:=by
    cases init with
    | nil=>rfl
    | cons p init=>
     have:=ahp p (by simp);rw[e0] at this;exact(BF.lt_nil this).elim
   have qe:gEq (.str (bF fin.2)) (.str "")=some (.bl true):=by rw[qe,e0];rfl
   have qz:gEq (.lst (init.map bR)) (.lst [])=some (.bl true):=by rw[i0];rfl
   clear first shw;generalize PV.tup [.str "apart",.str (bF fin.2),.lst (init.map bR)]=T1 at *;generalize hE (M.hp fin.1.1)=E1 at *;generalize hE (N.hp fin.1.2)=E2 at *;generalize bF fin.2=RF at *;generalize init.map bR=FT at *;generalize fin.1.1.pv=F1' at *;generalize fin.1.2.pv=F2' at *;generalize M.s0.pv=S1 at *;generalize N.s0.pv=S2 at *;generalize rs.map PR.pv=R1 at *;generalize rs'.map PR.pv=R2 at *;generalize ns.map PV.int=NS at *;generalize nms.map PV.str=NM1 at *;generalize mms.map PV.str=NM2 at *;generalize h1.pv=H at *;generalize h2.pv=G at *;simp[tM,PU.start,epl,c0,c4,c5,c6,c7,en,em,mf,eh1,eot,m11,etu,eh2,m24,ec,eb1,eb2,gt,ng,gm,pr,g0,qa,na,gl,n3,g1,gs,f1,f2,f3,f4,hd1,hd2,qn,qe,g2,qz]
  ·have hne:init≠[]:=fun e=>by
    obtain⟨tl,h⟩:=I.h0;rw[e] at h;injection h with h _;exact e0 (by rw[h])
   have s1:=first I init [fin] rfl hne;have qe:gEq (.str (bF fin.2)) (.str "")=some (.bl false):=by rw[qe,decide_eq_false (by simpa using e0)]
   clear first;generalize PV.tup [.str "apart",.str (bF fin.2),.lst (init.map bR)]=T1 at *;generalize hE (M.hp fin.1.1)=E1 at *;generalize hE (N.hp fin.1.2)=E2 at *;generalize bF fin.2=RF at *;generalize init.map bR=FT at *;generalize fin.1.1.pv=F1' at *;generalize fin.1.2.pv=F2' at *;generalize M.s0.pv=S1 at *;generalize N.s0.pv=S2 at *;generalize rs.map PR.pv=R1 at *;generalize rs'.map PR.pv=R2 at *;generalize ns.map PV.int=NS at *;generalize nms.map PV.str=NM1 at *;generalize mms.map PV.str=NM2 at *;generalize h1.pv=H at *;generalize h2.pv=G at *;simp[tM,PU.start,epl,c0,c4,c5,c6,c7,en,em,mf,eh1,eot,m11,etu,eh2,m24,ec,eb1,eb2,gt,ng,gm,pr,g0,qa,na,gl,n3,g1,gs,f1,f2,f3,f4,hd1,hd2,qn,qe,g2,s1,qs,shw,kD]
end K38
namespace K38
open PySem PySem.Spec PyProof.Rows L2 PU
seal EV EO EN EA ET EW SV SVs TGt CI TCt CJ EI ETs ED EOI ELF EVF ENF ETF SVF
def top(i:Nat):Stmt:=Lf.main.body.getD i (.Pass ⟨0,0,0,0⟩)
structure Txt(w:LI)(K:KA)(mg:Str->Option KB):Prop where
 n_dict:mg "dict"=none
 n_enumerate:mg "enumerate"=none
 n_int:mg "int"=none
 n_isinstance:mg "isinstance"=none
 n_len:mg "len"=none
 n_list:mg "list"=none
 n_range:mg "range"=none
 n_str:mg "str"=none
 n_tuple:mg "tuple"=none
 n_zip:mg "zip"=none
 c_CODE_END:@Con (tw w) K mg "CODE_END" c_CODE_END
 c_HEARD:@Con (tw w) K mg "HEARD" c_HEARD
 c_SIGNS:@Con (tw w) K mg "SIGNS" c_SIGNS
 c_WAIT:@Con (tw w) K mg "WAIT" c_WAIT
end K38
namespace K38
open PySem PySem.Spec PyProof.Rows L2 PU
seal EV EO EN EA ET EW SV SVs TGt CI TCt CJ EI ETs ED EOI ELF EVF ENF ETF SVF
variable{P : L6}{w : LI}{K : KA}{mg : Str → Option KB}{base : Heap}
abbrev fT:Stmt:=top 33
theorem bt:FnScope ["_law_cell","_law_many","_law_found","_law_number","_law_k"] ["_law_cell","_law_many"] (ar fT):=fsc
theorem bK (T:Txt w K mg) (hs:Hs K mg "_law_numbers" fT):@PF (tw w) P w K mg base 1 "_law_numbers" aV:=
 letI:TW:=tw w
 iO (g:=eB) hs bt fun _ _ _ _ _ _ _ hr=>have hu:=hr.units;(af (f7 2 bt.nd (aZ ak)) (af (aN 3 bt.nd (av oa (aw 0) ae)) (af (bO (aQ (i6 hu) b9 (EV.o (av bG (aw 0) ae)) ae) (af (d8 (gW rfl T.n_range (aA 1)) (aX 4 bt.nd) (af (dI 2 (av bG (aw 3) ae)) (aq (aN 3 bt.nd (av oa (aw 3) ae))))) (aq (SV.frz 2 (aE (aA 2))))) aJ) (af (aN 3 bt.nd (av bG (aw 3) ae)) (af (d8 (gW rfl T.n_range (av cB (aw 1) ae)) (aX 4 bt.nd) (af (aN 3 bt.nd (av bG (EV.o (av yv (EV.o (av cB (EV.o (av cB (aw 3) (aw 4))) ae)) ae)) ae)) (aq (dI 2 (av bG (EV.o (av yv (aw 3) ae)) ae))))) (aq (aE (cD (kH 2) (c8 aI) c9))))))))
abbrev jI:Stmt:=top 35
theorem eM:FnScope ["_law_text","_law_cell","_law_some","_law_keys","_law_k","_law_key_here"] ["_law_text","_law_cell"] (ar jI):=fsc
theorem fX (T:Txt w K mg) (hs:Hs K mg "_law_menu" jI) (bK:@PF (tw w) P w K mg base 1 "_law_numbers" aV):@PF (tw w) P w K mg base 2 "_law_menu" dD:=
 letI:TW:=tw w
 iO (g:=jU) hs eM fun _ _ _ _ _ _ _ hr=>have hu:=hr.units;(af (aN 2 eM.nd (au bK hr (aa (aA 1) (aa aI ak)))) (af (f7 3 eM.nd (aZ ak)) (af (d8 (wO rfl T.n_enumerate aC) (lj rfl (bD (aX 4 eM.nd) (bD (aX 5 eM.nd) iE))) (aq (bO (aQ (i6 hu) b9 (EV.o (av bG (EV.o (ao (ixP hu) (aw 2) (aw 4))) ae)) ae) (aq (dI 3 (aR (aa (aA 5) (aa (av bG (EV.o (ao (ixP hu) (aw 2) (EV.o (av cB (aw 4) ae)))) ae) ak))))) aJ))) (aq (SV.frz 3 (aE (EN.v (aZ (aa aC (aa (aA 0) (aa (aA 3) (aa (aR (aa (av cB ae (EV.o (av bG (EV.o (ao (ixP hu) (aw 2) ae)) ae))) (aa (av bG (EV.o (ao (ixP hu) (aw 2) ae)) ae) ak))) (aa (aR (aa (av cB ae (EV.o (av bG (EV.o (ao (ixP hu) (aw 2) ae)) ae))) (aa (av bG (EV.o (ao (ixP hu) (aw 2) ae)) ae) ak))) ak)))))))))))))
abbrev fU:Stmt:=top 32
theorem mI:FnScope ["_law_script","_law_k"] ["_law_script","_law_k"] (ar fU):=fsc
theorem aU (T:Txt w K mg) (hs:Hs K mg "_law_cell_at" fU):@PF (tw w) P w K mg base 1 "_law_cell_at" ax:=
 letI:TW:=tw w
 iO (g:=eC) hs mI fun _ _ _ _ _ _ _ hr=>have hu:=hr.units;(af (bO (aQ Hy qA (aw 1) (EV.o (jW u5 rfl T.n_len rfl (aw 0)))) (aq (aE (ao (ixP hu) (aw 0) (aw 1)))) aJ) (aq (aE aI)))
abbrev jH:Stmt:=top 36
theorem dA:FnScope ["_law_script","_law_rooms","_law_some","_law_words","_law_span"] ["_law_script"] (ar jH):=fsc
theorem iN (T:Txt w K mg) (hs:Hs K mg "_law_plan" jH) (fX:@PF (tw w) P w K mg base 2 "_law_menu" dD) (aU:@PF (tw w) P w K mg base 1 "_law_cell_at" ax) (bK:@PF (tw w) P w K mg base 1 "_law_numbers" aV):@PF (tw w) P w K mg base 3 "_law_plan" ij:=
 letI:TW:=tw w
 iO (g:=jS) hs dA fun _ _ _ _ _ _ _ hr=>have hu:=hr.units;(af (f7 1 dA.nd (aZ (aa (au fX hr (aa aC (aa (au aU hr (aa (aA 0) (aa aI ak))) ak))) (aa (au fX hr (aa aC (aa (av cB (EV.o (au aU hr (aa (aA 0) (aa aI ak)))) ae) ak))) ak)))) (af (aN 2 dA.nd (au bK hr (aa (au aU hr (aa (aA 0) (aa aI ak))) (aa aI ak)))) (af (bO (aQ (i6 hu) b9 (EV.o (av bG (EV.o (ao (ixP hu) (aw 2) ae)) ae)) ae) (af (aN 3 dA.nd (cD (EN.o (aZ (aa (aR (aa aC (aa (av bG (EV.o (ao (ixP hu) (aw 2) ae)) ae) ak))) (aa (aR (aa aC (aa (av bG (EV.o (ao (ixP hu) (aw 2) ae)) ae) ak))) ak)))) c9 (c8 (av cB ae (EV.o (av bG (EV.o (ao (ixP hu) (aw 2) ae)) ae)))))) (aq (fw 1 aI (EN.v (aZ (aa aC (aa aC (aa (aA 3) (aa (aR (aa aI (aa (av bG (EV.o (ao (ixP hu) (aw 2) ae)) ae) ak))) (aa (aR (aa aI (aa (av bG (EV.o (ao (ixP hu) (aw 2) ae)) ae) ak))) ak)))))))))) aJ) (af (aN 3 dA.nd (cD (EN.o (aZ (aa (aR (aa aC (aa (av bG (EV.o (ao (ixP hu) (aw 2) ae)) ae) ak))) (aa (aR (aa aC (aa (av bG (EV.o (ao (ixP hu) (aw 2) ae)) ae) ak))) ak)))) c9 (c8 (av cB ae (EV.o (av bG (EV.o (ao (ixP hu) (aw 2) ae)) ae)))))) (af (dI 1 (EN.v (aZ (aa aC (aa (ao (ixP hu) (EN.o (aZ (aa aC (aa aC ak)))) (EV.o (av bG (EV.o (ao (ixP hu) (aw 2) ae)) ae))) (aa (aA 3) (aa (aR (aa aI (aa (av bG (EV.o (ao (ixP hu) (aw 2) ae)) ae) ak))) (aa (aR (aa aI (aa (av bG (EV.o (ao (ixP hu) (aw 2) ae)) ae) ak))) ak)))))))) (af (aN 4 dA.nd (aR (aa (av bG (EV.o (ao (ixP hu) (aw 2) ae)) ae) (aa (av cB ae (EV.o (av bG (EV.o (ao (ixP hu) (aw 2) ae)) ae))) (aa (ao (ixP hu) (EN.o (aZ (aa aI (aa aI (aa aI (aa aI ak)))))) (EV.o (av bG (EV.o (ao (ixP hu) (aw 2) ae)) ae))) ak))))) (af (dI 1 (EN.v (aZ (aa aC (aa (EN.v (aZ (aa (aA 4) ak))) (aa (ao (ixP hu) (EN.o (aZ (aa aI (aa aI (aa aI (aa aI ak)))))) (EV.o (av bG (EV.o (ao (ixP hu) (aw 2) ae)) ae))) ak)))))) (aq (aE (av cB (kH 1) (EN.o (aZ (aa (EN.v (aZ (aa aC (aa (ao (ixP hu) (EN.o (aZ (aa aC (aa aC (aa aC ak))))) (EV.o (av bG (EV.o (ao (ixP hu) (aw 2) ae)) ae))) ak)))) (aa (EN.v (aZ (aa aC (aa (ao (ixP hu) (EN.o (aZ (aa aC (aa aC (aa aC ak))))) (EV.o (av bG (EV.o (ao (ixP hu) (aw 2) ae)) ae))) ak)))) ak))))))))))))))
abbrev iI:Stmt:=top 34
theorem bu:FnScope ["_law_cell","_law_letters","_law_some","_law_size","_law_at","_law_names_here","_law_turn","_law_name","_law_k"] ["_law_cell"] (ar iI):=fsc
theorem ff (T:Txt w K mg) (hs:Hs K mg "_law_names" iI) (bK:@PF (tw w) P w K mg base 1 "_law_numbers" aV):@PF (tw w) P w K mg base 2 "_law_names" eT:=
 letI:TW:=tw w
 iO (g:=iU) hs bu fun _ _ _ _ _ _ _ hr=>have hu:=hr.units;(af (aN 1 bu.nd aC) (af (aN 2 bu.nd (au bK hr (aa (aA 0) (aa aI ak)))) (af (aN 3 bu.nd (av cB ae (EV.o (av bG (EV.o (ao (ixP hu) (aw 2) ae)) ae)))) (af (aN 4 bu.nd (av bG (EV.o (ao (ixP hu) (aw 2) ae)) (aw 3))) (af (f7 5 bu.nd (aZ ak)) (af (d8 (gW rfl T.n_range aI) (aX 6 bu.nd) (af (aN 7 bu.nd aC) (af (d8 (gW rfl T.n_range (aA 3)) (aX 8 bu.nd) (aq (aN 7 bu.nd (av cB (aw 7) (EV.o (ao (ixP hu) (aw 1) (EV.o (av bG (EV.o (av cB (EV.o (ao (ixP hu) (aw 2) (aw 8))) (EV.o (av yv (EV.o (av yv ae (aw 6))) (EV.o (yX cInt rfl T.n_int rfl (EV.o (km (i6 hu) (aw 8) (aw 4))))))))) ae)))))))) (aq (dI 5 (aA 7)))))) (aq (SV.frz 5 (aE (aA 5))))))))))
abbrev jG:Stmt:=top 38
theorem fR:FnScope ["_law_room_here","_law_names_here","_law_keys"] ["_law_room_here","_law_names_here"] (ar jG):=fsc
theorem iM (T:Txt w K mg) (hs:Hs K mg "_law_room" jG):@PF (tw w) P w K mg base 1 "_law_room" ig:=
 letI:TW:=tw w
 iO (g:=dC) hs fR fun _ _ _ _ _ _ _ hr=>have hu:=hr.units;(af (bO (aQ (i6 hu) b9 (EV.o (ao (ixP hu) (aw 0) ae)) cJ) (aq (aE (aR (aa aC (aa (yX AC rfl T.n_tuple rfl (EN.o (ov (N':=["_law_low","_law_high","_law_to","_law_names_here"]) (cok fR) (dX (ao (ixP hu) (aw 0) ae)) (fun _ _ _ _ _=>(qS rfl (dZ (ud 0) (dZ (ud 1) (dZ (ud 2) nK))))) (fun _ _ _ _ _=>(aR (aa (aA 0) (aa (aA 1) (aa (ao (ixP hu) (aw 3) (aw 2)) ak)))))))) (aa (ao (ixP hu) (aw 1) (EV.o (ao (ixP hu) (aw 0) ae))) ak)))))) aJ) (af (bO (aQ (HA hu) qB (EV.o (ao (ixP hu) (aw 0) ae)) (EN.o (aZ (aa aC (aa aC ak))))) (aq (aE (aR (aa (ao (ixP hu) (aw 0) ae) (aa (ao (ixP hu) (aw 0) ae) ak))))) aJ) (af (aN 2 fR.nd (yX AC rfl T.n_tuple rfl (EN.o (ov (N':=["_law_key_here","_law_to","_law_names_here"]) (cok fR) (dX (ao (ixP hu) (aw 0) ae)) (fun _ _ _ _ _=>(qS rfl (dZ (ud 0) (dZ (ud 1) nK)))) (fun _ _ _ _ _=>(aR (aa (aA 0) (aa (ao (ixP hu) (EV.o (av cB (aw 2) (EN.o (aZ (aa aC ak))))) (aw 1)) ak)))))))) (aq (aE (aR (aa (ao (ixP hu) (aw 0) ae) (aa (ao (ixP hu) (aw 0) ae) (aa (aA 2) (aa (aR (aa (ao (ixP hu) (EV.o (ao (ixP hu) (aw 0) ae)) ae) (aa (ao (ixP hu) (aw 1) (EV.o (ao (ixP hu) (EV.o (ao (ixP hu) (aw 0) ae)) ae))) ak))) (aa (aR (aa (ao (ixP hu) (EV.o (ao (ixP hu) (aw 0) ae)) ae) (aa (ao (ixP hu) (aw 1) (EV.o (ao (ixP hu) (EV.o (ao (ixP hu) (aw 0) ae)) ae))) ak))) ak)))))))))))
abbrev iJ:Stmt:=top 39
theorem dJ:FnScope ["_law_rooms","_law_names_here","_law_first","_law_turned","_law_told","_law_k","_law_letters"] ["_law_rooms","_law_names_here","_law_first","_law_turned"] (ar iJ):=fsc
theorem fg (T:Txt w K mg) (hs:Hs K mg "_law_house" iJ) (iM:@PF (tw w) P w K mg base 1 "_law_room" ig):@PF (tw w) P w K mg base 2 "_law_house" eU:=
 letI:TW:=tw w
 iO (g:=iV) hs dJ fun _ _ _ _ _ _ _ hr=>have hu:=hr.units;(af (f7 4 dJ.nd mj) (af (d8 (gW rfl T.n_range aI) (aX 5 dJ.nd) (aq (oO 4 hu (ao (ixP hu) (aw 1) (aw 5)) (au iM hr (aa (ao (ixP hu) (aw 0) (aw 5)) (aa (aA 1) ak)))))) (af (aN 6 dJ.nd (EN.v (aZ (aa (aR (aa aC (aa aC ak))) (aa (aR (aa aC (aa aC ak))) (aa (aR (aa aC (aa aC ak))) (aa (aR (aa aC (aa aC ak))) ak))))))) (af (bO (eE (aw 3)) (aq (aN 6 dJ.nd (EN.v (aZ (aa (aR (aa aC (aa aC ak))) (aa (aR (aa aC (aa aC ak))) (aa (aR (aa aC (aa aC ak))) (aa (aR (aa aC (aa aC ak))) ak)))))))) aJ) (aq (SV.frz 4 (aE (EN.v (Cm (qI aC (ao (ixP hu) (aw 1) (aw 2)) (qI aC (aA 6) (qI aC (aA 4) FE))))))))))))
abbrev nX:Stmt:=top 1
theorem jc:FnScope ["room","hour","since","till","name"] ["room","hour"] (ar nX):=fsc
theorem lD (T:Txt w K mg) (hs:Hs K mg "handed" nX):@PF (tw w) P w K mg base 1 "handed" l5:=
 letI:TW:=tw w
 iO (g:=kY) hs jc fun _ _ _ _ _ _ _ hr=>have hu:=hr.units;(af (d8 (dX (ao (ixP hu) (aw 0) ae)) (lj rfl (bD (aX 2 jc.nd) (bD (aX 3 jc.nd) (bD (aX 4 jc.nd) iE)))) (aq (bO (yY JP Hy C5 qA (aw 2) (aw 1) (aw 3)) (aq (aE (aA 4))) aJ))) (aq (aE (ao (ixP hu) (aw 0) ae))))
abbrev ly:Stmt:=top 2
theorem jD:FnScope ["H","hour","name","come"] ["H","hour","name"] (ar ly):=fsc
theorem jM (T:Txt w K mg) (hs:Hs K mg "come_to" ly) (lD:@PF (tw w) P w K mg base 1 "handed" l5):@PF (tw w) P w K mg base 2 "come_to" jr:=
 letI:TW:=tw w
 iO (g:=lY) hs jD fun _ _ _ _ _ _ _ hr=>have hu:=hr.units;(af (aN 3 jD.nd (aA 2)) (af (qV 300 (aQ (i6 hu) b9 (EV.o (ao (ixP hu) (EV.o (ao (ixP hu) (EV.o (ao (ixP hu) (aw 0) cJ)) (aw 3))) ae)) cJ) (aq (aN 3 jD.nd (au lD hr (aa (ao (ixP hu) (EV.o (ao (ixP hu) (aw 0) cJ)) (aw 3)) (aa (aA 1) ak)))))) (aq (aE (aA 3)))))
abbrev lB:Stmt:=top 14
theorem sZ:FnScope ["H","hour","name","back"] ["H","hour","name","back"] (ar lB):=fsc
theorem cA (T:Txt w K mg) (hs:Hs K mg "arrival" lB) (jM:@PF (tw w) P w K mg base 2 "come_to" jr):@PF (tw w) P w K mg base 3 "arrival" bX:=
 letI:TW:=tw w
 iO (g:=m3) hs sZ fun _ _ _ _ _ _ _ hr=>have hu:=hr.units;(aq (aE (aR (aa (au jM hr (aa (aA 0) (aa (aA 1) (aa (aA 2) ak)))) (aa (aA 3) (aa aI (aa aI (aa aC ak))))))))
abbrev fz:Stmt:=top 21
theorem eN:FnScope ["H","hour","state","bound","wrong"] ["H","hour","state"] (ar fz):=fsc
theorem dh (T:Txt w K mg) (hs:Hs K mg "by_wrong_key" fz) (cA:@PF (tw w) P w K mg base 3 "arrival" bX):@PF (tw w) P w K mg base 4 "by_wrong_key" bL:=
 letI:TW:=tw w
 iO (g:=dG) hs eN fun _ _ _ _ _ _ _ hr=>have hu:=hr.units;(af (aN 3 eN.nd (ao (ixP hu) (EV.o (ao (ixP hu) (EV.o (ao (ixP hu) (aw 0) cJ)) (EV.o (ao (ixP hu) (aw 2) ae)))) ae)) (af (aN 4 eN.nd (av cB (EV.o (ao (ixP hu) (aw 2) ae)) ae)) (af (bO (aQ (i6 hu) b9 (aw 4) (EV.o (ao (ixP hu) (aw 3) ae))) (aq (aE (au cA hr (aa (aA 0) (aa (aA 1) (aa (ao (ixP hu) (aw 3) ae) (aa (ao (ixP hu) (aw 2) ae) ak))))))) aJ) (aq (aE (aR (aa (ao (ixP hu) (aw 2) ae) (aa (ao (ixP hu) (aw 2) ae) (aa (aA 4) (aa (ao (ixP hu) (aw 2) ae) (aa aC ak)))))))))))
abbrev nZ:Stmt:=top 20
theorem lq:FnScope ["H","hour","ways","state","key","typed","target"] ["H","hour","ways","state","key"] (ar nZ):=fsc
theorem lE (T:Txt w K mg) (hs:Hs K mg "by_key" nZ) (dh:@PF (tw w) P w K mg base 4 "by_wrong_key" bL) (cA:@PF (tw w) P w K mg base 3 "arrival" bX):@PF (tw w) P w K mg base 5 "by_key" eD:=
 letI:TW:=tw w
 iO (g:=gc) hs lq fun _ _ _ _ _ _ _ hr=>have hu:=hr.units;(af (aN 5 lq.nd (av cB (EV.o (ao (ixP hu) (aw 3) ae)) (aw 4))) (af (bO (aQ (BE hu) tJ (aw 5) (aw 2)) (aq (aE (au dh hr (aa (aA 0) (aa (aA 1) (aa (aA 3) ak)))))) aJ) (af (aN 6 lq.nd (Fs (aQ (i6 hu) b9 (EV.o (ao (ixP hu) (aw 2) (aw 5))) cJ) (ao (ixP hu) (aw 3) ae) (ao (ixP hu) (aw 2) (aw 5)))) (af (bO (aQ Ei rY (aw 6) (EV.o kj)) (aq (aE (aR (aa (ao (ixP hu) (aw 3) ae) (aa (ao (ixP hu) (aw 3) ae) (aa (ao (ixP hu) (aw 3) ae) (aa (ao (ixP hu) (aw 3) ae) (aa (aA 5) ak)))))))) aJ) (af (bO (aQ (i6 hu) b9 (aw 6) cJ) (aq (aE (au dh hr (aa (aA 0) (aa (aA 1) (aa (aA 3) ak)))))) aJ) (aq (aE (au cA hr (aa (aA 0) (aa (aA 1) (aa (aA 6) (aa (ao (ixP hu) (aw 3) ae) ak))))))))))))
abbrev lA:Stmt:=top 22
theorem jF:FnScope ["H","hour","state","bound","waits"] ["H","hour","state"] (ar lA):=fsc
theorem jO (T:Txt w K mg) (hs:Hs K mg "by_wait" lA) (cA:@PF (tw w) P w K mg base 3 "arrival" bX):@PF (tw w) P w K mg base 4 "by_wait" jt:=
 letI:TW:=tw w
 iO (g:=jj) hs jF fun _ _ _ _ _ _ _ hr=>have hu:=hr.units;(af (aN 3 jF.nd (ao (ixP hu) (EV.o (ao (ixP hu) (EV.o (ao (ixP hu) (aw 0) cJ)) (EV.o (ao (ixP hu) (aw 2) ae)))) ae)) (af (aN 4 jF.nd (av cB (EV.o (ao (ixP hu) (aw 2) ae)) ae)) (af (bO (aQ (i6 hu) b9 (aw 4) (EV.o (ao (ixP hu) (aw 3) ae))) (aq (aE (au cA hr (aa (aA 0) (aa (aA 1) (aa (ao (ixP hu) (aw 3) ae) (aa (ao (ixP hu) (aw 2) ae) ak))))))) aJ) (aq (aE (aR (aa (ao (ixP hu) (aw 2) ae) (aa (ao (ixP hu) (aw 2) ae) (aa (ao (ixP hu) (aw 2) ae) (aa (aA 4) (aa aC ak)))))))))))
abbrev nY:Stmt:=top 19
theorem oT:FnScope ["H","hour","ways","state","sign","kind"] ["H","hour","ways","state","sign"] (ar nY):=fsc
theorem cO (T:Txt w K mg) (hs:Hs K mg "follow" nY) (jO:@PF (tw w) P w K mg base 4 "by_wait" jt) (lE:@PF (tw w) P w K mg base 5 "by_key" eD):@PF (tw w) P w K mg base 6 "follow" bH:=
 letI:TW:=tw w
 iO (g:=fh) hs oT fun _ _ _ _ _ _ _ hr=>have hu:=hr.units;(af (aN 5 oT.nd (ao (ixP hu) (EV.o (ao (ixP hu) (EV.o (ao (ixP hu) (aw 0) cJ)) (EV.o (ao (ixP hu) (aw 3) ae)))) ae)) (af (bO (EW.et (m9 (aQ (i6 hu) b9 (aw 5) cJ) (ju (aQ (i6 hu) b9 (aw 5) cJ)))) (aq (aE (aA 3))) aJ) (af (bO (aQ (i6 hu) b9 (aw 4) (EV.o (sr rfl T.c_WAIT))) (aq (aE (au jO hr (aa (aA 0) (aa (aA 1) (aa (aA 3) ak)))))) aJ) (aq (aE (au lE hr (aa (aA 0) (aa (aA 1) (aa (aA 2) (aa (aA 3) (aa (aA 4) ak)))))))))))
abbrev qb:Stmt:=top 25
theorem qZ:FnScope ["H","state","room"] ["H","state"] (ar qb):=fsc
theorem cU (T:Txt w K mg) (hs:Hs K mg "heard" qb):@PF (tw w) P w K mg base 1 "heard" cL:=
 letI:TW:=tw w
 iO (g:=jV) hs qZ fun _ _ _ _ _ _ _ hr=>have hu:=hr.units;(af (aN 2 qZ.nd (ao (ixP hu) (EV.o (ao (ixP hu) (aw 0) cJ)) (EV.o (ao (ixP hu) (aw 1) ae)))) (aq (aE (aR (aa (ao (ixP hu) (EV.o (sr rfl T.c_HEARD)) (EV.o (ao (ixP hu) (aw 2) ae))) (aa (ao (ixP hu) (aw 2) ae) ak))))))
theorem nU:NdL ["pair","sign","ways","others","hour","H","G","state"]:=⟨by decide +kernel⟩
theorem lO (T:Txt w K mg) (cO:@PF (tw w) P w K mg base 6 "follow" bH):@LamB (tw w) P w K mg base 6 aW ["pair","sign"] ["state"] ko:=
 letI:TW:=tw w
 ⟨.of rfl rfl rfl (by decide +kernel) (by decide +kernel) (by decide +kernel) (by decide +kernel) (by decide +kernel),fun _ _ _ _ us h=>match us,h with | [_,_],_=>rfl,fun f c cl A outer s H hr=>nJ.st rfl (by
  have hu:=hr.units;exact(af (aN 7 nU.nd (au cO hr (aa (aA 5) (aa (aA 4) (aa (ao (ixP hu) (aw 2) (EV.o (ao (ixP hu) (EV.o (ao (ixP hu) (aw 0) ae)) ae))) (aa (ao (ixP hu) (aw 0) ae) (aa (aA 1) ak))))))) (aq (aE (aR (aa (aA 7) (aa (au cO hr (aa (aA 6) (aa (aA 4) (aa (ao (ixP hu) (aw 3) (EV.o (ao (ixP hu) (EV.o (ao (ixP hu) (aw 0) ae)) ae))) (aa (ao (ixP hu) (aw 0) ae) (aa (aA 1) ak)))))) ak)))))))⟩
theorem lN (T:Txt w K mg) (cU:@PF (tw w) P w K mg base 1 "heard" cL):@LamB (tw w) P w K mg base 6 aS ["pair"] [] kn:=
 letI:TW:=tw w
 ⟨.of rfl rfl rfl (by decide +kernel) (by decide +kernel) (by decide +kernel) (by decide +kernel) (by decide +kernel),fun _ _ _ _ us h=>match us,h with | [_],_=>rfl,fun f c cl A outer s H hr=>nJ.st rfl (by
  have hu:=hr.units;exact(aq (aE (km (BH hu) (EV.o (au cU hr (aa (aA 1) (aa (ao (ixP hu) (aw 0) ae) ak)))) (EV.o (au cU hr (aa (aA 2) (aa (ao (ixP hu) (aw 0) ae) ak))))))))⟩
theorem JR (T:Txt w K mg) (cO:@PF (tw w) P w K mg base 6 "follow" bH) (cU:@PF (tw w) P w K mg base 1 "heard" cL):@FV (tw w) P w K mg base 6 appL:=by
 letI:TW:=tw w
 intro L qs cs p e;unfold appL at e;split at e
 ·rename_i hL;subst hL;obtain⟨h1,h2⟩:=vH e;exact⟨_,_,_,lO T cO,h1,h2⟩
 split at e
 ·rename_i hL;subst hL;obtain⟨h1,h2⟩:=vH e;exact⟨_,_,_,lN T cU,h1,h2⟩
 cases e
abbrev df:Stmt:=top 8
theorem bU:FnScope ["codes","counts","code","size"] ["codes"] (ar df):=fsc
theorem cW (T:Txt w K mg) (hs:Hs K mg "beginning_counts" df):@PF (tw w) P w K mg base 1 "beginning_counts" bI:=
 letI:TW:=tw w
 iO (g:=dq) hs bU fun _ _ _ _ _ _ _ hr=>have hu:=hr.units;(af (f7 1 bU.nd mj) (af (d8 (dX (aA 0)) (aX 2 bU.nd) (aq (d8 (ml rfl T.n_range aI (av cB (EV.o (jW u5 rfl T.n_len rfl (aw 2))) ae)) (aX 3 bU.nd) (aq (oO 1 hu (gV (aw 2) c9 (c8 (aA 3))) (av cB (EV.o (Ci (kH 1) (gV (aw 2) c9 (c8 (aA 3))) aI)) ae)))))) (aq (SV.frz 1 (aE (aA 1))))))
abbrev nW:Stmt:=top 6
theorem lp:FnScope ["letters","letter","key","held"] ["letters","letter"] (ar nW):=fsc
theorem lC (T:Txt w K mg) (hs:Hs K mg "key_of" nW):@PF (tw w) P w K mg base 1 "key_of" kZ:=
 letI:TW:=tw w
 iO (g:=kX) hs lp fun _ _ _ _ _ _ _ hr=>have hu:=hr.units;(af (d8 (dX (aA 0)) (lj rfl (bD (aX 2 lp.nd) (bD (aX 3 lp.nd) iE))) (aq (bO (aQ (HA hu) qB (aw 1) (aw 3)) (aq (aE (aA 2))) aJ))) (aq (aE kj)))
abbrev lz:Stmt:=top 5
theorem jE:FnScope ["letters","word","keys"] ["letters","word"] (ar lz):=fsc
theorem jN (T:Txt w K mg) (hs:Hs K mg "code_of" lz) (lC:@PF (tw w) P w K mg base 1 "key_of" kZ):@PF (tw w) P w K mg base 2 "code_of" gU:=
 letI:TW:=tw w
 iO (g:=lZ) hs jE fun _ _ _ _ _ _ _ hr=>have hu:=hr.units;(af (uJ false 2 jE.nd (N':=["letter","letters"]) (cok jE) (dX (aA 1)) (fun _ _ _ _ _=>(ud 0)) (fun _ _ _ _ _=>(au lC hr (aa (aA 1) (aa (aA 0) ak))))) (aq (aE (Fs (aQ (HA hu) qB (EV.o kj) (aw 2)) kj (Fq Hc HN aC (aw 2))))))
abbrev eO:Stmt:=top 9
theorem gr:FnScope ["code","counts","size"] ["code","counts"] (ar eO):=fsc
theorem dR (T:Txt w K mg) (hs:Hs K mg "own_beginning" eO):@PF (tw w) P w K mg base 1 "own_beginning" du:=
 letI:TW:=tw w
 iO (g:=dm) hs gr fun _ _ _ _ _ _ _ hr=>have hu:=hr.units;(af (d8 (ml rfl T.n_range aI (jW u5 rfl T.n_len rfl (aw 0))) (aX 2 gr.nd) (aq (bO (aQ (i6 hu) b9 (EV.o (ao (ixP hu) (aw 1) (EV.o (gV (aw 0) c9 (c8 (aA 2)))))) ae) (aq (aE (gV (aw 0) c9 (c8 (aA 2))))) aJ))) (aq (aE (aA 0))))
abbrev gG:Stmt:=top 7
theorem de:FnScope ["letters","words","codes","counts"] ["letters","words"] (ar gG):=fsc
theorem fZ (T:Txt w K mg) (hs:Hs K mg "beginnings" gG) (jN:@PF (tw w) P w K mg base 2 "code_of" gU) (cW:@PF (tw w) P w K mg base 1 "beginning_counts" bI) (dR:@PF (tw w) P w K mg base 1 "own_beginning" du):@PF (tw w) P w K mg base 3 "beginnings" dP:=
 letI:TW:=tw w
 iO (g:=gS) hs de fun _ _ _ _ _ _ _ hr=>have hu:=hr.units;(af (uJ false 2 de.nd (N':=["word","letters"]) (cok de) (dX (aA 1)) (fun _ _ _ _ _=>(ud 0)) (fun _ _ _ _ _=>(av cB (EV.o (au jN hr (aa (aA 1) (aa (aA 0) ak)))) (EV.o (sr rfl T.c_CODE_END))))) (af (aN 3 de.nd (au cW hr (aa (aA 2) ak))) (aq (aE (EN.v (ov (N':=["word","code","counts"]) (cok de) (FD rfl T.n_zip (aA 1) (aA 2)) (fun _ _ _ _ _=>(qS rfl (dZ (ud 0) (dZ (ud 1) nK)))) (fun _ _ _ _ _=>(aR (aa (aA 0) (aa (au dR hr (aa (aA 1) (aa (aA 2) ak))) ak))))))))))
abbrev gD:Stmt:=top 18
theorem da:FnScope ["letters","names","ways","word","beginning","size"] ["letters","names"] (ar gD):=fsc
theorem fW (T:Txt w K mg) (hs:Hs K mg "names_ways" gD) (fZ:@PF (tw w) P w K mg base 3 "beginnings" dP):@PF (tw w) P w K mg base 4 "names_ways" fq:=
 letI:TW:=tw w
 iO (g:=gM) hs da fun _ _ _ _ _ _ _ hr=>have hu:=hr.units;(af (f7 2 da.nd mj) (af (d8 (dX (au fZ hr (aa (aA 0) (aa (EN.v (yZ AD rfl T.n_list rfl (aw 1))) ak)))) (lj rfl (bD (aX 3 da.nd) (bD (aX 4 da.nd) iE))) (af (d8 (ml rfl T.n_range aI (jW u5 rfl T.n_len rfl (aw 4))) (aX 5 da.nd) (aq (oO 2 hu (gV (aw 4) c9 (c8 (aA 5))) kj))) (aq (oO 2 hu (aA 4) (ao (ixP hu) (aw 1) (aw 3)))))) (aq (SV.frz 2 (aE (aA 2))))))
abbrev iF:Stmt:=top 17
theorem k9:FnScope ["H","name","room"] ["H","name"] (ar iF):=fsc
theorem dM (T:Txt w K mg) (hs:Hs K mg "room_ways" iF) (fW:@PF (tw w) P w K mg base 4 "names_ways" fq):@PF (tw w) P w K mg base 5 "room_ways" aM:=
 letI:TW:=tw w
 iO (g:=dB) hs k9 fun _ _ _ _ _ _ _ hr=>have hu:=hr.units;(af (aN 2 k9.nd (ao (ixP hu) (EV.o (ao (ixP hu) (aw 0) cJ)) (aw 1))) (af (bO (aQ (i6 hu) b9 (EV.o (ao (ixP hu) (aw 2) ae)) cJ) (aq (aE (EN.v (yZ AE rfl T.n_dict rfl (EV.o (ao (ixP hu) (aw 2) ae)))))) aJ) (af (bO (aQ (i6 hu) b9 (EV.o (ao (ixP hu) (aw 2) ae)) cJ) (aq (aE (au fW hr (aa (ao (ixP hu) (aw 0) cJ) (aa (EN.v (yZ AE rfl T.n_dict rfl (EV.o (ao (ixP hu) (aw 2) ae)))) ak))))) aJ) (aq (aE (EN.v mj))))))
abbrev gE:Stmt:=top 16
theorem fS:FnScope ["H","ways","name"] ["H"] (ar gE):=fsc
theorem cz (T:Txt w K mg) (hs:Hs K mg "house_ways" gE) (dM:@PF (tw w) P w K mg base 5 "room_ways" aM):@PF (tw w) P w K mg base 6 "house_ways" bw:=
 letI:TW:=tw w
 iO (g:=gN) hs fS fun _ _ _ _ _ _ _ hr=>have hu:=hr.units;(af (f7 1 fS.nd mj) (af (d8 (dX (ao (ixP hu) (aw 0) cJ)) (aX 2 fS.nd) (aq (oO 1 hu (aA 2) (au dM hr (aa (aA 0) (aa (aA 2) ak)))))) (aq (SV.frz 1 (aE (aA 1))))))
abbrev gF:Stmt:=top 28
theorem bE:FnScope ["start","lead","is_last","known","found","done","near","sign","thing"] ["start","lead","is_last"] (ar gF):=fsc
theorem fY (T:Txt w K mg) (hs:Hs K mg "first_rows" gF) (LT:@FV (tw w) P w K mg base 6 appL):@PFN (tw w) P w K mg base 8 "first_rows" dO:=
 letI:TW:=tw w
 DY (g:=gO) hs bE fun _ _ _ _ _ _ _ hr=>have hu:=hr.units;(kM (p4 _ _) (f7 3 bE.nd (za hu (aA 0) jv)) (kM (p4 _ _) (f7 4 bE.nd (aZ (aa (aR (aa (aA 0) (aa aC ak))) ak))) (kM (ll _ _) (aN 5 bE.nd aI) (kM (xJ (gC (ll _ _) (gC (xl _ _) (wA (gC (ll _ _) (s8 (gC (t9 _ _ _) (gC (xm _ _) (s8 xi mZ))) mZ)))))) (qV 10500000 (EW.et (pM (aQ Hy qA (aw 5) (EV.o (jW u5 rfl T.n_len rfl (kH 4)))) (me (mh (eE (EV.o (ou 2 LT hr (aa (ao (ixP hu) (EV.o (ao (ixP hu) (kH 4) (EV.o (iC aI)))) ae) ak)))))))) (af (aN 6 bE.nd (ao (ixP hu) (kH 4) (aw 5))) (af (DF 5 bE.nd aI) (aq (d8 (dX (sr rfl T.c_SIGNS)) (aX 7 bE.nd) (af (aN 8 bE.nd (ou 1 LT hr (aa (ao (ixP hu) (aw 6) ae) (aa (aA 7) ak)))) (aq (bO (aQ (rG hu) lS (aw 8) (kH 3)) (af (uI 3 hu (aA 8) jv) (af (dI 4 (aR (aa (aA 8) (aa (av cB (EV.o (ao (ixP hu) (aw 6) ae)) (aw 7)) ak)))) (aq (bO (eE (EV.o (ou 2 LT hr (aa (aA 8) ak)))) (aq xW) aJ)))) aJ)))))))) (xV 4)))))
abbrev qd:Stmt:=top 13
theorem xY:FnScope ["H","hour"] ["H","hour"] (ar qd):=fsc
theorem e9 (T:Txt w K mg) (hs:Hs K mg "begin" qd) (cA:@PF (tw w) P w K mg base 3 "arrival" bX):@PF (tw w) P w K mg base 4 "begin" cb:=
 letI:TW:=tw w
 iO (g:=qD) hs xY fun _ _ _ _ _ _ _ hr=>have hu:=hr.units;(aq (aE (au cA hr (aa (aA 0) (aa (aA 1) (aa (ao (ixP hu) (aw 0) cJ) (aa aC ak)))))))
abbrev cN:Stmt:=top 30
theorem cy:FnScope ["H","G","hour","ways","others","lead","is_apart","found","pairs","last"] ["H","G","hour"] (ar cN):=fsc
theorem jl:∀y∈aW.scope.names,y.2=.free->(ar cN).names.lookup y.1=some .cell:=by decide +kernel
theorem ot {C:Cn} (h:C.X.env.scope=ar cN:=by rfl) (hN:C.X.N=(["H","G","hour","ways","others","lead","is_apart","found","pairs","last"]:List Str):=by rfl):FnC C aW [3,4,2,0,1]:=⟨by rw[h];exact jl,rfl,by decide +kernel,by rw[hN];rfl⟩
theorem jk:∀y∈aS.scope.names,y.2=.free->(ar cN).names.lookup y.1=some .cell:=by decide +kernel
theorem jn {C:Cn} (h:C.X.env.scope=ar cN:=by rfl) (hN:C.X.N=(["H","G","hour","ways","others","lead","is_apart","found","pairs","last"]:List Str):=by rfl):FnC C aS [0,1]:=⟨by rw[h];exact jk,rfl,by decide +kernel,by rw[hN];rfl⟩
theorem jL {f:Addr} {fd:FuncData} (T:Txt w K mg) (F:Fun K "compare" "compare" cN f fd) (hm:mg "compare"=some (.ref f)) (hb:Binds K fd ["H","G","hour"] []) {cP:Addr} (hcode:fd.code=.ref cP) (hhd:OL K cP eK=true) (hKb:K.In base) (hbn:∃bm o,mg "__builtins__"=some (.ref bm)/\bm≠Lw/\bm≠mainGlobals/\base.get? bm=some o/\o.cls=.type "module"/\o.dict=some Lw/\o.data=.plain) (cz:@PF (tw w) P w K mg base 6 "house_ways" bw) (fY:@PFN (tw w) P w K mg base 8 "first_rows" dO) (e9:@PF (tw w) P w K mg base 4 "begin" cb) (LT:@FV (tw w) P w K mg base 6 appL):@PF (tw w) P w K mg base 9 "compare" fI:=
 letI:TW:=tw w
 Br F cy hm hb (g:=ji) fun cdv hcdv A outer s H E hr=>by
  have hu:=hr.units;exact(SVF.tru (nM 3 cy.nd cZ (fun _ _ _ h=>trivial) (EVF.of (au cz hr (aa (aA 0) ak))) (nM 4 cy.nd cZ (fun _ _ _ h=>trivial) (EVF.of (au cz hr (aa (aA 1) ak))) (uG (L:=aW) (pos:=sE ⟨0,0,0,0⟩ gY) (c:=cP) (P:=eK) 5 cy.nd cZ (fun _ _ _ h=>trivial) ⟨rfl,rfl,rfl,hcdv.trans hcode,Ou hKb hhd,mR,hbn,rfl,rfl,rfl,jl⟩ (uG (L:=aS) (pos:=sE ⟨0,0,0,0⟩ gX) (c:=cP) (P:=eK) 6 cy.nd (Ph.and_ok cZ FnS.ok) (fun _ _ _ h=>⟨trivial,FnS.set (by decide) _ _ _ h.2⟩) ⟨rfl,rfl,rfl,hcdv.trans hcode,Ou hKb hhd,mR,hbn,rfl,rfl,rfl,jk⟩ (nM 7 cy.nd (Ph.and_ok (Ph.and_ok cZ FnS.ok) FnS.ok) (fun _ _ _ h=>⟨⟨trivial,FnS.set (by decide) _ _ _ h.1.2⟩,FnS.set (by decide) _ _ _ h.2⟩) (ENF.v (wM fY hr (Fz (aR (aa (au e9 hr (aa (aA 0) (aa (aA 2) ak))) (aa (au e9 hr (aa (aA 1) (aa (aA 2) ak))) ak))) (FC 5 (fun _ _ h=>h.1.2) ot (FC 6 (fun _ _ h=>h.2) jn FB (Ph.and_ok (Ph.and_ok cZ FnS.ok) FnS.ok)) (Ph.and_ok (Ph.and_ok cZ FnS.ok) FnS.ok)) (Ph.and_ok (Ph.and_ok cZ FnS.ok) FnS.ok)))) (DE 8 (Ph.and_ok (Ph.and_ok cZ FnS.ok) FnS.ok) (fun _ _ _ h=>⟨⟨trivial,FnS.set (by decide) _ _ _ h.1.2⟩,FnS.set (by decide) _ _ _ h.2⟩) (Bk 8 cy.nd (N':=["pair","row"]) (cok cy) (dX (aA 7)) (fun _ _ _ _ _=>(qS rfl (dZ (ud 0) (dZ (ud 1) nK)))) (fun _ _ _ _ _=>(aR (aa (ao (ixP hu) (aw 0) ae) (aa (ao (ixP hu) (aw 0) ae) (aa (aA 1) ak)))))) (nM 9 cy.nd (Ph.and_ok (Ph.and_ok cZ FnS.ok) FnS.ok) (fun _ _ _ h=>⟨⟨trivial,FnS.set (by decide) _ _ _ h.1.2⟩,FnS.set (by decide) _ _ _ h.2⟩) (EVF.of (ao (ixP hu) (aw 7) (EV.o (iC aI)))) (uF (Ph.and_ok (Ph.and_ok cZ FnS.ok) FnS.ok) (wJ (tT 6 LT hr (fun _ _ h=>h.2) jn (aa (ao (ixP hu) (aw 9) ae) ak))) (EVF.of (aR (aa aC (aa (ao (ixP hu) (aw 9) ae) (aa (cD (aw 8) c9 (c8 (iC aI))) ak))))) (AX (EVF.of (aR (aa aC (aa (aA 8) ak))))))))))))))
abbrev iH:Stmt:=top 37
theorem br:FnScope ["_law_rooms","_law_cell","_law_sort","_law_at","_law_to","_law_room_here","_law_k","_law_others","_law_words","_law_span"] ["_law_rooms","_law_cell"] (ar iH):=fsc
theorem gH (T:Txt w K mg) (hs:Hs K mg "_law_other" iH):@PF (tw w) P w K mg base 1 "_law_other" gf:=
 letI:TW:=tw w
 iO (g:=iT) hs br fun _ _ _ _ _ _ _ hr=>have hu:=hr.units;(af (aN 2 br.nd (av bG (aw 1) ae)) (af (aN 3 br.nd (av bG (EV.o (av oa (aw 1) ae)) ae)) (af (aN 4 br.nd (av bG (EV.o (av oa (aw 1) ae)) ae)) (af (f7 5 br.nd (yZ AD rfl T.n_list rfl (EV.o (ao (ixP hu) (aw 0) (aw 3))))) (af (bO (EW.et (pM (aQ (i6 hu) b9 (aw 2) ae) (me (aQ HC qC (EV.o (jW u5 rfl T.n_len rfl (EV.o (ao (ixP hu) (kH 5) ae)))) ae)))) (af (aN 6 br.nd (av bG (EV.o (av oa (aw 1) ae)) (EV.o (jW u5 rfl T.n_len rfl (EV.o (ao (ixP hu) (kH 5) ae)))))) (aq (fw 5 aI (av cB (EV.o (av cB (EV.o (cD (EV.o (ao (ixP hu) (kH 5) ae)) c9 (c8 (aA 6)))) (EN.o (aZ (aa (aR (aa (ao (ixP hu) (EV.o (ao (ixP hu) (EV.o (ao (ixP hu) (kH 5) ae)) (aw 6))) ae) (aa (aA 4) ak))) ak))))) (EV.o (cD (EV.o (ao (ixP hu) (kH 5) ae)) (c8 (av cB (aw 6) ae)) c9)))))) aJ) (af (bO (EW.et (pM (aQ (i6 hu) b9 (aw 2) ae) (me (aQ HC qC (EV.o (jW u5 rfl T.n_len rfl (EV.o (ao (ixP hu) (kH 5) ae)))) (EV.o (yX cInt rfl T.n_int rfl (EV.o (km (i6 hu) (EV.o (ao (ixP hu) (kH 5) ae)) cJ)))))))) (af (aN 6 br.nd (av bG (EV.o (av oa (aw 1) ae)) (EV.o (jW u5 rfl T.n_len rfl (EV.o (ao (ixP hu) (kH 5) ae)))))) (aq (fw 5 aI (av cB (EV.o (cD (EV.o (ao (ixP hu) (kH 5) ae)) c9 (c8 (aA 6)))) (EV.o (cD (EV.o (ao (ixP hu) (kH 5) ae)) (c8 (av cB (aw 6) ae)) c9)))))) aJ) (af (bO (aQ (i6 hu) b9 (aw 2) ae) (aq (fw 5 aI (ao (ixP hu) (EN.o (aZ (aa aC (aa aC ak)))) (EV.o (av bG (EV.o (av oa (aw 1) ae)) ae))))) aJ) (af (bO (aQ (i6 hu) b9 (aw 2) ae) (aq (fw 5 aI (aR (aa (av BD ae (EV.o (ao (ixP hu) (EV.o (ao (ixP hu) (kH 5) ae)) ae))) (aa (ao (ixP hu) (EV.o (ao (ixP hu) (kH 5) ae)) ae) ak))))) aJ) (af (bO (aQ (i6 hu) b9 (aw 2) ae) (aq (fw 5 aI (aR (aa (ao (ixP hu) (EV.o (ao (ixP hu) (kH 5) ae)) ae) (aa (aA 4) ak))))) aJ) (af (SV.frz 5 (f7 7 br.nd (Fy (EV.o (av cB (EV.o (cD (aw 0) c9 (c8 (aA 3)))) (EN.o (aZ (aa (aA 5) ak))))) (EV.o (cD (aw 0) (c8 (av cB (aw 3) ae)) c9))))) (af (bO (aQ (i6 hu) b9 (aw 2) ae) (af (aN 8 br.nd (av cB (EN.o (aZ (aa (aR (aa (ao (ixP hu) (EV.o (ao (ixP hu) (EV.o (ao (ixP hu) (EV.o (ao (ixP hu) (aw 0) ae)) ae)) ae)) ae) (aa (aA 4) ak))) ak))) (EV.o (cD (EV.o (ao (ixP hu) (EV.o (ao (ixP hu) (aw 0) ae)) ae)) (c8 aI) c9)))) (aq (fw 7 aI (EN.v (aZ (aa aC (aa (ao (ixP hu) (EV.o (ao (ixP hu) (aw 0) ae)) ae) (aa (aA 8) (aa (ao (ixP hu) (EV.o (ao (ixP hu) (aw 0) ae)) ae) (aa (ao (ixP hu) (EV.o (ao (ixP hu) (aw 0) ae)) ae) ak)))))))))) aJ) (af (bO (aQ (i6 hu) b9 (aw 2) ae) (af (aN 9 br.nd (ao (ixP hu) (EV.o (ao (ixP hu) (EV.o (ao (ixP hu) (aw 0) ae)) ae)) ae)) (aq (fw 7 aI (EN.v (aZ (aa aC (aa (EN.v (aZ (aa (aR (aa (ao (ixP hu) (aw 9) ae) (aa (av cB (EV.o (av BD (EV.o (ao (ixP hu) (aw 9) ae)) ae)) (EV.o (av bG (EV.o (av oa (aw 1) ae)) ae))) (aa (ao (ixP hu) (aw 9) ae) ak)))) ak))) (aa (ao (ixP hu) (EV.o (ao (ixP hu) (aw 0) ae)) ae) ak)))))))) aJ) (af (bO (aQ (i6 hu) b9 (aw 2) ae) (aq (fw 7 aI (EN.v (aZ (aa (ao (ixP hu) (EN.o (aZ (aa aC (aa aC ak)))) (EV.o (av bG (aw 4) ae))) (aa (ao (ixP hu) (EV.o (ao (ixP hu) (aw 0) (EV.o (av cB ae (EV.o (av bG (EV.o (av oa (aw 4) ae)) ae)))))) ae) ak)))))) aJ) (af (bO (aQ (i6 hu) b9 (aw 2) ae) (aq (fw 7 aI (EN.v (aZ (aa aC (aa (ao (ixP hu) (EV.o (ao (ixP hu) (aw 0) ae)) ae) (aa (EN.v (aZ (aa (aR (aa aC (aa (aA 4) ak))) ak))) (aa (ao (ixP hu) (EV.o (ao (ixP hu) (aw 0) ae)) ae) (aa (ao (ixP hu) (EV.o (ao (ixP hu) (aw 0) ae)) ae) ak))))))))) aJ) (aq (SV.frz 7 (aE (aA 7))))))))))))))))))
abbrev lx:Stmt:=top 40
theorem mT:FnScope ["_law_row"] ["_law_row"] (ar lx):=fsc
theorem bZ (T:Txt w K mg) (hs:Hs K mg "_law_key" lx):@PF (tw w) P w K mg base 1 "_law_key" bp:=
 letI:TW:=tw w
 iO (g:=lX) hs mT fun _ _ _ _ _ _ _ hr=>have hu:=hr.units;(aq (aE (aR (aa (jW u5 rfl T.n_len rfl (aw 0)) (aa (EN.v (ov (N':=["_law_sign"]) (cok mT) (dX (aA 0)) (fun _ _ _ _ _=>(ud 0)) (fun _ _ _ _ _=>(Fq DM Ey aC (aw 0))))) ak)))))
abbrev lu:Stmt:=top 24
theorem hV:FnScope ["H","hour","state","row","ways","states","sign"] ["H","hour","state","row"] (ar lu):=fsc
theorem jK (T:Txt w K mg) (hs:Hs K mg "walk_on" lu) (cz:@PF (tw w) P w K mg base 6 "house_ways" bw) (cO:@PF (tw w) P w K mg base 6 "follow" bH):@PF (tw w) P w K mg base 7 "walk_on" jo:=
 letI:TW:=tw w
 iO (g:=lW) hs hV fun _ _ _ _ _ _ _ hr=>have hu:=hr.units;(af (aN 4 hV.nd (au cz hr (aa (aA 0) ak))) (af (f7 5 hV.nd (aZ (aa (aA 2) ak))) (af (d8 (dX (aA 3)) (aX 6 hV.nd) (aq (dI 5 (au cO hr (aa (aA 0) (aa (aA 1) (aa (ao (ixP hu) (aw 4) (EV.o (ao (ixP hu) (EV.o (ao (ixP hu) (kH 5) (EV.o (iC aI)))) ae))) (aa (ao (ixP hu) (kH 5) (EV.o (iC aI))) (aa (aA 6) ak))))))))) (aq (SV.frz 5 (aE (aA 5)))))))
abbrev uN:Stmt:=top 23
theorem B4:FnScope ["H","hour","row"] ["H","hour","row"] (ar uN):=fsc
theorem iK (T:Txt w K mg) (hs:Hs K mg "walk" uN) (jK:@PF (tw w) P w K mg base 7 "walk_on" jo) (e9:@PF (tw w) P w K mg base 4 "begin" cb):@PF (tw w) P w K mg base 8 "walk" jq:=
 letI:TW:=tw w
 iO (g:=we) hs B4 fun _ _ _ _ _ _ _ hr=>have hu:=hr.units;(aq (aE (au jK hr (aa (aA 0) (aa (aA 1) (aa (au e9 hr (aa (aA 0) (aa (aA 1) ak))) (aa (aA 2) ak)))))))
abbrev uO:Stmt:=top 15
theorem B5:FnScope ["H","hour","state","sign"] ["H","hour","state","sign"] (ar uO):=fsc
theorem o7 (T:Txt w K mg) (hs:Hs K mg "step" uO) (cO:@PF (tw w) P w K mg base 6 "follow" bH) (dM:@PF (tw w) P w K mg base 5 "room_ways" aM):@PF (tw w) P w K mg base 7 "step" m8:=
 letI:TW:=tw w
 iO (g:=wg) hs B5 fun _ _ _ _ _ _ _ hr=>have hu:=hr.units;(aq (aE (au cO hr (aa (aA 0) (aa (aA 1) (aa (au dM hr (aa (aA 0) (aa (ao (ixP hu) (aw 2) ae) ak))) (aa (aA 2) (aa (aA 3) ak))))))))
abbrev iG:Stmt:=top 42
theorem bf:FnScope ["_law_house_here","_law_other_here","_law_hour","_law_pairs","_law_row","_law_rows","_law_k","_law_here","_law_there","_law_told","_law_sign","_law_after"] ["_law_house_here","_law_other_here","_law_hour","_law_pairs","_law_row"] (ar iG):=fsc
theorem f9 (T:Txt w K mg) (hs:Hs K mg "_law_shown" iG) (bZ:@PF (tw w) P w K mg base 1 "_law_key" bp) (cU:@PF (tw w) P w K mg base 1 "heard" cL) (iK:@PF (tw w) P w K mg base 8 "walk" jq) (o7:@PF (tw w) P w K mg base 7 "step" m8):@PF (tw w) P w K mg base 9 "_law_shown" cY:=
 letI:TW:=tw w
 iO (g:=iS) hs bf fun _ _ _ _ _ _ _ hr=>have hu:=hr.units;(af (f7 5 bf.nd Ck) (af (d8 (wO rfl T.n_enumerate (aA 3)) (lj rfl (bD (aX 6 bf.nd) (bD (lj rfl (bD (aX 7 bf.nd) (bD (aX 8 bf.nd) (bD (aX 9 bf.nd) iE)))) iE))) (af (bO (EW.et (m9 (aQ (Hz hu) yK (EV.o (aR (aa (aA 7) (aa (aA 8) ak)))) (kH 5)) (ju (EW.et (pM (aQ HC qC (aw 6) ae) (me (aQ (Ej hu) rZ (EV.o (au bZ hr (aa (ao (ixP hu) (EV.o (ao (ixP hu) (aw 3) (EV.o (av BD (aw 6) ae)))) ae) ak))) (EV.o (au bZ hr (aa (aA 9) ak)))))))))) (aq (aE jv)) aJ) (af (bO (EW.et (m9 (aQ (BH hu) jR (EV.o (au cU hr (aa (aA 0) (aa (aA 7) ak)))) (EV.o (au cU hr (aa (aA 1) (aa (aA 8) ak))))) (ju (EW.et (pM (aQ Eh vR (aw 4) (EV.o kj)) (me (aQ (Ej hu) rZ (EV.o (au bZ hr (aa (aA 9) ak))) (EV.o (au bZ hr (aa (aA 4) ak)))))))))) (aq (aE jv)) aJ) (af (bO (EW.et (m9 (aQ (BH hu) jR (EV.o (ao (ixP hu) (EV.o (au iK hr (aa (aA 0) (aa (aA 2) (aa (aA 9) ak))))) (EV.o (iC aI)))) (aw 7)) (ju (aQ (BH hu) jR (EV.o (ao (ixP hu) (EV.o (au iK hr (aa (aA 1) (aa (aA 2) (aa (aA 9) ak))))) (EV.o (iC aI)))) (aw 8))))) (aq (aE jv)) aJ) (aq (uI 5 hu (aR (aa (aA 7) (aa (aA 8) ak))) (aA 9))))))) (af (d8 (dX (aA 3)) (lj rfl (bD (aX 7 bf.nd) (bD (aX 8 bf.nd) (bD (aX 9 bf.nd) iE)))) (aq (d8 (dX aC) (aX 10 bf.nd) (aq (bO (EW.et (m9 (aQ Ei rY (aw 4) (EV.o kj)) (ju (aQ (Hx hu) yJ (EV.o (au bZ hr (aa (av cB (aw 9) (aw 10)) ak))) (EV.o (au bZ hr (aa (aA 4) ak))))))) (af (aN 11 bf.nd (aR (aa (au o7 hr (aa (aA 0) (aa (aA 2) (aa (aA 7) (aa (aA 10) ak))))) (aa (au o7 hr (aa (aA 1) (aa (aA 2) (aa (aA 8) (aa (aA 10) ak))))) ak)))) (aq (bO (EW.et (m9 (aQ (rG hu) lS (aw 11) (kH 5)) (ju (aQ (HB hu) yL (EV.o (au bZ hr (aa (ao (ixT hu) (kH 5) (aw 11)) ak))) (EV.o (au bZ hr (aa (av cB (aw 9) (aw 10)) ak))))))) (aq (aE jv)) aJ))) aJ))))) (aq (aE jv)))))
abbrev eQ:Stmt:=top 41
theorem gu:FnScope ["_law_found","_law_one"] ["_law_found"] (ar eQ):=fsc
theorem dS (T:Txt w K mg) (hs:Hs K mg "_law_are_pairs" eQ):@PF (tw w) P w K mg base 1 "_law_are_pairs" dw:=
 letI:TW:=tw w
 iO (g:=eS) hs gu fun _ _ _ _ _ _ _ hr=>have hu:=hr.units;(af (bO (mh (eE (EV.o (pN yI rfl T.n_isinstance rfl T.n_list (by decide +kernel) (aw 0))))) (aq (aE jv)) aJ) (af (d8 (dX (aA 0)) (aX 1 gu.nd) (aq (bO (EW.et (m9 (mh (eE (EV.o (pN pD rfl T.n_isinstance rfl T.n_tuple (by decide +kernel) (aw 1))))) (m9 (aQ (BH hu) jR (EV.o (jW u5 rfl T.n_len rfl (aw 1))) ae) (ju (mh (eE (EV.o (pN vQ rfl T.n_isinstance rfl T.n_str (by decide +kernel) (EV.o (ao (ixP hu) (aw 1) ae)))))))))) (aq (aE jv)) aJ))) (aq (aE jv))))
abbrev nV:Stmt:=top 43
theorem gv:FnScope ["_law_script","_law_rooms","_law_names_here","_law_first","_law_house_here","_law_more","_law_cell","_law_other_here","_law_hour","_law_found","_law_starts","_law_row"] ["_law_script"] (ar nV):=fsc
theorem Ek {f:Addr} {fd:FuncData} (T:Txt w K mg) (F:Fun K "law" "law" nV f fd) (iN:@PF (tw w) P w K mg base 3 "_law_plan" ij) (ff:@PF (tw w) P w K mg base 2 "_law_names" eT) (aU:@PF (tw w) P w K mg base 1 "_law_cell_at" ax) (fg:@PF (tw w) P w K mg base 2 "_law_house" eU) (gH:@PF (tw w) P w K mg base 1 "_law_other" gf) (jL:@PF (tw w) P w K mg base 9 "compare" fI) (e9:@PF (tw w) P w K mg base 4 "begin" cb) (dS:@PF (tw w) P w K mg base 1 "_law_are_pairs" dw) (f9:@PF (tw w) P w K mg base 9 "_law_shown" cY) (cU:@PF (tw w) P w K mg base 1 "heard" cL) (iK:@PF (tw w) P w K mg base 8 "walk" jq):FnOk P w K mg base CX0 10 f fd ["_law_script"] (@spP (tw w) K 1 wH):=
 letI:TW:=(tw w)
 have main:FnOk P w K mg base CX0 (9+1) f fd ["_law_script"] (spP K 1 (eZ 1 12 tM)):=by
  refine HE (N:=["_law_script","_law_rooms","_law_names_here","_law_first","_law_house_here","_law_more","_law_cell","_law_other_here","_law_hour","_law_found","_law_starts","_law_row"]) (ps:=["_law_script"]) (k:=9) (g:=tM) F gv ?_;intro cdv A outer s H E hr;have hu:=hr.units;exact(af (aN 1 gv.nd (au iN hr (aa (aA 0) ak))) (af (aN 2 gv.nd (au ff hr (aa (au aU hr (aa (aA 0) (aa aI ak))) ak))) (af (aN 3 gv.nd (av bG (EV.o (au aU hr (aa (aA 0) (aa aI ak)))) ae)) (af (aN 4 gv.nd (au fg hr (aa (aA 1) (aa (aA 2) (aa (aA 3) (aa jv ak)))))) (af (aN 5 gv.nd (au ff hr (aa (au aU hr (aa (aA 0) (aa aI ak))) ak))) (af (aN 6 gv.nd (au aU hr (aa (aA 0) (aa aI ak)))) (af (aN 7 gv.nd (au fg hr (aa (au gH hr (aa (aA 1) (aa (aA 6) ak))) (aa (aA 5) (aa (aA 3) (aa (km (i6 hu) (EV.o (av bG (aw 6) ae)) ae) ak)))))) (af (aN 8 gv.nd (av bG (EV.o (au aU hr (aa (aA 0) (aa aI ak)))) ae)) (af (aN 9 gv.nd (au jL hr (aa (aA 4) (aa (aA 7) (aa (aA 8) ak))))) (af (aN 10 gv.nd (aR (aa (au e9 hr (aa (aA 4) (aa (aA 8) ak))) (aa (au e9 hr (aa (aA 7) (aa (aA 8) ak))) (aa aC ak))))) (af (bO (EW.et (m9 (mh (eE (EV.o (pN pD rfl T.n_isinstance rfl T.n_tuple (by decide +kernel) (aw 9))))) (ju (mh (eE (EV.o (au dS hr (aa (ao (ixP hu) (aw 9) (EV.o (iC aI))) ak)))))))) (aq (aE jv)) aJ) (af (bO (aQ (i6 hu) b9 (EV.o (ao (ixP hu) (aw 9) ae)) cJ) (aq (aE (wI (km (i6 hu) (EV.o (jW u5 rfl T.n_len rfl (aw 9))) ae) (wI (km (i6 hu) (EV.o (cD (EV.o (ao (ixP hu) (aw 9) ae)) c9 (c8 aI))) (EN.o (aZ (aa (aA 10) ak)))) (Aw (au f9 hr (aa (aA 4) (aa (aA 7) (aa (aA 8) (aa (ao (ixP hu) (aw 9) ae) (aa kj ak))))))))))) aJ) (af (bO (EW.et (m9 (aQ (BH hu) jR (EV.o (ao (ixP hu) (aw 9) ae)) cJ) (m9 (aQ (BH hu) jR (EV.o (jW u5 rfl T.n_len rfl (aw 9))) ae) (ju (mh (eE (EV.o (pN vQ rfl T.n_isinstance rfl T.n_str (by decide +kernel) (EV.o (ao (ixP hu) (aw 9) ae)))))))))) (aq (aE jv)) aJ) (af (aN 11 gv.nd (ao (ixP hu) (aw 9) ae)) (af (bO (aQ (i6 hu) b9 (EV.o (au cU hr (aa (aA 4) (aa (ao (ixP hu) (EV.o (au iK hr (aa (aA 4) (aa (aA 8) (aa (aA 11) ak))))) (EV.o (iC aI))) ak)))) (EV.o (au cU hr (aa (aA 7) (aa (ao (ixP hu) (EV.o (au iK hr (aa (aA 7) (aa (aA 8) (aa (aA 11) ak))))) (EV.o (iC aI))) ak))))) (aq (aE jv)) aJ) (af (bO (aQ (i6 hu) b9 (aw 11) cJ) (aq (aE (km (i6 hu) (EV.o (ao (ixP hu) (aw 9) ae)) (EN.o (aZ ak))))) aJ) (aq (aE (wI (km (i6 hu) (EV.o (cD (EV.o (ao (ixP hu) (aw 9) ae)) c9 (c8 aI))) (EN.o (aZ (aa (aA 10) ak)))) (Aw (au f9 hr (aa (aA 4) (aa (aA 7) (aa (aA 8) (aa (ao (ixP hu) (aw 9) ae) (aa (aA 11) ak))))))))))))))))))))))))))
 main
end K38
namespace K38
open PySem PySem.Spec PyProof.Rows L2 PU
seal EV EO EN EA ET EW SV SVs TGt CI TCt CJ EI ETs ED EOI ELF EVF ENF ETF SVF
theorem all_mk {l:Pg} {w:LI} {K:KA} {h:Heap} {mg:Str->Option KB} {fa:Addr} (X:K.In h) (G:h.Ns mainGlobals mg) (hfa:mg "law"=some (.ref fa))
  {f25 f33:Addr} {od25 an25 od33 an33:Option Addr} {sl25 sl33:Array (Option KB)} {oc25 kV25 dc25 pm25 cd25 ct25 oc33 kV33 dc33 pm33 cd33 ct33:KB}
  (h0:Has K "_law_numbers" fT)
  (h1:Has K "_law_menu" jI)
  (h2:Has K "_law_cell_at" fU)
  (h3:Has K "_law_plan" jH)
  (h4:Has K "_law_names" iI)
  (h5:Has K "_law_room" jG)
  (h6:Has K "_law_house" iJ)
  (h7:Has K "handed" nX)
  (h8:Has K "come_to" ly)
  (h9:Has K "arrival" lB)
  (h10:Has K "by_wrong_key" fz)
  (h11:Has K "by_key" nZ)
  (h12:Has K "by_wait" lA)
  (h13:Has K "follow" nY)
  (h14:Has K "heard" qb)
  (h15:Has K "beginning_counts" df)
  (h16:Has K "key_of" nW)
  (h17:Has K "code_of" lz)
  (h18:Has K "own_beginning" eO)
  (h19:Has K "beginnings" gG)
  (h20:Has K "names_ways" gD)
  (h21:Has K "room_ways" iF)
  (h22:Has K "house_ways" gE)
  (h23:Has K "first_rows" gF)
  (h24:Has K "begin" qd)
  (a25:Lq K mainGlobals "compare"=some (some (.ref f25))) (l25:K.lookup f25=some ⟨oc25,od25,.func (M1 "compare" "compare" (eV cN) (bM cN) (ar cN) .none kV25 dc25 pm25 an25 cd25 ct25),sl25⟩) (c25:Mz K cd25 "compare"=true) (k25:MP K (.ref f25)=true)
  (h26:Has K "_law_other" iH)
  (h27:Has K "_law_key" lx)
  (h28:Has K "walk_on" lu)
  (h29:Has K "walk" uN)
  (h30:Has K "step" uO)
  (h31:Has K "_law_shown" iG)
  (h32:Has K "_law_are_pairs" eQ)
  (a33:Lq K mainGlobals "law"=some (some (.ref f33))) (l33:K.lookup f33=some ⟨oc33,od33,.func (M1 "law" "law" (eV nV) (bM nV) (ar nV) .none kV33 dc33 pm33 an33 cd33 ct33),sl33⟩) (c33:Mz K cd33 "law"=true) (k33:MP K (.ref f33)=true)
  {cP25:Addr} (hcode25:cd25=.ref cP25) (hhd25:OL K cP25 eK=true)
  (z_dict:Lq K mainGlobals "dict"=some none)
  (z_enumerate:Lq K mainGlobals "enumerate"=some none)
  (z_int:Lq K mainGlobals "int"=some none)
  (z_isinstance:Lq K mainGlobals "isinstance"=some none)
  (z_len:Lq K mainGlobals "len"=some none)
  (z_list:Lq K mainGlobals "list"=some none)
  (z_range:Lq K mainGlobals "range"=some none)
  (z_str:Lq K mainGlobals "str"=some none)
  (z_tuple:Lq K mainGlobals "tuple"=some none)
  (z_zip:Lq K mainGlobals "zip"=some none)
  (c_CODE_END:@Con (tw w) K mg "CODE_END" c_CODE_END)
  (c_HEARD:@Con (tw w) K mg "HEARD" c_HEARD)
  (c_SIGNS:@Con (tw w) K mg "SIGNS" c_SIGNS)
  (c_WAIT:@Con (tw w) K mg "WAIT" c_WAIT)
  : ∃fd:FuncData,(∀(s:KC) (v:KB),Qe s fd ⟨[v],[]⟩ [("_law_script",v)])/\∀base:Heap,K.In base->base.Ns mainGlobals mg->(∃bm o,mg "__builtins__"=some (.ref bm)/\bm≠Lw/\bm≠mainGlobals/\base.get? bm=some o/\o.cls=.type "module"/\o.dict=some Lw/\o.data=.plain)->FnOk l.prog w K mg base CX0 10 fa fd ["_law_script"] (@spP (tw w) K 1 wH):=by
 have e:=hfa.symm.trans (OG X G a33);cases e;have T:Txt w K mg:=⟨Ls X G z_dict,Ls X G z_enumerate,Ls X G z_int,Ls X G z_isinstance,Ls X G z_len,Ls X G z_list,Ls X G z_range,Ls X G z_str,Ls X G z_tuple,Ls X G z_zip,c_CODE_END,c_HEARD,c_SIGNS,c_WAIT⟩;have F25:=wq (st:=cN) l25 c25 k25;have b25:=F25.binds (ps:=["H","G","hour"]) fun _ _ _ _ _ _ us hl=>match us,hl with | [_,_,_],_=>rfl
 have F33:=wq (st:=nV) l33 c33 k33;refine⟨M1 "law" "law" (eV nV) (bM nV) (ar nV) .none kV33 dc33 pm33 an33 cd33 ct33,fun s v=>.of_eq rfl,fun base hKb _ hbn=>?_⟩;have p_law_numbers:=bK (P:=l.prog) (base:=base) T (h0.fn X G);have p_law_menu:=fX (P:=l.prog) (base:=base) T (h1.fn X G) p_law_numbers;have p_law_cell_at:=aU (P:=l.prog) (base:=base) T (h2.fn X G);have p_law_plan:=iN (P:=l.prog) (base:=base) T (h3.fn X G) p_law_menu p_law_cell_at p_law_numbers;have p_law_names:=ff (P:=l.prog) (base:=base) T (h4.fn X G) p_law_numbers;have p_law_room:=iM (P:=l.prog) (base:=base) T (h5.fn X G);have p_law_house:=fg (P:=l.prog) (base:=base) T (h6.fn X G) p_law_room;have p_handed:=lD (P:=l.prog) (base:=base) T (h7.fn X G);have p_come_to:=jM (P:=l.prog) (base:=base) T (h8.fn X G) p_handed;have p_arrival:=cA (P:=l.prog) (base:=base) T (h9.fn X G) p_come_to;have p_by_wrong_key:=dh (P:=l.prog) (base:=base) T (h10.fn X G) p_arrival;have p_by_key:=lE (P:=l.prog) (base:=base) T (h11.fn X G) p_by_wrong_key p_arrival;have p_by_wait:=jO (P:=l.prog) (base:=base) T (h12.fn X G) p_arrival;have p_follow:=cO (P:=l.prog) (base:=base) T (h13.fn X G) p_by_wait p_by_key;have p_heard:=cU (P:=l.prog) (base:=base) T (h14.fn X G);have LT:=JR (P:=l.prog) (base:=base) T p_follow p_heard;have p_beginning_counts:=cW (P:=l.prog) (base:=base) T (h15.fn X G);have p_key_of:=lC (P:=l.prog) (base:=base) T (h16.fn X G);have p_code_of:=jN (P:=l.prog) (base:=base) T (h17.fn X G) p_key_of;have p_own_beginning:=dR (P:=l.prog) (base:=base) T (h18.fn X G);have p_beginnings:=fZ (P:=l.prog) (base:=base) T (h19.fn X G) p_code_of p_beginning_counts p_own_beginning;have p_names_ways:=fW (P:=l.prog) (base:=base) T (h20.fn X G) p_beginnings;have p_room_ways:=dM (P:=l.prog) (base:=base) T (h21.fn X G) p_names_ways;have p_house_ways:=cz (P:=l.prog) (base:=base) T (h22.fn X G) p_room_ways;have p_first_rows:=fY (P:=l.prog) (base:=base) T (h23.fn X G) LT;have p_begin:=e9 (P:=l.prog) (base:=base) T (h24.fn X G) p_arrival;have p_compare:=jL (P:=l.prog) (base:=base) T F25 (OG X G a25) b25 hcode25 hhd25 hKb hbn p_house_ways p_first_rows p_begin LT;have p_law_other:=gH (P:=l.prog) (base:=base) T (h26.fn X G);have p_law_key:=bZ (P:=l.prog) (base:=base) T (h27.fn X G);have p_walk_on:=jK (P:=l.prog) (base:=base) T (h28.fn X G) p_house_ways p_follow;have p_walk:=iK (P:=l.prog) (base:=base) T (h29.fn X G) p_walk_on p_begin;have p_step:=o7 (P:=l.prog) (base:=base) T (h30.fn X G) p_follow p_room_ways;have p_law_shown:=f9 (P:=l.prog) (base:=base) T (h31.fn X G) p_law_key p_heard p_walk p_step;have p_law_are_pairs:=dS (P:=l.prog) (base:=base) T (h32.fn X G);exact Ek T F33 p_law_plan p_law_names p_law_cell_at p_law_house p_law_other p_compare p_begin p_law_are_pairs p_law_shown p_heard p_walk
theorem walk{l:Pg}{q:L6}{loose:List Str}{XP:(Str->Option KB)->Heap->Prop}{YP:LI->Heap->Prop}{d:DefRec}{K:Params->KA}(hn:l.most=some 63)(hdf:d.params.defaults=[])
  (hY:∀(w:LI)(h:Heap),YP w h->(K w.params).In h) (hT:∀(w:LI)(h:Heap),YP w h->∀P∈PTS,h.get? P=some (Mj #[])) (hC:∀(w:LI),∀P∈PTS,∃c,OL (K w.params) c P=true) (hL:∀(w:LI),∀P∈PTS,(K w.params).lookup P=none)
  (F:∀(w:LI)(mg:Str->Option KB)(fa:Addr)(h:Heap),(K w.params).In h->h.Ns mainGlobals mg->mg d.name=some (.ref fa)->
   ∃fd:FuncData,(∀(s:KC) (u:KB),Qe s fd ⟨[u],[]⟩ [("_law_script",u)])/\∀base:Heap,(K w.params).In base->base.Ns mainGlobals mg->(∃bm o,mg "__builtins__"=some (.ref bm)/\bm≠Lw/\bm≠mainGlobals/\base.get? bm=some o/\o.cls=.type "module"/\o.dict=some Lw/\o.data=.plain)->FnOk l.prog w (K w.params) mg base CX0 10 fa fd ["_law_script"] (@spP (tw w) (K w.params) 1 wH)) :
  PySem.W.WalkO q loose XP YP l.row.toRowW d [] (fun f vs=>RU f vs):=
 L2.walk_ofT (n:=63) (k:=10) (x:="_law_script") (CX:=fun _=>CX0) (sp:=fun w=>@spP (tw w) (K w.params) 1 wH) hn (by decide) hdf ⟨rfl,by decide,by decide⟩ PTS hY hT hC hL F
  (fun w _ a ns hl hT hS=>letI:TW:=tw w;⟨rfl,GT (ts:=PTS) rfl hT,_,_,sY hS,yA ns,fun v _ _ r=>r⟩) fun _ _ _ _ _ z=>z
end K38
def PySem.W.Fast.tw14948148679935426223:Nat:=0
def PySem.W.Fast.tw8407662729925057491:Nat:=0
def PySem.W.Fast.tw1666074990303969322:Nat:=0
def PySem.W.Fast.tw11699474857090831772:Nat:=0
def PySem.W.Fast.tw4814526546011731917:Nat:=0
def PySem.W.Fast.tw9409199162084336444:Nat:=0
def PySem.W.Fast.tw12843495795488091682:Nat:=0
def PySem.W.Fast.tw18067170686436788970:Nat:=0
def PySem.W.Fast.tw207080350796140710:Nat:=0
def PySem.W.Fast.tw8067803671600534610:Nat:=0
def PySem.W.Fast.tw1529511506442327150:Nat:=0
def PySem.W.Fast.tw8925499709442688916:Nat:=0
def PySem.W.Fast.tw8015418370359052186:Nat:=0
def PySem.W.Fast.tw17664369219236289646:Nat:=0
def PySem.W.Fast.tw11657772397027314585:Nat:=0
def PySem.W.Fast.tw2059341456926845328:Nat:=0
def PySem.W.Fast.tw7129033722094025345:Nat:=0
def PySem.W.Fast.tw13380188036875052029:Nat:=0
def PySem.W.Fast.tw15456043614017737515:Nat:=0
def PySem.W.Fast.tw15973623887653202809:Nat:=0
def PySem.W.Fast.tw11441203161680441499:Nat:=0
def PySem.W.Fast.tw7172679308928023952:Nat:=0
def PySem.W.Fast.tw1029946423594254083:Nat:=0
def PySem.W.Fast.tw14101711746137573693:Nat:=0
def PySem.W.Fast.tw14977488157653840794:Nat:=0
def PySem.W.Fast.tw15117233348972069838:Nat:=0
def PySem.W.Fast.tw11592958747494876749:Nat:=0
def PySem.W.Fast.tw15828769528216431921:Nat:=0
def PySem.W.Fast.tw240091833198905139:Nat:=0
def PySem.W.Fast.tw16022878037408374673:Nat:=0
def PySem.W.Fast.tw12961877168622251950:Nat:=0
def PySem.W.Fast.tw16547012572237266:Nat:=0
def PySem.W.Fast.tw8825342951055062414:Nat:=0
def PySem.W.Fast.tw13452278421164474403:Nat:=0
def PySem.W.Fast.tw14868597656110821276:Nat:=0
def PySem.W.Fast.tw5562595768156978950:Nat:=0
def PySem.W.Fast.tw9819556969448716665:Nat:=0
def PySem.W.Fast.tw923878632581981895:Nat:=0
def PySem.W.Fast.tw5953750836552802868:Nat:=0
def PySem.W.Fast.tw1549415415890084973:Nat:=0
def PySem.W.Fast.tw2698964776633970663:Nat:=0
def PySem.W.Fast.tw8770362997871305056:Nat:=0
def PySem.W.Fast.tw13448406294431807063:Nat:=0
def PySem.W.Fast.tw13919749990841734490:Nat:=0
def PySem.W.Fast.tw10967462334755808238:Nat:=0
def PySem.W.Fast.tw6004798549943061730:Nat:=0
def PySem.W.Fast.tw11613526699257965385:Nat:=0
def PySem.W.Fast.tw14785864222459954717:Nat:=0
def PySem.W.Fast.tw17262194234783704637:Nat:=0
def PySem.W.Fast.tw14520136469269071651:Nat:=0
def PySem.W.Fast.tw8862584933185213892:Nat:=0
def PySem.W.Fast.tw10006627125961463743:Nat:=0
def PySem.W.Fast.tw15731453267327169260:Nat:=0
def PySem.W.Fast.tw10386935094170226319:Nat:=0
def PySem.W.Fast.tw7251825971218348913:Nat:=0
def PySem.W.Fast.tw5974782116788241094:Nat:=0
def PySem.W.Fast.tw8575527935796575617:Nat:=0
def PySem.W.Fast.tw13277394779207913163:Nat:=0
def PySem.W.Fast.tw5672134643107863147:Nat:=0
def PySem.W.Fast.tw6455456637212333777:Nat:=0
def PySem.W.Fast.tw3974182411904998324:Nat:=0
def PySem.W.Fast.tw2845730505945116355:Nat:=0
def PySem.W.Fast.tw2973852552145125944:Nat:=0
def PySem.W.Fast.tw12825176746832030413:Nat:=0
def PySem.W.Fast.tw4653545555709466997:Nat:=0
def PySem.W.Fast.tw4170952127591933986:Nat:=0
def PySem.W.Fast.tw4381509856624965754:Nat:=0
def PySem.W.Fast.tw9546351791744345243:Nat:=0
def PySem.W.Fast.tw4861013522249006487:Nat:=0
def PySem.W.Fast.tw69222962770758132:Nat:=0
def PySem.W.Fast.tw10172902889773055732:Nat:=0
def PySem.W.Fast.tw12214662536430510842:Nat:=0
def PySem.W.Fast.tw8907144803240717119:Nat:=0
def PySem.W.Fast.tw11183560077637664818:Nat:=0
def PySem.W.Fast.tw16577840539485391821:Nat:=0
def PySem.W.Fast.tw6591334959829697955:Nat:=0
def PySem.W.Fast.tw8022270548657270548:Nat:=0
def PySem.W.Fast.tw15607196126078459929:Nat:=0
def PySem.W.Fast.tw7053437088785818012:Nat:=0
def PySem.W.Fast.tw12054156559916116020:Nat:=0
def PySem.W.Fast.tw11336818357680753089:Nat:=0
def PySem.W.Fast.tw17866493240434495000:Nat:=0
def PySem.W.Fast.tw13261284564469778718:Nat:=0
def PySem.W.Fast.tw764618626318245796:Nat:=0
def PySem.W.Fast.tw16713495581550384164:Nat:=0
def PySem.W.Fast.tw3792165065626434886:Nat:=0
def PySem.W.Fast.tw8127843790056425490:Nat:=0
def PySem.W.Fast.tw8708322968845011426:Nat:=0
open PySem PySem.W PyProof.Rows
set_option maxRecDepth 100000 in
set_option maxHeartbeats 0 in
theorem PySem.Challenge.cw_menutree_k38_whole_two_houses_holds : PySem.Challenge.rw_menutree_k38_whole_two_houses.Holds := by
 w_on;o_law;km_head;(case hw=>w_witness2)
 k_fill
 refine K38.walk (l:=PySem.Challenge.rw_menutree_k38_whole_two_houses) rfl rfl (fun w h Y=>PySem.W.km_in_of Y) (fun w h Y=>PySem.W.km_tabs_of Y) ?C ?L ?F
 case F=>
  intro w mg fa h KX G hmg;refine' K38.all_mk KX G hmg ?h0 ?h1 ?h2 ?h3 ?h4 ?h5 ?h6 ?h7 ?h8 ?h9 ?h10 ?h11 ?h12 ?h13 ?h14 ?h15 ?h16 ?h17 ?h18 ?h19 ?h20 ?h21 ?h22 ?h23 ?h24 ?a25 ?l25 ?c25 ?k25 ?h26 ?h27 ?h28 ?h29 ?h30 ?h31 ?h32 ?a33 ?l33 ?c33 ?k33 ?hcode25 ?hhd25 ?z_dict ?z_enumerate ?z_int ?z_isinstance ?z_len ?z_list ?z_range ?z_str ?z_tuple ?z_zip ?q_CODE_END ?q_HEARD ?q_SIGNS ?q_WAIT
  (case h0 | h1 | h2 | h3 | h4 | h5 | h6 | h7 | h8 | h9 | h10 | h11 | h12 | h13 | h14 | h15 | h16 | h17 | h18 | h19 | h20 | h21 | h22 | h23 | h24 | h26 | h27 | h28 | h29 | h30 | h31 | h32=>(refine' PU.Has.of ?n1 ?n2 ?n3 ?n4;(case n1=>k_is);(case n2=>k_is);(case n3=>k_is);(case n4=>k_is)))
  (case a25=>k_is)
  (case l25=>k_is)
  (case c25=>k_is)
  (case k25=>k_is)
  (case a33=>k_is)
  (case l33=>k_is)
  (case c33=>k_is)
  (case k33=>k_is)
  (case hcode25=>exact rfl)
  (case hhd25=>exact rfl)
  (case z_dict=>k_is)
  (case z_enumerate=>k_is)
  (case z_int=>k_is)
  (case z_isinstance=>k_is)
  (case z_len=>k_is)
  (case z_list=>k_is)
  (case z_range=>k_is)
  (case z_str=>k_is)
  (case z_tuple=>k_is)
  (case z_zip=>k_is)
  (case q_CODE_END=>(refine' PU.con_str KX G ?n1;(case n1=>k_is)))
  (case q_HEARD=>(refine' PU.con_dct [(KI "menu",_,_),(KI "names",_,_),(KI "hand",_,_),(KI "end",_,_)] (xs:=[.str (KI "asked"),.str (KI "asked"),.str (KI "hand"),.str (KI "end")]) KX G ?n1 ?n2 ?n3 ?n4 ?n5 ?n6 ?n7 ?n8;(case n1=>k_is);(case n2=>k_is);(case n3=>exact rfl);(case n4=>decide);(case n5=>decide +kernel);(case n6=>show 4<=sizeLine;decide);(case n7=>exact .cons ⟨_,rfl⟩ (.cons ⟨_,rfl⟩ (.cons ⟨_,rfl⟩ (.cons ⟨_,rfl⟩ (.nil)))));(case n8=>intro H;exact⟨_,_,rfl,rfl,_,_,rfl,rfl,_,_,rfl,rfl,_,_,rfl,rfl,rfl⟩)))
  (case q_SIGNS=>(refine' PU.con_str KX G ?n1;(case n1=>k_is)))
  (case q_WAIT=>(refine' PU.con_str KX G ?n1;(case n1=>k_is)))
 case C=>
  intro w P hP;cases Ky.mp hP;exact⟨162,rfl⟩
 case L=>
  intro w P hP;cases Ky.mp hP;exact rfl
