import PyProof.Rows.All
import Wide.All
import OpenK.AllK
import Wide.FinOn
import Lean
import PyProof.EqAt
import PyProof.EqKinds
import PyProof.TupleCall
import PyProof.StrLawsIdx
import PyProof.StrBlockH
import PyProof.EnumStmt
import PyProof.ListNew
import PyProof.AutoListH
import PyProof.TupleIter
import PyProof.ZipIter
import PyProof.Rows.ZipGen
import KE.KDictOf
import PyProof.ListIndex
import PyProof.AttrMissHeap
import PyProof.NeKinds
import KE.KLam
import KE.KNestM
import KE.KDictLaws
import PyProof.StrLawsIn
import PySem.Challenge.RW_menutree_k40_whole_any_row_of_two
set_option Elab.async false
set_option linter.all false
set_option maxRecDepth 100000
set_option maxHeartbeats 16000000
open Array renaming forIn_toList->Nh,getElem?_eq_getElem->Jz,getElem?_toList->N2,length_toList->Io,toList_append->NU
open Bool renaming and_eq_true->Ii,and_false->LR,and_true->Lh,eq_iff_iff->Jj,false_and->MX,false_eq_true->IY,false_ne_true->HP,not_eq_true->Jy,not_true->Mn,or_eq_true->MJ,true_and->Mm
open Eq renaming refl->IE
open False renaming elim->HJ
open ForInStep renaming yield->JK
open Function renaming comp->Ja,comp_def->NF
open Int renaming emod_lt_of_pos->Lr,emod_nonneg->MU,zero_add->M3
open LawfulBEq renaming eq_of_beq->K6
open List renaming Sublist->JE,all_cons->JR,all_eq_true->KU,all_map->N1,any_cons->J2,any_eq_true->MB,any_map->Jx,append_assoc->Kw,append_nil->Iy,cons_append->Jw,count_append->O7,count_eq_zero->Lm,dropLast_concat_getLast->Ji,drop_eq_getElem_cons->Ir,drop_length->L6,drop_of_length_le->N0,eq_nil_of_length_eq_zero->Ik,filterMap_cons->K1,filter_cons_of_neg->L5,filter_cons_of_pos->L4,find?_cons->JB,find?_cons_of_neg->LD,find?_cons_of_pos->Mz,find?_eq_none->Nu,find?_some->MI,flatMap_cons->Kv,foldl_append->Lw,foldl_cons->LI,getD_cons_succ->Ng,getD_cons_zero->Nf,getD_eq_getElem?_getD->MW,getElem?_append_left->HZ,getElem?_append_right->IJ,getElem?_cons_succ->Ht,getElem?_cons_zero->IZ,getElem?_eq_getElem->Ic,getElem?_eq_none->Jm,getElem?_eq_some_iff->HM,getElem?_map->HW,getElem?_of_mem->NT,getElem?_range->Ki,getElem?_replicate->Ih,getElem?_set->Lv,getElem?_set_ne->Ke,getElem?_set_self->LC,getElem?_zipWith->LK,getElem?_zip_eq_some->Mg,getElem_mem->JY,getElem_of_mem->JV,getLast?_eq_none_iff->Mf,head?->Ll,length->JQ,length_append->Hv,length_cons->IG,length_drop->MA,length_eq_zero_iff->L3,length_map->HF,length_nil->Jh,length_replicate->Jl,length_singleton->J5,length_take->JJ,lookup->NR,lookup_cons->IR,map_append->IH,map_congr_left->JU,map_cons->HI,map_map->I8,map_nil->Jv,map_singleton->Nt,mem_append->IV,mem_append_left->Kd,mem_append_right->IS,mem_cons->Hr,mem_cons_of_mem->I9,mem_cons_self->ID,mem_filter->J3,mem_filterMap->Nr,mem_flatMap->Ju,mem_iff_getElem?->KR,mem_map->HN,mem_of_find?_eq_some->JM,mem_of_getElem?->II,mem_of_getLast?->NQ,mem_of_mem_take->NO,mem_range->JX,mem_replicate->Lk,mem_singleton->HY,nil_append->Kh,nodup_append->JP,nodup_cons->IX,not_mem_nil->JW,of_mem_zip->Kg,pairwise_iff_getElem->Me,pairwise_lt_range->My,pairwise_map->O6,prefix_iff_eq_take->K9,prefix_of_prefix_length_le->M1,prefix_refl->L1,range->Hy,range'->NK,range'_succ->M9,range_succ->LH,range_succ_eq_map->KH,replicate->IM,size_toArray->Hz,tail->M8,take_of_length_le->Mx,take_prefix->Jt,zipWith_cons_cons->Jb
open List.IsPrefix renaming length_le->JL,trans->Kz
open List.Pairwise renaming imp_of_mem->Lq
open List.Sublist renaming refl->Mh
open List.cons renaming injEq->JZ
open Min renaming min->O5
open Nat renaming add_assoc->Kc,add_sub_cancel_left->Mw,le_add_right->L8,le_of_eq->ND,le_of_lt->M0,le_refl->Hu,le_succ->Nd,le_trans->Ig,lt_irrefl->Iw,lt_of_le_of_lt->K8,lt_of_lt_of_le->HR,lt_of_succ_lt_succ->NC,lt_or_ge->Je,lt_succ_of_lt->Lz,mul_le_mul->Md,ne_of_gt->Jd,ne_of_lt->IF,not_lt->Mc,not_lt_zero->Jk,zero_le->JI
open Ne renaming symm->Jg
open Option renaming bind_eq_some_iff->HV,bind_some->Lu,getD_none->Nq,isSome_iff_exists->MV,isSome_map->Lj,map_eq_some_iff->HQ,map_some->L7
open Option.some renaming inj->Ib,injEq->K3
open Or renaming inl->MH,inr->Le
open Prod renaming ext->Ls
open PyProof.Rows renaming AllBare->LY,IntsAre->O4,callWith_type1->J9,envOfC->Kb,slot_tuple_getitem->Ip,subscriptTail_builtinR->O3
open PySem renaming Around->IL,BindsTo->Mt,Builtin->MS,Env->M5,IsPart->Lo,IsTupleKey->MF,NameKind->Jc,Paired->N9,PassesOwn->Np,Pos->JO,Program->HX,Shared->HC,Value->HB,World->IA,assign->Ln,assignEach->JN,atKey->Nn,attributeBase->M4,backTo->KI,behindInMarks->Kj,binaryOp->KC,bindArgs->MO,bindC->Nm,bindL->Nl,bootBuiltins->Jo,builtinsNs->Iv,call->Nb,callerA->MM,cellOf->N5,codeAmong->KM,codeAny->LB,codeAny_builtin->Ld,codeAny_mono->Ks,compareOp->Ia,concat_meets->Nz,eqIsQuiet->Ma,eval->J8,foldedSetIterable->KZ,getItem->ML,letOwnedTupleGo->Lc,mem_of_lookup->IQ,model->IK,noFill_tuple_add->MZ,plainId_quiet->Na,post_val_or_str->Lb,qualnameIn->LU,rawInt->Ko,richCompare_meets_room->Ny,seq_tuple_add->NZ,sizeLine_eq->Il,sliceBounds->Kk,starEach->Hw,storeName->Nk,stored->N4,strIterType->K2,swapsWith->KL,sysModules->Im,valueAt->JD,wpAny->Hx,wpAny_Call_Name_kw->Jn,wpAny_Call_method_late->Nw,wpAny_bind->HD,wpAny_call->N3,wpAny_callSpecial?_slot->Nj,wpAny_call_entry->LO,wpAny_comprehension_free->LG,wpAny_dictEntries->LA,wpAny_execs_nil->La,wpAny_forIn_list->LM,wpAny_getItem_str_slice->KJ,wpAny_holding->Js,wpAny_isInstance->MY,wpAny_loadPart'->Iq,wpAny_mono->JG,wpAny_newObj_type->KY,wpAny_passesOwn->Jr,wpAny_pure->HK,wpAny_pyIter_enum->L9,wpAny_pyNext_tuple_end->Nv,wpAny_pyNext_tuple_item->Ni,wpAny_rule->MC,wpAny_specialOf->LZ,wpAny_standAt->NY,wpAny_truthy_bool->JT,wpAny_typeOf->KW,wpAny_updateSeq->Mo
open PySem.Around renaming frames_deeper->Mv,under_plainId->Mu
open PySem.Builtin.Dict renaming dictSlotArgs->Lp,samePairs->M7,updateFrom->Ly
open PySem.Builtin.List renaming listExtendWith->KN,listItems->M6
open PySem.Builtin.Slice renaming sliceAdjust->Ka,sliceApplied->Lg,slicePlaces->Jf
open PySem.Builtin.Str renaming occurrences->J6,strSliceIndices->KQ
open PySem.Builtin.Tuple renaming tupleExact->Jq,tupleHashOf->Iz,tupleItemsOf->KO
open PySem.Calls renaming Name_function_global->MQ,callWith_builtin->Mr,evalArgs_plain->NB
open PySem.Challenge renaming pw_menutree_k40_whole_any_row_of_two->IW
open PySem.Data renaming cell->LW,fields->MG
open PySem.F renaming args_tuple_add_2->Kr,entry_tuple_add->Ku,slot_dict_eq->Mq,slot_dict_get->Ml,slot_list_append->NA,slot_tuple_add->Ky,slot_tuple_getattribute->Kx,slot_tuple_hash->L0
open PySem.Heap renaming ExtBut->NJ,SameBut->KG,get?_none_of_le->NI,get?_push_of_some->HH,get?_push_size->IC,get?_update_other->KF,get?_update_self->LJ,lt_size->HU
open PySem.Heap.DictOf renaming new->Ms
open PySem.IsTupleKey renaming inj->NH
open PySem.NameKind renaming cell->LQ,free->Ie
open PySem.Obj renaming mapSeq->JC
open PySem.Paired renaming length->Ij
open PySem.PassesOwn renaming never->NG
open PySem.SeqAt renaming EqAt->K5
open PySem.SeqAt.EqAt renaming int_str->Mk,of_refs->Mj,same->Li,str_int->Mi
open PySem.SeqAt.RcAt renaming tuples->Mp
open PySem.Str renaming join->LV,ofString->HL
open PySem.Txt renaming slice->J1,slice_le->Kf
open PySem.Value renaming bool->MP,int->O2,none->Km,notImplemented->N8,ref->JA,str->O1,type->Kl
open PySem.W renaming CodeHd->ME,Frag->HA,OpenLaw->Lx,callWith_F->N7,callWith_K->N6,cellsFrom_some->Mb,codeHdIn->Kt,codeHd_of_K->LP,codeIn->Jp,envX->K7,findIn->O0,fnMade->MD,fnOf->J0,keepIn->JH,methodObj->Lf,mg_none_of->J4,mg_of->Kq,nsIn->Iu,tabObj->JS
open PySem.WalksT renaming enumerateD->Nc
open Sum renaming inl->LF,inr->JF
open Sum.inr renaming inj->K4,injEq->MK
open True renaming intro->Kn
section
namespace L2
open PySem PySem.Spec PyProof.Rows
abbrev Key:=Sum Int Str
def oG:Key->HB->Bool
 | .inl k,v=>Value.isInt k v
 | .inr x,v=>Value.isStrOf x v
def GJ(w:IA):Key->Int
 | .inl k=>hashInt k
 | .inr x=>hashStr w x
theorem aY:∀{k:Key}{v:HB},oG k v=true->(∃i t,k=LF i/\v=O2 i t)\/(∃x t,k=JF x/\v=O1 x t)
 | .inl i,v,h=>by
  obtain⟨t,e⟩:=Value.isInt_shape (k:=i) (v:=v) h;exact .inl ⟨i,t,rfl,e⟩
 | .inr x,v,h=>by
  obtain⟨t,e⟩:=Value.isStrOf_shape (x:=x) (v:=v) h;exact .inr ⟨x,t,rfl,e⟩
theorem tf(i:Int)(t:Tok):oG (.inl i) (.int i t)=true:=by simp[oG,Value.isInt]
theorem t9(x:Str)(t:Tok):oG (.inr x) (.str x t)=true:=by simp[oG,Value.isStrOf]
theorem BX(a b:Int):decide ((LF a:Key)=LF b)=(a == b):=by
 by_cases e:a=b
 ·subst e;simp
 ·have h:¬ (LF a:Key)=LF b:=fun q=>e (Sum.inl.inj q)
  rw[decide_eq_false h];exact(beq_eq_false_iff_ne.mpr e).symm
theorem BU(a b:Str):decide ((JF a:Key)=JF b)=decide (a=b):=by
 by_cases e:a=b
 ·subst e;simp
 ·have h:¬ (JF a:Key)=JF b:=fun q=>e (K4 q)
  rw[decide_eq_false h,decide_eq_false e]
theorem BW(a:Int)(b:Str):decide ((LF a:Key)=JF b)=false:=decide_eq_false (fun q=>nomatch q)
theorem BV(a:Str)(b:Int):decide ((JF a:Key)=LF b)=false:=decide_eq_false (fun q=>nomatch q)
def au(prog:HX)(w:IA):PySem.KeyKind prog w Key where
 is:=oG
 hash:=GJ w
 inj:=fun v a b ha hb=>by
  rcases aY ha with⟨i,t,rfl,rfl⟩|⟨x,t,rfl,rfl⟩
  ·rcases aY hb with⟨j,u,rfl,e⟩|⟨y,u,rfl,e⟩
   ·injection e with e1 _;rw[e1]
   ·exact nomatch e
  ·rcases aY hb with⟨j,u,rfl,e⟩|⟨y,u,rfl,e⟩
   ·exact nomatch e
   ·injection e with e1 _;rw[e1]
 byValue:=fun k v h=>by
  rcases aY h with⟨i,t,rfl,rfl⟩|⟨x,t,rfl,rfl⟩ <;> rfl
 pyHash:=fun hv h=>by
  rcases aY hv with⟨i,t,rfl,rfl⟩|⟨x,t,rfl,rfl⟩
  ·exact wpAny_pyHash_int h
  ·exact wpAny_pyHash_str h
 eqBool:=fun hu hv h=>by
  rcases aY hu with⟨i,t,rfl,rfl⟩|⟨x,t,rfl,rfl⟩
  ·rcases aY hv with⟨j,u,rfl,rfl⟩|⟨y,u,rfl,rfl⟩
   ·rw[BX] at h;exact wpAny_eqBool_int h
   ·rw[BW] at h;exact Mk i t y u _ _ _ _ h
  ·rcases aY hv with⟨j,u,rfl,rfl⟩|⟨y,u,rfl,rfl⟩
   ·rw[BV] at h;exact Mi x t j u _ _ _ _ h
   ·rw[BU] at h;exact wpAny_eqBool_str h
 «strs»:=fun k x t v h=>by
  rcases aY h with⟨i,u,rfl,e⟩|⟨y,u,rfl,e⟩
  ·exact nomatch e
  ·injection e with e1 _
   subst e1;cases v <;> rfl
theorem oy(prog:HX)(w:IA)(i:Int)(t:Tok):(au prog w).is (.inl i) (.int i t)=true:=tf i t
theorem eT(prog:HX)(w:IA)(x:Str)(t:Tok):(au prog w).is (.inr x) (.str x t)=true:=t9 x t
abbrev cI:=List (Key ⊕ List Key)
section
variable{prog : HX}{w : IA}{K : Type}[DecidableEq K](knd : KeyKind prog w K)
inductive NItems (h:Heap):List (K ⊕ List K)->List HB->Prop
 | nil:NItems h [] []
 | sc {k:K} {v:HB} {ks:List (K ⊕ List K)} {vs:List HB}:knd.is k v=true->NItems h ks vs->NItems h (.inl k::ks) (v::vs)
 | tp {k:List K} {b:Addr} {ks:List (K ⊕ List K)} {vs:List HB}:MF knd h k b->NItems h ks vs->NItems h (.inr k::ks) (.ref b::vs)
def bu (h:Heap) (ks:List (K ⊕ List K)) (a:Addr):Prop:=∃o items n,h.get? a=some o/\o.cls=.type "tuple"/\o.data=.seq items n/\NItems knd h ks items.toList
variable{knd}
theorem pB{h:Heap}{k:K}{b:Addr}(h1:knd.is k (.ref b)=true):False:=by
 have:=knd.byValue _ _ h1;simp[carriedByValue] at this
theorem NItems.inj{h:Heap}{x y:List (K ⊕ List K)}{vs:List HB}(hx:NItems knd h x vs)(hy:NItems knd h y vs):x=y:=by
 induction hx generalizing y with
 | nil=>cases hy;rfl
 | sc h1 _ ih=>
  cases hy with
  | sc h2 t2=>rw[knd.inj _ _ _ h1 h2,ih t2]
  | tp h2 t2=>exact(pB (h:=h) h1).elim
 | tp h1 _ ih=>
  cases hy with
  | sc h2 t2=>exact(pB (h:=h) h2).elim
  | tp h2 t2=>rw[NH h1 h2,ih t2]
theorem bu.typeIs {s:HC} {ks:List (K ⊕ List K)} {a:Addr} (x:bu knd s.heap ks a):s.TypeIs (.ref a) "tuple":=let ⟨o,_,_,ho,hc,_⟩:=x;⟨o,ho,hc⟩
theorem bu.inj{h:Heap}{a:Addr}{x y:List (K ⊕ List K)}(hx:bu knd h x a)(hy:bu knd h y a):x=y:=by
 obtain⟨o,items,n,ho,_,hd,hi⟩:=hx;obtain⟨o',items',n',ho',_,hd',hi'⟩:=hy;obtain rfl:o=o':=Ib (ho.symm.trans ho');rw[hd] at hd';injection hd' with h1 _;subst h1;exact hi.inj hi'
theorem NItems.keeps{h h':Heap}{ks:List (K ⊕ List K)}{vs:List HB}{d:Addr}{o:Obj}{es ep}(x:NItems knd h ks vs)(ho:h.get? d=some o)(hd:o.data=.dict es ep)(hs:KG d h h'):NItems knd h' ks vs:=by
 induction x with
 | nil=>exact .nil
 | sc h1 _ ih=>exact .sc h1 ih
 | tp h1 _ ih=>exact .tp (h1.keeps ho hd hs) ih
theorem bu.keeps{h h':Heap}{ks:List (K ⊕ List K)}{a d:Addr}{o:Obj}{es ep}(x:bu knd h ks a)(ho:h.get? d=some o)(hd:o.data=.dict es ep)(hs:KG d h h'):bu knd h' ks a:=by
 obtain⟨o',items,n,ho',hc,hd',hi⟩:=x
 have hne:a≠d:=by
  rintro rfl;obtain rfl:o'=o:=Ib (ho'.symm.trans ho);rw[hd] at hd';exact nomatch hd'
 exact⟨o',items,n,(hs.2 a hne).trans ho',hc,hd',hi.keeps ho hd hs⟩
def kx(knd:KeyKind prog w K):K ⊕ List K->Int
 | .inl k=>knd.hash k
 | .inr ks=>tupleKeyHash knd ks
def ow:K ⊕ List K->Nat
 | .inl _=>1
 | .inr ks=>ks.length+1
def lU(knd:KeyKind prog w K)(ks:List (K ⊕ List K)):Int:=reduceHash (Iz (ks.map (kx knd)))
variable{A : IL}{E : HB → HC → Prop}{s : HC}
theorem om{ks:List (K ⊕ List K)}{a:Addr}{Q:Int->HC->Prop}(hu:A.units+8<cLine)(hk:bu knd s.heap ks a)(h:Q (lU knd ks) { s with toks:=s.toks+((ks.map ow).sum+1) }) :
  Hx (IK prog w) A (pyHash (.ref a)) Q E s:=by
 have hT:=hk.typeIs;obtain⟨o,items,n,ho,_,hd,hi⟩:=hk;unfold pyHash
 first | unfold pyHashByItsType | skip
 first | refine HD (wpAny_cRoomFor_or (.inr (show A.units<cLine by omega)) ?_) | skip
 refine HD (LZ hT L0.lookup ?_);show Hx _ _ (if (some (Value.builtin "tuple.__hash__") == some Km)=true then _ else _) Q E s;rw[if_neg (by rw[beq_builtin_none];exact HP)];refine HD (LZ hT L0.lookup ?_);show Hx _ _ (callSpecialIfBoundUnlessNone? (.ref a) "__hash__" _ >>= _) Q E s;refine HD (wpAny_callSpecialIfBoundUnlessNone?_slot hT L0 (LO L0 hT F.entry_tuple_hash ?_ (F.args_tuple_hash_1 _)));show Hx _ _ (KO (.ref a) >>= _) _ _ s;refine HD (wpAny_tupleItemsOf ho hd ?_);refine HD ?_;rw[← Nh]
 refine LM _
  (fun rest (b:Array Int) s'=>∃done left,ks=done++left/\NItems knd s.heap left rest/\b.toList=done.map (kx knd)/\s'={ s with toks:=s.toks+(done.map ow).sum })
  _ ?_ ?_ _ _ ⟨[],ks,rfl,hi,rfl,rfl⟩
 ·rintro x rest b s' ⟨done,left,rfl,hl,hb,rfl⟩
  cases hl with
  | @sc k _ ks' _ h1 hl'=>
   refine HD (knd.pyHash h1 ?_)
   first
    | exact HK ⟨done++[.inl k],ks',by simp,hl',by simp[hb,kx],by simp[Kc,ow]⟩
    | exact HD (HK (HK ⟨done++[.inl k],ks',by simp,hl',by simp[hb,kx],by simp[Kc,ow]⟩))
  | @tp k b' ks' _ h1 hl'=>
   refine HD (wpAny_pyHash_tuple (knd:=knd) (ks:=k) (show A.units+1<cLine by omega) h1 ?_)
   first
    | exact HK ⟨done++[.inr k],ks',by simp,hl',by simp[hb,kx],by simp[Kc,ow]⟩
    | exact HD (HK (HK ⟨done++[.inr k],ks',by simp,hl',by simp[hb,kx],by simp[Kc,ow]⟩))
 ·rintro b s' ⟨done,left,rfl,hl,hb,rfl⟩
  cases hl;rw[Iy] at h;show Hx _ _ (retInt (Iz b.toList)) _ _ _;rw[hb];refine wpAny_ret_mkInt ?_;show Hx _ _ (if (decide (-(2:Int) ^ 63<=Iz (done.map (kx knd))) && decide (Iz (done.map (kx knd))<2 ^ 63))=true then _ else _) Q E _;unfold lU reduceHash at h
  by_cases hr:(decide (-(2:Int) ^ 63<=Iz (done.map (kx knd))) && decide (Iz (done.map (kx knd))<2 ^ 63))=true
  ·rw[if_pos hr]
   rw[if_pos hr] at h;exact HK (by simpa [Kc] using h)
  ·rw[if_neg hr]
   rw[if_neg hr] at h;exact HD (MC (HK (by simpa [Kc] using h)))
end
theorem oO{α:Type}[DecidableEq α]:∀k j:List α,((Hy (O5 k.length j.length)).all (fun i=>decide (k[i]?=j[i]?)) && k.length == j.length)=decide (k=j)
 | [],[]=>by simp
 | [],_::_=>by simp
 | _::_,[]=>by simp
 | x::k,y::j=>by
  have ih:=oO k j;have hm:O5 (x::k).length (y::j).length=O5 k.length j.length+1:=by simp only[IG];omega
  rw[hm,KH,JR,N1];have hs:((fun i=>decide ((x::k)[i]?=(y::j)[i]?)) ∘ Nat.succ)=fun i=>decide (k[i]?=j[i]?):=by funext i;simp
  rw[hs,IG,IG];have h0:decide ((x::k)[0]?=(y::j)[0]?)=decide (x=y):=by simp
  rw[h0];have e2:(k.length+1 == j.length+1)=(k.length == j.length):=by simp
  rw[e2,Bool.and_assoc,ih,Jj];simp
theorem xS{P P':HX}{w w':IA}{A:IL}{s:HC}{k j:Key}{v u:HB}(h1:(au P w).is k v=true)(h2:(au P' w').is j u=true):K5 A s v u (decide (k=j)):=fun prog ww E Q q=>(au prog ww).eqBool (a:=k) (b:=j) h1 h2 q
theorem lq{P:HX}{w:IA}{A:IL}{s:HC}:∀{k j:List Key}{vs us:List HB},ItemsAre (au P w) k vs->ItemsAre (au P w) j us->∀(i:Nat)(h1:i<vs.length)(h2:i<us.length),K5 A s vs[i] us[i] (decide (k[i]?=j[i]?))
 | _,_,_,_,.nil,_,i,h1,_=>absurd h1 (Jk _)
 | _,_,_,_,.cons _ _,.nil,i,_,h2=>absurd h2 (Jk _)
 | _,_,_,_,.cons (k:=k) a1 t1,.cons (k:=j) a2 t2,0,_,_=>by
  rw[IZ,IZ,show decide (some k=some j)=decide (k=j) by simp];exact xS a1 a2
 | _,_,_,_,.cons a1 t1,.cons a2 t2,i+1,h1,h2=>by
  rw[Ht,Ht];exact lq t1 t2 i (by simpa using h1) (by simpa using h2)
theorem zE{P:HX}{w:IA}{A:IL}{s:HC}{k j:List Key}{a b:Addr}(hu:A.units+1<cLine)(h1:MF (au P w) s.heap k a)(h2:MF (au P w) s.heap j b):K5 A s (.ref a) (.ref b) (decide (k=j)):=by
 by_cases e:a=b
 ·subst e
  rw[NH h1 h2,decide_eq_true rfl];exact Li _
 ·obtain⟨o1,i1,n1,g1,c1,d1,m1⟩:=h1
  obtain⟨o2,i2,n2,g2,c2,d2,m2⟩:=h2;have l1:=m1.length;have l2:=m2.length;have z:=oO k j;rw[l1,l2,Io,Io] at z;rw[← z];refine Mj (fun q=>e q) (Mp ⟨o1,g1,c1,n1,d1⟩ ⟨o2,g2,c2,n2,d2⟩ (by omega) fun i h1 h2=>?_);have:=lq (A:=A.in1) (s:=s) m1 m2 i (by simpa using h1) (by simpa using h2);simpa using this
theorem xJ{P:HX}{w:IA}{A:IL}{s:HC}{k:Key}{j:List Key}{v:HB}{b:Addr}(hu:A.units<cLine)(h1:(au P w).is k v=true)(h2:MF (au P w) s.heap j b):K5 A s v (.ref b) false/\K5 A s (.ref b) v false:=by
 obtain⟨o2,i2,n2,g2,c2,d2,m2⟩:=h2;have pl:s.heap.IsTuple b i2:=⟨o2,g2,c2,n2,d2⟩;rcases aY h1 with⟨i,t,rfl,rfl⟩|⟨x,t,rfl,rfl⟩
 ·exact⟨SeqAt.EqAt.int_tuple i t pl hu,SeqAt.EqAt.tuple_int i t pl hu⟩
 ·exact⟨SeqAt.EqAt.str_tuple x t pl hu,SeqAt.EqAt.tuple_str x t pl hu⟩
theorem qG{P:HX}{w:IA}{A:IL}{s:HC}(hu:A.units+1<cLine):∀{k j:List (Key ⊕ List Key)}{vs us:List HB},NItems (au P w) s.heap k vs->NItems (au P w) s.heap j us->∀(i:Nat)(h1:i<vs.length)(h2:i<us.length),K5 A s vs[i] us[i] (decide (k[i]?=j[i]?)):=by
 intro k j vs us h1
 induction h1 generalizing j us with
 | nil=>intro _ i h;exact absurd h (Jk _)
 | @sc k v ks vs a1 t1 ih=>
  intro h2 i l1 l2;cases h2 with
  | nil=>exact absurd l2 (Jk _)
  | @sc j u js us a2 t2=>
   cases i with
   | zero=>
    rw[IZ,IZ,show decide (some (LF k:Key ⊕ List Key)=some (.inl j))=decide (k=j) by simp];exact xS a1 a2
   | succ i=>rw[Ht,Ht];exact ih t2 i (by simpa using l1) (by simpa using l2)
  | @tp j b js us a2 t2=>
   cases i with
   | zero=>
    rw[IZ,IZ,show decide (some (LF k:Key ⊕ List Key)=some (.inr j))=false by simp];exact(xJ (by omega) a1 a2).1
   | succ i=>rw[Ht,Ht];exact ih t2 i (by simpa using l1) (by simpa using l2)
 | @tp k b ks vs a1 t1 ih=>
  intro h2 i l1 l2;cases h2 with
  | nil=>exact absurd l2 (Jk _)
  | @sc j u js us a2 t2=>
   cases i with
   | zero=>
    rw[IZ,IZ,show decide (some (JF k:Key ⊕ List Key)=some (.inl j))=false by simp];exact(xJ (by omega) a2 a1).2
   | succ i=>rw[Ht,Ht];exact ih t2 i (by simpa using l1) (by simpa using l2)
  | @tp j c js us a2 t2=>
   cases i with
   | zero=>
    rw[IZ,IZ,show decide (some (JF k:Key ⊕ List Key)=some (.inr j))=decide (k=j) by simp];exact zE hu a1 a2
   | succ i=>rw[Ht,Ht];exact ih t2 i (by simpa using l1) (by simpa using l2)
theorem NItems.length{P:HX}{w:IA}{h:Heap}{k:List (Key ⊕ List Key)}{vs:List HB}(x:NItems (au P w) h k vs):k.length=vs.length:=by
 induction x with
 | nil=>rfl
 | sc _ _ ih=>simp[ih]
 | tp _ _ ih=>simp[ih]
theorem ze{P:HX}{w:IA}{A:IL}{s:HC}{k j:List (Key ⊕ List Key)}{a b:Addr}(hu:A.units+8<cLine)(h1:bu (au P w) s.heap k a)(h2:bu (au P w) s.heap j b):K5 A s (.ref a) (.ref b) (decide (k=j)):=by
 by_cases e:a=b
 ·subst e
  rw[bu.inj h1 h2,decide_eq_true rfl];exact Li _
 ·obtain⟨o1,i1,n1,g1,c1,d1,m1⟩:=h1
  obtain⟨o2,i2,n2,g2,c2,d2,m2⟩:=h2;have l1:=m1.length;have l2:=m2.length;have z:=oO k j;rw[l1,l2,Io,Io] at z;rw[← z];refine Mj (fun q=>e q) (Mp ⟨o1,g1,c1,n1,d1⟩ ⟨o2,g2,c2,n2,d2⟩ (by omega) fun i h1 h2=>?_);have:=qG (A:=A.in1) (s:=s) (show A.units+1+1<cLine by omega) m1 m2 i (by simpa using h1) (by simpa using h2);simpa using this
section
variable{prog : HX}{w : IA}{A : IL}{E : HB → HC → Prop}{s : HC}
theorem mP{n:Nat}{a:Addr}{items:Array HB}{Q:Bool->HC->Prop}(ht:s.heap.IsTuple a items)(hq:∀v∈items.toList,∀(Q':Bool->HC->Prop),Q' true s->Hx (IK prog w) A (Ma n v) Q' E s)(h:Q true s):Hx (IK prog w) A (Ma (n+1) (.ref a)) Q E s:=by
 have hT:=ht.typeIs;obtain⟨o,ho,hc,m,hd⟩:=ht;unfold Ma;refine HD (LZ hT F.slot_tuple_eq.lookup ?_);show Hx _ _ (isInstance (.ref a) (.type "tuple") >>= _) _ _ s;refine HD (MY hT isSubtype_tuple_tuple ?_);simp only[Mn,IY,if_false];refine HD (wpAny_seqItems ho hd ?_);refine HD ?_;show Hx _ _ (forIn items _ _) _ _ s;rw[← Nh];refine LM _ (fun rest r s'=>r.1=none/\s'=s/\∀v∈rest,v∈items.toList) _ ?_ ?_ _ _ ⟨rfl,rfl,fun v h=>h⟩
 ·rintro v rest r s' ⟨hr,rfl,hall⟩
  refine HD (hq v (hall v ID) _ ?_);simp only[Mn,IY,if_false];exact HK ⟨rfl,rfl,fun u hu'=>hall u (I9 _ hu')⟩
 ·rintro⟨r1,r2⟩ s' ⟨hr,rfl,_⟩
  simp only at hr;subst hr;exact HK h
theorem NItems.quiet{n:Nat}{k:List (Key ⊕ List Key)}{vs:List HB}(x:NItems (au prog w) s.heap k vs):∀v∈vs,∀(Q':Bool->HC->Prop),Q' true s->Hx (IK prog w) A (Ma (n+1) v) Q' E s:=by
 induction x with
 | nil=>intro v h;cases h
 | sc h1 _ ih=>
  intro v hv Q' hQ;rcases Hr.mp hv with rfl | hv
  ·rw[eqIsQuiet_byValue _ ((au prog w).byValue _ _ h1)]
   exact HK hQ
  ·exact ih v hv Q' hQ
 | tp h1 _ ih=>
  intro v hv Q' hQ;rcases Hr.mp hv with rfl | hv
  ·obtain⟨o,items,m,ho,hc,hd,hi⟩:=h1
   refine mP ⟨o,ho,hc,m,hd⟩ (fun u hu Q2 h2=>?_) hQ;rw[eqIsQuiet_byValue _ (hi.byValue u hu)];exact HK h2
  ·exact ih v hv Q' hQ
theorem qz{k:List (Key ⊕ List Key)}{a:Addr}{Q:Bool->HC->Prop}(hk:bu (au prog w) s.heap k a)(h:Q true s):Hx (IK prog w) A (Ma 8 (.ref a)) Q E s:=by
 obtain⟨o,items,m,ho,hc,hd,hi⟩:=hk;exact mP ⟨o,ho,hc,m,hd⟩ hi.quiet h
end
def fW(prog:HX)(w:IA):HeapKind prog w (List (Key ⊕ List Key)) where
 is:=bu (au prog w)
 hash:=lU (au prog w)
 draws:=fun ks=>(ks.map ow).sum+1
 room:=fun A=>A.units+8<cLine
 inj:=fun hx hy=>hx.inj hy
 keeps:=fun x ho hd hs=>x.keeps ho hd hs
 pyHash:=fun hu hk h=>om hu hk h
 eqBool:=fun hu hx hy h=>ze hu hx hy _ _ _ _ h
 quiet:=fun hk h=>qz hk h
end L2
namespace L2
open PySem PySem.Spec PyProof.Rows
inductive V where
 | non | bl (b:Bool) | int (i:Int) | str (x:Str) | byt (b:Array UInt8) | flt (b:UInt64) | ref (a:Addr) | ty (n:String)
 deriving DecidableEq
def RelV:V->HB->Prop
 | .non,u=>u=Km
 | .bl b,u=>u=MP b
 | .int i,u=>∃t,u=O2 i t
 | .str x,u=>∃t,u=O1 x t
 | .byt b,u=>∃t,u=Value.bytes b t
 | .flt b,u=>∃t,u=Value.float b t
 | .ref a,u=>u=JA a
 | .ty n,u=>u=Kl n
abbrev Vals:List V->List HB->Prop:=N9 RelV
theorem Vals.length{xs:List V}{us:List HB}(r:Vals xs us):xs.length=us.length:=Ij r
theorem Vals.get:∀{xs:List V}{us:List HB}{i:Nat}{x:V},Vals xs us->xs[i]?=some x->∃u,us[i]?=some u/\RelV x u
 | _,_,_,_,.nil,e=>by simp at e
 | _,_,0,_,.cons r _,e=>by simp at e;subst e;exact⟨_,rfl,r⟩
 | _,_,i+1,x,.cons _ t,e=>by
  obtain⟨u,h1,h2⟩:=Vals.get (i:=i) (x:=x) t (by simpa using e);exact⟨u,by simpa using h1,h2⟩
theorem Vals.append:∀{xs ys:List V}{us ws:List HB},Vals xs us->Vals ys ws->Vals (xs++ys) (us++ws)
 | _,_,_,_,.nil,s=>s
 | _,_,_,_,.cons r t,s=>.cons r (Vals.append t s)
theorem Vals.take:∀{xs:List V}{us:List HB}(n:Nat),Vals xs us->Vals (xs.take n) (us.take n)
 | _,_,0,_=>.nil
 | _,_,_+1,.nil=>.nil
 | _,_,n+1,.cons r t=>.cons r (Vals.take n t)
theorem Vals.drop:∀{xs:List V}{us:List HB}(n:Nat),Vals xs us->Vals (xs.drop n) (us.drop n)
 | _,_,0,r=>r
 | _,_,_+1,.nil=>.nil
 | _,_,n+1,.cons _ t=>Vals.drop n t
def r8:Option V->Option HB->Prop
 | some v,some u=>RelV v u
 | none,none=>True
 | _,_=>False
def KV{κ:Type}:List (κ×V)->List (κ×HB)->Prop:=N9 fun (p:κ×V) (q:κ×HB)=>p.1=q.1/\RelV p.2 q.2
def kV:Key->V
 | .inl i=>.int i
 | .inr x=>.str x
inductive HO where
  | lst (xs:List V)
  | tup (xs:List V)
  | dK (kvs:List (Key×V)) | dT (kvs:List (cI×V))
  | set (S:Int->Bool) (n:Nat)
  | ins (C dx:Addr) (fs:List (Str×V))
  | own (x:Addr)
  | xd (fs:List (Str×V))
  | met (f x:Addr)
  | rng (lo hi:Int)
  | frz (o:Obj) (u:HO)
  | tbl (ps:Array HB)
  | ext (φ:Heap->Prop)
abbrev Hp:=Addr->Option HO
def upd(H:Hp)(a:Addr)(o:HO):Hp:=fun b=>if b=a then some o else H b
theorem ax{H:Hp}{a:Addr}{o:HO}:upd H a o a=some o:=by unfold upd;rw[if_pos rfl]
theorem az{H:Hp}{a b:Addr}{o:HO}(h:b≠a):upd H a o b=H b:=by unfold upd;rw[if_neg h]
theorem BJ{H:Hp}{a b:Addr}{o u:HO}(h:H a=some o)(h':H b=some u)(d:o≠u):a≠b:=by
 intro e;subst e;rw[h] at h';exact d (Ib h')
theorem bp{H:Hp}{a b:Addr}{o:HO}(h:H a=some o)(h':H b=none):a≠b:=by
 intro e;subst e;rw[h] at h';cases h'
def xc (h:Heap) (a:Addr) (items:Array HB):Prop:=∃o,h.get? a=some o/\o.cls=.type "tuple"/\(∃n,o.data=.seq items n)/\((∀v∈items.toList,∃b,v=JA b)->o.dict=none)
theorem xc.up{h:Heap}{a:Addr}{items:Array HB}(x:xc h a items):IsTup h a items:=by
 obtain⟨o,e,c,d,_⟩:=x;exact⟨o,e,c,d⟩
theorem xc.new (h:Heap) (items:Array HB):xc (h.push { cls:=.type "tuple",data:=.seq items }) h.objs.size items:=⟨_,IC _ rfl,rfl,⟨_,rfl⟩,fun _=>rfl⟩
def NV(H:Hp):cI->List V->Prop
 | [],vs=>vs=[]
 | .inl k::ks,vs=>∃r,vs=kV k::r/\NV H ks r
 | .inr l::ks,vs=>∃c r,vs=.ref c::r/\H c=some (.tup (l.map kV))/\NV H ks r
def eG(H:Hp)(b:Addr)(k:cI):Prop:=∃vs,H b=some (.tup vs)/\NV H k vs
theorem NV.keeps{H H':Hp}(ht:∀b ys,H b=some (.tup ys)->H' b=some (.tup ys)):∀{k:cI}{vs:List V},NV H k vs->NV H' k vs
 | [],_,h=>h
 | .inl _::_,_,⟨r,e,t⟩=>⟨r,e,NV.keeps ht t⟩
 | .inr _::_,_,⟨c,r,e,hc,t⟩=>⟨c,r,e,ht _ _ hc,NV.keeps ht t⟩
theorem eG.keeps{H H':Hp}{b:Addr}{k:cI}(x:eG H b k)(ht:∀b ys,H b=some (.tup ys)->H' b=some (.tup ys)):eG H' b k:=let ⟨vs,e,t⟩:=x;⟨vs,ht _ _ e,t.keeps ht⟩
section
variable(P : HX)(w : IA)
def cX(H:Hp)(h:Heap)(a:Addr):HO->Prop
 | .lst xs=>xs.length<=sizeLine/\∃(its:List HB) (n:Nat),Vals xs its/\h.get? a=some { cls:=.type "list",data:=.seq its.toArray n }
 | .tup xs=>xs.length<=sizeLine/\∃its:List HB,Vals xs its/\xc h a its.toArray
 | .dK kvs=>kvs.length<=sizeLine/\(a == Im)=false/\∃vs,KV kvs vs/\h.DictOf (au P w) a vs
 | .dT kvs=>kvs.length<=sizeLine/\(a == Im)=false/\∃xs:List (cI×Addr×HB),
   N9 (fun (p:cI×V) (q:cI×Addr×HB)=>p.1=q.1/\eG H q.2.1 p.1/\RelV p.2 q.2.2) kvs xs/\
   ∃o es ep,h.get? a=some o/\o.ExactDict/\o.data=.dict es ep/\es.toList=xs.map (entryOfKey (fW P w))/\(xs.map (·.1)).Nodup
 | .set S n=>h.SetOf (intKind P w) a S n
 | .ins C dx fs=>H dx=some (.own a)/\fs.length<=1000/\dx≠a/\h.get? a=some (PySem.W.instObj C dx)/\
   ∃mA,h.Ns1 dx mA/\(∀f,r8 (fs.lookup f) (mA f))/\PySem.Within mA (fs.map (·.1))
 | .own _=>∃o,h.get? a=some o
 | .xd fs=>∃mA,h.Ns1 a mA/\∀f,r8 (fs.lookup f) (mA f)
 | .rng lo hi=>∃t u v,h.get? a=some { cls:=.type "range",data:=.fields #[.int lo t,.int hi u,.int 1 v] }
 | .frz o u=>h.get? a=some o/\cX H h a u
 | .tbl ps=>h.get? a=some { cls:=.none,data:=.fields ps }
 | .met f x=>h.get? a=some (Lf (.ref f) (.ref x))
 | .ext φ=>φ h/\(∃o,h.get? a=some o)/\∀h1 h2:Heap,φ h1->(∀o,h1.get? a=some o->h2.get? a=some o)->φ h2
def HOk(H:Hp)(h:Heap):Prop:=∀a o,H a=some o->cX P w H h a o
end
section
variable{P : HX}{w : IA}{H H' : Hp}{h h' : Heap}{a : Addr}{o : HO}
theorem cX.lt(x:cX P w H h a o):a<h.objs.size:=by
 cases o with
 | lst xs=>obtain⟨_,_,_,_,e⟩:=x;exact HU e
 | tup xs=>obtain⟨_,_,_,p⟩:=x;exact p.up.lt
 | dK kvs=>obtain⟨_,_,_,_,o,_,_,e,_⟩:=x;exact HU e
 | dT kvs=>obtain⟨_,_,_,_,o,_,_,e,_⟩:=x;exact HU e
 | set S n=>obtain⟨o,_,_,_,e,_⟩:=x;exact HU e
 | ins C dx fs=>obtain⟨_,_,_,e,_⟩:=x;exact HU e
 | own y=>obtain⟨_,e⟩:=x;exact HU e
 | xd fs=>obtain⟨_,⟨_,_,_,e,_⟩,_⟩:=x;exact HU e
 | rng lo hi=>obtain⟨_,_,_,e⟩:=x;exact HU e
 | frz ob u=>obtain⟨e,_⟩:=x;exact HU e
 | tbl ps=>exact HU (show h.get? a=some _ from x)
 | met f y=>exact HU (show h.get? a=some _ from x)
 | ext φ=>obtain⟨_,⟨_,e⟩,_⟩:=x;exact HU e
theorem Paired.mapP{α β:Type}{F G:α->β->Prop}:∀{l₁:List α}{l₂:List β},N9 F l₁ l₂->(∀a b,F a b->G a b)->N9 G l₁ l₂
 | _,_,.nil,_=>.nil
 | _,_,.cons r t,f=>.cons (f _ _ r) (Paired.mapP t f)
theorem cX.stay(x:cX P w H h a o)(k:∀b u,(b=a\/H b=some (.own a))->h.get? b=some u->h'.get? b=some u)
  (ho:∀b,H b=some (.own a)->H' b=some (.own a)) (ht:∀b xs,H b=some (.tup xs)->H' b=some (.tup xs)):cX P w H' h' a o:=by
 induction o with
 | lst xs=>obtain⟨z,its,n,r,e⟩:=x;exact⟨z,its,n,r,k _ _ (.inl rfl) e⟩
 | tup xs=>obtain⟨z,its,r,ob,e,c⟩:=x;exact⟨z,its,r,ob,k _ _ (.inl rfl) e,c⟩
 | dK kvs=>obtain⟨z,y,vs,r,ob,es,ep,e,c⟩:=x;exact⟨z,y,vs,r,ob,es,ep,k _ _ (.inl rfl) e,c⟩
 | dT kvs=>
  obtain⟨z,y,xs,r,ob,es,ep,e,c⟩:=x;exact⟨z,y,xs,Paired.mapP r fun p q z=>⟨z.1,z.2.1.keeps ht,z.2.2⟩,ob,es,ep,k _ _ (.inl rfl) e,c⟩
 | set S n=>obtain⟨ob,es,ep,t,e,c⟩:=x;exact⟨ob,es,ep,t,k _ _ (.inl rfl) e,c⟩
 | ins C dx fs=>
  obtain⟨d,z,ne,e,mA,⟨od,es,ep,e2,c⟩,r⟩:=x;exact⟨ho _ d,z,ne,k _ _ (.inl rfl) e,mA,⟨od,es,ep,k _ _ (.inr d) e2,c⟩,r⟩
 | own y=>obtain⟨ob,e⟩:=x;exact⟨ob,k _ _ (.inl rfl) e⟩
 | xd fs=>obtain⟨mA,⟨od,es,ep,e,c⟩,r⟩:=x;exact⟨mA,⟨od,es,ep,k _ _ (.inl rfl) e,c⟩,r⟩
 | rng lo hi=>obtain⟨t,u,v,e⟩:=x;exact⟨t,u,v,k _ _ (.inl rfl) e⟩
 | frz ob u ih=>obtain⟨e,q⟩:=x;exact⟨k _ _ (.inl rfl) e,ih q⟩
 | tbl ps=>
  have e:h.get? a=some { cls:=.none,data:=.fields ps }:=x;show h'.get? a=some { cls:=.none,data:=.fields ps };exact k a _ (.inl rfl) e
 | met f y=>
  have e:h.get? a=some (Lf (.ref f) (.ref y)):=x;show h'.get? a=some (Lf (.ref f) (.ref y));exact k a _ (.inl rfl) e
 | ext φ=>obtain⟨p,⟨o,e⟩,st⟩:=x;exact⟨st _ _ p fun o q=>k _ _ (.inl rfl) q,⟨o,k _ _ (.inl rfl) e⟩,st⟩
theorem HOk.lt(x:HOk P w H h)(e:H a=some o):a<h.objs.size:=(x a o e).lt
theorem HOk.fresh(x:HOk P w H h)(e:h.objs.size<=a):H a=none:=by
 cases q:H a with
 | none=>rfl
 | some u=>exact absurd (HR (x.lt q) e) (Iw _)
theorem HOk.kept(x:HOk P w H h)(k:∀b u,h.get? b=some u->h'.get? b=some u):HOk P w H h':=fun a o e=>
 (x a o e).stay (fun b u _ q=>k b u q) (fun _ q=>q) fun _ _ q=>q
theorem HOk.laid(x:HOk P w H h)(k:∀b u,h.get? b=some u->h'.get? b=some u)(hp:h.objs.size<=a)(new:cX P w (upd H a o) h' a o):HOk P w (upd H a o) h':=fun b u e=>by
 have hn:=x.fresh hp
 by_cases hb:b=a
 ·subst hb;rw[ax] at e;cases e;exact new
 ·rw[az hb] at e
  exact(x b u e).stay (fun c v _ q=>k c v q) (fun c q=>by rw[az (bp q hn)];exact q) fun c xs q=>by rw[az (bp q hn)];exact q
end
def Rd(H:Hp)(a:Addr)(u:HO):Prop:=H a=some u\/∃o,H a=some (.frz o u)
theorem Rd.ok{P:HX}{w:IA}{H:Hp}{h:Heap}{a:Addr}{u:HO}(r:Rd H a u)(x:HOk P w H h):cX P w H h a u:=by
 rcases r with r | ⟨o,r⟩
 ·exact x a u r
 ·obtain⟨_,q⟩:=x a _ r
  exact q
def Mut:Option HO->Prop
 | some (.lst _)=>True
 | some (.dK _)=>True
 | some (.dT _)=>True
 | some (.set _ _)=>True
 | some (.ins _ _ _)=>True
 | some (.ext _)=>True
 | _=>False
section
variable{P : HX}{w : IA}{H : Hp}{h h' : Heap}{x e : Addr}{o' : HO}
theorem HOk.write(ok:HOk P w H h)(mu:Mut (H x))(he:e=x\/H e=some (.own x))(k:∀b u,b≠e->h.get? b=some u->h'.get? b=some u)(heo:∃u,h'.get? e=some u)
  (new:cX P w (upd H x o') h' x o'):HOk P w (upd H x o') h':=fun b u q=>by
 have nown:∀c y,H c=some (.own y)->c≠x:=fun c y r z=>by subst z;rw[r] at mu;exact mu
 have ntup:∀c xs,H c=some (.tup xs)->c≠x:=fun c xs r z=>by subst z;rw[r] at mu;exact mu
 by_cases hb:b=x
 ·subst hb;rw[ax] at q;cases q;exact new
 ·rw[az hb] at q
  by_cases hbe:b=e
  ·have q':H b=some (.own x):=by
    rcases he with z | z
    ·exact absurd (hbe.trans z) hb
    ·rw[hbe];exact z
   rw[q] at q';cases q';obtain⟨v,hv⟩:=heo;exact⟨v,by rw[hbe];exact hv⟩
  ·refine(ok b u q).stay (fun c v hc r=>k c v ?_ r) (fun c r=>by rw[az (nown c b r)];exact r) fun c xs r=>by rw[az (ntup c xs r)];exact r
   rcases hc with rfl | hc
   ·exact hbe
   ·rintro rfl
    rcases he with z | z
    ·exact nown c b hc z
    ·rw[hc] at z;cases z;exact hb rfl
end
structure Un(fs ex:List Addr)(H H':Hp)(h h':Heap):Prop where
 keep:∀b o,h.get? b=some o->H b=none->b ∉ fs->b ∉ ex->h'.get? b=some o
 slot:∀b o,h.get? b=some o->H b=none->b∈fs->b ∉ ex->∃sl,h'.get? b=some { o with slots:=sl }
 free:∀b o,h.get? b=some o->H b=none->b ∉ ex->H' b=none
 there:∀b o,h.get? b=some o->b ∉ ex->∃o',h'.get? b=some o'
 tups:∀b xs,H b=some (.tup xs)->H' b=some (.tup xs)
 frzs:∀b o u,H b=some (.frz o u)->H' b=some (.frz o u)
 tbls:∀b ps,H b=some (.tbl ps)->∃more,H' b=some (.tbl (ps++more))
section
variable{fs fs' ex ex' : List Addr}{H H1 H2 : Hp}{h h1 h2 h' : Heap}{a x e : Addr}{o : HO}
theorem Un.any(u:Un fs ex H H1 h h1){b:Addr}{ob:Obj}(q:h.get? b=some ob)(n:H b=none)(hx:b ∉ ex):∃sl,h1.get? b=some { ob with slots:=sl }:=by
 by_cases hb:b∈fs
 ·exact u.slot b ob q n hb hx
 ·exact⟨ob.slots,u.keep b ob q n hb hx⟩
theorem Un.kept(k:∀b u,h.get? b=some u->h'.get? b=some u):Un fs ex H H h h':=
 ⟨fun b ob q _ _ _=>k b ob q,fun b ob q _ _ _=>⟨ob.slots,k b ob q⟩,fun _ _ _ n _=>n,fun b ob q _=>⟨ob,k b ob q⟩,fun _ _ q=>q,fun _ _ _ q=>q,fun _ ps q=>⟨#[],by rw[q];simp⟩⟩
theorem Un.refl:Un fs ex H H h h:=Un.kept fun _ _ q=>q
theorem Un.laid(k:∀b u,h.get? b=some u->h'.get? b=some u)(hp:h.objs.size<=a)(hn:H a=none):Un fs ex H (upd H a o) h h' where
 keep:=fun b u q _ _ _=>k b u q
 slot:=fun b u q _ _ _=>⟨u.slots,k b u q⟩
 free:=fun b u q n _=>by rw[az (IF (HR (HU q) hp))];exact n
 there:=fun b u q _=>⟨u,k b u q⟩
 tups:=fun b xs q=>by rw[az (bp q hn)];exact q
 frzs:=fun b u xs q=>by rw[az (bp q hn)];exact q
 tbls:=fun b ps q=>⟨#[],by rw[az (bp q hn),q];simp⟩
theorem Un.write(mu:Mut (H x))(he:e=x\/H e=some (.own x))(k:∀b u,b≠e->h.get? b=some u->h'.get? b=some u)(heo:∃u,h'.get? e=some u):Un fs ex H (upd H x o) h h':=by
 have hx:∀b,H b=none->b≠x:=fun b n z=>by subst z;rw[n] at mu;exact mu
 have hb:∀b,H b=none->b≠e:=fun b n z=>by
  subst z;rcases he with r | r
  ·exact hx b n r
  ·rw[n] at r;cases r
 have hm:∀b u,H b=some u->¬ Mut (some u)->b≠x:=fun b u q nm z=>by subst z;rw[q] at mu;exact nm mu
 refine⟨fun b u q n _ _=>k b u (hb b n) q,fun b u q n _ _=>⟨u.slots,k b u (hb b n) q⟩,fun b u q n _=>by rw[az (hx b n)];exact n,fun b u q _=>?_,
  fun b xs q=>by rw[az (hm b _ q fun z=>z)];exact q,fun b u xs q=>by rw[az (hm b _ q fun z=>z)];exact q,fun b ps q=>⟨#[],by rw[az (hm b _ q fun z=>z),q];simp⟩⟩
 by_cases hbe:b=e
 ·subst hbe;exact heo
 ·exact⟨u,k b u hbe q⟩
end
def trk(h:Heap)(H:Hp):List Addr:=(Hy h.objs.size).filter fun a=>(H a).isSome
def wC(h:Heap)(H:Hp):Heap:=PySem.W.hideAll h (trk h H)
theorem tG(h:Heap)(H:Hp):(wC h H).objs.size=h.objs.size:=PySem.W.hideAll_size _ _
theorem wB{h:Heap}{H:Hp}{b:Addr}{o:Obj}(e:h.get? b=some o)(n:H b=none):(wC h H).get? b=some o:=
 PySem.W.hideAll_get _ e fun hm=>by
  have q:(H b).isSome=true:=(J3.mp hm).2;rw[n] at q;simp at q
theorem z6{h:Heap}{H:Hp}{b:Addr}{o:Obj}(e:(wC h H).get? b=some o):h.get? b=some o/\H b=none:=by
 have e':h.get? b=some o:=PySem.W.of_hideAll (trk h H) e;refine⟨e',?_⟩;cases q:H b with
 | none=>rfl
 | some x=>
  have hm:b∈trk h H:=J3.mpr ⟨JX.mpr (HU e'),by simp[q]⟩;have z:(wC h H).get? b=none:=PySem.W.hideAll_none (trk h H) hm;rw[z] at e;cases e
def Ae(g h:Heap)(L:Addr):List (Addr×Obj):=(Hy h.objs.size).filterMap fun a=>if a=L\/(g.get? a).isSome=true then none else (h.get? a).map fun o=>(a,o)
def rest(g h:Heap)(L d:Addr):List (Addr×Obj):=(Ae g h L).filter fun p=>decide (p.1≠d)
end L2
namespace L2
open PySem PySem.Spec PyProof.Rows
structure Mod(K:HA)(mg:Str->Option HB)(base:Heap):Prop where
 kin:K.In base
 glob:base.Ns mainGlobals mg
 blt:∃mb,base.Ns Iv mb/\∀x:Str,x≠"__name__"->mb x=Jo x
 nolimit:base.NoLimit
structure Cx where
 prog:HX
 w:IA
 K:HA
 mg:Str->Option HB
 base:Heap
 A:IL
 N:List Str
 s₀:HC
 H₀:Hp
 env:M5
 outer:List M5
 stack:List M5
 ex:List Addr
 fn:Str->Bool
 calm:Bool
 pn:List (Addr×Obj)
 xe:HB->HC->Prop
def frs(l:List M5):List Addr:=l.filterMap (·.frame)
abbrev Cx.fs(X:Cx):List Addr:=frs X.outer
def Vis(sc:Scope)(x:Str):Prop:=sc.names.lookup x=some .local\/sc.names.lookup x=some .cell\/sc.names.lookup x=some .free
def Loc(sc:Scope)(x:Str):Prop:=sc.names.lookup x=some .local\/sc.names.lookup x=some .cell
def Look(env:M5)(h:Heap)(m:Str->Option HB)(x:Str)(u:HB):Prop:=
 (env.kindOf x=some .local/\m x=some u)\/((env.kindOf x=some .cell\/env.kindOf x=some .free)/\∃c,env.cells.lookup x=some c/\h.IsCell c (some u))
structure Cx.Ok(X:Cx):Prop where
 mod:Mod X.K X.mg X.base
 kind:X.env.scope.kind=.function
 glob:X.env.globals=mainGlobals
 blt:X.env.builtins=Iv
 above:X.s₀.heap.objs.size<=X.env.locals
 inj:∀x y c,X.env.cells.lookup x=some c->X.env.cells.lookup y=some c->x=y
 has:∀x,(X.env.kindOf x=some .cell\/X.env.kindOf x=some .free)->∃c,X.env.cells.lookup x=some c
 cab:∀x c,X.fn x=true->X.env.cells.lookup x=some c->X.s₀.heap.objs.size<=c
 hd:X.calm=true->X.A.handled=none
 frames:X.A.frames=some X.stack
 stk:X.stack=X.outer\/(X.stack=X.env::X.outer/\X.env.frame=some X.env.locals)
 exf:∀b∈X.ex,b≠X.env.locals/\∀x c,X.env.cells.lookup x=some c->c≠b
 bs:∀b o,X.base.get? b=some o->X.s₀.heap.get? b=some o/\X.H₀ b=none
 bsz:X.base.objs.size<=X.s₀.heap.objs.size
 noex:∀b o,X.base.get? b=some o->b ∉ X.ex
 exfs:∀b∈X.ex,b ∉ X.fs
 funs:X.s₀.heap.FunFrames X.base X.outer
 frf:∀b∈X.fs,X.H₀ b=none
structure Inv(X:Cx)(pins:List (Addr×Obj))(σ:List (Option V))(H:Hp)(s:HC):Prop where
 ok:X.Ok
 os:s.os=X.s₀.os
 bare:LY s.gens
 base:Un X.fs X.ex X.H₀ H X.s₀.heap s.heap
 loc:∃m,s.heap.Ns X.env.locals m/\∀(i:Nat)(x:Str)(v:V),X.N[i]?=some x->σ[i]?=some (some v)->Vis X.env.scope x->∃u,RelV v u/\Look X.env s.heap m x u
 cell:∀x c,X.env.cells.lookup x=some c->∃v,s.heap.IsCell c v
 free:H X.env.locals=none
 freeC:∀x c,X.env.cells.lookup x=some c->H c=none
 pin:∀p∈X.pn++pins,s.heap.get? p.1=some p.2/\H p.1=none/\p.1≠X.env.locals/\p.1 ∉ X.fs/\∀v,p.2.data≠.cell v
 hok:HOk X.prog X.w H s.heap
 len:σ.length=X.N.length
section
variable{X : Cx}{pins : List (Addr×Obj)}{σ : List (Option V)}{H H' : Hp}{s : HC}{h' : Heap}
theorem Cx.Ok.nofr(ok:X.Ok){b:Addr}{o:Obj}(e:X.base.get? b=some o):b ∉ X.fs:=fun hb=>by
 have:=(ok.funs.mem hb).1;rw[e] at this;cases this
theorem Inv.bs(I:Inv X pins σ H s):∀b o,X.base.get? b=some o->s.heap.get? b=some o/\H b=none:=fun b o e=>
 ⟨I.base.keep b o (I.ok.bs b o e).1 (I.ok.bs b o e).2 (I.ok.nofr e) (I.ok.noex b o e),I.base.free b o (I.ok.bs b o e).1 (I.ok.bs b o e).2 (I.ok.noex b o e)⟩
theorem Inv.bk(I:Inv X pins σ H s):∀b o,X.base.get? b=some o->s.heap.get? b=some o:=fun b o e=>(I.bs b o e).1
theorem Inv.mod(I:Inv X pins σ H s):Mod X.K X.mg X.base:=I.ok.mod
theorem Inv.kIn(I:Inv X pins σ H s):X.K.In s.heap:=I.ok.mod.kin.keeps I.bk
theorem Inv.lt(I:Inv X pins σ H s):X.env.locals<s.heap.objs.size:=let ⟨_,hn,_⟩:=I.loc;hn.lt
theorem Inv.sz(I:Inv X pins σ H s):X.s₀.heap.objs.size<=s.heap.objs.size:=Ig I.ok.above (M0 I.lt)
theorem Inv.nofs(I:Inv X pins σ H s){a:Addr}(h:s.heap.objs.size<=a):a ∉ X.fs:=fun hb=>by
 obtain⟨_,o,ho,_⟩:=I.ok.funs.mem hb;exact absurd (HR (HU ho) (Ig I.sz h)) (Iw _)
theorem Inv.cne(I:Inv X pins σ H s):∀x c,X.env.cells.lookup x=some c->c≠X.env.locals:=fun x c e z=>by
 obtain⟨v,o,ho,hd⟩:=I.cell x c e;obtain⟨m,⟨o',es,ep,ho',hd',_⟩,_⟩:=I.loc;rw[z,ho'] at ho;cases ho;rw[hd'] at hd;cases hd
theorem Inv.funs(I:Inv X pins σ H s):s.heap.FunFrames X.base X.outer:=by
 have all:∀(l:List M5),(∀b∈frs l,b∈X.fs)->X.s₀.heap.FunFrames X.base l->s.heap.FunFrames X.base l:=by
  intro l
  induction l with
  | nil=>intro _ _;trivial
  | cons env r ih=>
   intro hs hl;obtain⟨hk,⟨L,o,hf,hn,ho,hd⟩,hr⟩:=hl;have hL:L∈X.fs:=hs L (by unfold frs;rw[K1,hf];exact ID);obtain⟨sl,e⟩:=I.base.slot L o ho (I.ok.frf L hL) hL fun z=>I.ok.exfs L z hL;exact⟨hk,⟨L,_,hf,hn,e,hd⟩,ih (fun b hb=>hs b (by unfold frs;rw[K1,hf];exact I9 _ hb)) hr⟩
 exact all X.outer (fun _ hb=>hb) I.ok.funs
theorem Inv.stack(I:Inv X pins σ H s):s.heap.FunFrames X.base X.stack:=by
 rcases I.ok.stk with e | ⟨e,hf⟩
 ·rw[e];exact I.funs
 ·rw[e]
  obtain⟨m,hn,_⟩:=I.loc;refine .cons (by rw[I.ok.kind];decide) hf hn ?_ I.funs;exact NI (Ig I.ok.bsz I.ok.above)
theorem Inv.stkSub(I:Inv X pins σ H s):∀b∈frs X.stack,b∈X.env.locals::X.fs:=fun b hb=>by
 rcases I.ok.stk with e | ⟨e,hf⟩
 ·rw[e] at hb;exact I9 _ hb
 ·rw[e] at hb
  unfold frs at hb;rw[K1,hf] at hb;exact hb
theorem Inv.stkFree(I:Inv X pins σ H s):∀b∈frs X.stack,H b=none:=fun b hb=>by
 rcases Hr.mp (I.stkSub b hb) with e | hb
 ·rw[e];exact I.free
 ·obtain⟨_,o,ho,_⟩:=I.ok.funs.mem hb
  exact I.base.free b o ho (I.ok.frf b hb) fun z=>I.ok.exfs b z hb
theorem Inv.step{g':Array GenState}{t':Nat}{d':Drawn}{ch:List Addr}(I:Inv X pins σ H s)
  (hch:∀b∈ch,(b∈X.ex\/X.s₀.heap.objs.size<=b)/\b≠X.env.locals/\(∀x c,X.env.cells.lookup x=some c->c≠b)/\∀p∈X.pn++pins,p.1≠b)
  (keep:∀b o,b≠X.env.locals->b ∉ X.fs->b ∉ ch->s.heap.get? b=some o->H b=none->h'.get? b=some o)
  (slot:∀b o,b≠X.env.locals->b∈X.fs->b ∉ ch->s.heap.get? b=some o->H b=none->∃sl,h'.get? b=some { o with slots:=sl }) (free:∀b o,b ∉ ch->s.heap.get? b=some o->H b=none->H' b=none)
  (there:∀b o,b ∉ ch->s.heap.get? b=some o->∃o',h'.get? b=some o')
  (tups:∀b xs,H b=some (.tup xs)->H' b=some (.tup xs)) (frzs:∀b o u,H b=some (.frz o u)->H' b=some (.frz o u)) (tbls:∀b ps,H b=some (.tbl ps)->∃more,H' b=some (.tbl (ps++more)))
  (ns:∀m,s.heap.Ns X.env.locals m->h'.Ns X.env.locals m) (hok:HOk X.prog X.w H' h') (hg:LY g') :
  Inv X pins σ H' { s with heap:=h',gens:=g',drawn:=d',toks:=t' }:=by
 have neL:∀b o,X.s₀.heap.get? b=some o->b≠X.env.locals:=fun b o e=>IF (HR (HU e) I.ok.above)
 have neC:∀b o,X.s₀.heap.get? b=some o->b ∉ X.ex->b ∉ ch:=fun b o e hx hb=>by
  rcases (hch b hb).1 with z | z
  ·exact hx z
  ·exact absurd (HR (HU e) z) (Iw _)
 have cellK:∀x c,X.env.cells.lookup x=some c->∀v,s.heap.IsCell c v->h'.IsCell c v:=fun x c e v ⟨o,ho,hd⟩=>by
  have nch:c ∉ ch:=fun z=>(hch c z).2.2.1 x c e rfl
  by_cases hc:c∈X.fs
  ·obtain⟨sl,q⟩:=slot c o (I.cne x c e) hc nch ho (I.freeC x c e)
   exact⟨_,q,hd⟩
  ·exact⟨o,keep c o (I.cne x c e) hc nch ho (I.freeC x c e),hd⟩
 refine⟨I.ok,I.os,hg,⟨fun b o e n hb hx=>?_,fun b o e n hb hx=>?_,fun b o e n hx=>?_,fun b o e hx=>?_,fun b xs e=>tups b xs (I.base.tups b xs e),fun b o xs e=>frzs b o xs (I.base.frzs b o xs e),fun b ps e=>?_⟩,?_,fun x c e=>?_,?_,fun x c e=>?_,fun p hp=>?_,hok,I.len⟩
 ·exact keep b o (neL b o e) hb (neC b o e hx) (I.base.keep b o e n hb hx) (I.base.free b o e n hx)
 ·obtain⟨sl,e1⟩:=I.base.slot b o e n hb hx
  obtain⟨sl',e2⟩:=slot b _ (neL b o e) hb (neC b o e hx) e1 (I.base.free b o e n hx);exact⟨sl',e2⟩
 ·obtain⟨o',e1⟩:=I.base.there b o e hx
  exact free b o' (neC b o e hx) e1 (I.base.free b o e n hx)
 ·obtain⟨o',e1⟩:=I.base.there b o e hx
  exact there b o' (neC b o e hx) e1
 ·obtain⟨m1,e1⟩:=I.base.tbls b ps e
  obtain⟨m2,e2⟩:=tbls b _ e1;exact⟨m1++m2,by rw[e2,Array.append_assoc]⟩
 ·obtain⟨m,hn,hl⟩:=I.loc
  refine⟨m,ns m hn,fun i x v e1 e2 e3=>?_⟩;obtain⟨u,r,l⟩:=hl i x v e1 e2 e3;refine⟨u,r,?_⟩;rcases l with l | ⟨k,c,e,z⟩
  ·exact .inl l
  ·exact .inr ⟨k,c,e,cellK x c e _ z⟩
 ·obtain⟨v,z⟩:=I.cell x c e
  exact⟨v,cellK x c e v z⟩
 ·obtain⟨m,⟨o,_,_,ho,_⟩,_⟩:=I.loc
  exact free _ o (fun z=>(hch _ z).2.1 rfl) ho I.free
 ·obtain⟨v,o,ho,hd⟩:=I.cell x c e
  exact free c o (fun z=>(hch c z).2.2.1 x c e rfl) ho (I.freeC x c e)
 ·obtain⟨e,n,ne,nf,d⟩:=I.pin p hp
  have nch:p.1 ∉ ch:=fun z=>(hch p.1 z).2.2.2 p hp rfl;exact⟨keep p.1 p.2 ne nf nch e n,free p.1 p.2 nch e n,ne,nf,d⟩
theorem Inv.un{t':Nat}(I:Inv X pins σ H s)(u:Un X.fs [] H H' s.heap h')(hok:HOk X.prog X.w H' h'):Inv X pins σ H' { s with heap:=h',toks:=t' }:=by
 obtain⟨m,⟨o,es,ep,ho,r⟩,_⟩:=id I.loc;obtain⟨sl,hL⟩:=u.any ho I.free (by simp)
 exact I.step (g':=s.gens) (d':=s.drawn) (ch:=[]) (fun _ z=>nomatch z) (fun b o _ hb _ e n=>u.keep b o e n hb (by simp)) (fun b o _ hb _ e n=>u.slot b o e n hb (by simp)) (fun b o _ e n=>u.free b o e n (by simp)) (fun b o _ e=>u.there b o e (by simp)) u.tups u.frzs u.tbls (fun m' hm=>by
  obtain⟨o',es',ep',ho',r'⟩:=hm;rw[ho] at ho';cases ho';exact⟨_,es',ep',hL,r'⟩) hok I.bare
theorem Inv.call{g':Array GenState}{t':Nat}{d':Drawn}{ch:List Addr}(I:Inv X pins σ H s)(u:Un (frs X.stack) ch H H' s.heap h')(hok:HOk X.prog X.w H' h')(hg:LY g')
  (hch:∀b∈ch,(b∈X.ex\/X.s₀.heap.objs.size<=b)/\b≠X.env.locals/\(∀x c,X.env.cells.lookup x=some c->c≠b)/\∀p∈X.pn++pins,p.1≠b) :
  Inv X pins σ H' { s with heap:=h',gens:=g',drawn:=d',toks:=t' }:=by
 obtain⟨m,⟨o,es,ep,ho,r⟩,_⟩:=id I.loc;obtain⟨sl,hL⟩:=u.any ho I.free fun z=>(hch _ z).2.1 rfl
 exact I.step (ch:=ch) hch (fun b o hL hb hc e n=>u.keep b o e n (fun z=>(Hr.mp (I.stkSub b z)).elim hL hb) hc) (fun b o _ _ hc e n=>u.any e n hc) (fun b o hc e n=>u.free b o e n hc) (fun b o hc e=>u.there b o e hc) u.tups u.frzs u.tbls (fun m' hm=>by
  obtain⟨o',es',ep',ho',r'⟩:=hm;rw[ho] at ho';cases ho';exact⟨_,es',ep',hL,r'⟩) hok hg
theorem Inv.turned{t':Nat}{it:Addr}(I:Inv X pins σ H s)(k:∀b o,b≠it->s.heap.get? b=some o->h'.get? b=some o)(hn:H it=none)(hL:it≠X.env.locals)
  (h1:it∈X.ex\/X.s₀.heap.objs.size<=it) (h2:∀x c,X.env.cells.lookup x=some c->c≠it) (h3:∀p∈X.pn++pins,p.1≠it):Inv X pins σ H { s with heap:=h',toks:=t' }:=by
 have nit:∀b u,H b=some u->b≠it:=fun b u e z=>by rw[z,hn] at e;cases e
 refine I.step (g':=s.gens) (d':=s.drawn) (ch:=[it]) (fun b hb=>?_) (fun b o _ _ hc e _=>k b o (fun z=>hc (by simp[z])) e) (fun b o _ _ hc e _=>⟨o.slots,k b o (fun z=>hc (by simp[z])) e⟩) (fun _ _ _ _ n=>n)
  (fun b o hc e=>⟨o,k b o (fun z=>hc (by simp[z])) e⟩) (fun _ _ e=>e) (fun _ _ _ e=>e) (fun b ps e=>⟨#[],by rw[e];simp⟩) (fun m hm=>?_) (fun b u e=>?_) I.bare
 ·have e:b=it:=by simpa using hb
  subst e;exact⟨h1,hL,h2,h3⟩
 ·obtain⟨o,es,ep,ho,r⟩:=hm
  exact⟨o,es,ep,k _ o (Jg hL) ho,r⟩
 ·refine(I.hok b u e).stay (fun c v hc q=>k c v ?_ q) (fun _ q=>q) fun _ _ q=>q
  rcases hc with z | z
  ·rw[z];exact nit b u e
  ·exact nit c _ z
theorem Inv.tok(I:Inv X pins σ H s)(t:Nat):Inv X pins σ H { s with toks:=t }:=I.un (h':=s.heap) (t':=t) Un.refl I.hok
theorem Inv.kept{t':Nat}(I:Inv X pins σ H s)(k:∀b u,s.heap.get? b=some u->h'.get? b=some u):Inv X pins σ H { s with heap:=h',toks:=t' }:=I.un (Un.kept k) (I.hok.kept k)
theorem Inv.laid{a:Addr}{o:HO}{t':Nat}(I:Inv X pins σ H s)(k:∀b u,s.heap.get? b=some u->h'.get? b=some u)(hp:s.heap.objs.size<=a)(new:cX X.prog X.w (upd H a o) h' a o) :
  Inv X pins σ (upd H a o) { s with heap:=h',toks:=t' }:=I.un (Un.laid k hp (I.hok.fresh hp)) (I.hok.laid k hp new)
theorem Inv.write{x e:Addr}{o:HO}{t':Nat}(I:Inv X pins σ H s)(mu:Mut (H x))(he:e=x\/H e=some (.own x))(k:∀b u,b≠e->s.heap.get? b=some u->h'.get? b=some u)(heo:∃u,h'.get? e=some u)
  (new:cX X.prog X.w (upd H x o) h' x o):Inv X pins σ (upd H x o) { s with heap:=h',toks:=t' }:=I.un (Un.write mu he k heo) (I.hok.write mu he k heo new)
theorem Inv.pins_of{pins':List (Addr×Obj)}(I:Inv X pins σ H s)(h:∀p∈pins',s.heap.get? p.1=some p.2/\H p.1=none/\p.1≠X.env.locals/\p.1 ∉ X.fs/\∀v,p.2.data≠.cell v):Inv X pins' σ H s:=
 ⟨I.ok,I.os,I.bare,I.base,I.loc,I.cell,I.free,I.freeC,fun p hp=>(IV.mp hp).elim (fun z=>I.pin p (Kd _ z)) (h p),I.hok,I.len⟩
theorem pC{N:List Str}(hN:N.Nodup){i j:Nat}{x:Str}(a:N[i]?=some x)(b:N[j]?=some x):i=j:=by
 obtain⟨h1,e1⟩:=HM.mp a;obtain⟨h2,e2⟩:=HM.mp b;exact(List.getElem_inj hN).mp (e1.trans e2.symm)
theorem rS{M:Model}{A:IL}{E:HB->HC->Prop}{i:Nat}{x:Str}{v:V}{u:HB}{Q:Unit->HC->Prop}(I:Inv X pins σ H s)(hN:X.N.Nodup)(hi:X.N[i]?=some x)(hx:Loc X.env.scope x)(r:RelV v u)
  (h:∀s',Inv X pins (σ.set i (some v)) H s'->(∃a,KG a s.heap s'.heap/\(a=X.env.locals\/X.env.cells.lookup x=some a))->Q () s') (hf:X.fn x=true\/X.env.scope.names.lookup x=some .local:=by first | exact .inl rfl | exact .inr rfl | assumption):Hx M A (Nk X.env x u) Q E s:=by
 obtain⟨m,hn,hl⟩:=id I.loc;have hcls:(X.env.scope.kind == .class || (X.env.scope.kind == .module && X.env.locals != X.env.globals))=false:=by rw[I.ok.kind];rfl
 have hiσ:i<σ.length:=by rw[I.len];exact(HM.mp hi).1
 have cne:=I.cne
 have tracked:∀{a:Addr}{h':Heap},(∃o,s.heap.get? a=some o/\H a=none)->KG a s.heap h'->HOk X.prog X.w H h':=fun {a h'} ha hs b ob e=>by
  obtain⟨_,_,hfree⟩:=ha;refine(I.hok b ob e).stay (fun c w' hc q=>(hs.2 c ?_).trans q) (fun _ q=>q) fun _ _ q=>q;rintro rfl;rcases hc with rfl | hc
  ·rw[hfree] at e;cases e
  ·rw[hfree] at hc;cases hc
 rcases hx with hk | hk
 ·refine wpAny_storeName_local hk hn (fun h' hn' hs=>?_) hcls
  obtain⟨oL,_,_,hoL,_⟩:=id hn;refine h _ ⟨I.ok,I.os,I.bare,⟨fun b o e n hb hx=>?_,fun b o e n hb hx=>?_,I.base.free,fun b o e hx=>?_,I.base.tups,I.base.frzs,I.base.tbls⟩,⟨_,hn',fun j y v' e1 e2 e3=>?_⟩,fun y c e=>?_,I.free,I.freeC,fun p hp=>?_,tracked ⟨oL,hoL,I.free⟩ hs,by simpa using I.len⟩ ⟨_,hs,.inl rfl⟩
  ·exact(hs.2 b (IF (HR (HU e) I.ok.above))).trans (I.base.keep b o e n hb hx)
  ·obtain⟨sl,e1⟩:=I.base.slot b o e n hb hx
   exact⟨sl,(hs.2 b (IF (HR (HU e) I.ok.above))).trans e1⟩
  ·obtain⟨o',e1⟩:=I.base.there b o e hx
   exact⟨o',(hs.2 b (IF (HR (HU e) I.ok.above))).trans e1⟩
  ·by_cases hj:j=i
   ·subst hj
    rw[hi] at e1;cases e1;rw[LC hiσ] at e2;cases e2;exact⟨u,r,.inl ⟨hk,by simp⟩⟩
   ·rw[Ke (Jg hj)] at e2
    obtain⟨u',r',q⟩:=hl j y v' e1 e2 e3;refine⟨u',r',?_⟩;rcases q with⟨k,e⟩|⟨k,c,e,z⟩
    ·refine .inl ⟨k,?_⟩
     have:y≠x:=fun e=>hj (pC hN e1 (e▸hi));simp[this,e]
    ·exact .inr ⟨k,c,e,z.sameBut hs (cne y c e)⟩
  ·obtain⟨w',z⟩:=I.cell y c e
   exact⟨w',z.sameBut hs (cne y c e)⟩
  ·obtain⟨e,n,ne,nf,d⟩:=I.pin p hp
   exact⟨(hs.2 p.1 ne).trans e,n,ne,nf,d⟩
 ·have hfn:X.fn x=true:=by
   rcases hf with z | z
   ·exact z
   ·rw[z] at hk;cases hk
  obtain⟨c,hc⟩:=I.ok.has x (.inl hk);obtain⟨w',z⟩:=I.cell x c hc;refine wpAny_storeName_cell I.ok.kind hk hc z (fun h' hc' hs=>?_);obtain⟨oc,hoc,hocd⟩:=id z;refine h { s with heap:=h' } ⟨I.ok,I.os,I.bare,⟨fun b o e n hb hx=>?_,fun b o e n hb hx=>?_,I.base.free,fun b o e hx=>?_,I.base.tups,I.base.frzs,I.base.tbls⟩,⟨m,hn.sameBut hs (Jg (cne x c hc)),fun j y v' e1 e2 e3=>?_⟩,fun y c' e=>?_,I.free,I.freeC,fun p hp=>?_,tracked ⟨oc,hoc,I.freeC x c hc⟩ hs,by simpa using I.len⟩ ⟨c,hs,.inr hc⟩
  ·exact(hs.2 b (IF (HR (HU e) (I.ok.cab x c hfn hc)))).trans (I.base.keep b o e n hb hx)
  ·obtain⟨sl,e1⟩:=I.base.slot b o e n hb hx
   exact⟨sl,(hs.2 b (IF (HR (HU e) (I.ok.cab x c hfn hc)))).trans e1⟩
  ·obtain⟨o',e1⟩:=I.base.there b o e hx
   exact⟨o',(hs.2 b (IF (HR (HU e) (I.ok.cab x c hfn hc)))).trans e1⟩
  ·by_cases hj:j=i
   ·subst hj
    rw[hi] at e1;cases e1;rw[LC hiσ] at e2;cases e2;exact⟨u,r,.inr ⟨.inl hk,c,hc,hc'⟩⟩
   ·rw[Ke (Jg hj)] at e2
    obtain⟨u',r',q⟩:=hl j y v' e1 e2 e3;refine⟨u',r',?_⟩;rcases q with q | ⟨k,c',e,z'⟩
    ·exact .inl q
    ·refine .inr ⟨k,c',e,z'.sameBut hs ?_⟩
     rintro rfl;exact hj (pC hN e1 (I.ok.inj _ _ _ e hc▸hi))
  ·by_cases hcc:c'=c
   ·subst hcc;exact⟨_,hc'⟩
   ·obtain⟨w2,z2⟩:=I.cell y c' e
    exact⟨w2,z2.sameBut hs hcc⟩
  ·obtain⟨e,n,ne,nf,d⟩:=I.pin p hp
   refine⟨(hs.2 p.1 ?_).trans e,n,ne,nf,d⟩;intro q;rw[q,hoc] at e;have q':oc=p.2:=Ib e;exact d w' (by rw[← q'];exact hocd)
theorem iR{M:Model}{A:IL}{E:HB->HC->Prop}{i:Nat}{x:Str}{v:V}{u:HB}{Q:Unit->HC->Prop}(I:Inv X pins σ H s)(hN:X.N.Nodup)(hi:X.N[i]?=some x)(hx:Loc X.env.scope x)(r:RelV v u)
  (h:∀s',Inv X pins (σ.set i (some v)) H s'->Q () s') (hf:X.fn x=true\/X.env.scope.names.lookup x=some .local:=by first | exact .inl rfl | exact .inr rfl | assumption):Hx M A (Nk X.env x u) Q E s:=
 rS I hN hi hx r (fun s' I' _=>h s' I') hf
theorem Inv.call'{s':HC}{ch:List Addr}(I:Inv X pins σ H s)(ho:s'.os=s.os)(u:Un (frs X.stack) ch H H' s.heap s'.heap)(hok:HOk X.prog X.w H' s'.heap)(hg:LY s'.gens)
  (hch:∀b∈ch,(b∈X.ex\/X.s₀.heap.objs.size<=b)/\b≠X.env.locals/\(∀x c,X.env.cells.lookup x=some c->c≠b)/\∀p∈X.pn++pins,p.1≠b):Inv X pins σ H' s':=by
 obtain⟨h',g',d',t',o'⟩:=s';have e:o'=s.os:=ho;subst e;exact I.call (g':=g') (t':=t') (d':=d') u hok hg hch
end
abbrev XK:=HB->Option Addr->Hp->Prop
abbrev St:=List (Option V)
abbrev VK:=V->Hp->Prop
abbrev TE:=St->Hp->VK->Prop
abbrev TT:=St->Hp->(Bool->Hp->Prop)->Prop
abbrev TA:=St->Hp->(List V->Hp->Prop)->Prop
structure Ends where
 nx:St->Hp->Prop
 rt:VK
 bk:St->Hp->Prop:=fun _ _=>False
 ct:St->Hp->Prop:=fun _ _=>False
abbrev TS:=Ends->St->Hp->Prop
def EP(X:Cx)(pins:List (Addr×Obj))(σ:St)(Q:VK)(u:HB)(s':HC):Prop:=∃v H',Inv X pins σ H' s'/\RelV v u/\Q v H'
def TP(X:Cx)(pins:List (Addr×Obj))(σ:St)(Q:Bool->Hp->Prop)(b:Bool)(s':HC):Prop:=∃H',Inv X pins σ H' s'/\Q b H'
def AP(X:Cx)(pins:List (Addr×Obj))(σ:St)(Q:List V->Hp->Prop)(us:List HB)(s':HC):Prop:=∃vs H',Inv X pins σ H' s'/\Vals vs us/\Q vs H'
def SP(X:Cx)(pins:List (Addr×Obj))(D:Ends)(f:Flow)(s':HC):Prop:=
 match f with
 | .next=>∃σ' H',Inv X pins σ' H' s'/\D.nx σ' H'
 | .brk=>∃σ' H',Inv X pins σ' H' s'/\D.bk σ' H'
 | .cont=>∃σ' H',Inv X pins σ' H' s'/\D.ct σ' H'
 | .ret u=>∃v σ' H',Inv X pins σ' H' s'/\RelV v u/\D.rt v H'
def PE(X:Cx)(e:Expr)(t:TE):Prop:=
 ∀(pins:List (Addr×Obj))(s:HC)(σ:St)(H:Hp)(Q:VK),Inv X pins σ H s->t σ H Q->Hx (IK X.prog X.w) X.A (J8 e X.env) (EP X pins σ Q) X.xe s
def PT(X:Cx)(e:Expr)(t:TT):Prop:=
 ∀(pins:List (Addr×Obj))(s:HC)(σ:St)(H:Hp)(Q:Bool->Hp->Prop),Inv X pins σ H s->t σ H Q->Hx (IK X.prog X.w) X.A (isTrue e X.env (J8 e X.env)) (TP X pins σ Q) X.xe s
def PW(X:Cx)(e:Expr)(t:TT):Prop:=
 ∀(whole:Sem HB)(pins:List (Addr×Obj))(s:HC)(σ:St)(H:Hp)(Q:Bool->Hp->Prop),Inv X pins σ H s->t σ H Q->Hx (IK X.prog X.w) X.A (isTrue e X.env whole) (TP X pins σ Q) X.xe s
theorem PW.pt{X:Cx}{e:Expr}{t:TT}(h:PW X e t):PT X e t:=h _
def PA(X:Cx)(es:List Expr)(t:TA):Prop:=
 ∀(pos:JO)(pins:List (Addr×Obj))(s:HC)(σ:St)(H:Hp)(Q:List V->Hp->Prop),Inv X pins σ H s->t σ H Q->Hx (IK X.prog X.w) X.A (spliced (KI pos (Hw es X.env))) (AP X pins σ Q) X.xe s
def PS(X:Cx)(st:Stmt)(t:TS):Prop:=
 ∀(pins:List (Addr×Obj))(s:HC)(σ:St)(H:Hp)(D:Ends),Inv X pins σ H s->t D σ H->Hx (IK X.prog X.w) X.A (exec st X.env) (SP X pins D) X.xe s
def PSs(X:Cx)(st:List Stmt)(t:TS):Prop:=
 ∀(pins:List (Addr×Obj))(s:HC)(σ:St)(H:Hp)(D:Ends),Inv X pins σ H s->t D σ H->Hx (IK X.prog X.w) X.A (execs st X.env) (SP X pins D) X.xe s
theorem thn{α:Type}{t:Sem α}{Q Q':α->HC->Prop}{M:Model}{A:IL}{E:HB->HC->Prop}{s:HC}(h:Hx M A t Q E s)(hQ:∀a s,Q a s->Q' a s):Hx M A t Q' E s:=JG h hQ fun _ _ x=>x
end L2
namespace L2
open PySem PySem.Spec PyProof.Rows
section
variable{X : Cx}
def Gg(i:Nat):TE:=fun σ H Q=>∃v,σ[i]?=some (some v)/\Q v H
def tC(v:V):TE:=fun _ H Q=>Q v H
theorem fF {i:Nat} {x:Str} {pos:JO} (hN:X.N[i]?=some x) (hv:Vis X.env.scope x) (hd:(x == ("__debug__":Str))=false:=by decide) (hcd:(x == ("__classdict__":Str))=false:=by decide):PE X (.Name x pos) (Gg i):=by
 intro pins s σ H Q I h;obtain⟨v,e,h⟩:=h;obtain⟨m,hn,hl⟩:=I.loc;obtain⟨u,r,l⟩:=hl i x v hN e hv;have fin:EP X pins σ Q u s:=⟨v,H,I,r,h⟩;rcases l with⟨hk,hm⟩|⟨hk,c,hc,hcell⟩
 ·exact wpAny_Name (wpAny_loadName_local I.ok.kind hk hn hm fin) hd
 ·rcases hk with hk | hk
  ·exact wpAny_Name (wpAny_loadName_cell I.ok.kind hk hc hcell fin) hd
  ·exact wpAny_Name (wpAny_loadName_free I.ok.kind hk hc hcell fin hcd) hd
theorem Bs{i j pos}:PE X (.Constant (.int i) j pos) (tC (.int i)):=fun _ _ _ H _ I h=>wpAny_Constant_int ⟨.int i,H,I.tok _,⟨_,rfl⟩,h⟩
theorem Ej{b j pos}:PE X (.Constant (.bool b) j pos) (tC (.bl b)):=fun _ _ _ H _ I h=>Constant_bool ⟨.bl b,H,I,rfl,h⟩
theorem Bq{j pos}:PE X (.Constant .none j pos) (tC .non):=fun _ _ _ H _ I h=>Constant_none ⟨.non,H,I,rfl,h⟩
theorem Bo{x j pos}:PE X (.Constant (.str x) j pos) (tC (.str x)):=fun _ _ _ H _ I h=>Calls.Constant_str ⟨.str x,H,I.tok _,⟨_,rfl⟩,h⟩
def Gl(X:Cx)(x:Str):Prop:=X.env.kindOf x=some .globalImplicit
theorem oE{E:HB->HC->Prop}{pins:List (Addr×Obj)}{s:HC}{σ:St}{H:Hp}{x:Str}{u:HB}{pos:JO}{Q:HB->HC->Prop}(I:Inv X pins σ H s)(hg:Gl X x)(hm:X.mg x=some u)(h:Q u s)
  (hd:(x == ("__debug__":Str))=false:=by decide):Hx (IK X.prog X.w) X.A (J8 (.Name x pos) X.env) Q E s:=
 MQ I.ok.kind hg (Calls.loadGlobal_global (by rw[I.ok.glob];exact I.mod.glob.keeps I.bk) hm h) hd
theorem l6{E:HB->HC->Prop}{pins:List (Addr×Obj)}{s:HC}{σ:St}{H:Hp}{x:Str}{u:HB}{pos:JO}{Q:HB->HC->Prop}(I:Inv X pins σ H s)(hg:Gl X x)(hm:X.mg x=none)(hv:Jo x=some u)(h:Q u s)
  (hn:x≠"__name__":=by decide) (hd:(x == ("__debug__":Str))=false:=by decide):Hx (IK X.prog X.w) X.A (J8 (.Name x pos) X.env) Q E s:=by
 obtain⟨mb,h1,h2⟩:=I.mod.blt;exact MQ I.ok.kind hg (Calls.loadGlobal_builtin (by rw[I.ok.glob];exact I.mod.glob.keeps I.bk) hm (by rw[I.ok.blt];exact h1.keeps I.bk) ((h2 x hn).trans hv) h) hd
theorem yU {x:Str} {v:V} {u:HB} {pos:JO} (hg:Gl X x) (hm:X.mg x=some u) (r:RelV v u) (hd:(x == ("__debug__":Str))=false:=by decide):PE X (.Name x pos) (tC v):=
 fun _ _ _ H _ I h=>oE I hg hm ⟨v,H,I,r,h⟩ hd
variable{a b : Expr}{ta tb : TE}{pos : JO}
variable{tA tB' : TT}{rest : List Expr}
def Gv(t u:TT):TT:=fun σ H Q=>t σ H fun c H1=>if c=true then u σ H1 Q else Q false H1
def tOr(t u:TT):TT:=fun σ H Q=>t σ H fun c H1=>if c=true then Q true H1 else u σ H1 Q
def Gn(t:TT):TT:=fun σ H Q=>t σ H fun c H1=>Q (!c) H1
theorem yK(ha:PT X a tA):PW X (.BoolOp .And [a] pos) tA:=by
 intro wh pins s σ H Q I h;refine isTrue_and (thn (ha pins s σ H Q I h) fun c s1 e=>?_);cases c with
 | true=>exact isTrue_and_nil e
 | false=>exact e
theorem Bf(ha:PT X a tA):PW X (.BoolOp .Or [a] pos) tA:=by
 intro wh pins s σ H Q I h;refine isTrue_or (thn (ha pins s σ H Q I h) fun c s1 e=>?_);cases c with
 | false=>exact isTrue_or_nil e
 | true=>exact e
theorem Bg(ha:PT X a tA)(hb:PW X (.BoolOp .And (b::rest) pos) tB'):PW X (.BoolOp .And (a::b::rest) pos) (Gv tA tB'):=by
 intro wh pins s σ H Q I h;refine isTrue_and (thn (ha pins s σ H _ I h) fun c s1 ⟨H1,I1,q1⟩=>?_);cases c with
 | true=>exact hb wh pins s1 σ H1 Q I1 q1
 | false=>exact⟨H1,I1,q1⟩
theorem Ec(ha:PT X a tA)(hb:PW X (.BoolOp .Or (b::rest) pos) tB'):PW X (.BoolOp .Or (a::b::rest) pos) (tOr tA tB'):=by
 intro wh pins s σ H Q I h;refine isTrue_or (thn (ha pins s σ H _ I h) fun c s1 ⟨H1,I1,q1⟩=>?_);cases c with
 | true=>exact⟨H1,I1,q1⟩
 | false=>exact hb wh pins s1 σ H1 Q I1 q1
theorem Bh(ha:PT X a tA):PT X (.UnaryOp .Not a pos) (Gn tA):=by
 intro pins s σ H Q I h;exact isTrue_not (ha pins s σ H (fun c H1=>Q (!c) H1) I h)
def E6(ta tb:TE):TE:=fun σ H Q=>ta σ H fun x H1=>∃c,x=.bl c/\if c=true then tb σ H1 Q else Q (.bl false) H1
theorem Bp{op}{t:TE}(h:PE X a t):PE X (.BoolOp op [a] pos) t:=fun pins s σ H Q I hw=>BoolOp_one (h pins s σ H Q I hw)
theorem Bu(ha:PE X a ta)(hb:PE X (.BoolOp .And (b::rest) pos) tb):PE X (.BoolOp .And (a::b::rest) pos) (E6 ta tb):=by
 intro pins s σ H Q I h;refine BoolOp_and (thn (ha pins s σ H _ I h) fun v s1 ⟨x,H1,I1,r1,q1⟩=>?_);obtain⟨c,rfl,q1⟩:=q1;cases r1;refine JT ?_;cases c with
 | true=>exact hb pins s1 σ H1 Q I1 q1
 | false=>exact⟨.bl false,H1,I1,rfl,q1⟩
def tIf(t:TT)(ta tb:TE):TE:=fun σ H Q=>t σ H fun c H1=>if c=true then ta σ H1 Q else tb σ H1 Q
theorem vY{c:Expr}(hc:PT X c tA)(ha:PE X a ta)(hb:PE X b tb):PE X (.IfExp c a b pos) (tIf tA ta tb):=by
 intro pins s σ H Q I h;refine wpAny_IfExp (thn (hc pins s σ H _ I h) fun d s1 ⟨H1,I1,q1⟩=>?_);cases d with
 | true=>exact ha pins s1 σ H1 Q I1 q1
 | false=>exact hb pins s1 σ H1 Q I1 q1
end
end L2
namespace L2
open PySem PySem.Spec PyProof.Rows
def SqL(K:HA)(H:Hp)(a:Addr)(xs:List V):Prop:=
 Rd H a (.lst xs) ∨
  ∃(o:Obj) (its:Array HB) (n:Nat),K.lookup a=some o/\o.cls=.type "list"/\o.dict=none/\o.data=.seq its n/\its.size<=sizeLine/\Vals xs its.toList
def SqT(K:HA)(H:Hp)(a:Addr)(xs:List V):Prop:=
 Rd H a (.tup xs) ∨
  ∃(o:Obj) (its:Array HB) (n:Nat),K.lookup a=some o/\o.cls=.type "tuple"/\o.data=.seq its n/\its.size<=sizeLine/\Vals xs its.toList/\o.dict=none
def Hb:HB->Option V
 | .none=>some .non
 | .bool b=>some (.bl b)
 | .int i _=>some (.int i)
 | .str x _=>some (.str x)
 | .bytes b _=>some (.byt b)
 | .float b _=>some (.flt b)
 | .ref a=>some (.ref a)
 | .type n=>some (.ty n)
 | _=>none
theorem RelV.abs{x:V}{u:HB}(r:RelV x u):Hb u=some x:=by
 cases x with
 | non=>cases r;rfl
 | bl _=>cases r;rfl
 | int _=>obtain⟨t,rfl⟩:=r;rfl
 | str _=>obtain⟨t,rfl⟩:=r;rfl
 | byt _=>obtain⟨t,rfl⟩:=r;rfl
 | flt _=>obtain⟨t,rfl⟩:=r;rfl
 | ref _=>cases r;rfl
 | ty _=>cases r;rfl
theorem RelV.inj{x y:V}{u:HB}(r:RelV x u)(q:RelV y u):x=y:=Ib (r.abs.symm.trans q.abs)
theorem Vals.inj:∀{xs ys:List V}{us:List HB},Vals xs us->Vals ys us->xs=ys
 | _,_,_,.nil,.nil=>rfl
 | _,_,_,.cons r t,.cons r' t'=>by rw[r.inj r',Vals.inj t t']
section
variable{X : Cx}{pins : List (Addr×Obj)}{σ : St}{H : Hp}{s : HC}{a : Addr}{xs ys : List V}
theorem SqL.of{K:HA}(h:H a=some (.lst xs)):SqL K H a xs:=.inl (.inl h)
theorem Inv.list(I:Inv X pins σ H s)(h:SqL X.K H a xs):∃its:List HB,Vals xs its/\PlainL s.heap a its.toArray/\xs.length<=sizeLine:=by
 rcases h with h | ⟨o,its,n,hk,hc,hd,hs,hz,r⟩
 ·obtain⟨z,its,n,r,e⟩:=h.ok I.hok
  exact⟨its,r,⟨_,n,e,rfl,rfl,rfl⟩,z⟩
 ·refine⟨its.toList,r,⟨o,n,I.kIn a o hk,hc,hd,by simpa using hs⟩,?_⟩
  have e:=r.length;simp only[Io] at e;omega
theorem Inv.tuple(I:Inv X pins σ H s)(h:SqT X.K H a xs):∃its:List HB,Vals xs its/\IsTup s.heap a its.toArray/\xs.length<=sizeLine:=by
 rcases h with h | ⟨o,its,n,hk,hc,hs,hz,r,hdn⟩
 ·obtain⟨z,its,r,p⟩:=h.ok I.hok
  exact⟨its,r,p.up,z⟩
 ·refine⟨its.toList,r,⟨o,I.kIn a o hk,hc,n,by simpa using hs⟩,?_⟩
  have e:=r.length;simp only[Io] at e;omega
theorem Inv.tupleX(I:Inv X pins σ H s)(h:SqT X.K H a xs):∃its:List HB,Vals xs its/\xc s.heap a its.toArray/\xs.length<=sizeLine:=by
 rcases h with h | ⟨o,its,n,hk,hc,hs,hz,r,hdn⟩
 ·obtain⟨z,its,r,p⟩:=h.ok I.hok
  exact⟨its,r,p,z⟩
 ·refine⟨its.toList,r,⟨o,I.kIn a o hk,hc,⟨n,by simpa using hs⟩,fun _=>hdn⟩,?_⟩
  have e:=r.length;simp only[Io] at e;omega
theorem Inv.list_inj(I:Inv X pins σ H s)(h:SqL X.K H a xs)(h':SqL X.K H a ys):xs=ys:=by
 obtain⟨its,r,⟨o,n,e,_,_,d⟩,_⟩:=I.list h;obtain⟨its',r',⟨o',n',e',_,_,d'⟩,_⟩:=I.list h';rw[e] at e';cases e';rw[d] at d';injection d' with d1 _;have:its=its':=by simpa using congrArg Array.toList d1
 subst this;exact r.inj r'
theorem Inv.tuple_inj(I:Inv X pins σ H s)(h:SqT X.K H a xs)(h':SqT X.K H a ys):xs=ys:=by
 obtain⟨its,r,⟨o,e,_,n,d⟩,_⟩:=I.tuple h;obtain⟨its',r',⟨o',e',_,n',d'⟩,_⟩:=I.tuple h';rw[e] at e';cases e';rw[d] at d';injection d' with d1 _;have:its=its':=by simpa using congrArg Array.toList d1
 subst this;exact r.inj r'
end
abbrev Cx.wish(X:Cx)(E:HB->HC->Prop):Cx:={ X with xe:=E }
abbrev Cx.nox(X:Cx):Cx:=X.wish fun _ _=>False
theorem Cx.Ok.wish{X:Cx}(ok:X.Ok)(E:HB->HC->Prop):(X.wish E).Ok:=
 ⟨ok.mod,ok.kind,ok.glob,ok.blt,ok.above,ok.inj,ok.has,ok.cab,ok.hd,ok.frames,ok.stk,ok.exf,ok.bs,ok.bsz,ok.noex,ok.exfs,ok.funs,ok.frf⟩
theorem Cx.Ok.unwish{X:Cx}{E:HB->HC->Prop}(ok:(X.wish E).Ok):X.Ok:=
 ⟨ok.mod,ok.kind,ok.glob,ok.blt,ok.above,ok.inj,ok.has,ok.cab,ok.hd,ok.frames,ok.stk,ok.exf,ok.bs,ok.bsz,ok.noex,ok.exfs,ok.funs,ok.frf⟩
section
variable{X : Cx}{pins : List (Addr×Obj)}{σ : St}{H : Hp}{s : HC}{E : HB → HC → Prop}
theorem Inv.wish(I:Inv X pins σ H s)(E:HB->HC->Prop):Inv (X.wish E) pins σ H s:=⟨I.ok.wish E,I.os,I.bare,I.base,I.loc,I.cell,I.free,I.freeC,I.pin,I.hok,I.len⟩
theorem Inv.unwish(I:Inv (X.wish E) pins σ H s):Inv X pins σ H s:=⟨I.ok.unwish,I.os,I.bare,I.base,I.loc,I.cell,I.free,I.freeC,I.pin,I.hok,I.len⟩
theorem SP.unwish{D:Ends}{f:Flow}{s':HC}(h:SP (X.wish E) pins D f s'):SP X pins D f s':=by
 cases f with
 | next=>obtain⟨σ',H',I,q⟩:=h;exact⟨σ',H',I.unwish,q⟩
 | brk=>obtain⟨σ',H',I,q⟩:=h;exact⟨σ',H',I.unwish,q⟩
 | cont=>obtain⟨σ',H',I,q⟩:=h;exact⟨σ',H',I.unwish,q⟩
 | ret u=>obtain⟨v,σ',H',I,r,q⟩:=h;exact⟨v,σ',H',I.unwish,r,q⟩
theorem PSs.nox{st:List Stmt}{t:TS}(h:PSs X.nox st t):PSs X st t:=fun pins s σ H D I hw=>
 JG (h pins s σ H D (I.wish _) hw) (fun _ _ q=>q.unwish) fun _ _ z=>HJ z
end
section
variable{X : Cx}{st : Stmt}{rest : List Stmt}{t u : TS}{e : Expr}{te : TE}{pos : JO}
def DZ:TS:=fun D σ H=>D.nx σ H
def Gk(t u:TS):TS:=fun D σ H=>t { D with nx:=u D } σ H
theorem se:PSs X [] DZ:=fun _ _ σ H _ I h=>La ⟨σ,H,I,h⟩
theorem fU(h1:PS X st t)(h2:PSs X rest u):PSs X (st::rest) (Gk t u):=by
 intro pins s σ H D I h;refine wpAny_execs_cons (thn (h1 pins s σ H { D with nx:=u D } I h) fun f s1 q=>?_);cases f with
 | next=>
  obtain⟨σ',H',I',q⟩:=q;exact h2 pins s1 σ' H' D I' q
 | ret v=>exact q
 | brk=>exact q
 | cont=>exact q
theorem lO(h1:PS X st t):PSs X [st] t:=by
 intro pins s σ H D I h;refine wpAny_execs_cons (thn (h1 pins s σ H D I h) fun f s1 q=>?_);cases f with
 | next=>exact La q
 | ret v=>exact q
 | brk=>exact q
 | cont=>exact q
def B2:TS:=fun D σ H=>D.bk σ H
theorem vV:PS X (.Break pos) B2:=fun _ _ σ H _ I h=>wpAny_Break ⟨σ,H,I,h⟩
theorem Inv.quiet{pins:List (Addr×Obj)}{σ:St}{H:Hp}{s:HC}(I:Inv X pins σ H s):interactive X.env=false:=by simp[interactive,I.ok.kind]
def E1(te:TE):TS:=fun D σ H=>te σ H fun _ H1=>D.nx σ H1
theorem yN(he:PE X e te)(hs:KL e none pos.line X.env=pure false:=by rfl):PS X (.Expr e pos) (E1 te):=by
 intro pins s σ H D I h;exact wpAny_Expr_any (thn (he pins s σ H _ I h) fun v s1 ⟨x,H1,I1,r1,q1⟩=>⟨σ,H1,I1,q1⟩) I.quiet hs
def Gm(te:TE):TS:=fun D σ H=>te σ H D.rt
theorem pb(he:PE X e te):PS X (.Return (some e) pos) (Gm te):=by
 intro pins s σ H D I h;exact wpAny_Return_some (thn (he pins s σ H _ I h) fun v s1 ⟨x,H1,I1,r1,q1⟩=>⟨x,σ,H1,I1,r1,q1⟩)
def Gr(c:TT)(t u:TS):TS:=fun D σ H=>c σ H fun b H1=>if b=true then t D σ H1 else u D σ H1
theorem Bi{c:Expr}{a b:List Stmt}{tc:TT}(hc:PT X c tc)(ha:PSs X a t)(hb:PSs X b u):PS X (.If c a b pos) (Gr tc t u):=by
 intro pins s σ H D I h;refine wpAny_If (thn (hc pins s σ H _ I h) fun d s1 ⟨H1,I1,q1⟩=>?_);cases d with
 | true=>exact ha pins s1 σ H1 D I1 q1
 | false=>exact hb pins s1 σ H1 D I1 q1
end
abbrev TG:=V->St->Hp->(St->Hp->Prop)->Prop
abbrev TGs:=List V->St->Hp->(St->Hp->Prop)->Prop
def PG(X:Cx)(target:Expr)(t:TG):Prop:=
 ∀(pins:List (Addr×Obj))(s:HC)(σ:St)(H:Hp)(v:V)(u:HB)(Q:St->Hp->Prop),Inv X pins σ H s->RelV v u->t v σ H Q->
  Hx (IK X.prog X.w) X.A (Ln target X.env u) (fun _ s'=>∃σ' H',Inv X pins σ' H' s'/\Q σ' H') X.xe s
def PGs(X:Cx)(ts:List Expr)(t:TGs):Prop:=
 ∀(pins:List (Addr×Obj))(s:HC)(σ:St)(H:Hp)(vs:List V)(us:List HB)(Q:St->Hp->Prop),Inv X pins σ H s->Vals vs us->t vs σ H Q->
  Hx (IK X.prog X.w) X.A (assignInOrder ((JN ts X.env).map (·.2)) us) (fun _ s'=>∃σ' H',Inv X pins σ' H' s'/\Q σ' H') X.xe s
abbrev Hd:=V->V->V->Hp->(Hp->Prop)->Prop
abbrev TIp:=V->V->Hp->VK->Prop
def PIp(X:Cx)(op:Operator)(t:TIp):Prop:=
 ∀(pins:List (Addr×Obj))(s:HC)(σ:St)(H:Hp)(x y:V)(v u:HB)(Q:VK),Inv X pins σ H s->RelV x v->RelV y u->t x y H Q->
  Hx (IK X.prog X.w) X.A (inplaceOp op v u) (EP X pins σ Q) X.xe s
section
variable{X : Cx}{pos : JO}
def wF(i:Nat):TG:=fun v σ H Q=>Q (σ.set i (some v)) H
theorem lP{i:Nat}{x:Str}(hN:X.N.Nodup)(hi:X.N[i]?=some x)(hx:Loc X.env.scope x)(hf:X.fn x=true\/X.env.scope.names.lookup x=some .local:=by first | exact .inl rfl | exact .inr rfl | assumption):PG X (.Name x pos) (wF i):=by
 intro pins s σ H v u Q I r h;exact wpAny_assign_Name (iR I hN hi hx r (fun s' I'=>⟨_,H,I',h⟩) hf)
def GV:TGs:=fun vs σ H Q=>vs=[]/\Q σ H
def F0(t:TG)(u:TGs):TGs:=fun vs σ H Q=>∃v r,vs=v::r/\t v σ H fun σ' H'=>u r σ' H' Q
theorem sr:PGs X [] GV:=by
 intro pins s σ H vs us Q I r h;obtain⟨e,h⟩:=h;subst e;cases r;exact assignInOrder_nil ⟨σ,H,I,h⟩
theorem pj{e:Expr}{es:List Expr}{t:TG}{u:TGs}(h1:PG X e t)(h2:PGs X es u)
  (hs:(JN (e::es) X.env).map (·.2)=Ln e X.env::(JN es X.env).map (·.2):=by rfl):PGs X (e::es) (F0 t u):=by
 intro pins s σ H vs us Q I r h;obtain⟨v,vr,e1,h⟩:=h;subst e1;cases r with
 | cons r rr=>
  rw[hs];refine assignInOrder_cons (thn (h1 pins s σ H _ _ _ I r h) fun _ s1 ⟨σ1,H1,I1,q1⟩=>?_);exact h2 pins s1 σ1 H1 _ _ Q I1 rr q1
def GU(K:HA)(n:Nat)(t:TGs):TG:=fun v σ H Q=>∃a xs,v=.ref a/\SqT K H a xs/\xs.length=n/\t xs σ H Q
theorem xC{es:List Expr}{k:Nat}{t:TGs}{n:Nat}(hc:X.calm=true)(h:PGs X es t)
  (hn:(JN es X.env).length=n:=by rfl) (hst:(JN es X.env).findIdx? (·.1)=none:=by rfl):PG X (.Tuple es k pos) (GU X.K n t):=by
 intro pins s σ H v u Q I r hw;obtain⟨a,xs,e1,hq,hl,hw⟩:=hw;subst e1;cases r;obtain⟨its,rv,ht,hz⟩:=I.tuple hq;refine assign_Tuple_tuple (I.ok.hd hc) ht (by simp[hn,← hl,rv.length]) hst fun h' hx=>?_;have I1:Inv X pins σ H { s with heap:=h' }:=I.kept (t':=s.toks) fun b o e=>hx b o (IF (HU e)) e;exact h pins _ σ H xs _ Q I1 (by simpa using rv) hw
def G3(to ti:TE)(t:Hd):TG:=fun v σ H Q=>to σ H fun o H1=>ti σ H1 fun i H2=>t o i v H2 fun H3=>Q σ H3
def E5(te:TE)(g:TG):TS:=fun D σ H=>te σ H fun x H1=>g x σ H1 D.nx
theorem sf{i:Nat}{x:Str}{e:Expr}{te:TE}{pos':JO}(hN:X.N.Nodup)(hi:X.N[i]?=some x)(hx:Loc X.env.scope x)(he:PE X e te)(hs:KL e (some (.Name x pos')) pos.line X.env=pure false:=by rfl)(hf:X.fn x=true\/X.env.scope.names.lookup x=some .local:=by first | exact .inl rfl | exact .inr rfl | assumption) :
  PS X (.Assign [.Name x pos'] e pos) (E5 te (wF i)):=by
 intro pins s σ H D I h;refine wpAny_Assign_Name (thn (he pins s σ H _ I h) fun v s1 ⟨y,H1,I1,r1,q1⟩=>?_) hs;exact iR I1 hN hi hx r1 (fun s2 I2=>⟨_,H1,I2,q1⟩) hf
def Gu(i:Nat)(te:TE)(ti:TIp):TS:=fun D σ H=>∃x,σ[i]?=some (some x)/\te σ H fun y H1=>ti x y H1 fun z H2=>D.nx (σ.set i (some z)) H2
theorem Bk{i:Nat}{x:Str}{e:Expr}{te:TE}{op:Operator}{ti:TIp}{pos':JO}(hN:X.N.Nodup)(hi:X.N[i]?=some x)(hx:Loc X.env.scope x)(he:PE X e te)(ho:PIp X op ti)(hf:X.fn x=true\/X.env.scope.names.lookup x=some .local:=by first | exact .inl rfl | exact .inr rfl | assumption) :
  PS X (.AugAssign (.Name x pos') op e pos) (Gu i te ti):=by
 intro pins s σ H D I h;obtain⟨v,e1,h⟩:=h;obtain⟨m,hn,hl⟩:=I.loc;have vis:Vis X.env.scope x:=by rcases hx with k | k;exact .inl k;exact .inr (.inl k)
 obtain⟨u,r,l⟩:=hl i x v hi e1 vis;refine wpAny_AugAssign_Name ?_
 have go:Hx (IK X.prog X.w) X.A (J8 e X.env) (fun w s₂=>Hx (IK X.prog X.w) X.A (inplaceOp op u w) (fun r s₃=>Hx (IK X.prog X.w) X.A (Nk X.env x r) (fun _=>SP X pins D .next) X.xe s₃) X.xe s₂) X.xe s:=by
  refine thn (he pins s σ H _ I h) fun w s1 ⟨y,H1,I1,r1,q1⟩=>?_;refine thn (ho pins s1 σ H1 v y u w _ I1 r r1 q1) fun z s2 ⟨zv,H2,I2,r2,q2⟩=>?_;exact iR I2 hN hi hx r2 (fun s3 I3=>⟨_,H2,I3,q2⟩) hf
 rcases l with⟨hk,hm⟩|⟨hk,c,hc,hcell⟩
 ·exact wpAny_loadName_local I.ok.kind hk hn hm go
 ·rcases hk with hk | hk
  ·exact wpAny_loadName_cell I.ok.kind hk hc hcell go
  ·rcases hx with k | k
   ·have:X.env.scope.names.lookup x=some .free:=hk
    rw[k] at this;cases this
   ·have:X.env.scope.names.lookup x=some .free:=hk
    rw[k] at this;cases this
def ipI(f:Int->Int->Int):TIp:=fun x y H Q=>∃i j,x=.int i/\y=.int j/\Q (.int (f i j)) H
theorem Ci:PIp X .Add (ipI fun i j=>i+j):=by
 intro pins s σ H x y v u Q I r1 r2 h;obtain⟨i,j,e1,e2,q⟩:=h;subst e1;subst e2;obtain⟨t,rfl⟩:=r1;obtain⟨t',rfl⟩:=r2;exact iadd_int ⟨.int _,H,I.tok _,⟨_,rfl⟩,q⟩
end
section
variable{X : Cx}{pos : JO}
def AY(c:TT)(tb:TS):TS:=fun D σ H=>∃W:Nat->St->Hp->Prop,(∃m,W m σ H)/\∀m σ H,W m σ H->
 c σ H fun b H1=>if b=true then ∃N:St->Hp->Prop,(∀σ' H',N σ' H'->∃m',m'<m/\W m' σ' H')/\tb { D with nx:=N,ct:=N,bk:=D.nx } σ H1 else D.nx σ H1
theorem vU{c:Expr}{body:List Stmt}{tc:TT}{tb:TS}(hp:Np (IK X.prog X.w) X.A X.env X.xe)(hc:PT X c tc)(hb:PSs X body tb):PS X (.While c body [] pos) (AY tc tb):=by
 intro pins s σ H D I h;obtain⟨W,⟨m0,w0⟩,turn⟩:=h;refine wpAny_While (codeAny_whileLoop (fun n s'=>∃σ' H',Inv X pins σ' H' s'/\W n σ' H') ?_ m0 ⟨σ,H,I,w0⟩);rintro n s1 ⟨σ1,H1,I1,w1⟩;refine Jr hp (thn (hc pins s1 σ1 H1 _ I1 (turn n σ1 H1 w1)) fun b s2 ⟨H2,I2,q2⟩=>?_);cases b with
 | true=>
  obtain⟨N,hN,q2⟩:=q2;rw[if_pos rfl];refine Jr hp (thn (hb pins s2 σ1 H2 _ I2 q2) fun f s3 q3=>?_);cases f with
  | next=>
   obtain⟨σ3,H3,I3,n3⟩:=q3;obtain⟨m',hm,w3⟩:=hN σ3 H3 n3;exact⟨m',hm,σ3,H3,I3,w3⟩
  | cont=>
   obtain⟨σ3,H3,I3,n3⟩:=q3;obtain⟨m',hm,w3⟩:=hN σ3 H3 n3;exact⟨m',hm,σ3,H3,I3,w3⟩
  | brk=>exact q3
  | ret v=>exact q3
 | false=>
  rw[if_neg HP];exact La ⟨σ1,H2,I2,q2⟩
end
structure It where
 go:Nat->Hp->Prop
 yld:Nat->Hp->V->Hp->Prop
 stop:Nat->Hp->Prop
def qd(X:Cx)(pins:List (Addr×Obj))(H:Hp)(b:Addr):Prop:=
 H b=none/\b≠X.env.locals/\b ∉ X.fs/\(b∈X.ex\/X.s₀.heap.objs.size<=b)/\(∀x c,X.env.cells.lookup x=some c->c≠b)/\∀p∈X.pn++pins,p.1≠b
theorem Inv.fpOk{X:Cx}{pins:List (Addr×Obj)}{σ:St}{H H':Hp}{s:HC}{b:Addr}(I:Inv X pins σ H s)(hb:s.heap.objs.size<=b)(hn:H' b=none):qd X pins H' b:=by
 refine⟨hn,Jd (HR I.lt hb),I.nofs hb,.inr (Ig I.sz hb),fun x c e z=>?_,fun p hp z=>?_⟩
 ·obtain⟨v,q⟩:=I.cell x c e
  exact absurd (HR q.lt (by rw[z];exact hb)) (Iw _)
 ·exact absurd (HR (HU (I.pin p hp).1) (by rw[z];exact hb)) (Iw _)
structure Turn(P:HX)(w:IA)(K:HA)(tg:Expr)(J:It)(fp:List Addr)(it:Addr)(tn:Nat->Heap->Prop):Prop where
 mem:it∈fp
 obj:∀i h,tn i h->∀b∈fp,∃o,h.get? b=some o/\∀v,o.data≠.cell v
 keep:∀i h h',tn i h->(∀b∈fp,∀o,h.get? b=some o->h'.get? b=some o)->tn i h'
 item:∀(X:Cx),X.prog=P->X.w=w->X.K=K->X.calm=true->∀(i:Nat)(pins:List (Addr×Obj))(s:HC)(σ:St)(H:Hp)(E:HB->HC->Prop),Inv X pins σ H s->(∀b∈fp,qd X pins H b)->tn i s.heap->J.go i H->
  Hx (IK P w) X.A (pyNext (.ref it)) (fun r s1=>∃u,r=some u/\
   Hx (IK P w) X.A (Lc tg (.ref it) u) (fun _ s2=>∃x H',Inv X pins σ H' s2/\RelV x u/\J.yld i H x H'/\tn (i+1) s2.heap/\∀b∈fp,H' b=none) E s1) E s
 done:∀(X:Cx),X.prog=P->X.w=w->X.K=K->X.calm=true->∀(i:Nat)(pins:List (Addr×Obj))(s:HC)(σ:St)(H:Hp)(E:HB->HC->Prop),Inv X pins σ H s->(∀b∈fp,qd X pins H b)->tn i s.heap->J.stop i H->
  Hx (IK P w) X.A (pyNext (.ref it)) (fun r s1=>r=none/\Inv X pins σ H s1) E s
 self:∀(A:IL)(i:Nat)(s:HC)(Q:HB->HC->Prop)(E:HB->HC->Prop),tn i s.heap->Q (.ref it) s->Hx (IK P w) A (pyIter (.ref it)) Q E s
abbrev TI:=St->Hp->(It->Hp->Prop)->Prop
def PIE(X:Cx)(pins:List (Addr×Obj))(σ:St)(tg:Expr)(R:It->Hp->Prop)(itv:HB)(s2:HC):Prop:=
 ∃(it:Addr)(fp:List Addr)(tn:Nat->Heap->Prop)(J:It)(H':Hp),itv=.ref it/\Inv X pins σ H' s2/\Turn X.prog X.w X.K tg J fp it tn/\tn 0 s2.heap/\(∀b∈fp,qd X pins H' b)/\R J H'
def PI(X:Cx)(tg iter:Expr)(wi:TI):Prop:=
 ∀(pins:List (Addr×Obj))(s:HC)(σ:St)(H:Hp)(R:It->Hp->Prop),Inv X pins σ H s->wi σ H R->
  Hx (IK X.prog X.w) X.A (J8 iter X.env) (fun v s1=>Hx (IK X.prog X.w) X.A (pyIter v) (PIE X pins σ tg R) X.xe s1) X.xe s
theorem tJ{M:Model}{A:IL}{E:HB->HC->Prop}{s:HC}{tg:Expr}{it:Addr}{u:HB}{o:Obj}{n:String}{vs:Array HB}{Q:Unit->HC->Prop}(ho:s.heap.get? it=some o)(hc:o.cls=.type n)(hd:o.data=.fields vs)
    (hn:["enumerate","zip","dict_itemiterator","dict_reverseitemiterator","odict_iterator","itertools.zip_longest","itertools.pairwise"].contains n=false) (hQ:Q () s):Hx M A (Lc tg (.ref it) u) Q E s:=by
  unfold Lc
  cases tg <;> first
    | exact HK hQ
    | (cases u <;> first
        | exact HK hQ
        | (refine HD (wpAny_load ho ?_)
           rw[hc,hd];show Hx M A (if (["enumerate","zip","dict_itemiterator","dict_reverseitemiterator","odict_iterator","itertools.zip_longest","itertools.pairwise"].contains n && vs[0]? == some (Ko _))=true then _ else _) Q E s;rw[if_neg (by intro h;rw[hn,MX] at h;cases h)];exact HK hQ))
def Itl(K:HA)(a:Addr):It:=
 ⟨fun i H=>∃xs x,SqL K H a xs/\xs[i]?=some x,fun i H x H'=>H'=H/\∀xs,SqL K H a xs->xs[i]?=some x,fun i H=>∃xs,SqL K H a xs/\xs.length<=i⟩
def Itt(K:HA)(a:Addr):It:=
 ⟨fun i H=>∃xs x,SqT K H a xs/\xs[i]?=some x,fun i H x H'=>H'=H/\∀xs,SqT K H a xs->xs[i]?=some x,fun i H=>∃xs,SqT K H a xs/\xs.length<=i⟩
def Itr(lo:Int)(n:Nat):It:=⟨fun i _=>i<n,fun i H x H'=>H'=H/\x=.int (lo+i),fun i _=>n<=i⟩
theorem rH{P:HX}{w:IA}{K:HA}{tg:Expr}(a it:Addr):Turn P w K tg (Itl K a) [it] it (fun i h=>h.IsListIter it a i) where
 mem:=by simp
 obj:=fun i h st b hb=>by
  have e:b=it:=by simpa using hb
  subst e;obtain⟨o,e,c,d⟩:=st;exact⟨o,e,fun v z=>by rw[d] at z;cases z⟩
 keep:=fun i h h' st k=>st.at fun o e=>k it (by simp) o e
 item:=by
  intro X hP hw hK hc i pins s σ H E I hf st hg;subst hP hw hK;obtain⟨xs,x,hq,hx⟩:=hg;obtain⟨its,rv,p,hz⟩:=I.list hq;obtain⟨u,hu,ru⟩:=rv.get hx;obtain⟨f0,f1,f2,f3,f4,f5⟩:=hf it (by simp);refine wpAny_pyNext_list_item st p.isList (x:=u) (by simpa using hu) fun h' st' sb=>?_;have I1:Inv X pins σ H { s with heap:=h' }:=I.turned (t':=s.toks) (fun b o hb e=>(sb.2 b hb).trans e) f0 f1 f3 f4 f5;obtain⟨o,e,c,d⟩:=id st';exact⟨u,rfl,tJ (s:={ s with heap:=h' }) e c d (by decide) ⟨x,H,I1,ru,⟨rfl,fun ys hy=>by rw[I.list_inj hy hq];exact hx⟩,st',fun b hb=>(hf b hb).1⟩⟩
 done:=by
  intro X hP hw hK hc i pins s σ H E I hf st hg;subst hP hw hK;obtain⟨xs,hq,hx⟩:=hg;obtain⟨its,rv,p,hz⟩:=I.list hq;obtain⟨f0,f1,f2,f3,f4,f5⟩:=hf it (by simp);have hl:=rv.length;exact wpAny_pyNext_list_end (I.ok.hd hc) st p.isList (by simp;omega) fun h' eb=>⟨rfl,I.turned (t':=s.toks) (fun b o hb e=>eb b o hb e) f0 f1 f3 f4 f5⟩
 self:=fun _ _ _ _ _ st h=>wpAny_pyIter_listiter st h
theorem qh{P:HX}{w:IA}{K:HA}{tg:Expr}(a it:Addr):Turn P w K tg (Itt K a) [it] it (fun i h=>h.IsTupleIter it a i) where
 mem:=by simp
 obj:=fun i h st b hb=>by
  have e:b=it:=by simpa using hb
  subst e;obtain⟨o,e,c,d⟩:=st;exact⟨o,e,fun v z=>by rw[d] at z;cases z⟩
 keep:=fun i h h' st k=>st.at fun o e=>k it (by simp) o e
 item:=by
  intro X hP hw hK hc i pins s σ H E I hf st hg;subst hP hw hK;obtain⟨xs,x,hq,hx⟩:=hg;obtain⟨its,rv,p,hz⟩:=I.tuple hq;obtain⟨u,hu,ru⟩:=rv.get hx;obtain⟨f0,f1,f2,f3,f4,f5⟩:=hf it (by simp);refine Ni st (show s.heap.IsTuple a its.toArray from p) (x:=u) (by simpa using hu) fun h' st' sb=>?_;have I1:Inv X pins σ H { s with heap:=h' }:=I.turned (t':=s.toks) (fun b o hb e=>(sb.2 b hb).trans e) f0 f1 f3 f4 f5;obtain⟨o,e,c,d⟩:=id st';exact⟨u,rfl,tJ (s:={ s with heap:=h' }) e c d (by decide) ⟨x,H,I1,ru,⟨rfl,fun ys hy=>by rw[I.tuple_inj hy hq];exact hx⟩,st',fun b hb=>(hf b hb).1⟩⟩
 done:=by
  intro X hP hw hK hc i pins s σ H E I hf st hg;subst hP hw hK;obtain⟨xs,hq,hx⟩:=hg;obtain⟨its,rv,p,hz⟩:=I.tuple hq;obtain⟨f0,f1,f2,f3,f4,f5⟩:=hf it (by simp);have hl:=rv.length;exact Nv (I.ok.hd hc) st (show s.heap.IsTuple a its.toArray from p) (by simp;omega) fun h' eb=>⟨rfl,I.turned (t':=s.toks) (fun b o hb e=>eb b o hb e) f0 f1 f3 f4 f5⟩
 self:=fun _ _ _ _ _ st h=>wpAny_pyIter_tupleiter st h
theorem qj{P:HX}{w:IA}{K:HA}{tg:Expr}(it:Addr)(lo:Int)(n:Nat):Turn P w K tg (Itr lo n) [it] it (fun i h=>IsRangeIter h it (lo+(i:Nat) * 1) ((n:Int)-(i:Nat)) 1) where
 mem:=by simp
 obj:=fun i h st b hb=>by
  have e:b=it:=by simpa using hb
  subst e
  exact⟨_,st,fun v z=>by
   have z':MG _=LW v:=z;cases z'⟩
 keep:=fun i h h' st k=>k it (by simp) _ st
 item:=by
  intro X hP hw hK hc i pins s σ H E I hf st hg;subst hP hw hK;obtain⟨f0,f1,f2,f3,f4,f5⟩:=hf it (by simp);have W:=Walks.range (prog:=X.prog) (w:=X.w) (I.ok.hd hc) it lo 1 n;refine W.item i s _ _ hg st fun v h' tk hv st' kk=>?_;obtain⟨t,rfl⟩:=hv;have I1:Inv X pins σ H { s with heap:=h',toks:=tk }:=I.turned (fun b o hb e=>kk b o (by simpa using hb) e) f0 f1 f3 f4 f5;refine⟨_,rfl,tJ (s:={ s with heap:=h',toks:=tk }) (n:="range_iterator") st' rfl rfl (by decide) ⟨.int (lo+i),H,I1,⟨t,?_⟩,⟨rfl,rfl⟩,st',fun b hb=>(hf b hb).1⟩⟩;rw[Int.mul_one]
 done:=by
  intro X hP hw hK hc i pins s σ H E I hf st hg;subst hP hw hK;obtain⟨f0,f1,f2,f3,f4,f5⟩:=hf it (by simp);exact wpAny_pyNext_range_end (I.ok.hd hc) st (by have:n<=i:=hg;omega) fun h' eb=>⟨rfl,I.turned (t':=s.toks) (fun b o hb e=>eb b o hb e) f0 f1 f3 f4 f5⟩
 self:=fun _ _ _ _ _ st h=>wpAny_pyIter_rangeiter st h
end L2
namespace L2
open PySem PySem.Spec PyProof.Rows
section
variable{X : Cx}{tg : Expr}
theorem p8{pins:List (Addr×Obj)}{σ:St}{H:Hp}{s:HC}{R:It->Hp->Prop}{E:HB->HC->Prop}{lo hi:Int}{t u v:Tok}{tk:Nat}(I:Inv X pins σ H s)(h1:-(2 ^ 62)<=lo)(h2:lo<2 ^ 62)(h3:-(2 ^ 62)<=hi)(h4:hi<2 ^ 62)
  (q:R (Itr lo (hi-lo).toNat) H):Hx (IK X.prog X.w) X.A (pyIter (.ref s.heap.objs.size)) (PIE X pins σ tg R) E { s with heap:=s.heap.push { cls:=.type "range",data:=.fields #[.int lo t,.int hi u,.int 1 v] },toks:=tk }:=by
 refine wpAny_pyIter_range (IsRange.new ..) (small_one h1 h2 h3 h4) ?_;have I1:Inv X pins σ H { s with heap:=s.heap.push { cls:=.type "range",data:=.fields #[.int lo t,.int hi u,.int 1 v] },toks:=tk }:=I.kept fun b o e=>HH _ e
 refine⟨(s.heap.push { cls:=.type "range",data:=.fields #[.int lo t,.int hi u,.int 1 v] }).objs.size,[(s.heap.push { cls:=.type "range",data:=.fields #[.int lo t,.int hi u,.int 1 v] }).objs.size],_,_,H,rfl,
  I1.kept (t':=tk) fun b o e=>HH _ e,qj _ lo (hi-lo).toNat,?_,fun b hb=>?_,q⟩
 ·have e1:lo+((0:Nat):Int) * 1=lo:=by simp
  have e2:(((hi-lo).toNat:Nat):Int)-((0:Nat):Int)=Builtin.Range.rangeSize lo hi 1:=by rw[rangeSize_one];split <;> omega
  show IsRangeIter _ _ (lo+((0:Nat):Int) * 1) ((((hi-lo).toNat:Nat):Int)-((0:Nat):Int)) 1;rw[e1,e2];exact IC _ rfl
 ·have e:b=(s.heap.push { cls:=.type "range",data:=.fields #[.int lo t,.int hi u,.int 1 v] }).objs.size:=by simpa using hb
  subst e;exact I1.fpOk (Hu _) (I1.hok.fresh (Hu _))
def EZ(ta:TA):TI:=fun σ H R=>ta σ H fun vs H1=>∃j:Int,vs=[.int j]/\-(2 ^ 62)<=j/\j<2 ^ 62/\R (Itr 0 j.toNat) H1
def EY(ta:TA):TI:=fun σ H R=>ta σ H fun vs H1=>∃i j:Int,vs=[.int i,.int j]/\(-(2 ^ 62)<=i/\i<2 ^ 62/\-(2 ^ 62)<=j/\j<2 ^ 62)/\R (Itr i (j-i).toNat) H1
theorem sq {a:Expr} {ta:TA} {p pos:JO} (hg:Gl X "range") (hm:X.mg "range"=none) (ha:PA X [a] ta) (hs:Hw [a] X.env=[(false,J8 a X.env)]:=by rfl):PI X tg (.Call (.Name "range" p) [a] [] pos) (EZ ta):=by
 intro pins s σ H R I h;refine Call_ (l6 I hg hm boot_range (J9 (thn (ha pos pins s σ H _ I h) fun us s1 ⟨vs,H1,I1,r1,q1⟩=>?_) hs rfl));obtain⟨j,e,q1,q2,q⟩:=q1;subst e;cases r1 with
 | cons r rr=>
  cases rr;obtain⟨t,rfl⟩:=r;exact call_range_1 (p8 I1 (by omega) (by omega) q1 q2 (by simpa using q))
theorem so {a b:Expr} {ta:TA} {p pos:JO} (hg:Gl X "range") (hm:X.mg "range"=none) (ha:PA X [a,b] ta) (hs:Hw [a,b] X.env=[(false,J8 a X.env),(false,J8 b X.env)]:=by rfl) (hs2:Hw [b] X.env=[(false,J8 b X.env)]:=by rfl) :
  PI X tg (.Call (.Name "range" p) [a,b] [] pos) (EY ta):=by
 intro pins s σ H R I h;refine Call_ (l6 I hg hm boot_range (J9 (thn (ha pos pins s σ H _ I h) fun us s1 ⟨vs,H1,I1,r1,q1⟩=>?_) (by rw[hs,hs2]) (by rw[hs2];rfl)));obtain⟨i,j,e,⟨q1,q2,q3,q4⟩,q⟩:=q1;subst e;cases r1 with
 | cons r rr=>
  cases rr with
  | cons r' rr=>
   cases rr;obtain⟨t,rfl⟩:=r;obtain⟨t',rfl⟩:=r';exact call_range_2 (p8 I1 q1 q2 q3 q4 q)
def Gs(wi:TI)(g:TG)(tb:TS):TS:=fun D σ H=>wi σ H fun J H1=>∃W:Nat->Nat->St->Hp->Prop,(∃m,W 0 m σ H1)/\∀i m σ H,W i m σ H->
 (J.stop i H/\D.nx σ H)\/(J.go i H/\∃N:St->Hp->Prop,(∀σ' H',N σ' H'->∃m',m'<m/\W (i+1) m' σ' H')/\∀x H',J.yld i H x H'->g x σ H' fun σ2 H2=>tb { D with nx:=N,ct:=N,bk:=D.nx } σ2 H2)
def kT(fp:List Addr)(h:Heap):List (Addr×Obj):=fp.filterMap fun b=>(h.get? b).map fun o=>(b,o)
theorem fX{fp:List Addr}{h:Heap}{b:Addr}{o:Obj}(hb:b∈fp)(e:h.get? b=some o):(b,o)∈kT fp h:=Nr.mpr ⟨b,hb,by rw[e];rfl⟩
theorem sF{fp:List Addr}{h:Heap}{p:Addr×Obj}(hp:p∈kT fp h):p.1∈fp/\h.get? p.1=some p.2:=by
 obtain⟨b,hb,e⟩:=Nr.mp hp;cases q:h.get? b with
 | none=>rw[q] at e;cases e
 | some o=>
  rw[q] at e;have e':(b,o)=p:=Ib e;subst e';exact⟨hb,q⟩
theorem Inv.pinned{pins:List (Addr×Obj)}{σ:St}{H:Hp}{s:HC}{fp:List Addr}(I:Inv X pins σ H s)(hf:∀b∈fp,qd X pins H b)(ho:∀b∈fp,∃o,s.heap.get? b=some o/\∀v,o.data≠.cell v):Inv X (pins++kT fp s.heap) σ H s:=
 I.pins_of fun p hp=>(IV.mp hp).elim (fun z=>I.pin p (IS _ z)) fun z=>by
  obtain⟨hb,e⟩:=sF z;obtain⟨f0,f1,f2,_⟩:=hf p.1 hb;obtain⟨o,e',d⟩:=ho p.1 hb;rw[e] at e';cases e';exact⟨e,f0,f1,f2,d⟩
theorem Inv.unpinned{pins pl:List (Addr×Obj)}{σ:St}{H:Hp}{s:HC}(I:Inv X (pins++pl) σ H s):Inv X pins σ H s:=I.pins_of fun p hp=>I.pin p (IS _ (Kd _ hp))
theorem Bj{iter:Expr}{body:List Stmt}{wi:TI}{g:TG}{tb:TS}{pos:JO}(hp:Np (IK X.prog X.w) X.A X.env X.xe)(hc:X.calm=true)(hi:PI X tg iter wi)(hg:PG X tg g)(hb:PSs X body tb)
  (hs:∀x,KZ iter X.env x=pure x:=by intro _;rfl):PS X (.For tg iter body [] pos) (Gs wi g tb):=by
 intro pins s σ H D I h;refine wpAny_For (thn (hi pins s σ H _ I h) fun v s1 h1=>thn h1 fun itv s2 h2=>?_) hs;obtain⟨it,fp,tn,J,H2,e,I2,T,st2,f2,W,⟨m0,w0⟩,turn⟩:=h2;subst e;have stat:∀{H':Hp},(∀b∈fp,H' b=none)->∀b∈fp,qd X pins H' b:=fun hn b hb=>⟨hn b hb,(f2 b hb).2⟩;refine codeAny_forLoop_any (fun n s'=>∃i σ' H',Inv X pins σ' H' s'/\tn i s'.heap/\(∀b∈fp,H' b=none)/\W i n σ' H') ?_ m0 ⟨0,σ,H2,I2,st2,fun b hb=>(f2 b hb).1,w0⟩;rintro n s3 ⟨i,σ3,H3,I3,st3,fr3,w3⟩;rcases turn i n σ3 H3 w3 with⟨stop,qn⟩|⟨go,N,hN,step⟩
 ·refine Jr hp (thn (T.done X rfl rfl rfl hc i pins s3 σ3 H3 X.xe I3 (stat fr3) st3 stop) fun r s4 ⟨hr,I4⟩=>?_)
  subst hr;exact La ⟨σ3,H3,I4,qn⟩
 ·refine Jr hp (thn (T.item X rfl rfl rfl hc i pins s3 σ3 H3 X.xe I3 (stat fr3) st3 go) fun r s4 ⟨u,hr,h4⟩=>?_)
  subst hr;refine Jr hp (thn h4 fun _ s5 ⟨x,H5,I5,r5,y5,st5,fr5⟩=>?_);have I5':=I5.pinned (stat fr5) (T.obj _ _ st5);refine Jr hp (thn (hg _ s5 σ3 H5 x u _ I5' r5 (step x H5 y5)) fun _ s6 ⟨σ6,H6,I6,q6⟩=>?_);refine Jr hp (thn (hb _ s6 σ6 H6 _ I6 q6) fun f s7 q7=>?_)
  have again:∀{σ7:St}{H7:Hp},Inv X (pins++kT fp s5.heap) σ7 H7 s7->N σ7 H7->∃m,m<n/\∃i σ' H',Inv X pins σ' H' s7/\tn i s7.heap/\(∀b∈fp,H' b=none)/\W i m σ' H':=fun {σ7 H7} I7 n7=>by
   obtain⟨m',hm,w7⟩:=hN σ7 H7 n7;refine⟨m',hm,i+1,σ7,H7,I7.unpinned,T.keep _ _ _ st5 fun b hb o e=>(I7.pin (b,o) (IS _ (IS _ (fX hb e)))).1,fun b hb=>?_,w7⟩;obtain⟨o,e,d⟩:=T.obj _ _ st5 b hb;exact(I7.pin (b,o) (IS _ (IS _ (fX hb e)))).2.1
  cases f with
  | next=>obtain⟨σ7,H7,I7,n7⟩:=q7;exact again I7 n7
  | cont=>obtain⟨σ7,H7,I7,n7⟩:=q7;exact again I7 n7
  | brk=>obtain⟨σ7,H7,I7,q7⟩:=q7;exact⟨σ7,H7,I7.unpinned,q7⟩
  | ret v=>obtain⟨x7,σ7,H7,I7,r7,q7⟩:=q7;exact⟨x7,σ7,H7,I7.unpinned,r7,q7⟩
end
end L2
namespace L2
open PySem PySem.Spec PyProof.Rows
abbrev R2:=V->V->Hp->VK->Prop
def OpR(X:Cx)(f:HB->HB->Sem HB)(r:R2):Prop:=
 ∀(pins:List (Addr×Obj))(s:HC)(σ:St)(H:Hp)(x y:V)(v u:HB)(Q:VK),Inv X pins σ H s->RelV x v->RelV y u->r x y H Q->
  Hx (IK X.prog X.w) X.A (f v u) (EP X pins σ Q) X.xe s
def UnR(X:Cx)(f:HB->Sem HB)(r:V->Hp->VK->Prop):Prop:=
 ∀(pins:List (Addr×Obj))(s:HC)(σ:St)(H:Hp)(x:V)(v:HB)(Q:VK),Inv X pins σ H s->RelV x v->r x H Q->
  Hx (IK X.prog X.w) X.A (f v) (EP X pins σ Q) X.xe s
def gX(X:Cx)(f:HB)(r:List V->Hp->VK->Prop):Prop:=
 ∀(pins:List (Addr×Obj))(s:HC)(σ:St)(H:Hp)(xs:List V)(us:List HB)(Q:VK),Inv X pins σ H s->Vals xs us->r xs H Q->
  Hx (IK X.prog X.w) X.A (call f us) (EP X pins σ Q) X.xe s
def G5(X:Cx)(r:V->Hp->(Bool->Hp->Prop)->Prop):Prop:=
 ∀(pins:List (Addr×Obj))(s:HC)(σ:St)(H:Hp)(x:V)(v:HB)(Q:Bool->Hp->Prop),Inv X pins σ H s->RelV x v->r x H Q->
  Hx (IK X.prog X.w) X.A (truthy v) (TP X pins σ Q) X.xe s
def tOp(r:R2)(ta tb:TE):TE:=fun σ H Q=>ta σ H fun x H1=>tb σ H1 fun y H2=>r x y H2 Q
def tUn(r:V->Hp->VK->Prop)(ta:TE):TE:=fun σ H Q=>ta σ H fun x H1=>r x H1 Q
def rI(C:Int->Int->Prop)(g:Int->Int->V):R2:=fun x y H Q=>∃i j,x=.int i/\y=.int j/\C i j/\Q (g i j) H
def rI0(g:Int->Int->V):R2:=fun x y H Q=>∃i j,x=.int i/\y=.int j/\Q (g i j) H
def rU(g:Int->V):V->Hp->VK->Prop:=fun x H Q=>∃i,x=.int i/\Q (g i) H
section
variable{X : Cx}{a b c : Expr}{ta tb tc : TE}{pos : JO}
theorem Ff(ha:PE X a ta)(hb:PE X b tb){pins:List (Addr×Obj)}{s:HC}{σ:St}{H:Hp}{R:V->V->Hp->Prop}(I:Inv X pins σ H s)
  (h:ta σ H fun x H1=>tb σ H1 fun y H2=>R x y H2) {Q:HB->HC->Prop} {f:HB->HB->Sem HB}
  (hf:∀v u s2 x y H2,Inv X pins σ H2 s2->RelV x v->RelV y u->R x y H2->Hx (IK X.prog X.w) X.A (f v u) Q X.xe s2) :
  Hx (IK X.prog X.w) X.A (J8 a X.env) (fun v s₁=>Hx (IK X.prog X.w) X.A (J8 b X.env) (fun u s₂=>Hx (IK X.prog X.w) X.A (f v u) Q X.xe s₂) X.xe s₁) X.xe s:=by
 refine thn (ha pins s σ H _ I h) fun v s1 ⟨x,H1,I1,r1,q1⟩=>?_;refine thn (hb pins s1 σ H1 _ I1 q1) fun u s2 ⟨y,H2,I2,r2,q2⟩=>?_;exact hf v u s2 x y H2 I2 r1 r2 q2
theorem Eh{op:Operator}{r:R2}(ho:OpR X (KC op) r)(ha:PE X a ta)(hb:PE X b tb):PE X (.BinOp a op b pos) (tOp r ta tb):=by
 intro pins s σ H Q I h;exact wpAny_BinOp (Ff ha hb I h fun v u s2 x y H2 I2 rx ry q=>ho pins s2 σ H2 x y v u Q I2 rx ry q)
theorem Eg{op:UnaryOp}{r:V->Hp->VK->Prop}(ho:UnR X (unaryOp op) r)(ha:PE X a ta):PE X (.UnaryOp op a pos) (tUn r ta):=by
 intro pins s σ H Q I h;exact UnaryOp_ (thn (ha pins s σ H _ I h) fun v s1 ⟨x,H1,I1,r1,q1⟩=>ho pins s1 σ H1 x v Q I1 r1 q1)
theorem opI{f:HB->HB->Sem HB}{C:Int->Int->Prop}{g:Int->Int->Int}
  (rule:∀(i j:Int)(t u:Tok)(s:HC)(Q:HB->HC->Prop)(E:HB->HC->Prop),C i j->Q (.int (g i j) s.toks) { s with toks:=s.toks+1 }->Hx (IK X.prog X.w) X.A (f (.int i t) (.int j u)) Q E s) :
  OpR X f (rI C fun i j=>.int (g i j)):=by
 intro pins s σ H x y v u Q I rx ry h;obtain⟨i,j,rfl,rfl,hc,q⟩:=h;obtain⟨t,rfl⟩:=rx;obtain⟨t',rfl⟩:=ry;exact rule i j t t' s _ _ hc ⟨.int (g i j),H,I.tok _,⟨_,rfl⟩,q⟩
theorem GG{f:HB->HB->Sem HB}{g:Int->Int->Int}
  (rule:∀(i j:Int)(t u:Tok)(s:HC)(Q:HB->HC->Prop)(E:HB->HC->Prop),Q (.int (g i j) s.toks) { s with toks:=s.toks+1 }->Hx (IK X.prog X.w) X.A (f (.int i t) (.int j u)) Q E s) :
  OpR X f (rI0 fun i j=>.int (g i j)):=by
 intro pins s σ H x y v u Q I rx ry h;obtain⟨i,j,rfl,rfl,q⟩:=h;obtain⟨t,rfl⟩:=rx;obtain⟨t',rfl⟩:=ry;exact rule i j t t' s _ _ ⟨.int (g i j),H,I.tok _,⟨_,rfl⟩,q⟩
theorem FM{f:HB->HB->Sem HB}{g:Int->Int->Bool}
  (rule:∀(i j:Int)(t u:Tok)(s:HC)(Q:HB->HC->Prop)(E:HB->HC->Prop),Q (.bool (g i j)) s->Hx (IK X.prog X.w) X.A (f (.int i t) (.int j u)) Q E s) :
  OpR X f (rI0 fun i j=>.bl (g i j)):=by
 intro pins s σ H x y v u Q I rx ry h;obtain⟨i,j,rfl,rfl,q⟩:=h;obtain⟨t,rfl⟩:=rx;obtain⟨t',rfl⟩:=ry;exact rule i j t t' s _ _ ⟨.bl (g i j),H,I,rfl,q⟩
def Hf(i j:Int):Prop:=0<j/\j<1073741824
def Fj(i j:Int):Prop:=(-(2 ^ 64)<i/\i<2 ^ 64)\/(-(2 ^ 64)<j/\j<2 ^ 64)
theorem Fj.ok{i j:Int}(h:Fj i j):IntMulOk i j:=by
 rcases h with⟨h1,h2⟩|⟨h1,h2⟩
 ·exact .of_left (intBits_le_64 h1 h2)
 ·exact .of_right (intBits_le_64 h1 h2)
theorem By:OpR X (KC .Add) (rI0 fun i j=>.int (i+j)):=GG fun _ _ _ _ _ _ _ q=>add_int q
theorem Bv:OpR X (KC .Mult) (rI Fj fun i j=>.int (i * j)):=opI fun _ _ _ _ _ _ _ hc q=>mul_int q hc.ok
theorem yY:OpR X (KC .FloorDiv) (rI Hf fun i j=>.int (i / j)):=opI fun i j _ _ _ _ _ hc q=>by
 have h1:(0:Int)<j:=hc.1;have h2:j<1073741824:=hc.2;exact floordiv_int (by omega) (by rw[Int.fdiv_eq_ediv_of_nonneg i (by omega)];exact q) (.inl (PyProof.noPylong_small (by omega)))
theorem Bw:OpR X (KC .Mod) (rI (fun _ j=>0<j) fun i j=>.int (i % j)):=opI fun i j _ _ _ _ _ hc q=>by
 have h1:(0:Int)<j:=hc;exact mod_int' (by omega) (by rw[Int.fmod_eq_emod_of_nonneg i (by omega)];exact q)
theorem unI{f:HB->Sem HB}{g:Int->Int}
  (rule:∀(i:Int)(t:Tok)(s:HC)(Q:HB->HC->Prop)(E:HB->HC->Prop),Q (.int (g i) s.toks) { s with toks:=s.toks+1 }->Hx (IK X.prog X.w) X.A (f (.int i t)) Q E s) :
  UnR X f (rU fun i=>.int (g i)):=by
 intro pins s σ H x v Q I rx h;obtain⟨i,rfl,q⟩:=h;obtain⟨t,rfl⟩:=rx;exact rule i t s _ _ ⟨.int (g i),H,I.tok _,⟨_,rfl⟩,q⟩
theorem AS:UnR X (unaryOp .USub) (rU fun i=>.int (-i)):=unI fun _ _ _ _ _ q=>neg_int q
end
def xq:V->V->Bool
 | .non,.non=>true | .non,.int _=>true | .int _,.non=>true | .non,.bl _=>true | .bl _,.non=>true | .non,.str _=>true | .str _,.non=>true
 | .int _,.int _=>true | .bl _,.bl _=>true | .str _,.str _=>true | .byt _,.byt _=>true
 | .int _,.str _=>true | .str _,.int _=>true | .bl _,.str _=>true | .str _,.bl _=>true
 | _,_=>false
def rEq:R2:=fun x y H Q=>xq x y=true/\Q (.bl (decide (x=y))) H
def rNe:R2:=fun x y H Q=>xq x y=true/\Q (.bl (!decide (x=y))) H
theorem uv{i j:Int}:decide (V.int i=V.int j)=(i == j):=by
 rw[Jj];simp
theorem ye{i j:Bool}:decide (V.bl i=V.bl j)=(i == j):=by
 rw[Jj];simp
theorem uu{i j:Str}:decide (V.str i=V.str j)=(i == j):=by
 rw[Jj];simp
theorem uw{i j:Array UInt8}:decide (V.byt i=V.byt j)=(i.toList == j.toList):=by
 rw[Jj];cases i;cases j;simp
section
variable{X : Cx}{a b c : Expr}{ta tb tc : TE}{pos : JO}
theorem aZ{pins:List (Addr×Obj)}{σ:St}{H:Hp}{s:HC}{Q:VK}{k k':Bool}(I:Inv X pins σ H s)(q:Q (.bl k) H)(e:k=k'):EP X pins σ Q (.bool k') s:=by
 subst e;exact⟨.bl k,H,I,rfl,q⟩
theorem Ep:OpR X (Ia .Eq) rEq:=by
 intro pins s σ H x y v u Q I rx ry h;obtain⟨hs,q⟩:=h;cases x with
 | non=>
  cases rx;cases y with
  | non=>cases ry;exact PySem.EqNone.eq_none_none (aZ I q (by simp))
  | bl j=>cases ry;exact PySem.EqNone.eq_none_bool (aZ I q (by simp))
  | int j=>obtain⟨t',rfl⟩:=ry;exact PySem.EqNone.eq_none_int (aZ I q (by simp))
  | str j=>obtain⟨t',rfl⟩:=ry;exact PySem.EqNone.eq_none_str (aZ I q (by simp))
  | _=>exact absurd (show false=true from hs) HP
 | bl i=>
  cases rx;cases y with
  | non=>cases ry;exact PySem.EqNone.eq_bool_none (aZ I q (by simp))
  | bl j=>cases ry;exact eq_bool (aZ I q ye)
  | str j=>obtain⟨t',rfl⟩:=ry;exact PySem.EqMixed.eq_bool_str (aZ I q (by simp))
  | _=>exact absurd (show false=true from hs) HP
 | int i=>
  obtain⟨t,rfl⟩:=rx;cases y with
  | non=>cases ry;exact PySem.EqNone.eq_int_none (aZ I q (by simp))
  | int j=>obtain⟨t',rfl⟩:=ry;exact eq_int (aZ I q uv)
  | str j=>obtain⟨t',rfl⟩:=ry;exact PySem.EqMixed.eq_int_str (aZ I q (by simp))
  | _=>exact absurd (show false=true from hs) HP
 | str i=>
  obtain⟨t,rfl⟩:=rx;cases y with
  | non=>cases ry;exact PySem.EqNone.eq_str_none (aZ I q (by simp))
  | bl j=>cases ry;exact PySem.EqMixed.eq_str_bool (aZ I q (by simp))
  | int j=>obtain⟨t',rfl⟩:=ry;exact PySem.EqMixed.eq_str_int (aZ I q (by simp))
  | str j=>obtain⟨t',rfl⟩:=ry;exact eq_str (aZ I q uu)
  | _=>exact absurd (show false=true from hs) HP
 | byt i=>
  obtain⟨t,rfl⟩:=rx;cases y with
  | byt j=>obtain⟨t',rfl⟩:=ry;exact PySem.W.eq_bytes (aZ I q uw)
  | _=>exact absurd (show false=true from hs) HP
 | _=>cases y <;> exact absurd (show false=true from hs) HP
theorem Em:OpR X (Ia .NotEq) rNe:=by
 intro pins s σ H x y v u Q I rx ry h;obtain⟨hs,q⟩:=h;cases x with
 | non=>
  cases rx;cases y with
  | non=>cases ry;exact PySem.EqNone.ne_none_none (aZ I q (by simp))
  | bl j=>cases ry;exact PySem.EqNone.ne_none_bool (aZ I q (by simp))
  | int j=>obtain⟨t',rfl⟩:=ry;exact PySem.EqNone.ne_none_int (aZ I q (by simp))
  | str j=>obtain⟨t',rfl⟩:=ry;exact PySem.EqNone.ne_none_str (aZ I q (by simp))
  | _=>exact absurd (show false=true from hs) HP
 | bl i=>
  cases rx;cases y with
  | non=>cases ry;exact PySem.EqNone.ne_bool_none (aZ I q (by simp))
  | bl j=>cases ry;exact ne_bool (aZ I q (congrArg not ye))
  | str j=>obtain⟨t',rfl⟩:=ry;exact PySem.EqMixed.ne_bool_str (aZ I q (by simp))
  | _=>exact absurd (show false=true from hs) HP
 | int i=>
  obtain⟨t,rfl⟩:=rx;cases y with
  | non=>cases ry;exact PySem.EqNone.ne_int_none (aZ I q (by simp))
  | int j=>obtain⟨t',rfl⟩:=ry;exact ne_int (aZ I q (congrArg not uv))
  | str j=>obtain⟨t',rfl⟩:=ry;exact PySem.EqMixed.ne_int_str (aZ I q (by simp))
  | _=>exact absurd (show false=true from hs) HP
 | str i=>
  obtain⟨t,rfl⟩:=rx;cases y with
  | non=>cases ry;exact PySem.EqNone.ne_str_none (aZ I q (by simp))
  | bl j=>cases ry;exact PySem.EqMixed.ne_str_bool (aZ I q (by simp))
  | int j=>obtain⟨t',rfl⟩:=ry;exact PySem.EqMixed.ne_str_int (aZ I q (by simp))
  | str j=>obtain⟨t',rfl⟩:=ry;exact ne_str (aZ I q (congrArg not uu))
  | _=>exact absurd (show false=true from hs) HP
 | byt i=>
  obtain⟨t,rfl⟩:=rx;cases y with
  | byt j=>obtain⟨t',rfl⟩:=ry;exact PySem.W.ne_bytes (aZ I q (congrArg not uw))
  | _=>exact absurd (show false=true from hs) HP
 | _=>cases y <;> exact absurd (show false=true from hs) HP
theorem En:OpR X (Ia .Lt) (rI0 fun i j=>.bl (decide (i<j))):=FM fun _ _ _ _ _ _ _ q=>lt_int q
theorem Eo:OpR X (Ia .LtE) (rI0 fun i j=>.bl (decide (i<=j))):=FM fun _ _ _ _ _ _ _ q=>le_int q
theorem sA:OpR X (Ia .Lt) (fun x y H Q=>∃i j,x=.str i/\y=.str j/\Q (.bl (decide (i.cps.toList<j.cps.toList))) H):=by
 intro pins s σ H x y v u Q I rx ry h;obtain⟨i,j,rfl,rfl,q⟩:=h;obtain⟨t,rfl⟩:=rx;obtain⟨t',rfl⟩:=ry;exact lt_str (aZ I q rfl)
theorem sC:OpR X (Ia .In) (fun x y H Q=>∃i j,x=.str i/\y=.str j/\Q (.bl (!(J6 j i 0 j.length 1).isEmpty)) H):=by
 intro pins s σ H x y v u Q I rx ry h;obtain⟨i,j,rfl,rfl,q⟩:=h;obtain⟨t,rfl⟩:=rx;obtain⟨t',rfl⟩:=ry;exact in_str (aZ I q rfl)
theorem Bx:OpR X (Ia .Is) (fun x y H Q=>y=.non/\Q (.bl (decide (x=.non))) H):=by
 intro pins s σ H x y v u Q I rx ry h;obtain⟨rfl,q⟩:=h;cases ry;refine is_none_gen (aZ I q ?_)
 cases x <;> first
  | (cases rx;rfl)
  | (obtain⟨t,rfl⟩:=rx;rfl)
theorem xF(b:Expr){op:CmpOp}(h:op≠.In:=by decide)(h2:op≠.NotIn:=by decide):Kj op b=false:=by
 have e1:(op == CmpOp.In)=false:=by cases op <;> first | rfl | exact absurd rfl h
 have e2:(op == CmpOp.NotIn)=false:=by cases op <;> first | rfl | exact absurd rfl h2
 cases b <;> simp[Kj,e1,e2]
theorem yW{op:CmpOp}{r:R2}(ho:OpR X (Ia op) r)(ha:PE X a ta)(hb:PE X b tb)(hm:Kj op b=false):PE X (.Compare a [op] [b] pos) (tOp r ta tb):=by
 intro pins s σ H Q I h;exact wpAny_Compare1 (Ff ha hb I h fun v u s2 x y H2 I2 rx ry q=>ho pins s2 σ H2 x y v u Q I2 rx ry q) hm
def AZ(t:TE):TT:=fun σ H Q=>t σ H fun x H'=>∃k,x=.bl k/\Q k H'
theorem yM{op:CmpOp}{r:R2}(ho:OpR X (Ia op) r)(ha:PE X a ta)(hb:PE X b tb)(hm:Kj op b=false):PT X (.Compare a [op] [b] pos) (AZ (tOp r ta tb)):=by
 intro pins s σ H Q I h
 refine wpAny_isTrue_Compare1 (thn (ha pins s σ H _ I h) fun v s1 ⟨x,H1,I1,r1,q1⟩=>thn (hb pins s1 σ H1 _ I1 q1) fun u s2 ⟨y,H2,I2,r2,q2⟩=>
  thn (ho pins s2 σ H2 x y v u _ I2 r1 r2 q2) fun c s3 ⟨z,H3,I3,r3,k,e,q3⟩=>?_) hm
 subst e;cases r3;exact JT ⟨H3,I3,q3⟩
def B1(r r':R2)(ta tb tc:TE):TE:=fun σ H Q=>ta σ H fun x H1=>tb σ H1 fun y H2=>r x y H2 fun z H3=>∃k,z=.bl k/\
 (if k=true then tc σ H3 fun w' H4=>r' y w' H4 Q else Q (.bl false) H3)
theorem vT{op op':CmpOp}{r r':R2}(ho:OpR X (Ia op) r)(ho':OpR X (Ia op') r')(ha:PE X a ta)(hb:PE X b tb)(hc:PE X c tc)
  (hm:lastMarks [op,op'] [b,c]=false:=by with_unfolding_all rfl):PT X (.Compare a [op,op'] [b,c] pos) (AZ (B1 r r' ta tb tc)):=by
 intro pins s σ H Q I h
 refine isTrue_chain (thn (ha pins s σ H _ I h) fun v s1 ⟨x,H1,I1,r1,q1⟩=>test_link (thn (hb pins s1 σ H1 _ I1 q1) fun u s2 ⟨y,H2,I2,r2,q2⟩=>
  thn (ho pins s2 σ H2 x y v u _ I2 r1 r2 q2) fun d s3 ⟨z,H3,I3,r3,k,e,q3⟩=>?_)) hm
 subst e;cases r3;refine JT ?_;cases k with
 | false=>
  obtain⟨k',e',q'⟩:=q3;cases e';exact ite_ff ⟨H3,I3,q'⟩
 | true=>
  refine ite_tt (test_last (thn (hc pins s3 σ H3 _ I3 q3) fun w' s4 ⟨z',H4,I4,r4,q4⟩=>thn (ho' pins s4 σ H4 y z' u w' _ I4 r2 r4 q4) fun d' s5 ⟨z2,H5,I5,r5,k2,e2,q5⟩=>?_));subst e2;cases r5;exact JT ⟨H5,I5,q5⟩
def Hc(K:HA)(x:V)(H:Hp)(k:Bool):Prop:=
 match x with
 | .non=>k=false
 | .bl b=>k=b
 | .int i=>k=(i != 0)
 | .str y=>y.length<=sizeLine/\k=((y.length:Int) != 0)
 | .byt y=>y.size<=sizeLine/\k=((y.size:Int) != 0)
 | .ref p=>(∃xs,SqL K H p xs/\k=!xs.isEmpty)\/(∃xs,SqT K H p xs/\k=!xs.isEmpty)\/∃kvs,H p=some (.dK kvs)/\k=!kvs.isEmpty
 | _=>False
theorem l9{κ:Type}{kvs:List (κ×V)}{vs:List (κ×HB)}(r:KV kvs vs):(!vs.isEmpty)=!kvs.isEmpty:=by
 cases r <;> rfl
theorem l8{xs:List V}{its:List HB}(r:Vals xs its):(!its.toArray.isEmpty)=!xs.isEmpty:=by
 cases r <;> simp
theorem nu:(sizeLine:Nat)<2 ^ 63:=by rw[Il];decide
theorem cu:G5 X (fun x H Q=>∃k,Hc X.K x H k/\Q k H):=by
 intro pins s σ H x v Q I rx h;obtain⟨k,e,q⟩:=h;have hl:=nu;have hs:sizeLine=16777216:=Il;cases x with
 | non=>
  cases rx;have e':k=false:=e;subst e';exact truthy_none ⟨H,I,q⟩
 | bl b=>
  cases rx;have e':k=b:=e;subst e';exact JT ⟨H,I,q⟩
 | int i=>
  obtain⟨t,rfl⟩:=rx;have e':k=(i != 0):=e;subst e';exact PySem.P.truthy_int ⟨H,I,q⟩
 | str y=>
  obtain⟨t,rfl⟩:=rx;obtain⟨hy,e'⟩:y.length<=sizeLine/\k=((y.length:Int) != 0):=e;subst e';exact PySem.P.truthy_str (by omega) ⟨H,I.tok _,q⟩
 | byt y=>
  obtain⟨t,rfl⟩:=rx;obtain⟨hy,e'⟩:y.size<=sizeLine/\k=((y.size:Int) != 0):=e;subst e';exact PySem.W.truthy_bytes (by omega) ⟨H,I.tok _,q⟩
 | ref p=>
  cases rx;have e':(∃xs,SqL X.K H p xs/\k=!xs.isEmpty)\/(∃xs,SqT X.K H p xs/\k=!xs.isEmpty)\/∃kvs,H p=some (.dK kvs)/\k=!kvs.isEmpty:=e;rcases e' with⟨xs,hx,e'⟩|⟨xs,hx,e'⟩|⟨kvs,hx,e'⟩
  ·subst e'
   obtain⟨its,r,pl,hz⟩:=I.list hx;have hlen:=r.length;exact wpAny_truthy_list pl.isList (by simp only[Hz];omega) ⟨H,I.tok _,by rw[l8 r];exact q⟩
  ·subst e'
   obtain⟨its,r,pl,hz⟩:=I.tuple hx;have hlen:=r.length;exact truthy_tuple pl (by simp only[Hz];omega) ⟨H,I.tok _,by rw[l8 r];exact q⟩
  ·subst e'
   obtain⟨hz,hS,vs,r,m⟩:kvs.length<=sizeLine/\(p == Im)=false/\∃vs,KV kvs vs/\s.heap.DictOf (au X.prog X.w) p vs:=I.hok p _ hx;have hlen:kvs.length=vs.length:=Ij r;exact wpAny_truthy_dict hS m (by omega) ⟨H,I.tok _,by rw[l9 r];exact q⟩
 | _=>exact(show False from e).elim
theorem qE:OpR X (KC .Add) (fun x y H Q=>∃i j,x=.str i/\y=.str j/\i.length+j.length<=sizeLine/\Q (.str (i++j)) H):=by
 intro pins s σ H x y v u Q I rx ry h;obtain⟨i,j,rfl,rfl,hz,q⟩:=h;obtain⟨t,rfl⟩:=rx;obtain⟨t',rfl⟩:=ry;exact add_str (fun t' tk=>⟨.str (i++j),H,I.tok _,⟨_,rfl⟩,q⟩) hz
theorem vals1{x:V}{us:List HB}(r:Vals [x] us):∃u,us=[u]/\RelV x u:=by
 cases r with
 | cons r1 r2=>cases r2;exact⟨_,rfl,r1⟩
theorem vals2{x y:V}{us:List HB}(r:Vals [x,y] us):∃u w',us=[u,w']/\RelV x u/\RelV y w':=by
 cases r with
 | cons r1 r2=>
  cases r2 with
  | cons r3 r4=>cases r4;exact⟨_,_,rfl,r1,r3⟩
theorem nV:gX X (.type "int") (fun xs H Q=>(∃i,xs=[.int i]/\Q (.int i) H)\/∃k,xs=[.bl k]/\Q (.int (if k then 1 else 0)) H):=by
 intro pins s σ H xs us Q I r h;rcases h with⟨i,rfl,q⟩|⟨k,rfl,q⟩
 ·obtain⟨u,rfl,t,rfl⟩:=vals1 r
  exact call_int_int ⟨.int i,H,I,⟨_,rfl⟩,q⟩
 ·obtain⟨u,rfl,r1⟩:=vals1 r
  cases r1;exact call_int_bool ⟨.int (if k then 1 else 0),H,I.tok _,⟨_,rfl⟩,q⟩
def He(K:HA)(x:V)(H:Hp)(n:Nat):Prop:=
 match x with
 | .str y=>y.length<=sizeLine/\n=y.length
 | .byt y=>y.size<=sizeLine/\n=y.size
 | .ref p=>(∃xs,SqL K H p xs/\n=xs.length)\/∃xs,SqT K H p xs/\n=xs.length
 | _=>False
theorem mB:gX X (.builtin "len") (fun xs H Q=>∃x n,xs=[x]/\He X.K x H n/\Q (.int n) H):=by
 intro pins s σ H xs us Q I r h;obtain⟨x,n,rfl,e,q⟩:=h;obtain⟨u,rfl,rx⟩:=vals1 r;have hl:=nu;have hs:sizeLine=16777216:=Il;cases x with
 | str y=>
  obtain⟨t,rfl⟩:=rx;obtain⟨hy,e'⟩:y.length<=sizeLine/\n=y.length:=e;subst e';exact len_str (by omega) ⟨.int _,H,I.tok _,⟨_,rfl⟩,q⟩
 | byt y=>
  obtain⟨t,rfl⟩:=rx;obtain⟨hy,e'⟩:y.size<=sizeLine/\n=y.size:=e;subst e';exact PySem.W.len_bytes (by omega) ⟨.int _,H,I.tok _,⟨_,rfl⟩,q⟩
 | ref p=>
  cases rx;have e':(∃xs,SqL X.K H p xs/\n=xs.length)\/∃xs,SqT X.K H p xs/\n=xs.length:=e;rcases e' with⟨xs,hx,e'⟩|⟨xs,hx,e'⟩
  ·subst e'
   obtain⟨its,r',pl,hz⟩:=I.list hx;have hlen:=r'.length;exact Calls.call_len_list pl.isList (by simp only[Hz];omega) ⟨.int xs.length,H,I.tok _,⟨_,by simp only[Hz];rw[hlen]⟩,q⟩
  ·subst e'
   obtain⟨its,r',pl,hz⟩:=I.tuple hx;have hlen:=r'.length;exact len_tuple pl (by simp only[Hz];omega) ⟨.int xs.length,H,I.tok _,⟨_,by simp only[Hz];rw[hlen]⟩,q⟩
 | _=>exact(show False from e).elim
end
end L2
namespace L2
open PySem PySem.Spec PyProof.Rows
def rf(f:Str)(v:V):List (Str×V)->List (Str×V)
 | []=>[(f,v)]
 | (g,x)::r=>if g=f then (g,v)::r else (g,x)::rf f v r
theorem r8.some_of{v:V}{o:Option HB}(r:r8 (some v) o):∃u,o=some u/\RelV v u:=by
 cases o with
 | none=>exact(show False from r).elim
 | some u=>exact⟨u,rfl,r⟩
theorem r8.none_of{o:Option HB}(r:r8 none o):o=none:=by
 cases o with
 | none=>rfl
 | some u=>exact(show False from r).elim
structure Cls(K:HA)(C:Addr):Prop where
 pg:PySem.W.plainGet K C Str.empty=true
 hd:PySem.W.hasDictIn K C=true
 po:PySem.W.plainOver K C=true
 sa:O0 K (.ref C) "__setattr__"=some (some (.builtin "object.__setattr__"))
structure Con(K:HA)(C:Addr)(f:Str)(v:V)(u:HB):Prop where
 at_:O0 K (.ref C) f=some (some u)
 rel:RelV v u
 get:PySem.W.specialIn K u "__get__"=some none
 cp:PySem.W.copiedNames.contains f=false
end L2
namespace L2
open PySem PySem.Spec PyProof.Rows
structure Room(k:Nat)(A:IL):Prop where
 hd:A.handled=none
 dp:A.depth+3 * k+5<recursionLimit
 un:A.units+16 * k+200<cLine
theorem Room.mono{j k:Nat}{A:IL}(r:Room k A)(h:j<=k):Room j A:=⟨r.hd,by have:=r.dp;omega,by have:=r.un;omega⟩
theorem Room.deeper{k:Nat}{A:IL}(r:Room (k+1) A)(env:M5):Room k (A.deeper env):=
 ⟨r.hd,by have:=r.dp;show A.depth+1+3 * k+5<_;omega,by have:=r.un;show A.units+3+16 * k+200<_;omega⟩
theorem Room.depth{k:Nat}{A:IL}(r:Room k A):A.depth<recursionLimit:=by have:=r.dp;omega
theorem Room.units{k:Nat}{A:IL}(r:Room k A):A.units+64<cLine:=by have:=r.un;omega
def Gp:TA:=fun _ H Q=>Q [] H
def E3(ta:TE)(tr:TA):TA:=fun σ H Q=>ta σ H fun x H1=>tr σ H1 fun xs H2=>Q (x::xs) H2
section
variable{X : Cx}{e : Expr}{es : List Expr}{te : TE}{t : TA}{pos : JO}
theorem gC:PA X [] Gp:=fun _ _ _ _ H Q I h=>Calls.spliced_nil ⟨[],H,I,.nil,h⟩
theorem cK(ha:PE X e te)(hr:PA X es t)(hs:Hw (e::es) X.env=(false,J8 e X.env)::Hw es X.env:=by rfl):PA X (e::es) (E3 te t):=by
 intro pos pins s σ H Q I h;rw[hs];show Hx _ _ (spliced ((false,J8 e X.env)::KI pos (Hw es X.env))) _ _ s;refine Calls.spliced_cons (thn (ha pins s σ H _ I h) fun u s1 ⟨x,H1,I1,r1,q1⟩=>?_);exact thn (hr pos pins s1 σ H1 _ I1 q1) fun us s2 ⟨xs,H2,I2,r2,q2⟩=>⟨x::xs,H2,I2,.cons r1 r2,q2⟩
def Gh(t:TA):TE:=fun σ H Q=>t σ H fun xs H1=>xs.length<=sizeLine/\∀p,H1 p=none->Q (.ref p) (upd H1 p (.tup xs))
def Gq(t:TA):TE:=fun σ H Q=>t σ H fun xs H1=>xs.length<=sizeLine/\∀p,H1 p=none->Q (.ref p) (upd H1 p (.lst xs))
theorem Bm{x1}(h:PA X es t):PE X (.Tuple es x1 pos) (Gh t):=by
 intro pins s σ H Q I hq;refine wpAny_Tuple_spliced (thn (h pos pins s σ H _ I hq) fun us s1 ⟨xs,H1,I1,r,z,q⟩=>⟨by rw[← r.length];exact z,?_⟩);have hf:H1 s1.heap.objs.size=none:=I1.hok.fresh (Hu _);refine⟨.ref s1.heap.objs.size,upd H1 s1.heap.objs.size (.tup xs),I1.laid (t':=s1.toks) (fun b u e=>HH _ e) (Hu _) ?_,rfl,q _ hf⟩;exact⟨z,us,r,⟨_,IC _ rfl,rfl,⟨_,rfl⟩,fun _=>rfl⟩⟩
theorem Br(h:PA X es t):PE X (.List es pos) (Gq t):=by
 intro pins s σ H Q I hq;refine wpAny_List_spliced (thn (h pos pins s σ H _ I hq) fun us s1 ⟨xs,H1,I1,r,z,q⟩=>⟨by rw[← r.length];exact z,?_⟩);have hf:H1 s1.heap.objs.size=none:=I1.hok.fresh (Hu _);refine⟨.ref s1.heap.objs.size,upd H1 s1.heap.objs.size (.lst xs),I1.laid (t':=s1.toks) (fun b u e=>HH _ e) (Hu _) ?_,rfl,q _ hf⟩;exact⟨z,us,0,r,IC _ rfl⟩
end
abbrev Sp:=List V->Hp->VK->XK->Prop
abbrev CXT:=List M5->Hp->HC->XK->HB->HC->Prop
structure Env0(P:HX)(w:IA)(K:HA)(mg:Str->Option HB)(base:Heap)(A:IL)(outer:List M5)(s:HC)(H:Hp):Prop where
 frames:A.frames=some outer
 mod:Mod K mg base
 bs:∀b o,base.get? b=some o->s.heap.get? b=some o/\H b=none
 bsz:base.objs.size<=s.heap.objs.size
 funs:s.heap.FunFrames base outer
 frf:∀b∈frs outer,H b=none
 hok:HOk P w H s.heap
 bare:LY s.gens
def CE(outer:List M5)(P:HX)(w:IA)(H:Hp)(s:HC)(Q:VK)(u:HB)(s':HC):Prop:=
 ∃v H',s'.os=s.os/\LY s'.gens/\Un (frs outer) [] H H' s.heap s'.heap/\HOk P w H' s'.heap/\RelV v u/\Q v H'
def CR(CX:CXT)(outer:List M5)(P:HX)(w:IA)(H:Hp)(s:HC)(Q:VK)(E:XK)(r:Result)(s':HC):Prop:=
 match r with
 | .ok (.ret u)=>CE outer P w H s Q u s'
 | .ok _=>False
 | .error e=>CX outer H s E e s'
structure FnOk(P:HX)(w:IA)(K:HA)(mg:Str->Option HB)(base:Heap)(CX:CXT)(k:Nat)(f:Addr)(fd:FuncData)(ps:List Str)(sp:Sp):Prop where
 len:∀vs H Q E,sp vs H Q E->vs.length=ps.length
 run:∀(A:IL)(outer:List M5)(s:HC)(H:Hp)(args:Args)(us:List HB)(vs:List V)(Q:VK)(E:XK),Room k A->Env0 P w K mg base A outer s H->Mt s fd args (ps.zip us)->Vals vs us->sp vs H Q E->
  LB (IK P w) A (.call (.ref f) args) (CR CX outer P w H s Q E) s
section
variable{X : Cx}{pins : List (Addr×Obj)}{σ : St}{H : Hp}{s s' : HC}
theorem Inv.env0(I:Inv X pins σ H s):Env0 X.prog X.w X.K X.mg X.base X.A X.stack s H:=
 ⟨I.ok.frames,I.ok.mod,I.bs,Ig I.ok.bsz I.sz,I.stack,I.stkFree,I.hok,I.bare⟩
theorem Inv.after{Q:VK}{u:HB}(I:Inv X pins σ H s)(h:CE X.stack X.prog X.w H s Q u s'):EP X pins σ Q u s':=by
 obtain⟨v,H',os,bare,un,hok,r,q⟩:=h;obtain⟨hh,g,d,t,os'⟩:=s';obtain rfl:os'=s.os:=os;exact⟨v,H',I.call (h':=hh) (g':=g) (d':=d) (t':=t) (ch:=[]) un hok bare (fun b z=>absurd z (by simp)),r,q⟩
end
def E4(sp:Sp)(dvs:List V)(E:XK)(t:TA):TE:=fun σ H Q=>t σ H fun vs H1=>sp (vs++dvs) H1 Q E
def Binds(K:HA)(fd:FuncData)(ps:List Str)(ds:List HB):Prop:=
 ∀(s:HC)(us:List HB),K.In s.heap->(us++ds).length=ps.length->Mt s fd ⟨us,[]⟩ (ps.zip (us++ds))
theorem Binds.all{K:HA}{fd:FuncData}{ps:List Str}(h:∀us:List HB,us.length=ps.length->MO fd ⟨us,[]⟩=pure (ps.zip us)):Binds K fd ps []:=fun s us _ hl=>by
 rw[Iy] at hl ⊢;exact .of_eq (h us hl)
def Passes(CX:CXT)(X:Cx)(E:XK):Prop:=∀(pins:List (Addr×Obj))(σ:St)(H:Hp)(s:HC)(e:HB)(s':HC),Inv X pins σ H s->CX X.stack H s E e s'->X.xe e s'
section
variable{X : Cx}{CX : CXT}{k : Nat}{f C : Addr}{fd : FuncData}{ps : List Str}{sp : Sp}{dvs : List V}{ds : List HB}{E : XK}{x m : Str}{p pos apos : JO}{e o : Expr}{es : List Expr}{ta : TE}{t : TA}
theorem Bb{pins:List (Addr×Obj)}{σ:St}{H:Hp}{s:HC}{Q:VK}{us:List HB}{vs:List V}(F:FnOk X.prog X.w X.K X.mg X.base CX k f fd ps sp)(hr:Room k X.A)(hb:Binds X.K fd ps ds)(hd:Vals dvs ds)(hx:Passes CX X E)
  (I:Inv X pins σ H s) (r:Vals vs us) (h:sp (vs++dvs) H Q E):Hx (IK X.prog X.w) X.A (call (.ref f) us) (EP X pins σ Q) X.xe s:=by
 have r2:Vals (vs++dvs) (us++ds):=r.append hd;have hl:(us++ds).length=ps.length:=by rw[← r2.length];exact F.len _ _ _ _ h
 refine N3 (Ks (F.run X.A X.stack s H ⟨us,[]⟩ (us++ds) (vs++dvs) Q E hr I.env0 (hb s us I.kIn hl) r2 h) fun r s' hq=>?_);cases r with
 | error e=>exact hx pins σ H s e s' I hq
 | ok fl=>
  cases fl with
  | ret u=>exact I.after hq
  | next=>exact HJ hq
  | brk=>exact HJ hq
  | cont=>exact HJ hq
theorem yX(F:FnOk X.prog X.w X.K X.mg X.base CX k f fd ps sp)(hr:Room k X.A)(hg:Gl X x)(hm:X.mg x=some (.ref f))(hk:JH X.K (.ref f)=true)(hb:Binds X.K fd ps ds)(hd:Vals dvs ds)(hx:Passes CX X E)
  (ha:PA X (e::es) t) (hdb:(x == ("__debug__":Str))=false:=by decide) (he:Hw (e::es) X.env=(false,J8 e X.env)::Hw es X.env:=by rfl) (hpl:(KI pos (Hw es X.env)).any (·.1)=false:=by rfl) :
  PE X (.Call (.Name x p) (e::es) [] pos) (E4 sp dvs E t):=by
 intro pins s σ H Q I h;refine Jn (oE I hg hm ?_ hdb);refine N6 (h₀:=X.base) I.ok.mod.kin hk (thn (ha pos pins s σ H _ I h) fun us s1 ⟨vs,H1,I1,r,q⟩=>⟨I1.kIn,?_⟩) he hpl;exact Bb F hr hb hd hx I1 r q
end
structure FnScope(N P:List Str)(sc:Scope):Prop where
 kind:sc.kind=.function
 co:sc.isCoroutine=false
 gen:sc.isGenerator=false
 nd:N.Nodup
 pre:N.take P.length=P
 par:∀x∈P,sc.names.lookup x=some .local\/sc.names.lookup x=some .cell
 nofree:∀y∈sc.names,y.2≠.free
theorem nW{kindOf:Str->Option Jc}{x:Str}:∀{binds:List (Str×HB)}{m:Str->Option HB},(∀v,(x,v) ∉ binds)->Nl kindOf binds m x=m x
 | [],_,_=>rfl
 | (n,v)::r,m,h=>by
  unfold Nl;rw[nW fun w hw=>h w (I9 _ hw)]
  split
  ·have:x≠n:=by rintro rfl;exact h v ID
   simp[this]
  ·rfl
theorem nY{kindOf:Str->Option Jc}{x:Str}:∀{binds:List (Str×HB)}{m:Str->Option HB},(∀v,(x,v) ∉ binds)->Nm kindOf binds m x=m x
 | [],_,_=>rfl
 | (n,v)::r,m,h=>by
  unfold Nm;rw[nY fun w hw=>h w (I9 _ hw)]
  split
  ·rfl
  ·have:x≠n:=by rintro rfl;exact h v ID
   simp[this]
theorem nX{kindOf:Str->Option Jc}{x:Str}{v:HB}:∀{P:List Str}{vs:List HB}{i:Nat}{m:Str->Option HB},P.Nodup->P[i]?=some x->vs[i]?=some v->kindOf x=some .local->
  Nl kindOf (P.zip vs) m x=some v
 | [],_,_,_,_,h,_,_=>by simp at h
 | _::_,[],_,_,_,_,h,_=>by simp at h
 | p::P,w::vs,0,m,nd,h1,h2,hk=>by
  simp at h1 h2;subst h1;subst h2;show Nl kindOf ((p,w)::P.zip vs) m p=_;unfold Nl;rw[nW fun v hv=>(IX.mp nd).1 (Kg hv).1,if_pos hk];simp
 | p::P,w::vs,i+1,m,nd,h1,h2,hk=>by
  show Nl kindOf ((p,w)::P.zip vs) m x=_;unfold Nl;exact nX (i:=i) (IX.mp nd).2 (by simpa using h1) (by simpa using h2) hk
theorem nZ{kindOf:Str->Option Jc}{x:Str}{v:HB}:∀{P:List Str}{vs:List HB}{i:Nat}{m:Str->Option HB},P.Nodup->P[i]?=some x->vs[i]?=some v->kindOf x≠some .local->
  Nm kindOf (P.zip vs) m x=some v
 | [],_,_,_,_,h,_,_=>by simp at h
 | _::_,[],_,_,_,_,h,_=>by simp at h
 | p::P,w::vs,0,m,nd,h1,h2,hk=>by
  simp at h1 h2;subst h1;subst h2;show Nm kindOf ((p,w)::P.zip vs) m p=_;unfold Nm;rw[nY fun v hv=>(IX.mp nd).1 (Kg hv).1,if_neg hk];simp
 | p::P,w::vs,i+1,m,nd,h1,h2,hk=>by
  show Nm kindOf ((p,w)::P.zip vs) m x=_;unfold Nm;exact nZ (i:=i) (IX.mp nd).2 (by simpa using h1) (by simpa using h2) hk
def start(N:List Str)(vs:List V):St:=vs.map some++IM (N.length-vs.length) none
def yf(CX:CXT)(P:HX)(w:IA)(K:HA)(mg:Str->Option HB)(base:Heap)(N:List Str)(qual:Str)(scope:Scope)(f:Addr)(cd:HB)(A:IL)(outer:List M5)(s:HC)(H:Hp)(E:XK):Cx where
 prog:=P
 w:=w
 K:=K
 mg:=mg
 base:=base
 A:=A.deeper (Kb qual scope s.heap.objs.size f cd)
 N:=N
 s₀:=s
 H₀:=H
 env:=Kb qual scope s.heap.objs.size f cd
 outer:=outer
 stack:=Kb qual scope s.heap.objs.size f cd::outer
 ex:=[]
 calm:=true
 fn:=fun _=>true
 pn:=[]
 xe:=fun e s'=>Hx (IK P w) (A.deeper (Kb qual scope s.heap.objs.size f cd)) (leaving (Kb qual scope s.heap.objs.size f cd) e) (fun _ s''=>CX outer H s E e s'') (fun e' s''=>CX outer H s E e' s'') s'
theorem q8{sc:Scope}{n:Nat}{x:Str}(h:sc.names.lookup x=some .cell):∃c,(cellsFrom n sc.names []).lookup x=some c:=by
 have q:=Mb sc.names n [] (.inl h);exact MV.mp q
theorem tD{CX:CXT}{P:HX}{w:IA}{K:HA}{mg:Str->Option HB}{base:Heap}{N ps:List Str}{qual:Str}{scope:Scope}{f:Addr}{cd:HB}{A:IL}{outer:List M5}{s s1:HC}{H:Hp}{E:XK}{us:List HB}{vs:List V}
  (S:FnScope N ps scope) (hd:A.handled=none) (e0:Env0 P w K mg base A outer s H) (hl:vs.length=ps.length) (r:Vals vs us)
  (x:InCallC s s.heap.objs.size (Nl (Kb qual scope s.heap.objs.size f cd).kindOf (ps.zip us) fun _=>none) (cellsFrom (s.heap.objs.size+1) scope.names []) (Nm (Kb qual scope s.heap.objs.size f cd).kindOf (ps.zip us) fun _=>none) s1) :
  Inv (yf CX P w K mg base N qual scope f cd A outer s H E) [] (start N vs) H s1:=by
 have hpl:ps.length<=N.length:=by have:=congrArg JQ S.pre;rw[JJ] at this;omega
 obtain⟨h1,tk,rfl,hk⟩:=x.done;have noA:∀b:Addr,b ∉ (yf CX P w K mg base N qual scope f cd A outer s H E).ex:=fun b z=>absurd (show b∈([]:List Addr) from z) (by simp)
 refine⟨⟨e0.mod,S.kind,rfl,rfl,Hu _,fun y z c h1 h2=>?_,fun y hy=>?_,fun y c _ h=>?_,fun _=>hd,Mv e0.frames,.inr ⟨rfl,rfl⟩,fun b z=>absurd z (noA b),e0.bs,e0.bsz,fun b _ _=>noA b,fun b z=>absurd z (noA b),e0.funs,e0.frf⟩,
  rfl,e0.bare,Un.kept hk,⟨_,x.toInCall.ns,fun i y v h1 h2 h3=>?_⟩,fun y c h=>⟨_,x.cell y c h⟩,e0.hok.fresh (Hu _),fun y c h=>?_,fun p hp=>absurd (show p∈([]:List (Addr×Obj)) from hp) (by simp),e0.hok.kept hk,?_⟩
 ·exact name_of_addr x.apart (IQ h1) (IQ h2)
 ·have hy:scope.names.lookup y=some .cell\/scope.names.lookup y=some .free:=hy
  rcases hy with hy | hy
  ·exact q8 hy
  ·exact absurd rfl (S.nofree _ (IQ hy))
 ·exact M0 (x.above y c (IQ h))
 ·have hi:i<vs.length:=by
   unfold start at h2
   by_cases hi:i<vs.length
   ·exact hi
   ·rw[IJ (by simpa using hi)] at h2
    rw[Ih] at h2;split at h2 <;> cases h2
  have ha:vs[i]?=some v:=by
   unfold start at h2;rw[HZ (by simpa using hi),HW] at h2;cases e:vs[i]? with
   | none=>rw[e] at h2;cases h2
   | some a=>rw[e] at h2;cases h2;rfl
  obtain⟨u,hu,rv⟩:=r.get ha
  have hp:ps[i]?=some y:=by
   rw[← S.pre,List.getElem?_take_of_lt (by omega)];exact h1
  have ndP:ps.Nodup:=by rw[← S.pre];exact S.nd.sublist (List.take_sublist _ _)
  refine⟨u,rv,?_⟩;rcases S.par y (II hp) with k | k
  ·exact .inl ⟨k,nX ndP hp hu k⟩
  ·obtain⟨c,e⟩:=q8 (n:=s.heap.objs.size+1) k
   refine .inr ⟨.inl k,c,e,?_⟩;have q:=x.cell y c e;rw[nZ ndP hp hu (by show scope.names.lookup y≠_;rw[k];decide)] at q;exact q
 ·exact e0.hok.fresh (M0 (x.above y c (IQ h)))
 ·unfold start
  show _=N.length;rw[Hv,HF,Jl];omega
theorem Cr{CX:CXT}{P:HX}{w:IA}{K:HA}{mg:Str->Option HB}{base:Heap}{k:Nat}{f:Addr}{name qual:Str}{params:Arguments}{body:List Stmt}{scope:Scope}{dV kV doc pm cdv ct oc:HB}{an od:Option Addr}
  {osl:Array (Option HB)} {N ps:List Str} {sp:Sp} (lk:K.lookup f=some ⟨oc,od,.func (J0 name qual params body scope dV kV doc pm an cdv ct),osl⟩) (hcd:Jp K cdv qual=true) (S:FnScope N ps scope)
  (len:∀vs H Q E,sp vs H Q E->vs.length=ps.length)
  (hbody:∀(A:IL)(outer:List M5)(s:HC)(H:Hp)(vs:List V)(Q:VK)(E:XK),Room k (A.deeper (Kb qual scope s.heap.objs.size f cdv))->sp vs H Q E->
   ∃t,PSs (yf CX P w K mg base N qual scope f cdv A outer s H E) body t/\t { nx:=fun _ H'=>Q .non H',rt:=Q } (start N vs) H) :
  FnOk P w K mg base CX (k+1) f (J0 name qual params body scope dV kV doc pm an cdv ct) ps sp:=by
 refine⟨len,fun A outer s H args us vs Q E hr e0 hb r hsp=>?_⟩;have hl:=len _ _ _ _ hsp;have KX:K.In s.heap:=e0.mod.kin.keeps fun b o e=>(e0.bs b o e).1;have lim:s.heap.NoLimit:=e0.mod.nolimit.keeps fun b o e=>(e0.bs b o e).1
 have hkind:∀y∈ps.zip us,scope.names.lookup y.1=some .local\/(scope.names.lookup y.1=some .cell/\((cellsFrom (s.heap.objs.size+1) scope.names []).lookup y.1).isSome=true):=fun ⟨n,v⟩ hy=>by
  rcases S.par n (Kg hy).1 with q | q
  ·exact .inl q
  ·exact .inr ⟨q,Mb _ _ _ (.inl q)⟩
 refine codeAny_call_function hr.depth (KX _ _ lk) rfl S.co S.gen rfl (PySem.W.codeRec_of KX hcd) (hb _ _ _ _ ?_);refine wpAny_newFunctionEnv_cells S.kind hkind fun env he s1 x=>?_;subst he;refine⟨lim.keeps x.toInCall.keep,codeAny_func ?_⟩;obtain⟨t,ht,hq⟩:=hbody A outer s H vs Q E (hr.deeper _) hsp;have I:Inv (yf CX P w K mg base N qual scope f cdv A outer s H E) [] (start N vs) H s1:=tD S hr.hd e0 hl r x;refine JG (ht [] s1 (start N vs) H _ I hq) (fun fl s' hs=>?_) fun e s' hs=>hs
 have fin:∀{σ':St}{H':Hp}{v:V}{u:HB},Inv (yf CX P w K mg base N qual scope f cdv A outer s H E) [] σ' H' s'->RelV v u->Q v H'->CE outer P w H s Q u s':=
  fun {σ' H' v u} J rv q=>⟨v,H',J.os,J.bare,J.base,J.hok,rv,q⟩
 cases fl with
 | ret u=>
  obtain⟨v,σ',H',J,rv,q⟩:=hs;exact fin J rv q
 | next=>
  obtain⟨σ',H',J,q⟩:=hs;exact fin (v:=V.non) (u:=Km) J rfl q
 | brk=>
  obtain⟨_,_,_,q⟩:=hs;exact HJ q
 | cont=>
  obtain⟨_,_,_,q⟩:=hs;exact HJ q
end L2
namespace L2
open PySem PySem.Spec PyProof.Rows
section
variable{X : Cx}{x : Str}{p pos : JO}{e : Expr}{es : List Expr}{t : TA}{id T : String}{r : List V → Hp → VK → Prop}
def tCB(r:List V->Hp->VK->Prop)(t:TA):TE:=fun σ H Q=>t σ H fun vs H1=>r vs H1 Q
theorem w6 (hc:gX X (.builtin id) r) (hg:Gl X x) (hm:X.mg x=none) (hv:Jo x=some (.builtin id)) (ha:PA X (e::es) t) (hn:x≠"__name__":=by decide) (hdb:(x == ("__debug__":Str))=false:=by decide)
  (he:Hw (e::es) X.env=(false,J8 e X.env)::Hw es X.env:=by rfl) (hpl:(KI pos (Hw es X.env)).any (·.1)=false:=by rfl):PE X (.Call (.Name x p) (e::es) [] pos) (tCB r t):=by
 intro pins s σ H Q I h;refine Jn (l6 I hg hm hv ?_ hn hdb);exact PyProof.Rows.callWith_builtin1 (thn (ha pos pins s σ H _ I h) fun us s1 ⟨vs,H1,I1,r1,q1⟩=>hc pins s1 σ H1 vs us Q I1 r1 q1) he hpl
theorem mS (hc:gX X (.type T) r) (hg:Gl X x) (hm:X.mg x=none) (hv:Jo x=some (.type T)) (ha:PA X (e::es) t) (hn:x≠"__name__":=by decide) (hdb:(x == ("__debug__":Str))=false:=by decide)
  (he:Hw (e::es) X.env=(false,J8 e X.env)::Hw es X.env:=by rfl) (hpl:(KI pos (Hw es X.env)).any (·.1)=false:=by rfl):PE X (.Call (.Name x p) (e::es) [] pos) (tCB r t):=by
 intro pins s σ H Q I h;refine Jn (l6 I hg hm hv ?_ hn hdb);exact J9 (thn (ha pos pins s σ H _ I h) fun us s1 ⟨vs,H1,I1,r1,q1⟩=>hc pins s1 σ H1 vs us Q I1 r1 q1) he hpl
end
end L2
namespace HT
open PySem PyProof.Rows
def lexLt:List Int->List Int->Bool
 | [],[]=>false
 | [],_::_=>true
 | _::_,[]=>false
 | x::xs,y::ys=>if x=y then lexLt xs ys else decide (x<y)
section
variable{prog : HX}{w : IA}{A : IL}{E : HB → HC → Prop}{s : HC}
def sIx(n d:Nat):Option Int->Nat
 | none=>d
 | some v=>if v<0 then (v+(n:Int)).toNat else O5 v.toNat n
theorem sIx_nat(n d k:Nat):sIx n d (some (k:Int))=O5 k n:=by
 show (if (k:Int)<0 then ((k:Int)+(n:Int)).toNat else O5 (k:Int).toNat n)=O5 k n;rw[if_neg (by omega),Int.toNat_natCast]
theorem B8(n d:Nat)(hd:d<=n)(o:Option Int):sIx n d o<=n:=by
 cases o with
 | none=>exact hd
 | some v=>
  show (if v<0 then (v+(n:Int)).toNat else O5 v.toNat n)<=n
  by_cases hv:v<0
  ·rw[if_pos hv];omega
  ·rw[if_neg hv];exact Nat.min_le_right _ _
theorem uG(v:Int)(n d:Nat):(if v<0 then max (v+(n:Int)) 0 else O5 v (n:Int))=((sIx n d (some v):Nat):Int):=by
 show (if v<0 then max (v+(n:Int)) 0 else O5 v (n:Int))=(((if v<0 then (v+(n:Int)).toNat else O5 v.toNat n):Nat):Int)
 by_cases hv:v<0
 ·simp only[if_pos hv];omega
 ·simp only[if_neg hv];omega
theorem qY(lo hi:Option Int)(n:Nat):Ka lo hi 1 (n:Int)=(((sIx n 0 lo:Nat):Int),((sIx n n hi:Nat):Int)):=by
 have h1:¬ ((1:Int)<0):=by omega
 unfold Ka;simp only[h1,if_false];refine Ls ?_ ?_
 ·cases lo with
  | none=>rfl
  | some v=>exact uG v n 0
 ·cases hi with
  | none=>rfl
  | some v=>exact uG v n n
theorem qB(i j:Nat):Jf (i:Int) (j:Int) 1=j-i:=by
 unfold Jf;have h1:(1:Int) > 0:=by omega
 simp only[h1,if_true,Int.ediv_one]
 split <;> omega
theorem kM{v:HB}{o:Option Int}{Q:Option Int->HC->Prop}(p:Lo v o)(h:Q o s):Hx (IK prog w) A (Builtin.Slice.slicePartIndex v) Q E s:=by
 cases p with
 | none=>exact slicePart_none h
 | int i t=>exact slicePart_int h
theorem f9{sl:Addr}{vl vu:HB}{lo hi:Option Int}{n:Nat}{Q:Int×Int×Nat->HC->Prop}(hs:s.heap.IsSliceOf sl vl vu .none)(pl:Lo vl lo)(pu:Lo vu hi)
  (h:Q (((sIx n 0 lo:Nat):Int),1,sIx n n hi-sIx n 0 lo) s):Hx (IK prog w) A (Lg (.ref sl) (pure (n:Int))) Q E s:=by
 obtain⟨os,hos,hcs,hds⟩:=id hs;unfold Lg Builtin.Slice.sliceFields;refine HD (HD (wpAny_field hos hds (x:=vl) rfl (HD (wpAny_field hos hds (x:=vu) rfl (HD (wpAny_field hos hds (x:=.none) rfl (HK ?_)))))));refine HD (slicePart_none ?_);show Hx _ _ (if ((1:Int) == 0)=true then _ else _) _ _ s;rw[if_neg (by decide)];refine HD (kM pl (HD (kM pu (HD (HK ?_)))));show Hx _ _ (match Ka lo hi 1 (n:Int) with | (lo,hi)=>pure (lo,(1:Int),Jf lo hi 1)) _ _ s;rw[qY lo hi n];show Hx _ _ (pure (((sIx n 0 lo:Nat):Int),(1:Int),Jf ((sIx n 0 lo:Nat):Int) ((sIx n n hi:Nat):Int) 1)) _ _ s;rw[qB];exact HK h
theorem vW(xs:Array HB)(i k:Nat):((Hy k).filterMap fun (m:Nat)=>xs[((i:Int)+(m:Int) * 1).toNat]?).toArray=((xs.toList.drop i).take k).toArray:=by
 have e:(fun (m:Nat)=>xs[((i:Int)+(m:Int) * 1).toNat]?)=fun m=>xs[i+m]?:=by
  funext m
  have:((i:Int)+(m:Int) * 1).toNat=i+m:=by omega
  rw[this]
 rw[e];have:=pick_run xs i k;rw[List.filterMap_map] at this;have e2:((fun x=>xs[x]?) ∘ fun x=>i+x)=fun m=>xs[i+m]?:=rfl;rw[e2] at this;rw[this]
theorem getItem_tuple_cut{t sl:Addr}{items:Array HB}{vl vu:HB}{lo hi:Option Int}{Q:HB->HC->Prop}(ht:IsTup s.heap t items)(hs:s.heap.IsSliceOf sl vl vu .none)(pl:Lo vl lo)(pu:Lo vu hi)
  (hw:¬ (sIx items.size 0 lo=0/\sIx items.size items.size hi=items.size))
  (h:Q (.ref s.heap.objs.size) { s with heap:=s.heap.push { cls:=.type "tuple",data:=.seq ((items.toList.drop (sIx items.size 0 lo)).take (sIx items.size items.size hi-sIx items.size 0 lo)).toArray } })
  (hsz:items.size<=sizeLine):Hx (IK prog w) A (ML (.ref t) (.ref sl)) Q E s:=by
 have htake:sizeOk (.seq ((items.toList.drop (sIx items.size 0 lo)).take (sIx items.size items.size hi-sIx items.size 0 lo)).toArray):=by
  show ((items.toList.drop (sIx items.size 0 lo)).take (sIx items.size items.size hi-sIx items.size 0 lo)).toArray.size<=sizeLine;rw[Hz,JJ,MA,Io];omega
 have hj:sIx items.size items.size hi<=items.size:=B8 _ _ (Hu _) hi;obtain⟨os,hos,hcs,hds⟩:=id hs;have hTs:s.TypeIs (.ref sl) "slice":=⟨os,hos,hcs⟩;unfold ML
 try with_reducible refine Js ?_
 first | refine HD (HK ?_) | skip
 refine HD (wpAny_sequenceKey ht.typeIs (by decide) ?_)
 refine HD (Nj (name:=HL "__getitem__") ht.typeIs Ip
  (LO Ip ht.typeIs entry_tuple_getitem ?_ (args_tuple_getitem _ _)))
 show Hx _ _ (KO (.ref t) >>= _) _ _ s;refine HD (tupleItemsOf_ ht ?_);refine HD (KW hTs ?_);rw[if_pos (by decide)];refine HD (f9 hs pl pu ?_)
 have hno:¬ ((((sIx items.size 0 lo:Nat):Int) == 0 && (1:Int) == 1 && (sIx items.size items.size hi-sIx items.size 0 lo) == items.size)=true):=by
  intro q;rw[Ii,Ii] at q;have q1:((sIx items.size 0 lo:Nat):Int)=0:=K6 q.1.1;have q2:sIx items.size items.size hi-sIx items.size 0 lo=items.size:=K6 q.2;exact hw ⟨by omega,by omega⟩
 show Hx _ _ (if (((sIx items.size 0 lo:Nat):Int) == 0 && (1:Int) == 1 && (sIx items.size items.size hi-sIx items.size 0 lo) == items.size)=true then _ else _) _ _ s;rw[if_neg hno,vW]
 first
  | exact HD (m:=Jq _) (KY (HK ⟨_,rfl,HK h⟩) htake)
  | exact HD (m:=Jq _) (KY (HD (HK (HK ⟨_,rfl,HK h⟩))) htake)
  | exact HD (HD (m:=Jq _) (KY (HK (HK ⟨_,rfl,HK h⟩)) htake))
  | exact HD (HD (m:=Jq _) (KY (HK ⟨_,rfl,HK h⟩) htake))
end
end HT
namespace L2
open PySem PySem.Spec PyProof.Rows
abbrev TO:=St->Hp->(Option Int->Hp->Prop)->Prop
def PO(X:Cx)(e:Option Expr)(t:TO):Prop:=
 ∀(pins:List (Addr×Obj))(s:HC)(σ:St)(H:Hp)(Q:Option Int->Hp->Prop),Inv X pins σ H s->t σ H Q->
  Hx (IK X.prog X.w) X.A (evalPart e X.env) (fun u s'=>∃o H',Inv X pins σ H' s'/\Lo u o/\Q o H') X.xe s
def yv:TO:=fun _ H Q=>Q none H
def DY(t:TE):TO:=fun σ H Q=>t σ H fun x H1=>∃i,x=.int i/\Q (some i) H1
section
variable{X : Cx}{e : Expr}{te : TE}{lo hi : Option Expr}{tl th : TO}{pos p2 : JO}
theorem yR:PO X none yv:=by
 intro pins s σ H Q I h;rw[evalPart_none];exact HK ⟨none,H,I,.none,h⟩
theorem yQ(h:PE X e te):PO X (some e) (DY te):=by
 intro pins s σ H Q I hw;rw[evalPart_some];refine thn (h pins s σ H _ I hw) fun u s1 ⟨x,H1,I1,r1,q1⟩=>?_;obtain⟨i,rfl,q⟩:=q1;obtain⟨t,rfl⟩:=r1;exact⟨some i,H1,I1,.int i t,q⟩
def SlR(X:Cx)(r:V->Option Int->Option Int->Hp->VK->Prop):Prop:=
 ∀(pins:List (Addr×Obj))(s:HC)(σ:St)(H:Hp)(x:V)(v vl vu:HB)(lo hi:Option Int)(sl:Addr)(Q:VK),Inv X pins σ H s->RelV x v->s.heap.IsSliceOf sl vl vu .none->Lo vl lo->Lo vu hi->r x lo hi H Q->
  ∃T id,typeLookup (.type T) "__getitem__"=pure (some (.builtin id))/\s.TypeIs v T/\Hx (IK X.prog X.w) X.A (ML v (.ref sl)) (EP X pins σ Q) X.xe s
def tSl(r:V->Option Int->Option Int->Hp->VK->Prop)(te:TE)(tl th:TO):TE:=fun σ H Q=>te σ H fun x H1=>tl σ H1 fun l H2=>th σ H2 fun u H3=>r x l u H3 Q
theorem lR{r:V->Option Int->Option Int->Hp->VK->Prop}(hr:SlR X r)(he:PE X e te)(hl:PO X lo tl)(hu:PO X hi th):PE X (.Subscript e (.Slice lo hi none p2) pos) (tSl r te tl th):=by
 intro pins s σ H Q I h;refine Subscript_ (thn (he pins s σ H _ I h) fun v s1 ⟨x,H1,I1,r1,q1⟩=>?_);refine wpAny_Slice (thn (hl pins s1 σ H1 _ I1 q1) fun vl s2 ⟨l,H2,I2,pl,q2⟩=>thn (hu pins s2 σ H2 _ I2 q2) fun vu s3 ⟨u,H3,I3,pu,q3⟩=>?_);rw[evalPart_none];refine HK ?_;have I4:Inv X pins σ H3 { s3 with heap:=s3.heap.push { cls:=.type "slice",data:=.fields #[vl,vu,.none] } }:=I3.kept (t':=s3.toks) fun b ob q=>HH _ q;obtain⟨T,id,hT,ht,hg⟩:=hr pins { s3 with heap:=s3.heap.push { cls:=.type "slice",data:=.fields #[vl,vu,.none] } } σ H3 x v vl vu l u s3.heap.objs.size Q I4 r1 (Heap.IsSliceOf.new ..) pl pu q3;show Hx (IK X.prog X.w) X.A (subscriptTail e (.Slice lo hi none p2) v (.ref s3.heap.objs.size)) (EP X pins σ Q) X.xe { s3 with heap:=s3.heap.push { cls:=.type "slice",data:=.fields #[vl,vu,.none] } };exact tail_any (ops:=[.ref s3.heap.objs.size,v]) ht hT hg (by with_unfolding_all rfl)
def wU(xs:List V)(lo hi:Option Int):List V:=(xs.drop (HT.sIx xs.length 0 lo)).take (HT.sIx xs.length xs.length hi-HT.sIx xs.length 0 lo)
theorem k7(xs:List V)(lo hi:Option Int):(wU xs lo hi).length<=xs.length:=by
 unfold wU;rw[JJ,MA];omega
def Gy(K:HA):V->Option Int->Option Int->Hp->VK->Prop:=fun x lo hi H Q=>∃a xs,x=.ref a/\SqT K H a xs/\
 ¬ (HT.sIx xs.length 0 lo=0/\HT.sIx xs.length xs.length hi=xs.length)/\∀p,H p=none->Q (.ref p) (upd H p (.tup (wU xs lo hi)))
theorem xp:SlR X (Gy X.K):=by
 intro pins s σ H x v vl vu lo hi sl Q I rx hs pl pu h;obtain⟨a,xs,rfl,hx,hw,q⟩:=h;cases rx;obtain⟨its,r,ht,hz⟩:=I.tuple hx;have hlen:its.toArray.size=xs.length:=by rw[Hz];exact r.length.symm
 refine⟨"tuple",_,Ip.lookup,ht.typeIs,?_⟩;refine HT.getItem_tuple_cut ht hs pl pu (by rw[hlen];exact hw) ?_ (by rw[hlen];exact hz);rw[hlen];refine⟨.ref s.heap.objs.size,_,I.laid (t':=s.toks) (o:=.tup (wU xs lo hi)) (fun b ob q=>HH _ q) (Hu _) ?_,rfl,q _ (I.hok.fresh (Hu _))⟩;exact⟨Ig (k7 xs lo hi) hz,_,(r.drop (HT.sIx xs.length 0 lo)).take (HT.sIx xs.length xs.length hi-HT.sIx xs.length 0 lo),xc.new _ _⟩
end
end L2
namespace L2
open PySem PySem.Spec PyProof.Rows
def ixN(n:Nat)(i:Int):Option Nat:=if 0<=i then (if i<n then some i.toNat else none) else if -(n:Int)<=i then some (i+n).toNat else none
def atI{α:Type}(xs:List α)(i:Int):Option α:=(ixN xs.length i).bind fun j=>xs[j]?
theorem zp{n:Nat}{i:Int}{j:Nat}(h:ixN n i=some j):seqIndex? i n=some j/\j<n/\-(n:Int)<=i/\i<n:=by
 unfold ixN at h
 by_cases h0:0<=i
 ·rw[if_pos h0] at h
  by_cases h1:i<n
  ·rw[if_pos h1] at h
   have e:i.toNat=j:=Ib h;exact⟨by rw[seqIndex_of h0 h1,e],by omega,by omega,h1⟩
  ·rw[if_neg h1] at h;cases h
 ·rw[if_neg h0] at h
  by_cases h1:-(n:Int)<=i
  ·rw[if_pos h1] at h
   have e:(i+n).toNat=j:=Ib h;exact⟨by rw[seqIndex_neg (by omega) h1,e],by omega,h1,by omega⟩
  ·rw[if_neg h1] at h;cases h
theorem oQ{α:Type}{xs:List α}{i:Int}{v:α}(h:atI xs i=some v):∃j,seqIndex? i xs.length=some j/\xs[j]?=some v/\j<xs.length/\-(xs.length:Int)<=i/\i<xs.length:=by
 unfold atI at h;cases e:ixN xs.length i with
 | none=>rw[e] at h;cases h
 | some j=>
  rw[e] at h;obtain⟨h1,h2,h3,h4⟩:=zp e;exact⟨j,h1,h,h2,h3,h4⟩
def uU(b:Expr):Prop:=∀o i,subscripted b false o i=operate [o,i] (ML o i)
def IxR(X:Cx)(r:R2):Prop:=
 ∀(value slice:Expr)(pins:List (Addr×Obj))(s:HC)(σ:St)(H:Hp)(x y:V)(v u:HB)(Q:VK),Inv X pins σ H s->RelV x v->RelV y u->r x y H Q->
  subscripted slice false v u=operate [v,u] (ML v u)->Hx (IK X.prog X.w) X.A (subscriptTail value slice v u) (EP X pins σ Q) X.xe s
def MtR(X:Cx)(id:String)(r:V->List V->Hp->VK->Prop):Prop:=
 ∀(pins:List (Addr×Obj))(s:HC)(σ:St)(H:Hp)(x:V)(xs:List V)(v:HB)(us:List HB)(Q:VK),Inv X pins σ H s->RelV x v->Vals xs us->r x xs H Q->
  Hx (IK X.prog X.w) X.A (call (.builtin id) (v::us)) (EP X pins σ Q) X.xe s
section
variable{X : Cx}{a b : Expr}{ta tb : TE}{pos : JO}
theorem Ei{r:R2}(hr:IxR X r)(ha:PE X a ta)(hb:PE X b tb)(hs:uU b):PE X (.Subscript a b pos) (tOp r ta tb):=by
 intro pins s σ H Q I h;exact Subscript_ (Ff ha hb I h fun v u s2 x y H2 I2 rx ry q=>hr a b pins s2 σ H2 x y v u Q I2 rx ry q (hs _ _))
def GE(K:HA):R2:=fun x y H Q=>∃p xs i v,x=.ref p/\y=.int i/\SqL K H p xs/\atI xs i=some v/\Q v H
def GC(K:HA):R2:=fun x y H Q=>∃p xs i v,x=.ref p/\y=.int i/\SqT K H p xs/\atI xs i=some v/\Q v H
def GD:R2:=fun x y H Q=>∃z i c,x=.str z/\y=.int i/\z.length<=sizeLine/\atI z.cps.toList i=some c/\Q (.str ⟨#[c]⟩) H
theorem zo:IxR X (GE X.K):=by
 intro value slice pins s σ H x y v u Q I rx ry h hs;obtain⟨p,xs,i,z,rfl,rfl,hq,he,q⟩:=h;cases rx;obtain⟨t,rfl⟩:=ry;obtain⟨its,r,pl,hz⟩:=I.list hq;obtain⟨j,h1,h2,h3,h4,h5⟩:=oQ he;obtain⟨w,ew,rw'⟩:=r.get h2;have hl:=r.length;have hn:=nu;have fin:EP X pins σ Q w s:=⟨z,H,I,rw',q⟩
 by_cases h0:0<=i
 ·have hj:i.toNat=j:=by
   rw[seqIndex_of h0 h5] at h1;exact Ib h1
  exact item_listR pl.isList h0 (by omega) (by rw[hj];simpa using ew) fin hs
 ·have hj:(i+(its.toArray.size:Int)).toNat=j:=by
   rw[seqIndex_neg (by omega) h4] at h1;rw[Hz,← hl];exact Ib h1
  exact O3 (x:=w) pl.isList.typeIs slot_list_getitem.lookup
   (wpAny_getItem_list_neg (Q:=fun r s'=>r=w/\EP X pins σ Q r s') pl.isList (by omega) (by rw[Hz] <;> omega) (by omega) (by rw[hj];simpa using ew) ⟨rfl,fin⟩) hs
theorem Ca:IxR X (GC X.K):=by
 intro value slice pins s σ H x y v u Q I rx ry h hs;obtain⟨p,xs,i,z,rfl,rfl,hq,he,q⟩:=h;cases rx;obtain⟨t,rfl⟩:=ry;obtain⟨its,r,pl,hz⟩:=I.tuple hq;obtain⟨j,h1,h2,h3,h4,h5⟩:=oQ he;obtain⟨w,ew,rw'⟩:=r.get h2;have hl:=r.length;have hn:=nu;have fin:EP X pins σ Q w s:=⟨z,H,I,rw',q⟩
 exact O3 (x:=w) pl.typeIs slot_tuple_getitem.lookup
  (getItem_tuple (j:=j) (Q:=fun r s'=>r=w/\EP X pins σ Q r s') pl (by omega) (by omega) (by rw[Hz,← hl];exact h1) (by simpa using ew) ⟨rfl,fin⟩) hs
theorem Cb:IxR X GD:=by
 intro value slice pins s σ H x y v u Q I rx ry h hs;obtain⟨z,i,c,rfl,rfl,hz,he,q⟩:=h;obtain⟨t,rfl⟩:=rx;obtain⟨t',rfl⟩:=ry;obtain⟨j,h1,h2,h3,h4,h5⟩:=oQ he;have hl:z.cps.toList.length=z.length:=by simp[Str.length]
 rw[hl] at h1 h4 h5;have hn:=nu
 exact tail_any (typeIs_str s z t) slot_str_getitem.lookup (getItem_str (c:=c) (by
  have e1:decide (i < -(2 ^ 63:Int))=false:=decide_eq_false (by omega);have e2:decide (i ≥ 2 ^ 63)=false:=decide_eq_false (by omega);rw[e1,e2,Bool.or_false]) (by rw[h1];simpa using h2) ⟨.str ⟨#[c]⟩,H,I.tok _,⟨_,rfl⟩,q⟩) hs
theorem mK(lo hi:Option Int)(n:Nat):(Kk lo hi none n).1=((HT.sIx n 0 lo:Nat):Int)/\(Kk lo hi none n).2.1=((HT.sIx n n hi:Nat):Int)/\(Kk lo hi none n).2.2=1:=by
 refine⟨?_,?_,rfl⟩
 ·cases lo with
  | none=>simp[Kk,HT.sIx]
  | some i=>
   simp only[Kk,HT.sIx,Nq,show (1:Int) > 0 by decide,if_true]
   by_cases h:i<0
   ·simp only[h,if_true] <;> omega
   ·simp only[h,if_false] <;> omega
 ·cases hi with
  | none=>simp[Kk,HT.sIx]
  | some i=>
   simp only[Kk,HT.sIx,Nq,show (1:Int) > 0 by decide,if_true]
   by_cases h:i<0
   ·simp only[h,if_true] <;> omega
   ·simp only[h,if_false] <;> omega
theorem lE(its:List HB)(lo hi:Option Int):slicePick its.toArray lo hi none=((its.drop (HT.sIx its.length 0 lo)).take (HT.sIx its.length its.length hi-HT.sIx its.length 0 lo)).toArray:=by
 obtain⟨h1,h2,h3⟩:=mK lo hi its.toArray.size;unfold slicePick;rw[h1,h2,h3];simp only[sliceRange_one,pick_run,Hz] <;> rfl
def GA(K:HA):V->Option Int->Option Int->Hp->VK->Prop:=fun x lo hi H Q=>∃a xs,x=.ref a/\SqL K H a xs/\∀p,H p=none->Q (.ref p) (upd H p (.lst (wU xs lo hi)))
theorem yz:SlR X (GA X.K):=by
 intro pins s σ H x v vl vu lo hi sl Q I rx hs pl pu h;obtain⟨a,xs,rfl,hx,q⟩:=h;cases rx;obtain⟨its,r,ht,hz⟩:=I.list hx;have hlen:=r.length;refine⟨"list",_,slot_list_getitem.lookup,ht.isList.typeIs,?_⟩;refine wpAny_getItem_list_slice ht.isList hs pl pu .none (by simp) ?_ (by rw[Hz] <;> omega)
 rw[lE,← hlen];refine⟨.ref s.heap.objs.size,_,I.laid (t':=s.toks) (o:=.lst (wU xs lo hi)) (fun b ob q=>HH _ q) (Hu _) ?_,rfl,q _ (I.hok.fresh (Hu _))⟩;exact⟨Ig (k7 xs lo hi) hz,_,0,(r.drop (HT.sIx xs.length 0 lo)).take (HT.sIx xs.length xs.length hi-HT.sIx xs.length 0 lo),IC _ rfl⟩
def kz:V->Bool
 | .non=>true
 | .bl _=>true
 | .int _=>true
 | .str _=>true
 | _=>false
def eqV:V->V->Bool
 | .non,.non=>true
 | .bl a,.bl b=>a == b
 | .bl a,.int b=>(if a then 1 else 0) == b
 | .int a,.bl b=>a == (if b then 1 else 0)
 | .int a,.int b=>a == b
 | .str a,.str b=>a == b
 | _,_=>false
theorem Cy{A:IL}{s:HC}{y x:V}{u v:HB}(ry:RelV y u)(rx:RelV x v)(fy:kz y=true)(fx:kz x=true):K5 A s u v (eqV y x):=by
 cases y with
 | non=>
  cases ry;cases x with
  | non=>cases rx;exact Li _
  | bl b=>cases rx;exact SeqAt.EqAt.none_bool b
  | int b=>obtain⟨t,rfl⟩:=rx;exact SeqAt.EqAt.none_int b t
  | str b=>obtain⟨t,rfl⟩:=rx;exact SeqAt.EqAt.none_str b t
  | _=>exact absurd (show false=true from fx) HP
 | bl a=>
  cases ry;cases x with
  | non=>cases rx;exact SeqAt.EqAt.bool_none a
  | bl b=>cases rx;exact SeqAt.EqAt.bool_bool a b
  | int b=>obtain⟨t,rfl⟩:=rx;exact SeqAt.EqAt.bool_int a b t
  | str b=>obtain⟨t,rfl⟩:=rx;exact SeqAt.EqAt.bool_str a b t
  | _=>exact absurd (show false=true from fx) HP
 | int a=>
  obtain⟨t',rfl⟩:=ry;cases x with
  | non=>cases rx;exact SeqAt.EqAt.int_none a t'
  | bl b=>cases rx;exact SeqAt.EqAt.int_bool a t' b
  | int b=>obtain⟨t,rfl⟩:=rx;exact SeqAt.EqAt.int_int a t' b t
  | str b=>obtain⟨t,rfl⟩:=rx;exact Mk a t' b t
  | _=>exact absurd (show false=true from fx) HP
 | str a=>
  obtain⟨t',rfl⟩:=ry;cases x with
  | non=>cases rx;exact SeqAt.EqAt.str_none a t'
  | bl b=>cases rx;exact SeqAt.EqAt.str_bool a t' b
  | int b=>obtain⟨t,rfl⟩:=rx;exact Mi a t' b t
  | str b=>obtain⟨t,rfl⟩:=rx;exact SeqAt.EqAt.str_str a t' b t
  | _=>exact absurd (show false=true from fx) HP
 | _=>exact absurd (show false=true from fy) HP
def eqU(x:V)(u:HB):Bool:=match u with
 | .none=>eqV .non x
 | .bool b=>eqV (.bl b) x
 | .int i _=>eqV (.int i) x
 | .str z _=>eqV (.str z) x
 | _=>false
theorem xZ{x y:V}{u:HB}(r:RelV y u)(f:kz y=true):eqU x u=eqV y x:=by
 cases y with
 | non=>cases r;rfl
 | bl b=>cases r;rfl
 | int i=>obtain⟨t,rfl⟩:=r;rfl
 | str z=>obtain⟨t,rfl⟩:=r;rfl
 | _=>exact absurd (show false=true from f) HP
theorem kn{x:V}:∀{xs:List V}{us:List HB},Vals xs us->xs.all kz=true->us.any (eqU x)=xs.any fun y=>eqV y x
 | _,_,.nil,_=>rfl
 | y::xs,u::us,.cons r t,f=>by
  rw[JR,Ii] at f;rw[J2,J2,xZ r f.1,kn t f.2]
theorem gD{A:IL}{s:HC}{x:V}{v:HB}(rx:RelV x v)(fx:kz x=true):∀{xs:List V}{us:List HB},Vals xs us->xs.all kz=true->∀u∈us,K5 A s u v (eqU x u)
 | _,_,.nil,_=>fun u hu=>by cases hu
 | y::xs,u::us,.cons r t,f=>fun u' hu=>by
  rw[JR,Ii] at f;rcases Hr.mp hu with rfl | hu
  ·rw[xZ r f.1];exact Cy r rx f.1 fx
  ·exact gD rx fx t f.2 u' hu
def inV(x:V)(xs:List V):Bool:=xs.any fun y=>eqV y x
def rIn(K:HA)(neg:Bool):R2:=fun x y H Q=>∃p xs,y=.ref p/\(SqL K H p xs\/SqT K H p xs)/\kz x=true/\xs.all kz=true/\Q (.bl (if neg then !inV x xs else inV x xs)) H
theorem mY:OpR X (Ia .In) (rIn X.K false):=by
 intro pins s σ H x y v u Q I rx ry h;obtain⟨p,xs,rfl,hq,fx,fs,q⟩:=h;cases ry;rcases hq with hq | hq
 ·obtain⟨its,r,pl,hz⟩:=I.list hq
  refine SeqAt.in_listAt (eqU x) pl.isList (fun w hw=>gD rx fx r fs w (by simpa using hw)) ⟨.bl _,H,I,rfl,?_⟩;rw[show its.toArray.any (eqU x)=its.any (eqU x) by simp,kn r fs];exact q
 ·obtain⟨its,r,pl,hz⟩:=I.tuple hq
  refine SeqAt.in_tupleAt (eqU x) pl (fun w hw=>gD rx fx r fs w (by simpa using hw)) ⟨.bl _,H,I,rfl,?_⟩;rw[show its.toArray.any (eqU x)=its.any (eqU x) by simp,kn r fs];exact q
theorem iC:OpR X (Ia .NotIn) (rIn X.K true):=by
 intro pins s σ H x y v u Q I rx ry h;obtain⟨p,xs,rfl,hq,fx,fs,q⟩:=h;cases ry;rcases hq with hq | hq
 ·obtain⟨its,r,pl,hz⟩:=I.list hq
  refine SeqAt.notIn_listAt (eqU x) pl.isList (fun w hw=>gD rx fx r fs w (by simpa using hw)) ⟨.bl _,H,I,rfl,?_⟩;rw[show its.toArray.any (eqU x)=its.any (eqU x) by simp,kn r fs];exact q
 ·obtain⟨its,r,pl,hz⟩:=I.tuple hq
  refine SeqAt.notIn_tupleAt (eqU x) pl (fun w hw=>gD rx fx r fs w (by simpa using hw)) ⟨.bl _,H,I,rfl,?_⟩;rw[show its.toArray.any (eqU x)=its.any (eqU x) by simp,kn r fs];exact q
theorem mX:OpR X (Ia .NotIn) (fun x y H Q=>∃i j,x=.str i/\y=.str j/\Q (.bl (!(!(J6 j i 0 j.length 1).isEmpty))) H):=by
 intro pins s σ H x y v u Q I rx ry h;obtain⟨i,j,rfl,rfl,q⟩:=h;obtain⟨t,rfl⟩:=rx;obtain⟨t',rfl⟩:=ry;exact notIn_str ⟨.bl _,H,I,rfl,q⟩
theorem iI:gX X (.type "list") (fun xs H Q=>∃p ys,xs=[.ref p]/\(SqL X.K H p ys\/SqT X.K H p ys)/\∀l,H l=none->Q (.ref l) (upd H l (.lst ys))):=by
 intro pins s σ H xs us Q I r h;obtain⟨p,ys,rfl,hq,q⟩:=h;obtain⟨u,rfl,rx⟩:=vals1 r;cases rx
 have fin:∀(its:List HB),Vals ys its->ys.length<=sizeLine->∀(h':Heap)(c':Nat),(∀b o',s.heap.get? b=some o'->h'.get? b=some o')->
   h'.get? s.heap.objs.size=some { cls:=.type "list",dict:=none,data:=.seq its.toArray c',slots:=#[] }->EP X pins σ Q (.ref s.heap.objs.size) { s with heap:=h' }:=fun its r' hz h' c' kp e=>
  ⟨.ref s.heap.objs.size,_,I.laid (t':=s.toks) kp (Hu _) (show cX X.prog X.w _ h' _ (.lst ys) from ⟨hz,its,c',r',e⟩),rfl,q _ (I.hok.fresh (Hu _))⟩
 rcases hq with hq | hq
 ·obtain⟨its,r',pl,hz⟩:=I.list hq
  have hlen:=r'.length;obtain⟨o,ho,hc,n,hd⟩:=pl.isList;exact call_list_seq p (.inl rfl) ho hc hd (fun h' c' kp e=>fin its r' hz h' c' kp e) (by simp only[Hz] <;> omega)
 ·obtain⟨its,r',pl,hz⟩:=I.tuple hq
  have hlen:=r'.length;obtain⟨o,ho,hc,n,hd⟩:=pl;exact call_list_seq p (.inr rfl) ho hc hd (fun h' c' kp e=>fin its r' hz h' c' kp e) (by simp only[Hz] <;> omega)
theorem gU:gX X (.type "tuple") (fun xs H Q=>∃p ys,xs=[.ref p]/\((SqL X.K H p ys/\∀l,H l=none->Q (.ref l) (upd H l (.tup ys)))\/(SqT X.K H p ys/\Q (.ref p) H))):=by
 intro pins s σ H xs us Q I r h;obtain⟨p,ys,rfl,h⟩:=h;obtain⟨u,rfl,rx⟩:=vals1 r;cases rx;rcases h with⟨hq,q⟩|⟨hq,q⟩
 ·obtain⟨its,r',pl,hz⟩:=I.list hq
  have hlen:=r'.length;refine call_tuple_list pl.isList (fun h' kp=>?_) (by simp only[Hz] <;> omega)
  have I1:Inv X pins σ H { s with heap:=h' }:=I.kept (t':=s.toks) kp
  have I2:Inv X pins σ (upd H h'.objs.size (.tup ys)) { s with heap:=h'.push { cls:=.type "tuple",data:=.seq its.toArray } }:=
   I1.laid (t':=s.toks) (fun b o e=>HH _ e) (Hu _) (show cX X.prog X.w _ _ _ (.tup ys) from ⟨hz,its,r',xc.new _ _⟩)
  exact⟨.ref h'.objs.size,_,I2,rfl,q _ (I1.hok.fresh (Hu _))⟩
 ·obtain⟨its,r',pl,hz⟩:=I.tuple hq
  exact call_tuple_same pl ⟨.ref p,H,I,rfl,q⟩
def tyV(K:HA)(T:String)(x:V)(H:Hp):Prop:=match x with
 | .str _=>T="str"
 | .int _=>T="int"
 | .ref p=>(T="list"/\∃xs,SqL K H p xs)\/(T="tuple"/\∃o,K.lookup p=some o/\o.cls=.type "tuple"/\o.dict=none) ∨
   (T="dict"/\((∃kvs,H p=some (.dK kvs))\/∃kvs,H p=some (.dT kvs)))\/(T="set"/\∃S n,H p=some (.set S n))
 | _=>False
theorem AW{pins:List (Addr×Obj)}{σ:St}{H:Hp}{s:HC}{T:String}{x:V}{v:HB}(I:Inv X pins σ H s)(r:RelV x v)(ty:tyV X.K T x H) :
  s.TypeIs v T/\∀a,v=.ref a->∃ob,s.heap.get? a=some ob/\ob.dict=none:=by
 cases x with
 | str z=>
  obtain⟨t,rfl⟩:=r;cases (show T="str" from ty);exact⟨typeIs_str s z t,fun _ e=>nomatch e⟩
 | int i=>
  obtain⟨t,rfl⟩:=r;cases (show T="int" from ty);exact⟨typeIs_int s i t,fun _ e=>nomatch e⟩
 | ref p=>
  cases r;rcases ty with⟨rfl,xs,hq⟩|⟨rfl,o,hk,hc,hd⟩|⟨rfl,hk⟩|⟨rfl,S,n,hk⟩
  ·obtain⟨its,_,pl,_⟩:=I.list hq
   refine⟨pl.isList.typeIs,fun a e=>?_⟩;cases e;obtain⟨o,n,e,c,hd,_⟩:=pl;exact⟨o,e,hd⟩
  ·refine⟨⟨o,I.kIn p o hk,hc⟩,fun a e=>?_⟩
   cases e;exact⟨o,I.kIn _ o hk,hd⟩
  ·have z:∃o,s.heap.get? p=some o/\o.ExactDict:=by
    rcases hk with⟨kvs,hk⟩|⟨kvs,hk⟩
    ·obtain⟨_,_,_,_,o,_,_,e,ex,_⟩:=I.hok p _ hk
     exact⟨o,e,ex⟩
    ·obtain⟨_,_,_,_,o,_,_,e,ex,_⟩:=I.hok p _ hk
     exact⟨o,e,ex⟩
   obtain⟨o,e,ex⟩:=z;refine⟨⟨o,e,ex.1⟩,fun a e2=>?_⟩;cases e2;exact⟨o,e,ex.2.1⟩
  ·obtain⟨o,_,_,_,e,ex,_⟩:=I.hok p _ hk
   refine⟨⟨o,e,ex.1⟩,fun a e2=>?_⟩;cases e2;exact⟨o,e,ex.2.1⟩
 | _=>exact HJ ty
def tBM(K:HA)(T:String)(r:V->List V->Hp->VK->Prop)(to:TE)(t:TA):TE:=fun σ H Q=>to σ H fun x H1=>tyV K T x H1/\t σ H1 fun xs H2=>r x xs H2 Q
variable{o e : Expr}{es : List Expr}{to : TE}{t : TA}{name : Str}{apos cpos : JO}{T id : String}{r : V → List V → Hp → VK → Prop}
theorem Bt (pa:PlainAttrs T) (slot:Slot T name id) (hty:typeOf (.builtin id)=pure (.type "method_descriptor")) (hm:MtR X id r) (ho:PE X o to) (ha:PA X (e::es) t)
  (hbase:M4 o name X.env (J8 o X.env)=J8 o X.env:=by rfl)
  (hfew:((KI cpos (Hw (e::es) X.env)).all (fun x=>!x.1) && (backToKw cpos (keywordEach [] X.env)).all (fun x=>x.1.isSome)
   && decide ((e::es).length+([]:List Keyword).length+(if ([]:List Keyword).isEmpty then 0 else 1)<30))=true:=by rfl)
  (hline:(apos.endLine == cpos.line)=true:=by rfl) (hs:Hw (e::es) X.env=(false,J8 e X.env)::Hw es X.env:=by rfl) (hplain:(KI cpos (Hw es X.env)).any (·.1)=false:=by rfl) :
  PE X (.Call (.Attribute o name apos) (e::es) [] cpos) (tBM X.K T r to t):=by
 intro pins s σ H Q I h;refine Nw hbase hfew hline rfl (thn (ho pins s σ H _ I h) fun v s1 ⟨x,H1,I1,r1,ty,q1⟩=>?_);obtain⟨h1,h2⟩:=AW I1 r1 ty;refine⟨T,id,pa,slot,hty,h1,h2,?_⟩;have hA:=ha cpos pins s1 σ H1 _ I1 q1;rw[hs] at hA ⊢;refine Mr (by show (false || (KI cpos (Hw es X.env)).any (·.1))=false;rw[hplain] <;> rfl) (NB ?_)
 exact thn hA fun us s2 ⟨vs,H2,I2,r2,q2⟩=>hm pins s2 σ H2 x vs v us Q I2 r1 r2 q2
end
end L2
namespace L2
open PySem PySem.Spec PyProof.Rows
def MtM(X:Cx)(id:String)(r:V->List V->Hp->VK->Prop):Prop:=
 ∀(pins:List (Addr×Obj))(s:HC)(σ:St)(H:Hp)(x:V)(xs:List V)(v:HB)(us:List HB)(Q:VK),Inv X pins σ H s->RelV x v->Vals xs us->r x xs H Q->
  Hx (IK X.prog X.w) X.A (call (.builtin id) (v::us)) (EP X pins σ Q) X.xe s
theorem Vals.one:∀{x:V}{us:List HB},Vals [x] us->∃u,us=[u]/\RelV x u
 | _,_,.cons r .nil=>⟨_,rfl,r⟩
section
variable{X : Cx}{pins : List (Addr×Obj)}{σ : St}{H : Hp}{s : HC}{l b : Addr}{xs ys zs : List V}
theorem Inv.lset{its its':List HB}{n:Nat}{f:Array HB->Array HB}{t':Nat}(I:Inv X pins σ H s)(hH:H l=some (.lst xs))
  (e:s.heap.get? l=some { cls:=.type "list",data:=.seq its.toArray n }) (hf:f its.toArray=its'.toArray) (hv:Vals ys its') (hz:ys.length<=sizeLine) :
  Inv X pins σ (upd H l (.lst ys)) { s with heap:=s.heap.update l (JC f),toks:=t' }:=by
 have q:=PySem.IsL.update e f;rw[hf] at q;refine I.write (x:=l) (e:=l) (by rw[hH];exact trivial) (.inl rfl) (fun b' u hb hu=>(KF s.heap (JC f) (Jg hb)).trans hu) ⟨_,q⟩ ?_;exact⟨hz,its',_,hv,q⟩
theorem Inv.lnew{its:List HB}{t':Nat}(I:Inv X pins σ H s)(hv:Vals ys its)(hz:ys.length<=sizeLine) :
  Inv X pins σ (upd H s.heap.objs.size (.lst ys)) { s with heap:=s.heap.push { cls:=.type "list",data:=.seq its.toArray },toks:=t' }:=
 I.laid (fun _ _ q=>HH _ q) (Hu _) ⟨hz,its,0,hv,IC _ rfl⟩
theorem Inv.fresh(I:Inv X pins σ H s):H s.heap.objs.size=none:=I.hok.fresh (Hu _)
theorem Inv.lstM (I:Inv X pins σ H s) (hH:H l=some (.lst xs)):xs.length<=sizeLine/\∃(its:List HB) (n:Nat),Vals xs its/\xs.length=its.length/\s.heap.get? l=some { cls:=.type "list",data:=.seq its.toArray n }:=by
 obtain⟨z,its,n,r,e⟩:=I.hok l _ hH;exact⟨z,its,n,r,r.length,e⟩
end
section
variable{X : Cx}
def yF:V->List V->Hp->VK->Prop:=fun x vs H Q=>∃l xs y,x=.ref l/\vs=[y]/\H l=some (.lst xs)/\xs.length<sizeLine/\Q .non (upd H l (.lst (xs++[y])))
theorem n9:MtM X "list.append" yF:=by
 intro pins s σ H x vs v us Q I rx rv h;obtain⟨l,xs,y,rfl,rfl,hH,hz,q⟩:=h;cases rx;obtain⟨u,rfl,ru⟩:=rv.one;obtain⟨z,its,n,r,hl,e⟩:=I.lstM hH;refine call_meets NA ⟨_,e,rfl⟩ F.entry_list_append (F.args_list_append_2 _ _) (PySem.list_append l its.toArray n u (by rw[Hz];omega)) ⟨e,?_⟩;refine⟨.non,_,I.lset (its':=its++[u]) hH e (by simp) (r.append (.cons ru .nil)) ?_,rfl,q⟩;rw[Hv,J5];omega
end
end L2
namespace L2
open PySem PySem.Spec PyProof.Rows
section
variable{κ : Type}[DecidableEq κ]
def mE(kvs:List (κ×V))(k:κ):Option V:=(kvs.find? fun kv=>decide (kv.1=k)).map (·.2)
def putK(kvs:List (κ×V))(k:κ)(v:V):List (κ×V):=
 if (kvs.any fun kv=>decide (kv.1=k))=true then kvs.map (fun kv=>if kv.1=k then (kv.1,v) else kv) else kvs++[(k,v)]
theorem gx{p:κ×V}{r:List (κ×V)}{k:κ}(e:p.1=k):mE (p::r) k=some p.2:=by simp[mE,JB,e]
theorem eJ{p:κ×V}{r:List (κ×V)}{k:κ}(e:¬ p.1=k):mE (p::r) k=mE r k:=by simp[mE,JB,e]
theorem iO(k:κ):∀kvs:List (κ×V),(kvs.any fun kv=>decide (kv.1=k))=(mE kvs k).isSome
 | []=>rfl
 | p::r=>by
  rw[J2]
  by_cases e:p.1=k
  ·simp only[gx e,decide_eq_true e,Bool.true_or,Option.isSome_some]
  ·rw[eJ e,decide_eq_false e,Bool.false_or];exact iO k r
theorem eU(kvs:List (κ×V))(k:κ)(v:V):(putK kvs k v).length<=kvs.length+1:=by
 unfold putK
 split
 ·rw[HF];omega
 ·rw[Hv,IG,Jh];omega
theorem r8.isSome_eq{o:Option V}{u:Option HB}(r:r8 o u):o.isSome=u.isSome:=by
 cases o with
 | none=>cases u with
  | none=>rfl
  | some _=>exact(show False from r).elim
 | some _=>cases u with
  | none=>exact(show False from r).elim
  | some _=>rfl
theorem KV.val{kvs:List (κ×V)}{vs:List (κ×HB)}(r:KV kvs vs)(k:κ):r8 (mE kvs k) (JD vs k):=by
 unfold KV at r
 induction r with
 | nil=>exact Kn
 | @cons p q ps qs h t ih=>
  obtain⟨h1,h2⟩:=h
  by_cases e:p.1=k
  ·have e':q.1=k:=h1.symm.trans e
   have b:JD (q::qs) k=some q.2:=by simp[JD,JB,e']
   rw[gx e,b];exact h2
  ·have e':¬ q.1=k:=fun z=>e (h1.trans z)
   have b:JD (q::qs) k=JD qs k:=by simp[JD,JB,e']
   rw[eJ e,b];exact ih
theorem KV.any{kvs:List (κ×V)}{vs:List (κ×HB)}(r:KV kvs vs)(k:κ):(kvs.any fun kv=>decide (kv.1=k))=vs.any fun kv=>decide (kv.1=k):=by
 unfold KV at r
 induction r with
 | nil=>rfl
 | cons h t ih=>rw[J2,J2,ih,h.1]
theorem KV.repl{kvs:List (κ×V)}{vs:List (κ×HB)}(r:KV kvs vs)(k:κ){y:V}{u:HB}(ry:RelV y u) :
  KV (kvs.map fun kv=>if kv.1=k then (kv.1,y) else kv) (vs.map fun kv=>if kv.1=k then (kv.1,u) else kv):=by
 unfold KV at r ⊢
 induction r with
 | nil=>exact .nil
 | @cons p q ps qs h t ih=>
  rw[HI,HI];refine .cons ?_ ih;obtain⟨h1,h2⟩:=h
  by_cases e:p.1=k
  ·rw[if_pos e,if_pos (h1.symm.trans e)];exact⟨h1,ry⟩
  ·rw[if_neg e,if_neg (fun z=>e (h1.trans z))];exact⟨h1,h2⟩
theorem KV.put{kvs:List (κ×V)}{vs:List (κ×HB)}(r:KV kvs vs)(k:κ){y:V}{u:HB}(ry:RelV y u):KV (putK kvs k y) (N4 vs k u):=by
 unfold putK N4;rw[r.any k]
 by_cases e:(vs.any fun kv=>decide (kv.1=k))=true
 ·rw[if_pos e,if_pos e];exact r.repl k ry
 ·rw[if_neg e,if_neg e];exact Paired.snoc r ⟨rfl,ry⟩
theorem KV.length{kvs:List (κ×V)}{vs:List (κ×HB)}(r:KV kvs vs):kvs.length=vs.length:=Ij r
end
theorem lZ{P:HX}{w:IA}{k:Key}{u:HB}(r:RelV (kV k) u):(au P w).is k u=true:=by
 cases k with
 | inl i=>obtain⟨t,e⟩:=(show ∃t,u=O2 i t from r);subst e;exact oy P w i t
 | inr x=>obtain⟨t,e⟩:=(show ∃t,u=O1 x t from r);subst e;exact eT P w x t
theorem nB{P:HX}{w:IA}:∀{ks:List Key}{us:List HB},Vals (ks.map kV) us->ItemsAre (au P w) ks us
 | [],_,r=>by rw[Jv] at r;cases r;exact .nil
 | k::ks,_,r=>by
  rw[HI] at r;cases r with
  | cons h t=>exact .cons (lZ h) (nB t)
abbrev KT(H:Hp):List (cI×V)->List (cI×Addr×HB)->Prop:=N9 fun p q=>p.1=q.1/\eG H q.2.1 p.1/\RelV p.2 q.2.2
theorem KT.val{H:Hp}{kvs:List (cI×V)}{xs:List (cI×Addr×HB)}(r:KT H kvs xs)(k:cI):r8 (mE kvs k) ((Nn xs k).map (·.2)):=by
 induction r with
 | nil=>exact Kn
 | @cons p q ps qs h t ih=>
  obtain⟨h1,_,h2⟩:=h
  by_cases e:p.1=k
  ·have e':q.1=k:=h1.symm.trans e
   have b:Nn (q::qs) k=some q.2:=by simp[Nn,JB,e']
   rw[gx e,b];exact h2
  ·have e':¬ q.1=k:=fun z=>e (h1.trans z)
   have b:Nn (q::qs) k=Nn qs k:=by simp[Nn,JB,e']
   rw[eJ e,b];exact ih
theorem KT.repl{H:Hp}{kvs:List (cI×V)}{xs:List (cI×Addr×HB)}(r:KT H kvs xs)(k:cI){y:V}{u:HB}(ry:RelV y u) :
  KT H (kvs.map fun kv=>if kv.1=k then (kv.1,y) else kv) (xs.map (putAt k u)):=by
 induction r with
 | nil=>exact .nil
 | @cons p q ps qs h t ih=>
  rw[HI,HI];refine .cons ?_ ih;obtain⟨h1,h2,h3⟩:=h;unfold putAt
  by_cases e:p.1=k
  ·rw[if_pos e,if_pos (h1.symm.trans e)];exact⟨h1,h2,ry⟩
  ·rw[if_neg e,if_neg (fun z=>e (h1.trans z))];exact⟨h1,h2,h3⟩
theorem KT.put{H:Hp}{kvs:List (cI×V)}{xs:List (cI×Addr×HB)}(r:KT H kvs xs)(k:cI){b:Addr}{y:V}{u:HB}(hb:eG H b k)(ry:RelV y u) :
  KT H (putK kvs k y) (storedH xs k b u):=by
 have e:(kvs.any fun kv=>decide (kv.1=k))=(Nn xs k).isSome:=by
  rw[iO,(r.val k).isSome_eq,Lj]
 unfold putK storedH;rw[e]
 by_cases q:(Nn xs k).isSome=true
 ·rw[if_pos q,if_pos q];exact r.repl k ry
 ·rw[if_neg q,if_neg q];exact Paired.snoc r ⟨rfl,hb,ry⟩
theorem KT.keeps{H H':Hp}{kvs:List (cI×V)}{xs:List (cI×Addr×HB)}(r:KT H kvs xs)(ht:∀b ys,H b=some (.tup ys)->H' b=some (.tup ys)):KT H' kvs xs:=
 Paired.mapP r fun _ _ z=>⟨z.1,z.2.1.keeps ht,z.2.2⟩
section
variable{P : HX}{w : IA}{H : Hp}{h : Heap}{a : Addr}
theorem Be{u:HO}(ok:HOk P w H h)(e:Rd H a u):cX P w H h a u:=e.ok ok
theorem zM{kvs:List (Key×V)}(ok:HOk P w H h)(e:Rd H a (.dK kvs)):kvs.length<=sizeLine/\(a == Im)=false/\∃vs,KV kvs vs/\h.DictOf (au P w) a vs:=
 show cX P w H h a (.dK kvs) from Be ok e
theorem CM{kvs:List (Key×V)}(ok:HOk P w H h)(e:H a=some (.dK kvs)):kvs.length<=sizeLine/\(a == Im)=false/\∃vs,KV kvs vs/\h.DictOf (au P w) a vs:=zM ok (.inl e)
theorem zD{ks:List Key}(ok:HOk P w H h)(e:H a=some (.tup (ks.map kV))):MF (au P w) h ks a:=by
 obtain⟨_,its,r,o,h1,h2,⟨n,h3⟩,_⟩:=(show cX P w H h a (.tup (ks.map kV)) from ok a _ e);exact⟨o,its.toArray,n,h1,h2,h3,by simpa using nB r⟩
theorem jz(ok:HOk P w H h):∀{ks:cI}{vs:List V}{us:List HB},NV H ks vs->Vals vs us->NItems (au P w) h ks us
 | [],_,_,e,r=>by cases e;cases r;exact .nil
 | .inl k::ks,_,_,⟨t,e,m⟩,r=>by
  subst e;cases r with
  | cons h1 h2=>exact .sc (lZ h1) (jz ok m h2)
 | .inr l::ks,_,_,⟨c,t,e,hc,m⟩,r=>by
  subst e;cases r with
  | cons h1 h2=>cases h1;exact .tp (zD ok hc) (jz ok m h2)
theorem key_of{ks:cI}(ok:HOk P w H h)(e:eG H a ks):(fW P w).is h ks a:=by
 obtain⟨vs,e,m⟩:=e;obtain⟨_,its,r,o,h1,h2,⟨n,h3⟩,_⟩:=(show cX P w H h a (.tup vs) from ok a _ e);exact⟨o,its.toArray,n,h1,h2,h3,by simpa using jz ok m r⟩
theorem mZ{A:IL}(hu:A.units+16<cLine):A.in1.units+8<cLine:=show A.units+1+8<cLine by omega
theorem CK{kvs:List (cI×V)}(ok:HOk P w H h)(e:Rd H a (.dT kvs)):kvs.length<=sizeLine/\(a == Im)=false/\
  ∃xs,KT H kvs xs/\h.DictOfH (fW P w) a xs:=by
 obtain⟨z,y,xs,r,o,es,ep,h1,h2,h3,h4,h5⟩:=(show cX P w H h a (.dT kvs) from Be ok e);refine⟨z,y,xs,r,o,es,ep,h1,h2,h3,h4,fun x hx=>?_,h5⟩
 have all:∀{l:List (cI×V)}{m:List (cI×Addr×HB)},KT H l m->∀x∈m,(fW P w).is h x.1 x.2.1:=by
  intro l m q
  induction q with
  | nil=>intro x hx;exact nomatch hx
  | @cons p q ps qs hq t ih=>
   intro x hx;rcases Hr.mp hx with e | hx
   ·subst e
    exact key_of ok (by rw[← hq.1];exact hq.2.1)
   ·exact ih x hx
 exact all r x hx
theorem CL{kvs:List (cI×V)}(ok:HOk P w H h)(e:H a=some (.dT kvs)):kvs.length<=sizeLine/\(a == Im)=false/\
  ∃xs,KT H kvs xs/\h.DictOfH (fW P w) a xs:=CK ok (.inl e)
end
def G6(H:Hp)(a:Addr)(y:V)(r:Option V):Prop:=
 (∃kvs k,Rd H a (.dK kvs)/\y=kV k/\r=mE kvs k)\/∃kvs k b,Rd H a (.dT kvs)/\y=.ref b/\eG H b k/\r=mE kvs k
def yn(H:Hp)(a:Addr)(y v:V)(H':Hp):Prop:=
 (∃kvs k,H a=some (.dK kvs)/\y=kV k/\kvs.length<sizeLine/\H'=upd H a (.dK (putK kvs k v))) ∨
 ∃kvs k b,H a=some (.dT kvs)/\y=.ref b/\eG H b k/\kvs.length<sizeLine/\H'=upd H a (.dT (putK kvs k v))
theorem yn.k{H:Hp}{a:Addr}{kvs:List (Key×V)}{k:Key}{v:V}(e:H a=some (.dK kvs))(hl:kvs.length<sizeLine):yn H a (kV k) v (upd H a (.dK (putK kvs k v))):=.inl ⟨kvs,k,e,rfl,hl,rfl⟩
theorem yn.t{H:Hp}{a b:Addr}{kvs:List (cI×V)}{k:cI}{v:V}(e:H a=some (.dT kvs))(eb:eG H b k)(hl:kvs.length<sizeLine) :
  yn H a (.ref b) v (upd H a (.dT (putK kvs k v))):=.inr ⟨kvs,k,b,e,rfl,eb,hl,rfl⟩
section
variable{X : Cx}{pins : List (Addr×Obj)}{σ : St}{H : Hp}{s : HC}{a : Addr}{y v : V}{u r : HB}{o : Option V}{A : IL}{E : HB → HC → Prop}
theorem Inv.big(I:Inv X pins σ H s):Im<s.heap.objs.size:=by
 have h:mainGlobals<s.heap.objs.size:=(I.mod.glob.keeps I.bk).lt;exact Nat.lt_trans (by decide) h
theorem zP{Q:HB->HC->Prop}(hu:A.units+16<cLine)(I:Inv X pins σ H s)(g:G6 H a y o)(ry:RelV y u)(h:∀s',Inv X pins σ H s'->Q (.bool (!o.isSome)) s') :
  Hx (IK X.prog X.w) A (Ia .NotIn u (.ref a)) Q E s:=by
 rcases g with⟨kvs,k,e,ey,l⟩|⟨kvs,k,b,e,ey,eb,l⟩
 ·subst ey
  obtain⟨z,hd,vs,rel,dd⟩:=zM I.hok e;refine wpAny_notIn_of (lZ ry) hd dd.mapOf ?_;rw[← (rel.val k).isSome_eq,← l];exact h _ (I.tok _)
 ·subst ey
  cases (show u=JA b from ry);obtain⟨z,hd,xs,rel,dd⟩:=CK I.hok e;refine wpAny_notIn_heap (mZ hu) (key_of I.hok eb) hd dd ?_;have q:=(rel.val k).isSome_eq;rw[Lj] at q;rw[← q,← l];exact h _ (I.tok _)
theorem mq{h':Heap}{t':Nat}{ob:HO}(I:Inv X pins σ H s)(mu:Mut (H a))(hs:KG a s.heap h')(he:∃q,h'.get? a=some q)(new:cX X.prog X.w (upd H a ob) h' a ob) :
  Inv X pins σ (upd H a ob) { s with heap:=h',toks:=t' }:=
 I.write (x:=a) (e:=a) mu (.inl rfl) (fun b q hb z=>(hs.2 b hb).trans z) he new
theorem yc{P:HX}{w:IA}{H':Hp}{h':Heap}{kvs:List (Key×V)}{vs:List (Key×HB)}(z:kvs.length<=sizeLine)(hd:(a == Im)=false)(rel:KV kvs vs)(dd:h'.DictOf (au P w) a vs) :
  cX P w H' h' a (.dK kvs):=⟨z,hd,vs,rel,dd⟩
theorem ux{H':Hp}{Q:Unit->HC->Prop}(hu:A.units+16<cLine)(I:Inv X pins σ H s)(g:yn H a y v H')(ry:RelV y u)(rv:RelV v r)(h:∀s',Inv X pins σ H' s'->Q () s') :
  Hx (IK X.prog X.w) A (setItem (.ref a) u r) Q E s:=by
 rcases g with⟨kvs,k,e,ey,l,eH⟩|⟨kvs,k,b,e,ey,eb,l,eH⟩
 ·subst ey eH
  obtain⟨z,hd,vs,rel,dd⟩:=CM I.hok e;have hz:vs.length<=sizeLine:=by rw[← rel.length];exact z
  have hl:(putK kvs k v).length<=sizeLine:=by have:=eU kvs k v;omega
  refine wpAny_setItem_pairs (hsz:=hz) (lZ ry) dd fun h' dd' hs=>h _ ?_;have he:∃q,h'.get? a=some q:=let ⟨q,_,_,hq,_⟩:=dd';⟨q,hq⟩
  exact mq I (by rw[e];exact Kn) hs he (yc hl hd (rel.put k rv) dd')
 ·subst ey eH
  cases (show u=JA b from ry);obtain⟨z,hd,xs,rel,dd⟩:=CL I.hok e;have hz:xs.length<=sizeLine:=by rw[← Ij rel];exact z
  have hl:(putK kvs k v).length<=sizeLine:=by have:=eU kvs k v;omega
  refine wpAny_setItem_heap (hsz:=hz) (mZ hu) (key_of I.hok eb) dd fun h' dd' hs=>h _ ?_;obtain⟨q,es,ep,hq,h2,h3,h4,_,h5⟩:=dd';refine mq I (by rw[e];exact Kn) hs ⟨q,hq⟩ ⟨hl,hd,_,(rel.put k eb rv).keeps fun c ys ec=>?_,q,es,ep,hq,h2,h3,h4,h5⟩;rw[az (BJ ec e (fun z=>nomatch z))];exact ec
end
def Ea(td ty tv:TE):TS:=fun D σ H=>tv σ H fun v H1=>td σ H1 fun x H2=>ty σ H2 fun y H3=>∃a H4,x=.ref a/\yn H3 a y v H4/\D.nx σ H4
section
variable{X : Cx}{o i e value : Expr}{pos pos' tpos : JO}{td ty tv : TE}
theorem sh(hu:X.A.units+16<cLine)(ho:PE X o td)(hi:PE X i ty)(hv:PE X value tv)(hs:KL value (some (.Subscript o i pos')) pos.line X.env=pure false) :
  PS X (.Assign [.Subscript o i pos'] value pos) (Ea td ty tv):=by
 intro pins s σ H D I h;refine wpAny_Assign_Subscript (thn (hv pins s σ H _ I h) fun r s1 ⟨v,H1,I1,rv,q1⟩=>thn (ho pins s1 σ H1 _ I1 q1) fun u s2 ⟨x,H2,I2,rx,q2⟩=>thn (hi pins s2 σ H2 _ I2 q2) fun iv s3 ⟨y,H3,I3,ry,a,H4,ex,g,q3⟩=>?_) hs;subst ex;obtain rfl:u=JA a:=rx;exact ux hu I3 g ry rv fun s4 I4=>⟨σ,H4,I4,q3⟩
end
theorem pW {P:HX} {w:IA} {H:Hp} (h:Heap) (hb:Im<h.objs.size):cX P w H (h.push { cls:=.type "dict",data:=.dict #[] }) h.objs.size (.dK []):=
 ⟨JI _,beq_eq_false_iff_ne.mpr (Jg (IF hb)),[],.nil,Ms h⟩
theorem wO {P:HX} {w:IA} {H:Hp} (h:Heap) (hb:Im<h.objs.size):cX P w H (h.push { cls:=.type "dict",data:=.dict #[] }) h.objs.size (.dT []):=
 ⟨JI _,beq_eq_false_iff_ne.mpr (Jg (IF hb)),[],.nil,_,#[],0,IC _ rfl,⟨rfl,rfl,rfl⟩,rfl,rfl,List.nodup_nil⟩
def B0:TE:=fun _ H Q=>∀p,H p=none->Q (.ref p) (upd H p (.dK []))
section
variable{X : Cx}{pos : JO}
theorem vZ:PE X (.Dict [] [] pos) B0:=fun pins s σ H Q I h=>
 wpAny_Dict_empty ⟨.ref s.heap.objs.size,_,I.laid (a:=s.heap.objs.size) (o:=.dK []) (t':=s.toks) (fun _ _ q=>HH _ q) (Hu _) (pW s.heap I.big),rfl,h _ (I.hok.fresh (Hu _))⟩
end
def oU:List (TE×TE)->St->Hp->(List (V×V)->Hp->Prop)->Prop
 | [],_,H,Q=>Q [] H
 | (tk,tv)::r,σ,H,Q=>tk σ H fun x H1=>tv σ H1 fun y H2=>oU r σ H2 fun ps H3=>Q ((x,y)::ps) H3
abbrev VV:List (V×V)->List (HB×HB)->Prop:=N9 fun p q=>RelV p.1 q.1/\RelV p.2 q.2
def PPs(X:Cx)(pos:JO)(keys:List (Option Expr))(values:List Expr)(trs:List (TE×TE)):Prop:=
 ∀(pins:List (Addr×Obj))(s:HC)(σ:St)(H:Hp)(Q:List (V×V)->Hp->Prop),Inv X pins σ H s->oU trs σ H Q->
  Hx (IK X.prog X.w) X.A (evalPairs (pairTrees keys values X.env pos)) (fun vs s'=>∃ps H',Inv X pins σ H' s'/\VV ps vs/\Q ps H') X.xe s
theorem sj{X:Cx}{pos:JO}:PPs X pos [] [] []:=fun pins s σ H Q I h=>pairTrees_nil_walk ⟨[],H,I,.nil,h⟩
theorem pe{X:Cx}{pos:JO}{k v:Expr}{ks:List (Option Expr)}{vs:List Expr}{tk tv:TE}{trs:List (TE×TE)}(hk:PE X k tk)(hv:PE X v tv)(hr:PPs X pos ks vs trs) :
  PPs X pos (some k::ks) (v::vs) ((tk,tv)::trs):=fun pins s σ H Q I h=>
 pairTrees_cons_walk (thn (hk pins s σ H _ I h) fun u s1 ⟨x,H1,I1,rx,q1⟩=>thn (hv pins s1 σ H1 _ I1 q1) fun w2 s2 ⟨y,H2,I2,ry,q2⟩=>
  thn (hr pins s2 σ H2 _ I2 q2) fun ws s3 ⟨ps,H3,I3,rel,q3⟩=>⟨(x,y)::ps,H3,I3,.cons ⟨rx,ry⟩ rel,q3⟩)
def e9(kvs more:List (Key×V)):List (Key×V):=more.foldl (fun acc kv=>putK acc kv.1 kv.2) kvs
theorem KV.merge:∀{more:List (Key×V)}{rs:List (Key×HB)}{kvs:List (Key×V)}{vs:List (Key×HB)},KV more rs->KV kvs vs->KV (e9 kvs more) (merged vs rs):=by
 intro more rs kvs vs r;unfold KV at r
 induction r generalizing kvs vs with
 | nil=>intro q;exact q
 | @cons p q ps qs h t ih=>
  intro r0
  have e:KV (putK kvs p.1 p.2) (N4 vs q.1 q.2):=by
   have:=r0.put p.1 h.2;rw[← h.1];exact this
  exact ih e
theorem gF:∀(more kvs:List (Key×V)),(e9 kvs more).length<=kvs.length+more.length
 | [],kvs=>by show kvs.length<=kvs.length+0;omega
 | p::r,kvs=>by
  have h1:=gF r (putK kvs p.1 p.2);have h2:=eU kvs p.1 p.2;show (e9 (putK kvs p.1 p.2) r).length<=_;rw[IG];omega
theorem lr{P:HX}{w:IA}:∀{kvs:List (Key×V)}{ws:List (HB×HB)},VV (kvs.map fun kv=>(kV kv.1,kv.2)) ws->∃rs,Carries (au P w) ws rs/\KV kvs rs
 | [],_,r=>by rw[Jv] at r;cases r;exact⟨[],Kn,.nil⟩
 | p::kvs,_,r=>by
  rw[HI] at r;cases r with
  | @cons a b as bs h t=>
   obtain⟨rs,c,q⟩:=lr (P:=P) (w:=w) t;obtain⟨b1,b2⟩:=b;exact⟨(p.1,b2)::rs,⟨lZ h.1,rfl,c⟩,.cons ⟨rfl,h.2⟩ q⟩
def E2(trs:List (TE×TE)):TE:=fun σ H Q=>∀p,H p=none->oU trs σ (upd H p (.dK [])) fun ps H2=>H2 p=some (.dK [])/\∃kvs:List (Key×V),ps=kvs.map (fun kv=>(kV kv.1,kv.2))/\kvs.length<=15/\Q (.ref p) (upd H2 p (.dK (e9 [] kvs)))
theorem yV{X:Cx}{pos:JO}{keys:List (Option Expr)}{values:List Expr}{trs:List (TE×TE)}(h:PPs X pos keys values trs)(hall:keys.all (·.isSome)=true)(hl:keys.length=values.length)(h0:keys≠[])
  (h15:keys.length<=15):PE X (.Dict keys values pos) (E2 trs):=by
 intro pins s σ H Q I q;have hn:=I.hok.fresh (Hu s.heap.objs.size);have I1:=I.laid (a:=s.heap.objs.size) (o:=.dK []) (h':=s.heap.push { cls:=.type "dict",data:=.dict #[] }) (t':=s.toks) (fun _ _ q=>HH _ q) (Hu _) (pW s.heap I.big);refine wpAny_Dict_walk (knd:=au X.prog X.w) hall hl h0 h15 (thn (h pins _ σ _ _ I1 (q _ hn)) fun ws s2 ⟨ps,H2,I2,rel,e,kvs,ep,lk,q2⟩=>?_);subst ep;obtain⟨rs,c,rk⟩:=lr (P:=X.prog) (w:=X.w) rel;obtain⟨z,hd,vs0,r0,dd⟩:=CM I2.hok e;cases r0;refine⟨rs,c,dd,fun h' dd' hs=>⟨.ref s.heap.objs.size,_,?_,rfl,q2⟩⟩
 have hz:(e9 [] kvs).length<=sizeLine:=by
  have h1:=gF kvs [];rw[Jh] at h1;rw[Il];omega
 have he:∃q,h'.get? s.heap.objs.size=some q:=let ⟨q,_,_,hq,_⟩:=dd';⟨q,hq⟩
 exact mq I2 (by rw[e];exact Kn) hs he (yc hz hd (rk.merge .nil) dd')
end L2
namespace Att
open PySem PySem.W PySem.Calls PyProof.Rows
theorem jJ{P:Params}{h:Heap}:∀(ns:List Int)(vs:List HB),WellAll P h vs (ns.map WData.int)->O4 vs ns:=by
 intro ns
 induction ns with
 | nil=>
  intro vs w;rw[Jv] at w;cases w;exact .nil
 | cons n ns ih=>
  intro vs w;rw[HI] at w;cases w with
  | cons a b=>
   cases a;exact .cons _ _ (ih _ b)
theorem rT{l:OpenLaw}{n:Nat}(hn:l.most=some n){P:Params}{h:Heap}{args:List WData}{vals:List HB}
  (hpre:l.row.toRowW.claim.pre args=true) (hwl:WellAll P h vals args) :
  ∃a vs ns,vals=[JA a]/\args=[WData.list (ns.map WData.int)]/\h.get? a=some { cls:=.type "list",data:=.seq vs.toArray }/\O4 vs ns/\ns.length<=n:=by
 have hsh:WShape.hasAll [] args [.list .int]=true:=(pre_splitW hpre).1;have hc:l.pre.holds [] { args:=args }=true:=(pre_splitW hpre).2;obtain⟨d,r,rfl,h1,h2⟩:=hasAllW_cons hsh;obtain rfl:=hasAllW_nil h2;obtain⟨xs,rfl,h3⟩:=hasW_list h1;obtain⟨ns,rfl⟩:=items_int h3
 have hlen:ns.length<=n:=by
  unfold OpenLaw.pre at hc
  have h4:(WTm.not (.lt (.lit (.int (n:Int))) (.len (.arg 0)))).holds [] { args:=[.list (ns.map .int)] }=true:=by
   have h4:=(holds_andW hc).1;rw[hn] at h4;exact h4
  have h5:=condW_of h4 (w_not (w_lt w_lit (w_len_list (w_arg rfl))));rw[HF] at h5;refine Nat.le_of_not_lt fun q=>?_;have q':(n:Int)<((ns.length:Nat):Int):=by omega
  first
   | (rw[decide_eq_true q'] at h5;exact absurd h5 (by decide))
   | (simp at h5;omega)
 cases hwl with
 | cons w1 w2=>
  cases w2;cases w1 with
  | list ho hall=>exact⟨_,_,ns,rfl,rfl,ho,jJ ns _ hall,hlen⟩
theorem sk(l:OpenLaw)(args:List WData):l.row.toRowW.claim.post args (.bool true) args=true:=
 postW_of (r:=l.row.toRowW) (X:=(true == true))
  (show WShape.has [] (.bool true) .bool=true by first | rfl | decide | simp[WShape.has,WShape.arms,WShape.armsAll])
  (show (WTm.eq .res (.lit (.bool true))).value [] { args:=args,res:=some (.bool true),after:=args }=some (.bool (true == true)) from w_eq_bool (w_res rfl) w_lit) rfl
theorem attach_call{l:OpenLaw}{n:Nat}{q:HX}{loose:List Str}{XP:(Str->Option HB)->Heap->Prop}{YP:IA->Heap->Prop}{d:DefRec}
  (hn:l.most=some n) (hdf:d.params.defaults=[])
  (call:∀(w:IA)(s₀ s₁:HC)(mg mb:Str->Option HB)(fa:Addr)(o:Obj)(pm cd doc:HB)(a:Addr)(vs:List HB)(ns:List Int),
   Ground q loose [] XP w s₀ mg mb s₁.heap->YP w s₁.heap->
   s₁.heap.get? fa=some o->o.data=.func (docDef d.name d.params d.body d.scope pm cd doc)->s₁.heap.CodeRec cd d.name->mg d.name=some (.ref fa)->
   s₁.heap.get? a=some { cls:=.type "list",data:=.seq vs.toArray }->O4 vs ns->ns.length<=n->s₁.gens=#[]->
   LB (IK l.prog w) MM (.call (.ref fa) ⟨[.ref a],[]⟩) (fun r s'=>r=.ok (.ret (.bool true))/\OldK s₁.heap s'.heap/\s'.os=s₁.os/\LY s'.gens) s₁) :
  WalkO q loose XP YP l.row.toRowW d [] (fun f vs=>Nb f vs):=by
 intro w s₀ s₁ mg mb G Y fa o pm cd doc dV kV ho hd hcd hD hmg hg args vals as hpre hlay hrd hwl hlo;obtain rfl:dV=.none:=Dflts.none hD hdf;obtain rfl:kV=.none:=Dflts.noKw hD;obtain⟨a,vs,ns,rfl,rfl,hobj,hints,hlen⟩:=rT hn hpre hwl;refine enter_call (Ks (call w s₀ s₁ mg mb fa o pm cd doc a vs ns G Y ho (fd_plain hd) hcd hmg hobj hints hlen hg) fun r s' hq=>?_);obtain⟨rfl,h2,h3,h4⟩:=hq;exact⟨.inl ⟨.bool true,.bool true,[],rfl,fun _=>rfl,.bool true,sk l _,fun _=>⟨List.Pairwise.nil,fun _ hm=>(nomatch hm)⟩⟩,h2,h3,h4⟩
end Att
namespace L2
open PySem PySem.Spec PyProof.Rows
theorem mH:∀{vs:List HB}{ns:List Int},O4 vs ns->Vals (ns.map V.int) vs
 | _,_,.nil=>.nil
 | _,_,.cons n t h=>.cons ⟨t,rfl⟩ (mH h)
end L2
namespace L2
open PySem PySem.Spec PyProof.Rows
def dC(s:Stmt):Arguments:=match s with
 | .FunctionDef _ a _ _ _ _ _ _ _ _=>a
 | _=>{ posonlyargs:=[],args:=[],vararg:=none,kwonlyargs:=[],kw_defaults:=[],kwarg:=none,defaults:=[] }
def bz(s:Stmt):List Stmt:=match s with
 | .FunctionDef _ _ b _ _ _ _ _ _ _=>b
 | _=>[]
def ah(s:Stmt):Scope:=match s with
 | .FunctionDef _ _ _ _ _ _ sc _ _ _=>sc
 | _=>{ kind:=.function,names:=[],isGenerator:=false,isCoroutine:=false }
abbrev CX0:CXT:=fun _ _ _ _ _ _=>False
abbrev E0:XK:=fun _ _ _=>False
theorem Ek{X:Cx}:Passes CX0 X E0:=fun _ _ _ _ _ _ _ h=>h.elim
structure Fun(K:HA)(x qual:Str)(st:Stmt)(f:Addr)(fd:FuncData):Prop where
 ex:∃(oc:HB)(od:Option Addr)(kV doc pm:HB)(an:Option Addr)(cdv ct:HB)(osl:Array (Option HB)),
  fd=J0 x qual (dC st) (bz st) (ah st) .none kV doc pm an cdv ct/\K.lookup f=some ⟨oc,od,.func fd,osl⟩/\Jp K cdv qual=true
 kp:JH K (.ref f)=true
section
variable{P : HX}{w : IA}{K : HA}{mg : Str → Option HB}{base : Heap}
theorem Fun.ok{x qual:Str}{st:Stmt}{f:Addr}{fd:FuncData}{N ps:List Str}{k:Nat}{sp:Sp}(F:Fun K x qual st f fd)(S:FnScope N ps (ah st))(len:∀vs H Q E,sp vs H Q E->vs.length=ps.length)
  (hbody:∀(cdv:HB)(A:IL)(outer:List M5)(s:HC)(H:Hp)(vs:List V)(Q:VK)(E:XK),Room k (A.deeper (Kb qual (ah st) s.heap.objs.size f cdv))->sp vs H Q E->
   ∃t,PSs (yf CX0 P w K mg base N qual (ah st) f cdv A outer s H E).nox (bz st) t/\t { nx:=fun _ H'=>Q .non H',rt:=Q } (start N vs) H):FnOk P w K mg base CX0 (k+1) f fd ps sp:=by
 obtain⟨oc,od,kV,doc,pm,an,cdv,ct,osl,rfl,lk,hcd⟩:=F.ex;refine Cr lk hcd S len fun A outer s H vs Q E hr hsp=>?_;obtain⟨t,h,q⟩:=hbody cdv A outer s H vs Q E hr hsp;exact⟨t,h.nox,q⟩
theorem Fun.binds{x qual:Str}{st:Stmt}{f:Addr}{fd:FuncData}{ps:List Str}(F:Fun K x qual st f fd)
  (h:∀(kV doc pm:HB)(an:Option Addr)(cdv ct:HB)(us:List HB),us.length=ps.length->MO (J0 x qual (dC st) (bz st) (ah st) .none kV doc pm an cdv ct) ⟨us,[]⟩=pure (ps.zip us)):Binds K fd ps []:=by
 obtain⟨oc,od,kV,doc,pm,an,cdv,ct,osl,rfl,lk,hcd⟩:=F.ex;exact .all (h kV doc pm an cdv ct)
theorem tR{x qual:Str}{st:Stmt}{f:Addr}{oc:HB}{od an:Option Addr}{osl:Array (Option HB)}{kV doc pm cdv ct:HB}(l:K.lookup f=some ⟨oc,od,.func (J0 x qual (dC st) (bz st) (ah st) .none kV doc pm an cdv ct),osl⟩)
  (c:Jp K cdv qual=true) (k:JH K (.ref f)=true):Fun K x qual st f (J0 x qual (dC st) (bz st) (ah st) .none kV doc pm an cdv ct):=⟨⟨oc,od,kV,doc,pm,an,cdv,ct,osl,rfl,l,c⟩,k⟩
end
theorem As{A B:Prop}(h:B):if false=true then A else B:=by
 rw[if_neg HP];exact h
theorem Ar{A B:Prop}(h:A):if true=true then A else B:=by
 rw[if_pos rfl];exact h
end L2
end
namespace PU
theorem wx(s:PySem.Str)(l:List PySem.Str):PySem.Txt.join s l=LV s l:=PySem.StrLaws.glued_eq_join s l
end PU
section
namespace PU
open PySem L2
structure Lam where
 qual:Str
 args:Arguments
 body:FuncBody
 scope:Scope
 kept:List Str
 name:Str
inductive PV where
 | non | bl (b:Bool) | int (i:Int) | str (x:Str)
 | tup (ps:List PV) | lst (ps:List PV)
 | dct (ks:List Key) (ps:List PV) | dtt (ks:List cI) (ps:List PV)
 | fn (L:Lam) (cs:List PV)
structure PX where
 cls:Str
 args:List PV
inductive R (α:Type) where
 | ok (a:α) | er (x:PX) | no
namespace R
protected def bind{α β:Type}:R α->(α->R β)->R β
 | ok a,f=>f a
 | er x,_=>er x
 | no,_=>no
instance:Monad R where
 pure:=R.ok
 bind:=R.bind
@[simp] theorem ok_bind{α β:Type}(a:α)(f:α->R β):(R.ok a >>= f)=f a:=rfl
@[simp] theorem F6{α β:Type}(x:PX)(f:α->R β):((R.er x:R α) >>= f)=R.er x:=rfl
@[simp] theorem Ey{α β:Type}(f:α->R β):((R.no:R α) >>= f)=R.no:=rfl
@[simp] theorem Ee{α:Type}(a:α):(pure a:R α)=R.ok a:=rfl
def ofO{α:Type}:Option α->R α
 | some a=>ok a
 | none=>no
@[simp] theorem ofO_some{α:Type}(a:α):ofO (some a)=R.ok a:=rfl
@[simp] theorem ofO_none{α:Type}:ofO (none:Option α)=R.no:=rfl
theorem bind_assoc{α β γ:Type}(r:R α)(f:α->R β)(g:β->R γ):((r >>= f) >>= g)=(r >>= fun a=>f a >>= g):=by cases r <;> rfl
end R
inductive Sl where
 | no | val (p:PV) | own (p:PV) | pin (ps:List PV) (a:Nat)
abbrev PSt:=List Sl
def af(i:Nat)(ρ:PSt):R PV:=match ρ[i]? with
 | some (.val p)=>.ok p
 | _=>.no
def lj(i:Nat)(ρ:PSt):R PV:=match ρ[i]? with
 | some (.val p)=>.ok p
 | some (.own p)=>.ok p
 | some (.pin ps _)=>.ok (.lst ps)
 | _=>.no
def kI(i:Int):PSt->R PV:=fun _=>.ok (.int i)
def kB(b:Bool):PSt->R PV:=fun _=>.ok (.bl b)
def kN:PSt->R PV:=fun _=>.ok .non
def kS(x:Str):PSt->R PV:=fun _=>.ok (.str x)
def kP(p:PV):PSt->R PV:=fun _=>.ok p
def aM:PSt->R (List PV):=fun _=>.ok []
def aa(f:PSt->R PV)(fs:PSt->R (List PV)):PSt->R (List PV):=fun ρ=>f ρ >>= fun p=>fs ρ >>= fun ps=>.ok (p::ps)
def fh(ps:List PV):R (List PV):=if ps.length<=16777216 then .ok ps else .no
def dF(fs:PSt->R (List PV)):PSt->R PV:=fun ρ=>fs ρ >>= fun ps=>fh ps >>= fun ps=>.ok (.tup ps)
def o5(fs:PSt->R (List PV)):PSt->R PV:=fun ρ=>fs ρ >>= fun ps=>fh ps >>= fun ps=>.ok (.lst ps)
def ak(fa fb:PSt->R PV)(g:PV->PV->Option PV):PSt->R PV:=fun ρ=>fa ρ >>= fun p=>fb ρ >>= fun q=>R.ofO (g p q)
def q0(fa fb fc:PSt->R PV)(g g':PV->PV->Option PV):PSt->R PV:=fun ρ=>fa ρ >>= fun p=>fb ρ >>= fun q=>R.ofO (g p q) >>= fun z=>match z with
 | .bl true=>fc ρ >>= fun r=>R.ofO (g' q r)
 | .bl false=>.ok (.bl false)
 | _=>.no
def rM:PV->Option Bool
 | .non=>some false
 | .bl b=>some b
 | .int i=>some (i != 0)
 | .str y=>if y.length<=16777216 then some ((y.length:Int) != 0) else none
 | .tup ps=>some (!ps.isEmpty)
 | .lst ps=>some (!ps.isEmpty)
 | .dct ks _=>some (!ks.isEmpty)
 | .dtt _ _=>none
 | .fn _ _=>none
def cY(f:PSt->R PV):PSt->R Bool:=fun ρ=>f ρ >>= fun p=>R.ofO (rM p)
def eo:PV->PV->Option PV
 | .int i,.int j=>some (.int (i+j))
 | .str x,.str y=>if x.length+y.length<=16777216 then some (.str (x++y)) else none
 | .lst ps,.lst qs=>if ps.length+qs.length<=16777216 then some (.lst (ps++qs)) else none
 | .tup ps,.tup qs=>if ps.length+qs.length<=16777216 then some (.tup (ps++qs)) else none
 | _,_=>none
def G3:PV->PV->Option PV
 | .int i,.int j=>some (.int (i-j))
 | _,_=>none
def qN:PV->PV->Option PV
 | .int i,.int j=>if i.natAbs<18446744073709551616\/j.natAbs<18446744073709551616 then some (.int (i * j)) else none
 | _,_=>none
def rj:PV->PV->Option PV
 | .int i,.int j=>if 0<j/\j<1073741824 then some (.int (i / j)) else none
 | _,_=>none
def cU:PV->PV->Option PV
 | .int i,.int j=>if 0<j then some (.int (i % j)) else none
 | _,_=>none
inductive Fl where
 | next (ρ:PSt) | brk (ρ:PSt) | cont (ρ:PSt) | ret (p:PV)
def aT(g g':PSt->R Fl):PSt->R Fl:=fun ρ=>g ρ >>= fun fl=>match fl with
 | .next ρ'=>g' ρ'
 | .brk ρ'=>.ok (.brk ρ')
 | .cont ρ'=>.ok (.cont ρ')
 | .ret p=>.ok (.ret p)
def cE:PSt->R Fl:=fun ρ=>.ok (.next ρ)
def cJ(f:PSt->R PV):PSt->R Fl:=fun ρ=>f ρ >>= fun p=>.ok (.ret p)
def ifF(t:PSt->R Bool)(g g':PSt->R Fl):PSt->R Fl:=fun ρ=>t ρ >>= fun k=>if k=true then g ρ else g' ρ
def bZ(i:Nat)(f:PSt->R PV):PSt->R Fl:=fun ρ=>f ρ >>= fun p=>.ok (.next (ρ.set i (.val p)))
def o4(i:Nat)(f:PSt->R PV):PSt->R Fl:=fun ρ=>f ρ >>= fun p=>.ok (.next (ρ.set i (.own p)))
def CV:PSt->R Fl:=fun ρ=>.ok (.brk ρ)
def tU(i:Nat)(ρ:PSt):PSt:=match ρ[i]? with
 | some (.own p)=>ρ.set i (.val p)
 | _=>ρ
def vd(i:Nat)(g:PSt->R Fl):PSt->R Fl:=fun ρ=>g (tU i ρ)
abbrev Tgt:=PV->PSt->Option PSt
abbrev uS:=List PV->PSt->Option PSt
def ay(i:Nat):Tgt:=fun p ρ=>some (ρ.set i (.val p))
def kX:uS:=fun ps ρ=>match ps with
 | []=>some ρ
 | _::_=>none
def bG(h:Tgt)(h':uS):uS:=fun ps ρ=>match ps with
 | p::r=>(h p ρ).bind fun ρ1=>h' r ρ1
 | []=>none
def kG(n:Nat)(h:uS):Tgt:=fun p ρ=>match p with
 | .tup ps=>if ps.length=n then h ps ρ else none
 | _=>none
def gq(h:PV->PSt->Option PSt)(g:PSt->R Fl):List PV->PSt->R Fl
 | [],ρ=>.ok (.next ρ)
 | p::ps,ρ=>R.ofO (h p ρ) >>= fun ρ1=>g ρ1 >>= fun fl=>match fl with
  | .next ρ2=>gq h g ps ρ2
  | .cont ρ2=>gq h g ps ρ2
  | .brk ρ2=>.ok (.next ρ2)
  | .ret q=>.ok (.ret q)
def ky(fi:PSt->R (List PV))(h:Tgt)(g:PSt->R Fl):PSt->R Fl:=fun ρ=>fi ρ >>= fun ps=>gq h g ps ρ
def aL(fs:PSt->R (List PV))(F:List PV->Option PV):PSt->R PV:=fun ρ=>fs ρ >>= fun ps=>R.ofO (F ps)
def start(n:Nat)(ps:List PV):PSt:=ps.map Sl.val++IM (n-ps.length) .no
def eI(m n:Nat)(g:PSt->R Fl)(ps:List PV):Option PV:=if ps.length=m then (match g (start n ps) with
 | .ok (.ret p)=>some p
 | .ok (.next _)=>some .non
 | _=>none) else none
def roS:Option Sl->Sl
 | some (.val p)=>.val p
 | _=>.no
def bU(nt:Nat)(idx:List Nat)(ρ:PSt):PSt:=IM nt .no++idx.map fun i=>roS ρ[i]?
def cq(h:Tgt)(t:PSt->R Bool)(fe:PSt->R PV)(ρ:PSt):List PV->R (List PV)
 | []=>.ok []
 | p::ps=>R.ofO (h p ρ) >>= fun ρ1=>t ρ1 >>= fun b=>if b=true then fe ρ1 >>= fun q=>cq h t fe ρ ps >>= fun qs=>.ok (q::qs) else cq h t fe ρ ps
def za{α:Type}:R α->R α
 | .ok a=>.ok a
 | _=>.no
def fS(fi:PSt->R (List PV))(h:Tgt)(t:PSt->R Bool)(fe:PSt->R PV)(nt:Nat)(idx:List Nat):PSt->R PV:=
 fun ρ=>fi ρ >>= fun ps=>za (cq h t fe (bU nt idx ρ) ps) >>= fun qs=>fh qs >>= fun qs=>.ok (.lst qs)
def kC:PSt->R Bool:=fun _=>.ok true
mutual
def bE:PV->PV->Option Bool
 | .non,q=>match q with
  | .non=>some true | .bl _=>some false | .int _=>some false | .str _=>some false | .tup _=>some false | .lst _=>some false | _=>none
 | .bl a,q=>match q with
  | .bl b=>some (a == b) | .int b=>some ((if a then 1 else 0) == b) | .non=>some false | .str _=>some false | .tup _=>some false | .lst _=>some false | _=>none
 | .int a,q=>match q with
  | .int b=>some (a == b) | .bl b=>some (a == (if b then 1 else 0)) | .non=>some false | .str _=>some false | .tup _=>some false | .lst _=>some false | _=>none
 | .str a,q=>match q with
  | .str b=>some (a == b) | .non=>some false | .bl _=>some false | .int _=>some false | .tup _=>some false | .lst _=>some false | _=>none
 | .tup ps,q=>match q with
  | .tup qs=>c8 ps qs | .non=>some false | .bl _=>some false | .int _=>some false | .str _=>some false | .lst _=>some false | _=>none
 | .lst ps,q=>match q with
  | .lst qs=>c8 ps qs | .non=>some false | .bl _=>some false | .int _=>some false | .str _=>some false | .tup _=>some false | _=>none
 | _,_=>none
def c8:List PV->List PV->Option Bool
 | [],[]=>some true
 | [],_::_=>some false
 | _::_,[]=>some false
 | p::ps,q::qs=>(bE p q).bind fun a=>(c8 ps qs).bind fun b=>some (a && b)
end
mutual
def v7:PV->Nat
 | .tup ps=>cR ps+1
 | .lst ps=>cR ps+1
 | .dct _ ps=>cR ps+1
 | .dtt _ ps=>cR ps+1
 | .fn _ ps=>cR ps+1
 | _=>0
def cR:List PV->Nat
 | []=>0
 | p::ps=>max (v7 p) (cR ps)
end
def gj(ps qs:List PV)(j:Nat):Bool:=match ps[j]?,qs[j]? with
 | some p,some q=>(bE p q).getD false
 | _,_=>false
def m4:PV->Bool
 | .non=>true | .bl _=>true | .int _=>true | .str _=>true
 | _=>false
def scV:PV->V
 | .bl b=>.bl b | .int i=>.int i | .str x=>.str x
 | _=>.non
def bO:List Key->List PV->Key->Option PV
 | k::ks,p::ps,j=>if k=j then some p else bO ks ps j
 | _,_,_=>none
def jL(e:PV->PV->Option Bool):List Key->List PV->List Key->List PV->Option Bool
 | k::ks,p::ps,ls,qs=>match bO ls qs k with
  | none=>some false
  | some q=>(e p q).bind fun a=>(jL e ks ps ls qs).bind fun b=>some (a && b)
 | [],[],_,_=>some true
 | _,_,_,_=>none
def v5:Nat->PV->PV->Option Bool
 | n+1,.dct ks ps,.dct ls qs=>if ks.length=ls.length then jL (v5 n) ks ps ls qs else some false
 | _,p,q=>bE p q
def gEq:PV->PV->Option PV
 | .dct ks ps,.dct ls qs=>if cR ps<=60 then (v5 3 (.dct ks ps) (.dct ls qs)).map .bl else none
 | .tup ps,.tup qs=>if cR ps<=60 then (c8 ps qs).map .bl else none
 | .lst ps,.lst qs=>if cR ps<=60 then (c8 ps qs).map .bl else none
 | p,q=>if m4 p=true/\m4 q=true/\xq (scV p) (scV q)=true then some (.bl (decide (scV p=scV q))) else none
def gNe:PV->PV->Option PV
 | .tup ps,.tup qs=>if cR ps<=60 then (c8 ps qs).map fun b=>.bl (!b) else none
 | .lst ps,.lst qs=>if cR ps<=60 then (c8 ps qs).map fun b=>.bl (!b) else none
 | p,q=>if m4 p=true/\m4 q=true/\xq (scV p) (scV q)=true then some (.bl (!decide (scV p=scV q))) else none
def gLt:PV->PV->Option PV
 | .int i,.int j=>some (.bl (decide (i<j)))
 | .str x,.str y=>some (.bl (decide (x.cps.toList<y.cps.toList)))
 | _,_=>none
def gLe:PV->PV->Option PV
 | .int i,.int j=>some (.bl (decide (i<=j)))
 | .str x,.str y=>some (.bl (!decide (y.cps.toList<x.cps.toList)))
 | _,_=>none
def gGt:PV->PV->Option PV
 | .int i,.int j=>some (.bl (decide (j<i)))
 | _,_=>none
def gGe:PV->PV->Option PV
 | .int i,.int j=>some (.bl (decide (j<=i)))
 | _,_=>none
def Cg:PV->Bool
 | .non=>true
 | _=>false
def wG:PV->PV->Option PV
 | p,.non=>some (.bl (Cg p))
 | _,_=>none
def eK:PV->Option Key
 | .int i=>some (.inl i)
 | .str x=>some (.inr x)
 | _=>none
def gIx:PV->PV->Option PV
 | .lst ps,.int i=>atI ps i
 | .tup ps,.int i=>atI ps i
 | .str z,.int i=>if z.length<=16777216 then (atI z.cps.toList i).map fun c=>.str ⟨#[c]⟩ else none
 | .dct ks ps,k=>(eK k).bind fun k=>bO ks ps k
 | _,_=>none
def inS(x y:Str):Bool:=!(J6 y x 0 y.length 1).isEmpty
def gIn:PV->PV->Option PV
 | .str x,.str y=>some (.bl (inS x y))
 | p,.lst qs=>if m4 p=true/\qs.all m4=true then some (.bl (inV (scV p) (qs.map scV))) else none
 | p,.tup qs=>if m4 p=true/\qs.all m4=true then some (.bl (inV (scV p) (qs.map scV))) else none
 | p,.dct ks _=>(eK p).map fun k=>.bl (ks.any fun j=>decide (j=k))
 | _,_=>none
def gc(p q:PV):Option PV:=(gIn p q).bind fun z=>match z with
 | .bl b=>some (.bl (!b))
 | _=>none
def x8(t u:PSt->R Bool):PSt->R Bool:=fun ρ=>t ρ >>= fun c=>if c=true then u ρ else .ok false
def orB(t u:PSt->R Bool):PSt->R Bool:=fun ρ=>t ρ >>= fun c=>if c=true then .ok true else u ρ
def BB(t:PSt->R Bool):PSt->R Bool:=fun ρ=>t ρ >>= fun c=>.ok (!c)
def DC(fa fb:PSt->R PV):PSt->R PV:=fun ρ=>fa ρ >>= fun p=>match p with
 | .bl true=>fb ρ
 | .bl false=>.ok (.bl false)
 | _=>.no
def ifV(t:PSt->R Bool)(fa fb:PSt->R PV):PSt->R PV:=fun ρ=>t ρ >>= fun c=>if c=true then fa ρ else fb ρ
def un1(f:PSt->R PV)(g:PV->Option PV):PSt->R PV:=fun ρ=>f ρ >>= fun p=>R.ofO (g p)
def iZ:PV->Option PV
 | .lst ps=>some (.int ps.length)
 | .tup ps=>some (.int ps.length)
 | .str x=>if x.length<=16777216 then some (.int x.length) else none
 | .dct ks _=>some (.int ks.length)
 | _=>none
def zC:PV->Option PV
 | .int i=>some (.int i)
 | .bl b=>some (.int (if b then 1 else 0))
 | _=>none
def pQ:PV->Option PV
 | .lst ps=>some (.tup ps)
 | .tup ps=>some (.tup ps)
 | _=>none
def wu:Key->PV
 | .inl i=>.int i
 | .inr x=>.str x
def fw(x:Str):List PV:=x.cps.toList.map fun c=>.str ⟨#[c]⟩
def eV:PV->Option (List PV)
 | .lst ps=>some ps
 | .tup ps=>some ps
 | .dct ks _=>some (ks.map wu)
 | .str x=>some (fw x)
 | _=>none
def itF(f:PSt->R PV):PSt->R (List PV):=fun ρ=>f ρ >>= fun p=>R.ofO (eV p)
def bM(lo:Int)(n:Nat):List PV:=(Hy n).map fun i=>.int (lo+(i:Nat))
def xr(f:PSt->R PV):PSt->R (List PV):=fun ρ=>f ρ >>= fun p=>match p with
 | .int j=>if j.natAbs<1000000000 then .ok (bM 0 j.toNat) else .no
 | _=>.no
def An(f f2:PSt->R PV):PSt->R (List PV):=fun ρ=>f ρ >>= fun p=>f2 ρ >>= fun q=>match p,q with
 | .int i,.int j=>if i.natAbs<1000000000/\j.natAbs<1000000000 then .ok (bM i (j-i).toNat) else .no
 | _,_=>.no
def qb(i:Nat)(f:PSt->R PV):PSt->R Fl:=fun ρ=>match ρ[i]? with
 | some (.own (.lst ps))=>f ρ >>= fun p=>if ps.length<16777216 then .ok (.next (ρ.set i (.own (.lst (ps++[p]))))) else .no
 | _=>.no
def xE(ps:List PV):List (List PV):=(Hy ps.length).zipWith (fun (i:Nat) p=>[.int (i:Int),p]) ps
def qQ:PV->Option (List PV)
 | .lst ps=>some ((xE ps).map .tup)
 | .str x=>some ((xE (fw x)).map .tup)
 | _=>none
def wM(f:PSt->R PV):PSt->R (List PV):=fun ρ=>f ρ >>= fun p=>R.ofO (qQ p)
def G4:PV->Option PV
 | .int i=>if i.natAbs.log2<1920 then some (.str (toString i)) else none
 | .str x=>some (.str x)
 | _=>none
def pR:PV->Option PV
 | .int i=>some (.int (-i))
 | _=>none
def Ce:PV->Bool
 | .str _=>true
 | _=>false
def oz(fo fe:PSt->R PV)(g:PV->PV->Option PV):PSt->R PV:=fun ρ=>fo ρ >>= fun p=>if Ce p=true then fe ρ >>= fun q=>R.ofO (g p q) else .no
def iJ:List PV->Option (List Str)
 | []=>some []
 | .str x::r=>(iJ r).map (x::·)
 | _::_=>none
def oM:PV->PV->Option PV
 | .str x,.lst ps=>(iJ ps).bind fun ys=>if (ys.map (·.length)).sum+ys.length * x.length<=16777216 then some (.str (Txt.join x ys)) else none
 | .str x,.tup ps=>(iJ ps).bind fun ys=>if (ys.map (·.length)).sum+ys.length * x.length<=16777216 then some (.str (Txt.join x ys)) else none
 | _,_=>none
def iN{α:Type}(xs:List α)(lo hi:Option Int):List α:=(xs.drop (HT.sIx xs.length 0 lo)).take (HT.sIx xs.length xs.length hi-HT.sIx xs.length 0 lo)
def gSl:PV->Option Int->Option Int->Option PV
 | .lst ps,lo,hi=>some (.lst (iN ps lo hi))
 | .tup ps,lo,hi=>if HT.sIx ps.length 0 lo=0/\HT.sIx ps.length ps.length hi=ps.length then none else some (.tup (iN ps lo hi))
 | _,_,_=>none
def e8:PSt->R (Option Int):=fun _=>.ok none
def gv(f:PSt->R PV):PSt->R (Option Int):=fun ρ=>f ρ >>= fun p=>match p with
 | .int i=>.ok (some i)
 | _=>.no
def jh(f:PSt->R PV)(l h:PSt->R (Option Int)):PSt->R PV:=fun ρ=>f ρ >>= fun p=>l ρ >>= fun lo=>h ρ >>= fun hi=>R.ofO (gSl p lo hi)
def iM(ks:List Key)(ps:List PV)(k:Key)(p:PV):List PV:=ks.zipWith (fun j q=>if j=k then p else q) ps
def kq(ks:List Key)(ps:List PV)(k:Key)(p:PV):PV:=if (ks.any fun j=>decide (j=k))=true then .dct ks (iM ks ps k p) else .dct (ks++[k]) (ps++[p])
def rf(i:Nat)(fk fv:PSt->R PV):PSt->R Fl:=fun ρ=>match ρ[i]? with
 | some (.own (.dct ks ps))=>fv ρ >>= fun p=>fk ρ >>= fun kp=>R.ofO (eK kp) >>= fun k=>if ks.length<16777216 then .ok (.next (ρ.set i (.own (kq ks ps k p)))) else .no
 | _=>.no
def newD:PSt->R PV:=fun _=>.ok (.dct [] [])
def BH:PSt->R (List (Key×PV)):=fun _=>.ok []
def mv(fk fv:PSt->R PV)(f:PSt->R (List (Key×PV))):PSt->R (List (Key×PV)):=fun ρ=>fk ρ >>= fun kp=>R.ofO (eK kp) >>= fun k=>fv ρ >>= fun p=>f ρ >>= fun r=>.ok ((k,p)::r)
def fg(kps:List (Key×PV)):PV:=kps.foldl (fun d kp=>match d with
 | .dct ks ps=>kq ks ps kp.1 kp.2
 | d=>d) (.dct [] [])
def ur(f:PSt->R (List (Key×PV))):PSt->R PV:=fun ρ=>f ρ >>= fun kps=>if kps.length<=15 then .ok (fg kps) else .no
end PU
end
namespace PU
open PySem PySem.Spec PyProof.Rows L2
def ie:Expr->Bool
 | .Starred ..=>false
 | _=>true
theorem c6{e:Expr}{es:List Expr}{env:M5}(h:ie e=true):Hw (e::es) env=(false,J8 e env)::Hw es env:=by
 cases e <;> first | rfl | cases h
theorem cg{e:Expr}{env:M5}(h:ie e=true):Hw [e] env=[(false,J8 e env)]:=c6 h
theorem vE{e e2:Expr}{env:M5}(h:ie e=true)(h2:ie e2=true):Hw [e,e2] env=[(false,J8 e env),(false,J8 e2 env)]:=(c6 h).trans (congrArg _ (cg h2))
theorem iT{pos:JO}{es:List Expr}{env:M5}(h:es.all ie=true):(KI pos (Hw es env)).any (·.1)=false:=by
 have:∀es:List Expr,es.all ie=true->(Hw es env).any (·.1)=false:=by
  intro es
  induction es with
  | nil=>intro _;rfl
  | cons e es ih=>
   intro h;simp only[JR,Ii] at h;rw[c6 h.1,J2,ih h.2];rfl
 have h2:=this es h
 have h3:(KI pos (Hw es env)).map (·.1)=(Hw es env).map (·.1):=by
  unfold KI;simp[I8,NF]
 have:(KI pos (Hw es env)).any (·.1)=((KI pos (Hw es env)).map (·.1)).any id:=by rw[Jx];rfl
 rw[this,h3,Jx];exact h2
class TW where
 w:IA
 tabs:List Addr:=[]
 qual:Nat->Nat->Str:=fun _ _=>⟨#[]⟩
variable[TW]
def dO(c:Addr)(q:Str):HO:=.ext fun h=>h.CodeRec (.ref c) q
def TOk(H:Hp)(ps:Array HB):Prop:=TriplesOk ps.toList/\∀pos v,KM pos ps.toList=some v->∃c,v=.ref c/\H c=some (dO c (TW.qual pos.line pos.col))
def Au:HO->Bool
 | .tbl _=>true
 | _=>false
structure Same(H H':Hp):Prop where
 at_:∀b o,H b=some o->∀(n:Au o=false:=by rfl),H' b=some o
 tb:∀b ps,H b=some (.tbl ps)->∃ps',H' b=some (.tbl ps')/\(TOk H ps->TOk H' ps')
instance {H H':Hp}:CoeFun (Same H H') (fun _=>∀b o,H b=some o->∀(n:Au o=false:=by rfl),H' b=some o):=⟨@Same.at_ _ H H'⟩
theorem TOk.same{H H':Hp}{ps:Array HB}(h:∀b o,H b=some o->Au o=false->H' b=some o)(t:TOk H ps):TOk H' ps:=
 ⟨t.1,fun pos v e=>let ⟨c,e1,e2⟩:=t.2 pos v e;⟨c,e1,h _ _ e2 rfl⟩⟩
theorem Same.of{H H':Hp}(h:∀b o,H b=some o->H' b=some o):Same H H':=
 ⟨fun b o e _=>h b o e,fun b ps e=>⟨ps,h b _ e,TOk.same fun b o e _=>h b o e⟩⟩
theorem Same.refl(H:Hp):Same H H:=.of fun _ _ h=>h
theorem Same.trans{H H1 H2:Hp}(a:Same H H1)(b:Same H1 H2):Same H H2:=
 ⟨fun c o h n=>b.at_ c o (a.at_ c o h n) n,fun c ps e=>by
  obtain⟨p1,e1,k1⟩:=a.tb c ps e;obtain⟨p2,e2,k2⟩:=b.tb c p1 e1;exact⟨p2,e2,fun t=>k2 (k1 t)⟩⟩
theorem Same.free{H H':Hp}(e:Same H H'){l:Addr}(h:H' l=Option.none):H l=Option.none:=by
 cases q:H l with
 | none=>rfl
 | some o=>
  cases ho:Au o with
  | false=>rw[e.at_ l o q ho] at h;cases h
  | true=>
   cases o <;> cases ho
   obtain⟨p1,e1,_⟩:=e.tb l _ q;rw[e1] at h;cases h
def qZ(H:Hp):Prop:=∀P∈TW.tabs,∃ps,H P=some (.tbl ps)/\TOk H ps
theorem Same.tabs{H H':Hp}(s:Same H H')(t:qZ H):qZ H':=fun P hP=>by
 obtain⟨ps,e,k⟩:=t P hP;obtain⟨p1,e1,k1⟩:=s.tb P ps e;exact⟨p1,e1,k1 k⟩
def D3(K:HA)(a:Addr)(xs:List V):Prop:=
 ∃(its:List HB) (n:Nat),K.lookup a=some { cls:=.type "list",data:=.seq its.toArray n }/\xs.length<=sizeLine/\Vals xs its
def uV(K:HA)(a:Addr)(kvs:List (Key×V)):Prop:=
 kvs.length<=sizeLine/\(a == Im)=false/\∃(o:Obj)(es:Array DictEntry)(ep:Nat),K.lookup a=some o/\o.ExactDict/\o.data=.dict es ep/\
  ∀P:HX,∃vs,KV kvs vs/\PySem.KeysOf (au P TW.w) es/\Pairs (au P TW.w) es.toList vs/\(vs.map (·.1)).Nodup
theorem uV.at{K:HA}{a:Addr}{kvs:List (Key×V)}(h:uV K a kvs)(P:HX)(w:IA)(hw:w=TW.w)(hp:Heap)(hk:K.In hp):∃vs,KV kvs vs/\hp.DictOf (au P w) a vs:=by
 subst hw;obtain⟨_,_,o,es,ep,e,x,d,r⟩:=h;obtain⟨vs,r1,r2⟩:=r P;exact⟨vs,r1,o,es,ep,hk _ _ e,x,d,r2⟩
def SqO(K:HA)(H:Hp)(a:Addr)(xs:List V):Prop:=Rd H a (.lst xs)\/D3 K a xs
theorem SqO.l{K:HA}{H:Hp}{a:Addr}{xs:List V}(h:SqO K H a xs):SqL K H a xs:=by
 rcases h with h | ⟨its,n,e,z,r⟩
 ·exact .inl h
 ·exact .inr ⟨_,its.toArray,n,e,rfl,rfl,rfl,by rw[Hz,← r.length];exact z,by simpa using r⟩
theorem SqO.is{X:Cx}{pins:List (Addr×Obj)}{σ:L2.St}{H:Hp}{s:HC}{a:Addr}{xs:List V}(I:Inv X pins σ H s)(h:SqO X.K H a xs) :
  xs.length<=sizeLine/\∃(its:List HB) (n:Nat),Vals xs its/\s.heap.get? a=some { cls:=.type "list",data:=.seq its.toArray n }:=by
 rcases h with h | ⟨its,n,e,z,r⟩
 ·obtain⟨z,its,n,r,e⟩:=h.ok I.hok
  exact⟨z,its,n,r,e⟩
 ·exact⟨z,its,n,r,I.kIn _ _ e⟩
def SqF(K:HA)(H:Hp)(a:Addr)(xs:List V):Prop:=(∃o,H a=some (.frz o (.lst xs)))\/D3 K a xs
def DkF(K:HA)(H:Hp)(a:Addr)(kvs:List (Key×V)):Prop:=(∃o,H a=some (.frz o (.dK kvs)))\/uV K a kvs
def DkR(K:HA)(H:Hp)(a:Addr)(kvs:List (Key×V)):Prop:=Rd H a (.dK kvs)\/uV K a kvs
theorem SqF.l{K:HA}{H:Hp}{a:Addr}{xs:List V}(h:SqF K H a xs):SqO K H a xs:=by
 rcases h with h | h
 ·exact .inl (.inr h)
 ·exact .inr h
theorem DkF.r{K:HA}{H:Hp}{a:Addr}{kvs:List (Key×V)}(h:DkF K H a kvs):DkR K H a kvs:=by
 rcases h with h | h
 ·exact .inl (.inr h)
 ·exact .inr h
def FnAt(f:Addr)(o:Obj):HO:=.ext fun h=>h.get? f=some o
abbrev qJ(L:Lam)(cl:List (Str×Addr))(pm:HB×HB)(cdv ct:HB):FuncData:=
 { name:=L.name,qualname:=L.qual,params:=L.args,body:=L.body,scope:=L.scope,globals:=mainGlobals,closure:=cl,defaults:=.none,kwdefaults:=.none,doc:=pm.1,pyModule:=pm.2,annotations:=none,code:=cdv,closureTuple:=ct,builtins:=Iv }
abbrev jE (L:Lam) (cl:List (Str×Addr)) (pm:HB×HB) (c:Addr) (ct:HB):Obj:={ cls:=.type "function",data:=.func (qJ L cl pm (.ref c) ct) }
def dX(H:Hp):List (Str×Addr)->List V->Prop
 | [],xs=>xs=[]
 | p::cl,xs=>∃x r o u,xs=x::r/\H p.2=some (.frz o (.own 0))/\o.data=.cell (some u)/\RelV x u/\dX H cl r
mutual
def Rep(K:HA)(H:Hp):PV->V->Prop
 | .non,v=>v=.non
 | .bl b,v=>v=.bl b
 | .int i,v=>v=.int i
 | .str x,v=>v=.str x
 | .tup ps,v=>∃a xs,v=.ref a/\H a=some (.tup xs)/\aE K H ps xs
 | .lst ps,v=>∃a xs,v=.ref a/\SqF K H a xs/\aE K H ps xs
 | .dct ks ps,v=>∃a kvs,v=.ref a/\DkF K H a kvs/\kvs.map (·.1)=ks/\aE K H ps (kvs.map (·.2))
 | .dtt ks ps,v=>∃a o kvs,v=.ref a/\H a=some (.frz o (.dT kvs))/\kvs.map (·.1)=ks/\aE K H ps (kvs.map (·.2))
 | .fn L cs,v=>∃f c cl pm ct xs,v=.ref f/\H f=some (FnAt f (jE L cl pm c ct))/\H c=some (dO c L.qual)/\cl.map (·.1)=L.kept/\(cl.map (·.2)).Nodup/\dX H cl xs/\aE K H cs xs
def aE(K:HA)(H:Hp):List PV->List V->Prop
 | [],xs=>xs=[]
 | p::ps,xs=>∃x r,xs=x::r/\Rep K H p x/\aE K H ps r
end
def b8(K:HA)(H:Hp):PV->V->Prop
 | .lst ps,v=>∃a xs,v=.ref a/\SqO K H a xs/\aE K H ps xs
 | .dct ks ps,v=>∃a kvs,v=.ref a/\DkR K H a kvs/\kvs.map (·.1)=ks/\aE K H ps (kvs.map (·.2))
 | .dtt ks ps,v=>∃a kvs,v=.ref a/\Rd H a (.dT kvs)/\kvs.map (·.1)=ks/\aE K H ps (kvs.map (·.2))
 | p,v=>Rep K H p v
def bY(K:HA)(H:Hp)(a:Addr):PV->Prop
 | .lst ps=>∃xs,H a=some (.lst xs)/\aE K H ps xs
 | .dct ks ps=>∃kvs,H a=some (.dK kvs)/\kvs.map (·.1)=ks/\aE K H ps (kvs.map (·.2))
 | .dtt ks ps=>∃kvs,H a=some (.dT kvs)/\kvs.map (·.1)=ks/\aE K H ps (kvs.map (·.2))
 | _=>False
def xU:HO->Bool
 | .frz _ _=>true
 | .tup _=>true
 | .ext _=>true
 | _=>false
def Kp(H H':Hp):Prop:=∀b u,H b=some u->xU u=true->H' b=some u
theorem Same.kp{H H':Hp}(h:Same H H'):Kp H H':=fun b u e f=>h.at_ b u e (by cases u <;> first | rfl | cases f)
theorem Kp.refl(H:Hp):Kp H H:=fun _ _ e _=>e
theorem Kp.trans{H H1 H2:Hp}(h:Kp H H1)(k:Kp H1 H2):Kp H H2:=fun b u e f=>k b u (h b u e f) f
theorem Kp.upd{H:Hp}{a:Addr}{u o:HO}(h:H a=some u)(f:xU u=false):Kp H (upd H a o):=fun b w e g=>by
 have:b≠a:=fun z=>by
  subst z;rw[h] at e;cases e;rw[f] at g;cases g
 rw[az this];exact e
theorem Kp.sqT{K:HA}{H H':Hp}(k:Kp H H'){a:Addr}{xs:List V}(h:SqT K H a xs):SqT K H' a xs:=by
 rcases h with (h | ⟨o,h⟩) | h
 ·exact .inl (.inl (k _ _ h rfl))
 ·exact .inl (.inr ⟨o,k _ _ h rfl⟩)
 ·exact .inr h
theorem Kp.sqF{K:HA}{H H':Hp}(k:Kp H H'){a:Addr}{xs:List V}(h:SqF K H a xs):SqF K H' a xs:=by
 rcases h with⟨o,h⟩ | h
 ·exact .inl ⟨o,k _ _ h rfl⟩
 ·exact .inr h
theorem Kp.dkF{K:HA}{H H':Hp}(k:Kp H H'){a:Addr}{kvs:List (Key×V)}(h:DkF K H a kvs):DkF K H' a kvs:=by
 rcases h with⟨o,h⟩ | h
 ·exact .inl ⟨o,k _ _ h rfl⟩
 ·exact .inr h
theorem TOk.kp{H H':Hp}{ps:Array HB}(k:Kp H H')(t:TOk H ps):TOk H' ps:=
 ⟨t.1,fun pos v e=>let ⟨c,e1,e2⟩:=t.2 pos v e;⟨c,e1,k _ _ e2 rfl⟩⟩
theorem Kp.but{H H':Hp}{a:Addr}(na:∀u,H a=some u->xU u=false)(oth:∀b,b≠a->H' b=H b):Kp H H':=fun b u e f=>by
 have:b≠a:=fun z=>by
  subst z;rw[na u e] at f;cases f
 rw[oth b this];exact e
theorem Same.but{B H H':Hp}{a:Addr}(s:Same B H)(fa:B a=none)(na:∀u,H a=some u->xU u=false)(oth:∀b,b≠a->H' b=H b):Same B H':=
 ⟨fun b o e n=>by rw[oth b (bp e fa)];exact s.at_ b o e n,fun b ps e=>by
  obtain⟨p1,e1,k1⟩:=s.tb b ps e;exact⟨p1,by rw[oth b (bp e fa)];exact e1,fun t=>(k1 t).kp (Kp.but na oth)⟩⟩
theorem qZ.but{H H':Hp}{a:Addr}(t:qZ H)(na:∀u,H a=some u->xU u=false/\Au u=false)(oth:∀b,b≠a->H' b=H b):qZ H':=fun P hP=>by
 obtain⟨ps,e,k⟩:=t P hP
 have:P≠a:=fun z=>by
  subst z;have:=(na _ e).2;cases this
 exact⟨ps,by rw[oth P this];exact e,k.kp (Kp.but (fun u h=>(na u h).1) oth)⟩
theorem tq{K:HA}{H:Hp}{a:Addr}{xs:List V}(h:H a=some (.tup xs)):SqT K H a xs:=.inl (.inl h)
theorem dX.kp{H H':Hp}(k:Kp H H'):∀{cl:List (Str×Addr)}{xs:List V},dX H cl xs->dX H' cl xs
 | [],_,h=>h
 | p::cl,_,⟨x,r,o,u,e,h,d,v,t⟩=>⟨x,r,o,u,e,k _ _ h rfl,d,v,dX.kp k t⟩
mutual
theorem Rep.kp{K:HA}{H H':Hp}(k:Kp H H'):∀(p:PV){v:V},Rep K H p v->Rep K H' p v
 | .non,_,h=>h
 | .bl _,_,h=>h
 | .int _,_,h=>h
 | .str _,_,h=>h
 | .tup ps,_,⟨a,xs,e,h,r⟩=>⟨a,xs,e,k _ _ h rfl,aE.kp k ps r⟩
 | .lst ps,_,⟨a,xs,e,h,r⟩=>⟨a,xs,e,k.sqF h,aE.kp k ps r⟩
 | .dct ks ps,_,⟨a,kvs,e,h,ek,r⟩=>⟨a,kvs,e,k.dkF h,ek,aE.kp k ps r⟩
 | .dtt ks ps,_,⟨a,o,kvs,e,h,ek,r⟩=>⟨a,o,kvs,e,k _ _ h rfl,ek,aE.kp k ps r⟩
 | .fn L cs,_,⟨f,c,cl,pm,ct,xs,e,h1,h2,h3,h5,h4,r⟩=>⟨f,c,cl,pm,ct,xs,e,k _ _ h1 rfl,k _ _ h2 rfl,h3,h5,dX.kp k h4,aE.kp k cs r⟩
theorem aE.kp{K:HA}{H H':Hp}(k:Kp H H'):∀(ps:List PV){xs:List V},aE K H ps xs->aE K H' ps xs
 | [],_,h=>h
 | p::ps,_,⟨x,r,e,h,t⟩=>⟨x,r,e,Rep.kp k p h,aE.kp k ps t⟩
end
section
variable{K : HA}{H H' : Hp}{p : PV}{ps qs : List PV}{v : V}{xs ys : List V}{a : Addr}
theorem Rep.same(h:Rep K H p v)(s:Same H H'):Rep K H' p v:=Rep.kp (Same.kp s) p h
theorem aE.same(h:aE K H ps xs)(s:Same H H'):aE K H' ps xs:=aE.kp (Same.kp s) ps h
theorem b8.same(h:b8 K H p v)(s:Same H H'):b8 K H' p v:=by
 cases p with
 | lst ps=>
  obtain⟨a,xs,e,q,r⟩:=h;refine⟨a,xs,e,?_,r.same s⟩;rcases q with (q | ⟨o,q⟩) | q
  ·exact .inl (.inl (s _ _ q))
  ·exact .inl (.inr ⟨o,s _ _ q⟩)
  ·exact .inr q
 | dct ks ps=>
  obtain⟨a,kvs,e,q,ek,r⟩:=h;refine⟨a,kvs,e,?_,ek,r.same s⟩;rcases q with (q | ⟨o,q⟩) | q
  ·exact .inl (.inl (s _ _ q))
  ·exact .inl (.inr ⟨o,s _ _ q⟩)
  ·exact .inr q
 | dtt ks ps=>
  obtain⟨a,kvs,e,q,ek,r⟩:=h;refine⟨a,kvs,e,?_,ek,r.same s⟩;rcases q with q | ⟨o,q⟩
  ·exact .inl (s _ _ q)
  ·exact .inr ⟨o,s _ _ q⟩
 | _=>exact Rep.same h s
theorem bY.same(h:bY K H a p)(s:Same H H'):bY K H' a p:=by
 cases p with
 | lst ps=>
  obtain⟨xs,q,r⟩:=h;exact⟨xs,s _ _ q,r.same s⟩
 | dct ks ps=>
  obtain⟨kvs,q,ek,r⟩:=h;exact⟨kvs,s _ _ q,ek,r.same s⟩
 | dtt ks ps=>
  obtain⟨kvs,q,ek,r⟩:=h;exact⟨kvs,s _ _ q,ek,r.same s⟩
 | _=>exact h
theorem Rep.o(h:Rep K H p v):b8 K H p v:=by
 cases p with
 | lst ps=>
  obtain⟨a,xs,e,q,r⟩:=h;exact⟨a,xs,e,q.l,r⟩
 | dct ks ps=>
  obtain⟨a,kvs,e,q,ek,r⟩:=h;exact⟨a,kvs,e,q.r,ek,r⟩
 | dtt ks ps=>
  obtain⟨a,o,kvs,e,q,ek,r⟩:=h;exact⟨a,kvs,e,.inr ⟨o,q⟩,ek,r⟩
 | _=>exact h
theorem bY.o(h:bY K H a p):b8 K H p (.ref a):=by
 cases p with
 | lst ps=>
  obtain⟨xs,q,r⟩:=h;exact⟨a,xs,rfl,.inl (.inl q),r⟩
 | dct ks ps=>
  obtain⟨kvs,q,ek,r⟩:=h;exact⟨a,kvs,rfl,.inl (.inl q),ek,r⟩
 | dtt ks ps=>
  obtain⟨kvs,q,ek,r⟩:=h;exact⟨a,kvs,rfl,.inl q,ek,r⟩
 | _=>exact HJ h
theorem aE.length:∀{ps:List PV}{xs:List V},aE K H ps xs->ps.length=xs.length
 | [],_,h=>by cases h;rfl
 | p::ps,_,⟨x,r,e,_,t⟩=>by subst e;simp[aE.length t]
theorem aE.nil:aE K H [] []:=rfl
theorem aE.cons(h:Rep K H p v)(t:aE K H ps xs):aE K H (p::ps) (v::xs):=⟨v,xs,rfl,h,t⟩
theorem aE.append:∀{ps qs:List PV}{xs ys:List V},aE K H ps xs->aE K H qs ys->aE K H (ps++qs) (xs++ys)
 | [],_,_,_,h,k=>by cases h;exact k
 | p::ps,_,_,_,⟨x,r,e,h,t⟩,k=>by subst e;exact⟨x,_,rfl,h,aE.append t k⟩
theorem aE.get:∀{ps:List PV}{xs:List V}{i:Nat}{p:PV},aE K H ps xs->ps[i]?=some p->∃x,xs[i]?=some x/\Rep K H p x
 | [],_,_,_,_,e=>by simp at e
 | p::ps,_,0,_,⟨x,r,e,h,t⟩,q=>by
  subst e;simp at q;subst q;exact⟨x,rfl,h⟩
 | p::ps,_,i+1,q,⟨x,r,e,h,t⟩,z=>by
  subst e;obtain⟨y,h1,h2⟩:=aE.get (i:=i) (p:=q) t (by simpa using z);exact⟨y,by simpa using h1,h2⟩
theorem aE.take:∀{ps:List PV}{xs:List V}(n:Nat),aE K H ps xs->aE K H (ps.take n) (xs.take n)
 | _,_,0,_=>by simp;rfl
 | [],_,n+1,h=>by cases h;rfl
 | p::ps,_,n+1,⟨x,r,e,h,t⟩=>by subst e;exact⟨x,_,rfl,h,aE.take n t⟩
theorem aE.drop:∀{ps:List PV}{xs:List V}(n:Nat),aE K H ps xs->aE K H (ps.drop n) (xs.drop n)
 | _,_,0,h=>by simpa using h
 | [],_,n+1,h=>by cases h;rfl
 | p::ps,_,n+1,⟨x,r,e,h,t⟩=>by subst e;simpa using aE.drop n t
end
theorem _root_.L2.Inv.reH{X:Cx}{pins:List (Addr×Obj)}{σ:L2.St}{H H':Hp}{s:HC}(I:Inv X pins σ H s){a:Addr}{u u':HO}(hu:H a=some u)(h':H'=upd H a u')
  (nf:xU u=false) (nt:∀ps,u≠.tbl ps) (no:∀x,u≠.own x) (hok:cX X.prog X.w H' s.heap a u'):Inv X pins σ H' s:=by
 subst h';have keepT:∀b xs,H b=some (.tup xs)->(upd H a u') b=some (.tup xs):=fun b xs e=>Kp.upd hu nf b _ e rfl
 have keepO:∀b x,H b=some (.own x)->(upd H a u') b=some (.own x):=fun b x e=>by
  have:b≠a:=fun z=>by
   subst z;rw[hu] at e;cases e;exact no x rfl
  rw[az this];exact e
 have hn:∀b,H b=none->(upd H a u') b=none:=fun b e=>by
  have:b≠a:=fun z=>by
   subst z;rw[hu] at e;cases e
  rw[az this];exact e
 refine⟨I.ok,I.os,I.bare,⟨I.base.keep,I.base.slot,fun b o e n x=>hn b (I.base.free b o e n x),I.base.there,fun b xs e=>keepT b xs (I.base.tups b xs e),
  fun b o w e=>Kp.upd hu nf b _ (I.base.frzs b o w e) rfl,fun b ps e=>?_⟩,I.loc,I.cell,hn _ I.free,fun x c e=>hn c (I.freeC x c e),fun p hp=>?_,fun b o e=>?_,I.len⟩
 ·obtain⟨more,q⟩:=I.base.tbls b ps e
  have:b≠a:=fun z=>by
   subst z;rw[hu] at q;cases q;exact nt _ rfl
  exact⟨more,by rw[az this];exact q⟩
 ·obtain⟨h1,h2,h3⟩:=I.pin p hp
  exact⟨h1,hn _ h2,h3⟩
 ·by_cases hb:b=a
  ·subst hb
   rw[ax] at e;cases e;exact hok
  ·rw[az hb] at e
   exact(I.hok b o e).stay (fun c v _ r=>r) (fun c r=>keepO c b r) keepT
theorem _root_.L2.Inv.frz{X:Cx}{pins:List (Addr×Obj)}{σ:L2.St}{H:Hp}{s:HC}{a:Addr}{p:PV}(I:Inv X pins σ H s)(n:bY X.K H a p) :
  ∃H',Inv X pins σ H' s/\Rep X.K H' p (.ref a)/\∀b,b≠a->H' b=H b:=by
 cases p with
 | lst ps=>
  obtain⟨xs,q,r⟩:=n;obtain⟨z,its,m,rv,e⟩:=I.hok a _ q;refine⟨upd H a (.frz _ (.lst xs)),I.reH q rfl rfl (by intro _ h;cases h) (by intro _ h;cases h) ⟨e,z,its,m,rv,e⟩,⟨a,xs,rfl,.inl ⟨_,ax⟩,r.kp (Kp.upd q rfl)⟩,fun b hb=>az hb⟩
 | dct ks ps=>
  obtain⟨kvs,q,ek,r⟩:=n;obtain⟨z,hs,vs,rv,o,es,ep,e,rest⟩:=I.hok a _ q;refine⟨upd H a (.frz o (.dK kvs)),I.reH q rfl rfl (by intro _ h;cases h) (by intro _ h;cases h) ⟨e,z,hs,vs,rv,o,es,ep,e,rest⟩,⟨a,kvs,rfl,.inl ⟨_,ax⟩,ek,r.kp (Kp.upd q rfl)⟩,fun b hb=>az hb⟩
 | dtt ks ps=>
  obtain⟨kvs,q,ek,r⟩:=n;obtain⟨z,hs,ys,rv,o,es,ep,e,rest⟩:=I.hok a _ q;refine⟨upd H a (.frz o (.dT kvs)),I.reH q rfl rfl (by intro _ h;cases h) (by intro _ h;cases h) ⟨e,z,hs,ys,?_,o,es,ep,e,rest⟩,⟨a,o,kvs,rfl,ax,ek,r.kp (Kp.upd q rfl)⟩,fun b hb=>az hb⟩;exact Paired.mapP rv fun p1 q1 ⟨h1,h2,h3⟩=>⟨h1,h2.keeps fun b ys hb=>Kp.upd q rfl _ _ hb rfl,h3⟩
 | _=>exact HJ n
theorem bY.nt{K:HA}{H:Hp}{a:Addr}{p:PV}(h:bY K H a p):∀u,H a=some u->xU u=false/\Au u=false:=fun u e=>by
 cases p with
 | lst ps=>obtain⟨_,w,_⟩:=h;rw[w] at e;cases e;exact⟨rfl,rfl⟩
 | dct ks ps=>obtain⟨_,w,_⟩:=h;rw[w] at e;cases e;exact⟨rfl,rfl⟩
 | dtt ks ps=>obtain⟨_,w,_⟩:=h;rw[w] at e;cases e;exact⟨rfl,rfl⟩
 | _=>exact HJ h
end PU
namespace PU
open PySem PySem.Spec PyProof.Rows L2
variable[TW]
structure Cn where
 X:Cx
 Ac:PX->Hp->Prop
def Ax(K:HA)(H:Hp)(x:Option (Option V)):Sl->Prop
 | .no=>True
 | .val p=>∃v,x=some (some v)/\Rep K H p v
 | .own p=>∃a,x=some (some (.ref a))/\bY K H a p
 | .pin ps a=>x=some (some (.ref a))/\bY K H a (.lst ps)
structure View(K:HA)(H:Hp)(σ:L2.St)(ρ:PSt):Prop where
 at_:∀(i:Nat)(l:Sl),ρ[i]?=some l->Ax K H σ[i]? l
 tb:qZ H
instance {K:HA} {H:Hp} {σ:L2.St} {ρ:PSt}:CoeFun (View K H σ ρ) (fun _=>∀(i:Nat)(l:Sl),ρ[i]?=some l->Ax K H σ[i]? l):=⟨@View.at_ _ K H σ ρ⟩
theorem Ax.same{K:HA}{H H':Hp}{x:Option (Option V)}{l:Sl}(h:Ax K H x l)(s:Same H H'):Ax K H' x l:=by
 cases l with
 | no=>exact trivial
 | val p=>obtain⟨v,e,r⟩:=h;exact⟨v,e,r.same s⟩
 | own p=>obtain⟨a,e,r⟩:=h;exact⟨a,e,r.same s⟩
 | pin ps a=>exact⟨h.1,bY.same h.2 s⟩
theorem View.same{K:HA}{H H':Hp}{σ:L2.St}{ρ:PSt}(h:View K H σ ρ)(s:Same H H'):View K H' σ ρ:=⟨fun i l e=>(h i l e).same s,s.tabs h.tb⟩
def RQ(C:Cn)(H:Hp){α:Type}(r:R α)(k:α->Prop):Prop:=
 match r with
 | .ok a=>k a
 | .er x=>∀H',Same H H'->C.Ac x H'
 | .no=>False
section
variable{C : Cn}{H H' : Hp}{α β : Type}{r : R α}{k k' : α → Prop}
theorem RQ.imp(h:RQ C H r k)(f:∀a,r=.ok a->k a->k' a):RQ C H r k':=by
 cases r with
 | ok a=>exact f a rfl h
 | er x=>exact h
 | no=>exact h
theorem RQ.same(h:RQ C H r k)(s:Same H H'):RQ C H' r k:=by
 cases r with
 | ok a=>exact h
 | er x=>exact fun H2 s2=>h H2 (s.trans s2)
 | no=>exact h
theorem RQ.bind{f:α->R β}{m:β->Prop}(h:RQ C H (r >>= f) m):RQ C H r fun a=>RQ C H (f a) m:=by
 cases r <;> exact h
theorem RQ.ofO{o:Option α}(h:RQ C H (R.ofO o) k):∃a,o=some a/\k a:=by
 cases o with
 | none=>exact HJ h
 | some a=>exact⟨a,rfl,h⟩
end
def tV(C:Cn)(f:PSt->R PV):TE:=fun σ H Q=>∃ρ,View C.X.K H σ ρ/\RQ C H (f ρ) fun p=>∀v H',Same H H'->Rep C.X.K H' p v->Q v H'
def tO(C:Cn)(f:PSt->R PV):TE:=fun σ H Q=>∃ρ,View C.X.K H σ ρ/\RQ C H (f ρ) fun p=>∀v H',Same H H'->b8 C.X.K H' p v->Q v H'
def tN(C:Cn)(f:PSt->R PV):TE:=fun σ H Q=>∃ρ,View C.X.K H σ ρ/\RQ C H (f ρ) fun p=>∀a H',Same H H'->H a=none->bY C.X.K H' a p->Q (.ref a) H'
def tAs(C:Cn)(f:PSt->R (List PV)):TA:=fun σ H Q=>∃ρ,View C.X.K H σ ρ/\RQ C H (f ρ) fun ps=>∀vs H',Same H H'->aE C.X.K H' ps vs->Q vs H'
def tBl(C:Cn)(f:PSt->R Bool):TT:=fun σ H Q=>∃ρ,View C.X.K H σ ρ/\RQ C H (f ρ) fun b=>∀H',Same H H'->Q b H'
def EV(C:Cn)(e:Expr)(f:PSt->R PV):Prop:=PE C.X e (tV C f)
def EO(C:Cn)(e:Expr)(f:PSt->R PV):Prop:=PE C.X e (tO C f)
def EN(C:Cn)(e:Expr)(f:PSt->R PV):Prop:=PE C.X e (tN C f)
def EA(C:Cn)(es:List Expr)(f:PSt->R (List PV)):Prop:=PA C.X es (tAs C f)
def ET(C:Cn)(e:Expr)(f:PSt->R Bool):Prop:=PT C.X e (tBl C f)
def EW(C:Cn)(e:Expr)(f:PSt->R Bool):Prop:=PW C.X e (tBl C f)
section
variable{C : Cn}{e a b c : Expr}{es : List Expr}{f fa fb fc : PSt → R PV}{fs : PSt → R (List PV)}{pos : JO}
theorem EV.o(h:EV C e f):EO C e f:=fun pins s σ H Q I ⟨ρ,vw,q⟩=>h pins s σ H Q I ⟨ρ,vw,q.imp fun _ _ k v H' sm r=>k v H' sm r.o⟩
theorem EN.o(h:EN C e f):EO C e f:=fun pins s σ H Q I ⟨ρ,vw,q⟩=>h pins s σ H Q I ⟨ρ,vw,q.imp fun _ _ k a H' sm _ r=>k (.ref a) H' sm r.o⟩
theorem EN.v(h:EN C e f):EV C e f:=by
 intro pins s σ H Q I ⟨ρ,vw,q⟩;cases hf:f ρ with
 | ok p=>
  rw[hf] at q;refine thn (h pins s σ H (fun v H'=>∃a,v=.ref a/\Same H H'/\H a=none/\bY C.X.K H' a p) I ⟨ρ,vw,by rw[hf];exact fun a H' sm n w=>⟨a,rfl,sm,n,w⟩⟩) fun u s' ⟨v,H',I',rv,a,ev,sm,na,w⟩=>?_;obtain⟨H2,I2,rp,oth⟩:=I'.frz w;subst ev;exact⟨.ref a,H2,I2,rv,q _ H2 (sm.but na (fun u h=>(w.nt u h).1) oth) rp⟩
 | er x=>
  rw[hf] at q;exact h pins s σ H Q I ⟨ρ,vw,by rw[hf];exact q⟩
 | no=>
  rw[hf] at q;exact HJ q
theorem Cs (i:Nat) {x:Str} (hN:C.X.N[i]?=some x) (hv:Vis C.X.env.scope x) (hd:(x == ("__debug__":Str))=false:=by decide) (hcd:(x == ("__classdict__":Str))=false:=by decide):EV C (.Name x pos) (af i):=by
 intro pins s σ H Q I ⟨ρ,vw,q⟩;unfold af at q;split at q
 ·rename_i p e
  obtain⟨v,ev,r⟩:=vw i _ e;exact fF hN hv hd hcd pins s σ H Q I ⟨v,ev,q v H (Same.refl H) r⟩
 ·exact HJ q
theorem Cz (i:Nat) {x:Str} (hN:C.X.N[i]?=some x) (hv:Vis C.X.env.scope x) (hd:(x == ("__debug__":Str))=false:=by decide) (hcd:(x == ("__classdict__":Str))=false:=by decide):EO C (.Name x pos) (lj i):=by
 intro pins s σ H Q I ⟨ρ,vw,q⟩;unfold lj at q;split at q
 ·rename_i p e
  obtain⟨v,ev,r⟩:=vw i _ e;exact fF hN hv hd hcd pins s σ H Q I ⟨v,ev,q v H (Same.refl H) r.o⟩
 ·rename_i p e
  obtain⟨v,ev,r⟩:=vw i _ e;exact fF hN hv hd hcd pins s σ H Q I ⟨_,ev,q _ H (Same.refl H) r.o⟩
 ·rename_i ps a e
  obtain⟨ev,r⟩:=vw i _ e;exact fF hN hv hd hcd pins s σ H Q I ⟨_,ev,q _ H (Same.refl H) r.o⟩
 ·exact HJ q
theorem aN{i j}:EV C (.Constant (.int i) j pos) (kI i):=fun pins s σ H Q I ⟨_,_,q⟩=>Bs pins s σ H Q I (q _ H (Same.refl H) rfl)
theorem uf{i j}:EV C (.Constant (.bool i) j pos) (kB i):=fun pins s σ H Q I ⟨_,_,q⟩=>Ej pins s σ H Q I (q _ H (Same.refl H) rfl)
theorem nQ{j}:EV C (.Constant .none j pos) kN:=fun pins s σ H Q I ⟨_,_,q⟩=>Bq pins s σ H Q I (q _ H (Same.refl H) rfl)
theorem aI{x j}:EV C (.Constant (.str x) j pos) (kS x):=fun pins s σ H Q I ⟨_,_,q⟩=>Bo pins s σ H Q I (q _ H (Same.refl H) rfl)
theorem zH {x:Str} {v:V} {u:HB} {p:PV} (hg:Gl C.X x) (hm:C.X.mg x=some u) (r:RelV v u) (rp:∀H,Rep C.X.K H p v) (hd:(x == ("__debug__":Str))=false:=by decide):EV C (.Name x pos) (kP p):=
 fun pins s σ H Q I ⟨_,_,q⟩=>yU hg hm r hd pins s σ H Q I (q _ H (Same.refl H) (rp H))
theorem ai:EA C [] aM:=fun pos pins s σ H Q I ⟨_,_,q⟩=>gC pos pins s σ H Q I (q [] H (Same.refl H) aE.nil)
theorem a0(ha:EV C e f)(hr:EA C es fs)(hs:Hw (e::es) C.X.env=(false,J8 e C.X.env)::Hw es C.X.env:=by exact c6 rfl):EA C (e::es) (aa f fs):=by
 intro pos pins s σ H Q I ⟨ρ,vw,q⟩;refine cK ha hr hs pos pins s σ H Q I ⟨ρ,vw,q.bind.imp fun p _ k v H1 s1 r1=>⟨ρ,vw.same s1,(k.bind.same s1).imp fun ps _ k2 vs H2 s2 r2=>?_⟩⟩;exact k2 (v::vs) H2 (s1.trans s2) (aE.cons (r1.same s2) r2)
def tA1(C:Cn)(f:PSt->R PV):TA:=fun σ H Q=>∃ρ,View C.X.K H σ ρ/\RQ C H (f ρ) fun p=>∀v H',Same H H'->b8 C.X.K H' p v->Q [v] H'
theorem pU(ha:EO C e f)(hs:Hw [e] C.X.env=[(false,J8 e C.X.env)]:=by exact cg rfl):PA C.X [e] (tA1 C f):=by
 intro pos pins s σ H Q I ⟨ρ,vw,q⟩;exact cK ha gC hs pos pins s σ H Q I ⟨ρ,vw,q⟩
theorem Same.new{H:Hp}{a:Addr}{o:HO}(h:H a=none):Same H (upd H a o):=.of fun b u e=>by
 rw[az (bp e h)];exact e
theorem jM{C:Cn}{H:Hp}{ps:List PV}{β:Type}{g:List PV->R β}{k:β->Prop}(h:RQ C H (fh ps >>= g) k):ps.length<=sizeLine/\RQ C H (g ps) k:=by
 unfold fh at h
 by_cases hz:ps.length<=16777216
 ·rw[if_pos hz] at h
  exact⟨by rw[Il];exact hz,h⟩
 ·rw[if_neg hz] at h
  exact HJ h
theorem aR{k}(h:EA C es fs):EV C (.Tuple es k pos) (dF fs):=by
 intro pins s σ H Q I ⟨ρ,vw,q⟩;refine Bm h pins s σ H Q I ⟨ρ,vw,q.bind.imp fun ps _ k vs H1 s1 r1=>?_⟩;obtain⟨z,k⟩:=jM k;refine⟨by rw[← r1.length];exact z,fun p hp=>?_⟩;exact k _ _ (s1.trans (Same.new hp)) ⟨p,vs,rfl,ax,r1.same (Same.new hp)⟩
theorem eB(h:EA C es fs):EN C (.List es pos) (o5 fs):=by
 intro pins s σ H Q I ⟨ρ,vw,q⟩;refine Br h pins s σ H Q I ⟨ρ,vw,q.bind.imp fun ps _ k vs H1 s1 r1=>?_⟩;obtain⟨z,k⟩:=jM k;refine⟨by rw[← r1.length];exact z,fun p hp=>?_⟩;exact k p _ (s1.trans (Same.new hp)) (s1.free hp) ⟨vs,ax,r1.same (Same.new hp)⟩
def rP(K:HA)(g:PV->PV->Option PV):R2:=fun v u H Q=>∃p q z,b8 K H p v/\b8 K H q u/\g p q=some z/\∀w H',Same H H'->Rep K H' z w->Q w H'
theorem t2{σ:L2.St}{H:Hp}{Q:VK}{ρ:PSt}{g:PV->PV->Option PV}{r:R2}(vw:View C.X.K H σ ρ)(q:RQ C H (ak fa fb g ρ) fun p=>∀v H',Same H H'->Rep C.X.K H' p v->Q v H')
  (hr:∀v u H' Q',rP C.X.K g v u H' Q'->r v u H' Q'):tOp r (tO C fa) (tO C fb) σ H Q:=by
 refine⟨ρ,vw,q.bind.imp fun p _ k v H1 s1 r1=>⟨ρ,vw.same s1,(k.bind.same s1).imp fun p2 _ k2 u H2 s2 r2=>?_⟩⟩;obtain⟨z,ez,k3⟩:=k2.ofO;exact hr _ _ _ _ ⟨p,p2,z,r1.same s2,r2,ez,fun w H3 s3 r3=>k3 w H3 ((s1.trans s2).trans s3) r3⟩
theorem ar{op:Operator}{g:PV->PV->Option PV}(ho:OpR C.X (KC op) (rP C.X.K g))(ha:EO C a fa)(hb:EO C b fb):EV C (.BinOp a op b pos) (ak fa fb g):=by
 intro pins s σ H Q I ⟨ρ,vw,q⟩;exact Eh ho ha hb pins s σ H Q I (t2 vw q fun _ _ _ _ h=>h)
theorem gR{op:CmpOp}{g:PV->PV->Option PV}(ho:OpR C.X (Ia op) (rP C.X.K g))(ha:EO C a fa)(hb:EO C b fb)(hm:Kj op b=false:=by first | exact xF _ | with_unfolding_all rfl):EV C (.Compare a [op] [b] pos) (ak fa fb g):=by
 intro pins s σ H Q I ⟨ρ,vw,q⟩;exact yW ho ha hb hm pins s σ H Q I (t2 vw q fun _ _ _ _ h=>h)
theorem ao{g:PV->PV->Option PV}(ho:IxR C.X (rP C.X.K g))(ha:EO C a fa)(hb:EO C b fb)(hs:uU b:=by exact fun _ _=>rfl):EV C (.Subscript a b pos) (ak fa fb g):=by
 intro pins s σ H Q I ⟨ρ,vw,q⟩;exact Ei ho ha hb hs pins s σ H Q I (t2 vw q fun _ _ _ _ h=>h)
end
end PU
namespace PU
open PySem PySem.Spec PyProof.Rows L2
variable[TW]
section
variable{X : Cx}{pins : List (Addr×Obj)}{σ : L2.St}{H : Hp}{s : HC}
theorem DkR.at{a:Addr}{kvs:List (Key×V)}(hw:X.w=TW.w)(I:Inv X pins σ H s)(h:DkR X.K H a kvs) :
  kvs.length<=sizeLine/\(a == Im)=false/\∃vs,KV kvs vs/\s.heap.DictOf (au X.prog X.w) a vs:=by
 rcases h with h | h
 ·exact zM I.hok h
 ·exact⟨h.1,h.2.1,h.at _ _ hw _ I.kIn⟩
theorem zd{ys:List V}{its:List HB}{ps:List PV}(I:Inv X pins σ H s)(hv:Vals ys its)(hz:ys.length<=sizeLine)(hr:aE X.K H ps ys)(t':Nat) :
  ∃H',Inv X pins σ H' { s with heap:=s.heap.push { cls:=.type "list",data:=.seq its.toArray },toks:=t' }/\Same H H'/\Rep X.K H' (.lst ps) (.ref s.heap.objs.size):=by
 have I1:=I.lnew (t':=t') hv hz;have nf:H s.heap.objs.size=none:=I.fresh;obtain⟨H',I2,rp,oth⟩:=L2.Inv.frz (a:=s.heap.objs.size) (p:=.lst ps) I1 ⟨ys,ax,hr.same (Same.new nf)⟩;refine⟨H',I2,.of fun b o e=>?_,rp⟩;have hb:=bp e nf;rw[oth b hb,az hb];exact e
theorem b8.lst_inv{K:HA}{H:Hp}{ps:List PV}{v:V}(h:b8 K H (.lst ps) v):∃a xs,v=.ref a/\SqO K H a xs/\aE K H ps xs:=h
theorem b8.tup_inv{K:HA}{H:Hp}{ps:List PV}{v:V}(h:b8 K H (.tup ps) v):∃a xs,v=.ref a/\SqT K H a xs/\aE K H ps xs:=by
 obtain⟨a,xs,e,q,r⟩:=(show ∃a xs,v=.ref a/\H a=some (.tup xs)/\aE K H ps xs from h);exact⟨a,xs,e,.inl (.inl q),r⟩
end
theorem wX{prog:HX}{w:IA}{A:IL}{E:HB->HC->Prop}{s:HC}{t b:Addr}{vs ws:List HB}{Q:HB->HC->Prop}(ht:IsTup s.heap t vs.toArray)(hb:IsTup s.heap b ws.toArray)
  (h0:vs=[]->Q (.ref b) s) (h1:ws=[]->Q (.ref t) s) (h2:Q (.ref s.heap.objs.size) { s with heap:=s.heap.push { cls:=.type "tuple",data:=.seq (vs++ws).toArray } })
  (hsz:vs.length+ws.length<=sizeLine):Hx (IK prog w) A (KC .Add (.ref t) (.ref b)) Q E s:=by
 obtain⟨⟨cls,dd,data,sl⟩,ho,hc,n,hd⟩:=id ht;obtain⟨⟨cls2,dd2,data2,sl2⟩,ho2,hc2,n2,hd2⟩:=id hb;simp only at hc hd hc2 hd2;subst hc hd hc2 hd2;have e:vs.toArray++ws.toArray=(vs++ws).toArray:=by simp
 by_cases hv:vs=[]
 ·exact Nz ⟨_,ho,rfl⟩ ⟨_,ho2,rfl⟩ MZ NZ Ky Ku (Kr _ _)
   (tuple_addW0 t b vs.toArray ws.toArray n n2 dd dd2 sl sl2 (by simp[hv])) ⟨ho,ho2,h0 hv⟩
 ·by_cases hw:ws=[]
  ·exact Nz ⟨_,ho,rfl⟩ ⟨_,ho2,rfl⟩ MZ NZ Ky Ku (Kr _ _)
    (tuple_addW1 t b vs.toArray ws.toArray n n2 dd dd2 sl sl2 (by simpa using hv) (by simp[hw])) ⟨ho,ho2,h1 hw⟩
  ·refine Nz ⟨_,ho,rfl⟩ ⟨_,ho2,rfl⟩ MZ NZ Ky Ku (Kr _ _)
    (tuple_addW2 t b vs.toArray ws.toArray n n2 dd dd2 sl sl2 (by simpa using hv) (by simpa using hw) (by rw[Hz,Hz];exact hsz)) ⟨ho,ho2,?_⟩
   rw[e];exact h2
section
variable{X : Cx}
theorem s8{f:HB->HB->Sem HB}{g:PV->PV->Option PV}{r:R2}(h:OpR X f r)
  (hg:∀(p q z:PV),g p q=some z->∃i j,p=.int i/\q=.int j/\∃w:V,(∀K H,Rep K H z w)/\∀H Q,Q w H->r (.int i) (.int j) H Q):OpR X f (rP X.K g):=by
 intro pins s σ H x y v u Q I rx ry ⟨p,q,z,hp,hq,e,k⟩;obtain⟨i,j,rfl,rfl,w,hw,hr⟩:=hg p q z e;cases (show x=.int i from hp);cases (show y=.int j from hq);exact h pins s σ H _ _ v u Q I rx ry (hr H Q (k w H (Same.refl H) (hw _ _)))
theorem sE:OpR X (KC .Mult) (rP X.K qN):=s8 Bv fun p q z e=>by
 unfold qN at e;split at e
 ·rename_i i j
  split at e
  ·rename_i hc
   cases e;exact⟨i,j,rfl,rfl,_,fun _ _=>rfl,fun H Q q=>⟨i,j,rfl,rfl,hc.imp (fun h=>⟨by omega,by omega⟩) (fun h=>⟨by omega,by omega⟩),q⟩⟩
  ·cases e
 ·cases e
theorem qF:OpR X (KC .FloorDiv) (rP X.K rj):=s8 yY fun p q z e=>by
 unfold rj at e;split at e
 ·rename_i i j
  split at e
  ·rename_i hc
   cases e;exact⟨i,j,rfl,rfl,_,fun _ _=>rfl,fun H Q q=>⟨i,j,rfl,rfl,hc,q⟩⟩
  ·cases e
 ·cases e
theorem bK:OpR X (KC .Mod) (rP X.K cU):=s8 Bw fun p q z e=>by
 unfold cU at e;split at e
 ·rename_i i j
  split at e
  ·rename_i hc
   cases e;exact⟨i,j,rfl,rfl,_,fun _ _=>rfl,fun H Q q=>⟨i,j,rfl,rfl,hc,q⟩⟩
  ·cases e
 ·cases e
theorem dy:OpR X (KC .Add) (rP X.K eo):=by
 intro pins s σ H x y v u Q I rx ry ⟨p,q,z,hp,hq,e,k⟩;have hs:=Il;unfold eo at e;split at e
 ·rename_i i j
  cases e;cases (show x=.int i from hp);cases (show y=.int j from hq);exact By pins s σ H _ _ v u Q I rx ry ⟨i,j,rfl,rfl,k _ H (Same.refl H) rfl⟩
 ·rename_i i j
  split at e
  ·rename_i hc
   cases e;cases (show x=.str i from hp);cases (show y=.str j from hq);exact qE pins s σ H _ _ v u Q I rx ry ⟨i,j,rfl,rfl,by omega,k _ H (Same.refl H) rfl⟩
  ·cases e
 ·rename_i ps qs
  split at e
  ·rename_i hc
   cases e;obtain⟨a,xs,rfl,hx,r1⟩:=hp;obtain⟨b,ys,rfl,hy,r2⟩:=hq;cases rx;cases ry;obtain⟨hz,its,n,rv,e1⟩:=hx.is I;obtain⟨hz2,its2,n2,rv2,e2⟩:=hy.is I;have l1:=r1.length;have l2:=r2.length;have l3:=rv.length;have l4:=rv2.length;have ea:its.toArray++its2.toArray=(its++its2).toArray:=by simp
   refine PySem.P.add_list e1 e2 ?_ (by simp only[Hz];omega);rw[ea];obtain⟨H',I',sm,rp⟩:=zd I (rv.append rv2) (by rw[Hv];omega) (r1.append r2) s.toks;exact⟨.ref _,H',I',rfl,k _ H' sm rp⟩
  ·cases e
 ·rename_i ps qs
  split at e
  ·rename_i hc
   cases e;obtain⟨a,xs,rfl,hx,r1⟩:=b8.tup_inv hp;obtain⟨b,ys,rfl,hy,r2⟩:=b8.tup_inv hq;cases rx;cases ry;obtain⟨its,rv,pl,hz⟩:=I.tuple hx;obtain⟨its2,rv2,pl2,hz2⟩:=I.tuple hy;have l1:=r1.length;have l2:=r2.length;have l3:=rv.length;have l4:=rv2.length;refine wX pl pl2 (fun z=>?_) (fun z=>?_) ?_ (by omega)
   ·subst z
    have:ps=[]:=Ik (by rw[l1,l3];rfl);subst this;exact⟨.ref b,H,I,rfl,k _ H (Same.refl H) hq⟩
   ·subst z
    have:qs=[]:=Ik (by rw[l2,l4];rfl);subst this;rw[Iy] at k;exact⟨.ref a,H,I,rfl,k _ H (Same.refl H) hp⟩
   ·have nf:H s.heap.objs.size=none:=I.fresh
    refine⟨.ref s.heap.objs.size,_,I.laid (t':=s.toks) (o:=.tup (xs++ys)) (fun b ob q=>HH _ q) (Hu _) ?_,rfl,k _ _ (Same.new nf) ⟨_,xs++ys,rfl,ax,(r1.append r2).same (Same.new nf)⟩⟩;exact⟨by rw[Hv];omega,_,rv.append rv2,xc.new _ _⟩
  ·cases e
 ·cases e
end
end PU
namespace PU
open PySem PySem.Spec PyProof.Rows L2
variable[TW]
structure StOk(K:HA)(B:Hp×Hp)(H:Hp)(σ:L2.St)(ρ:PSt):Prop where
 len:ρ.length=σ.length
 same:Same B.1 H
 kp:Kp B.2 H
 vw:View K H σ ρ
 fresh:∀(i:Nat)(p:PV)(a:Addr),ρ[i]?=some (.own p)->σ[i]?=some (some (.ref a))->B.1 a=none
 apart:∀(i j:Nat)(p q:PV)(a:Addr),ρ[i]?=some (.own p)->ρ[j]?=some (.own q)->σ[i]?=some (some (.ref a))->σ[j]?=some (some (.ref a))->i=j
 pinned:∀(i:Nat)(ps:List PV)(a:Addr),ρ[i]?=some (.pin ps a)->B.1 a≠none
section
variable{K : HA}{B : Hp×Hp}{H H' : Hp}{σ : L2.St}{ρ : PSt}{i : Nat}{p q : PV}{v : V}{a : Addr}
theorem StOk.grow(S:StOk K B H σ ρ)(s:Same H H'):StOk K B H' σ ρ:=⟨S.len,S.same.trans s,S.kp.trans (Same.kp s),S.vw.same s,S.fresh,S.apart,S.pinned⟩
theorem bW{α:Type}{l:List α}{i j:Nat}{x y:α}(h:(l.set i x)[j]?=some y):(j=i/\y=x/\i<l.length)\/(j≠i/\l[j]?=some y):=by
 rw[Lv] at h
 by_cases e:i=j
 ·subst e
  rw[if_pos rfl] at h;split at h
  ·rename_i hl
   cases h;exact .inl ⟨rfl,rfl,hl⟩
  ·cases h
 ·rw[if_neg e] at h
  exact .inr ⟨fun z=>e z.symm,h⟩
theorem bq{α:Type}{l:List α}{i j:Nat}{x:α}(h:j≠i):(l.set i x)[j]?=l[j]?:=by
 rw[Lv,if_neg fun z=>h z.symm]
theorem dj{α:Type}{l:List α}{i:Nat}{x:α}(h:i<l.length):(l.set i x)[i]?=some x:=by
 rw[Lv,if_pos rfl,if_pos h]
theorem StOk.setV(S:StOk K B H σ ρ)(r:Rep K H p v):StOk K B H (σ.set i (some v)) (ρ.set i (.val p)):=by
 refine⟨by simp[S.len],S.same,S.kp,⟨fun j l e=>?_,S.vw.tb⟩,fun j q b e f=>?_,fun j k q q' b e1 e2 f1 f2=>?_,fun j qs b e=>?_⟩
 ·rcases bW e with⟨rfl,rfl,hl⟩|⟨hj,e⟩
  ·exact⟨v,dj (by rw[← S.len];exact hl),r⟩
  ·rw[bq hj]
   exact S.vw j l e
 ·rcases bW e with⟨_,z,_⟩|⟨hj,e⟩
  ·cases z
  ·rw[bq hj] at f
   exact S.fresh j q b e f
 ·rcases bW e1 with⟨_,z,_⟩|⟨hj,e1⟩
  ·cases z
  ·rcases bW e2 with⟨_,z,_⟩|⟨hk,e2⟩
   ·cases z
   ·rw[bq hj] at f1
    rw[bq hk] at f2;exact S.apart j k q q' b e1 e2 f1 f2
 ·rcases bW e with⟨_,z,_⟩|⟨hj,e⟩
  ·cases z
  ·exact S.pinned j qs b e
theorem StOk.setN(S:StOk K B H σ ρ)(s:Same H H')(n:H a=none)(r:bY K H' a p):StOk K B H' (σ.set i (some (.ref a))) (ρ.set i (.own p)):=by
 have other:∀(j:Nat)(q:PV),ρ[j]?=some (.own q)->σ[j]?≠some (some (.ref a)):=fun j q e f=>by
  obtain⟨b,e2,w⟩:=S.vw j _ e;rw[f] at e2;cases e2;cases q with
  | lst ps=>obtain⟨_,w,_⟩:=w;rw[n] at w;cases w
  | dct ks ps=>obtain⟨_,w,_⟩:=w;rw[n] at w;cases w
  | dtt ks ps=>obtain⟨_,w,_⟩:=w;rw[n] at w;cases w
  | _=>exact w
 refine⟨by simp[S.len],S.same.trans s,S.kp.trans (Same.kp s),⟨fun j l e=>?_,s.tabs S.vw.tb⟩,fun j q b e f=>?_,fun j k q q' b e1 e2 f1 f2=>?_,fun j qs b e=>?_⟩
 ·rcases bW e with⟨rfl,rfl,hl⟩|⟨hj,e⟩
  ·exact⟨a,dj (by rw[← S.len];exact hl),r⟩
  ·rw[bq hj]
   exact(S.vw j l e).same s
 ·rcases bW e with⟨rfl,_,hl⟩|⟨hj,e⟩
  ·rw[dj (by rw[← S.len];exact hl)] at f
   cases f;exact S.same.free n
  ·rw[bq hj] at f
   exact S.fresh j q b e f
 ·rcases bW e1 with⟨h1,_,hl⟩|⟨hj,d1⟩
  ·rcases bW e2 with⟨h2,_,_⟩|⟨hk,d2⟩
   ·rw[h1,h2]
   ·subst h1
    rw[dj (by rw[← S.len];exact hl)] at f1;cases f1;rw[bq hk] at f2;exact absurd f2 (other k q' d2)
  ·rcases bW e2 with⟨h2,_,hl⟩|⟨hk,d2⟩
   ·subst h2
    rw[dj (by rw[← S.len];exact hl)] at f2;cases f2;rw[bq hj] at f1;exact absurd f1 (other j q d1)
   ·rw[bq hj] at f1
    rw[bq hk] at f2;exact S.apart j k q q' b d1 d2 f1 f2
 ·rcases bW e with⟨_,z,_⟩|⟨hj,e⟩
  ·cases z
  ·exact S.pinned j qs b e
theorem bY.obj(h:bY K H a p):∃u,H a=some u/\xU u=false:=by
 cases p with
 | lst ps=>obtain⟨_,w,_⟩:=h;exact⟨_,w,rfl⟩
 | dct ks ps=>obtain⟨_,w,_⟩:=h;exact⟨_,w,rfl⟩
 | dtt ks ps=>obtain⟨_,w,_⟩:=h;exact⟨_,w,rfl⟩
 | _=>exact HJ h
theorem bY.kp(k:Kp H H')(e:H' a=H a)(h:bY K H a p):bY K H' a p:=by
 cases p with
 | lst ps=>obtain⟨xs,w,r⟩:=h;exact⟨xs,by rw[e];exact w,r.kp k⟩
 | dct ks ps=>obtain⟨xs,w,z,r⟩:=h;exact⟨xs,by rw[e];exact w,z,r.kp k⟩
 | dtt ks ps=>obtain⟨xs,w,z,r⟩:=h;exact⟨xs,by rw[e];exact w,z,r.kp k⟩
 | _=>exact h
theorem StOk.turn{l':Sl}(S:StOk K B H σ ρ)(e:ρ[i]?=some (.own p))(f:σ[i]?=some (some (.ref a)))(oth:∀b,b≠a->H' b=H b)(hl:Ax K H' (some (some (.ref a))) l')(hn:∀ps b,l'≠.pin ps b:=by intro _ _ h;cases h):StOk K B H' σ (ρ.set i l'):=by
 obtain⟨b,f2,w⟩:=S.vw i _ e;rw[f] at f2;cases f2;obtain⟨u,hu,nf⟩:=w.obj;have fa:=S.fresh i p a e f
 have k:Kp H H':=fun b u' eb fb=>by
  have:b≠a:=fun z=>by
   subst z;rw[hu] at eb;cases eb;rw[nf] at fb;cases fb
  rw[oth b this];exact eb
 have ne:∀(j:Nat)(q:PV)(b:Addr),j≠i->ρ[j]?=some (.own q)->σ[j]?=some (some (.ref b))->b≠a:=fun j q b hj e2 f2 z=>by
  subst z;exact hj (S.apart j i q p b e2 e f2 f)
 refine⟨by simp[S.len],S.same.but fa (fun u h=>(w.nt u h).1) oth,S.kp.trans k,⟨fun j l ej=>?_,S.vw.tb.but w.nt oth⟩,fun j q b ej fj=>?_,fun j m q q' b e1 e2 f1 f2=>?_,fun j qs b e=>?_⟩
 ·rcases bW ej with⟨rfl,rfl,hl2⟩|⟨hj,ej⟩
  ·rw[f]
   exact hl
  ·have:=S.vw j l ej
   cases l with
   | no=>exact trivial
   | val q=>obtain⟨v,e1,r⟩:=this;exact⟨v,e1,r.kp k⟩
   | own q=>
    obtain⟨b,e1,r⟩:=this;exact⟨b,e1,r.kp k (oth b (ne j q b hj ej e1))⟩
   | pin qs b=>
    exact⟨this.1,this.2.kp k (oth b fun z=>S.pinned j qs b ej (by rw[z];exact fa))⟩
 ·rcases bW ej with⟨rfl,_,_⟩|⟨hj,ej⟩
  ·rw[f] at fj
   cases fj;exact fa
  ·exact S.fresh j q b ej fj
 ·have fix:∀(j:Nat)(q:PV),(ρ.set i l')[j]?=some (.own q)->∃q',ρ[j]?=some (.own q'):=fun j q ej=>by
   rcases bW ej with⟨rfl,_,_⟩|⟨hj,ej⟩
   ·exact⟨p,e⟩
   ·exact⟨q,ej⟩
  obtain⟨q1,g1⟩:=fix j q e1;obtain⟨q2,g2⟩:=fix m q' e2;exact S.apart j m q1 q2 b g1 g2 f1 f2
 ·rcases bW e with⟨_,z,_⟩|⟨hj,e⟩
  ·exact absurd z.symm (hn qs b)
  ·exact S.pinned j qs b e
theorem StOk.rebase{B':Hp}(S:StOk K B H σ ρ)(k:Kp B' H):StOk K (B.1,B') H σ ρ:=⟨S.len,S.same,k,S.vw,S.fresh,S.apart,S.pinned⟩
end
def RS(C:Cn)(B:Hp×Hp)(D:Ends):R Fl->Prop
 | .ok (.next ρ)=>∀σ H,StOk C.X.K B H σ ρ->D.nx σ H
 | .ok (.brk ρ)=>∀σ H,StOk C.X.K B H σ ρ->D.bk σ H
 | .ok (.cont ρ)=>∀σ H,StOk C.X.K B H σ ρ->D.ct σ H
 | .ok (.ret p)=>∀v H,Same B.1 H->Rep C.X.K H p v->D.rt v H
 | .er x=>∀H,Same B.1 H->C.Ac x H
 | .no=>False
def tS(C:Cn)(g:PSt->R Fl):TS:=fun D σ H=>∃ρ B,StOk C.X.K B H σ ρ/\RS C B D (g ρ)
def SV(C:Cn)(st:Stmt)(g:PSt->R Fl):Prop:=PS C.X st (tS C g)
def SVs(C:Cn)(st:List Stmt)(g:PSt->R Fl):Prop:=PSs C.X st (tS C g)
section
variable{C : Cn}{B : Hp×Hp}{D : Ends}{H : Hp}{α : Type}
theorem RS.bind{r:R α}{g:α->R Fl}(h:RS C B D (r >>= g))(s:Same B.1 H):RQ C H r fun a=>RS C B D (g a):=by
 cases r with
 | ok a=>exact h
 | er x=>exact fun H' s'=>h H' (s.trans s')
 | no=>exact h
theorem RS.ofO{o:Option α}{g:α->R Fl}(h:RS C B D (R.ofO o >>= g)):∃a,o=some a/\RS C B D (g a):=by
 cases o with
 | none=>exact HJ h
 | some a=>exact⟨a,rfl,h⟩
end
section
variable{C : Cn}{st : Stmt}{sts a b body : List Stmt}{e tg iter c : Expr}{f fk : PSt → R PV}{g g' : PSt → R Fl}{pos : JO}{t : PSt → R Bool}
theorem bg:SVs C [] cE:=fun pins s σ H D I ⟨ρ,B,S,h⟩=>se pins s σ H D I (h σ H S)
theorem ab(h1:SV C st g)(h2:SVs C sts g'):SVs C (st::sts) (aT g g'):=by
 intro pins s σ H D I ⟨ρ,B,S,h⟩;refine fU h1 h2 pins s σ H D I ⟨ρ,B,S,?_⟩;unfold aT at h;cases hg:g ρ with
 | ok fl=>
  rw[hg] at h;cases fl with
  | next ρ'=>exact fun σ' H' S'=>⟨ρ',B,S',h⟩
  | brk ρ'=>exact h
  | cont ρ'=>exact h
  | ret p=>exact h
 | er x=>rw[hg] at h;exact h
 | no=>rw[hg] at h;exact h
theorem aj(h1:SV C st g):SVs C [st] g:=by
 intro pins s σ H D I ⟨ρ,B,S,h⟩;exact lO h1 pins s σ H D I ⟨ρ,B,S,h⟩
theorem vD:SV C (.Break pos) CV:=fun pins s σ H D I ⟨ρ,B,S,h⟩=>vV pins s σ H D I (h σ H S)
theorem aJ(he:EV C e f):SV C (.Return (some e) pos) (cJ f):=by
 intro pins s σ H D I ⟨ρ,B,S,h⟩;exact pb he pins s σ H D I ⟨ρ,S.vw,(h.bind S.same).imp fun p _ k v H' s' r=>k v H' (S.same.trans s') r⟩
theorem du(hc:ET C c t)(ha:SVs C a g)(hb:SVs C b g'):SV C (.If c a b pos) (ifF t g g'):=by
 intro pins s σ H D I ⟨ρ,B,S,h⟩;refine Bi hc ha hb pins s σ H D I ⟨ρ,S.vw,(h.bind S.same).imp fun k _ q H' s'=>?_⟩;cases k with
 | true=>exact Ar ⟨ρ,B,S.grow s',q⟩
 | false=>exact As ⟨ρ,B,S.grow s',q⟩
theorem aH(i:Nat){x:Str}{pos':JO}(hN:C.X.N.Nodup)(he:EV C e f)(hs:KL e (some (.Name x pos')) pos.line C.X.env=pure false:=by rfl)
  (hf:C.X.fn x=true\/C.X.env.scope.names.lookup x=some .local:=by first | exact .inl rfl | exact .inr rfl | assumption) (hi:C.X.N[i]?=some x:=by rfl) (hx:Loc C.X.env.scope x:=by first | exact .inl rfl | exact .inr rfl) :
  SV C (.Assign [.Name x pos'] e pos) (bZ i f):=by
 intro pins s σ H D I ⟨ρ,B,S,h⟩;exact sf hN hi hx he hs hf pins s σ H D I ⟨ρ,S.vw,(h.bind S.same).imp fun p _ k v H' s' r=>k _ H' ((S.grow s').setV r)⟩
theorem g9(i:Nat){x:Str}{pos':JO}(hN:C.X.N.Nodup)(he:EN C e f)(hs:KL e (some (.Name x pos')) pos.line C.X.env=pure false:=by rfl)
  (hf:C.X.fn x=true\/C.X.env.scope.names.lookup x=some .local:=by first | exact .inl rfl | exact .inr rfl | assumption) (hi:C.X.N[i]?=some x:=by rfl) (hx:Loc C.X.env.scope x:=by first | exact .inl rfl | exact .inr rfl) :
  SV C (.Assign [.Name x pos'] e pos) (o4 i f):=by
 intro pins s σ H D I ⟨ρ,B,S,h⟩;exact sf hN hi hx he hs hf pins s σ H D I ⟨ρ,S.vw,(h.bind S.same).imp fun p _ k a H' s' n r=>k _ H' (S.setN s' n r)⟩
theorem Cp{pins:List (Addr×Obj)}{s:HC}{σ:L2.St}{H:Hp}{B:Hp×Hp}{ρ:PSt}(i:Nat)(I:Inv C.X pins σ H s)(S:StOk C.X.K B H σ ρ):∃H',Inv C.X pins σ H' s/\StOk C.X.K B H' σ (tU i ρ):=by
 unfold tU
 split
 ·rename_i p e
  obtain⟨a,f,w⟩:=S.vw i _ e;obtain⟨H',I',rp,oth⟩:=L2.Inv.frz I w;exact⟨H',I',S.turn e f oth ⟨_,rfl,rp⟩⟩
 ·exact⟨H,I,S⟩
theorem SV.frz(i:Nat)(h:SV C st g):SV C st (vd i g):=by
 intro pins s σ H D I ⟨ρ,B,S,q⟩;obtain⟨H',I',S'⟩:=Cp i I S;exact h pins s σ H' D I' ⟨_,B,S',q⟩
def tTg(C:Cn)(h:PV->PSt->Option PSt):TG:=fun v σ H Q=>∃ρ B p ρ',StOk C.X.K B H σ ρ/\Rep C.X.K H p v/\h p ρ=some ρ'/\∀σ',StOk C.X.K B H σ' ρ'->Q σ' H
def TGt(C:Cn)(tg:Expr)(h:PV->PSt->Option PSt):Prop:=PG C.X tg (tTg C h)
def Gi(C:Cn)(h:List PV->PSt->Option PSt):TGs:=fun vs σ H Q=>∃ρ B ps ρ',StOk C.X.K B H σ ρ/\aE C.X.K H ps vs/\h ps ρ=some ρ'/\∀σ',StOk C.X.K B H σ' ρ'->Q σ' H
def Ag(C:Cn)(ts:List Expr)(h:List PV->PSt->Option PSt):Prop:=PGs C.X ts (Gi C h)
theorem bw(i:Nat){x:Str}(hN:C.X.N.Nodup)(hf:C.X.fn x=true\/C.X.env.scope.names.lookup x=some .local:=by first | exact .inl rfl | exact .inr rfl | assumption)(hi:C.X.N[i]?=some x:=by rfl)(hx:Loc C.X.env.scope x:=by first | exact .inl rfl | exact .inr rfl) :
  TGt C (.Name x pos) (ay i):=by
 intro pins s σ H v u Q I r ⟨ρ,B,p,ρ',S,rp,e,k⟩;cases e;exact lP hN hi hx hf pins s σ H v u Q I r (k _ (S.setV rp))
theorem lB:Ag C [] kX:=by
 intro pins s σ H vs us Q I r ⟨ρ,B,ps,ρ',S,rp,e,k⟩;cases ps with
 | nil=>cases e;cases rp;exact sr pins s σ H _ us Q I r ⟨rfl,k _ S⟩
 | cons _ _=>cases e
theorem d7{es:List Expr}{h:PV->PSt->Option PSt}{h':List PV->PSt->Option PSt}(h1:TGt C e h)(h2:Ag C es h')(hs:(JN (e::es) C.X.env).map (·.2)=Ln e C.X.env::(JN es C.X.env).map (·.2):=by rfl):Ag C (e::es) (bG h h'):=by
 intro pins s σ H vs us Q I r ⟨ρ,B,ps,ρ',S,rp,ee,k⟩;cases ps with
 | nil=>cases ee
 | cons p qs=>
  obtain⟨x,xs,rfl,rp1,rp2⟩:=rp;have ee:(h p ρ).bind (fun ρ1=>h' qs ρ1)=some ρ':=ee;obtain⟨ρ1,e1,e2⟩:=HV.mp ee;exact pj h1 h2 hs pins s σ H _ us Q I r ⟨x,xs,rfl,ρ,B,p,ρ1,S,rp1,e1,fun σ1 S1=>⟨ρ1,B,qs,ρ',S1,rp2,e2,k⟩⟩
end
end PU
namespace PU
open PySem PySem.Spec PyProof.Rows L2
variable[TW]
section
variable{C : Cn}{st : Stmt}{sts a b body : List Stmt}{e tg iter c : Expr}{f fk : PSt → R PV}{g g' : PSt → R Fl}{pos : JO}{t : PSt → R Bool}
theorem oS{es:List Expr}{k n:Nat}{h:List PV->PSt->Option PSt}(hc:C.X.calm=true)(hh:Ag C es h)
  (hn:(JN es C.X.env).length=n:=by rfl) (hst:(JN es C.X.env).findIdx? (·.1)=none:=by rfl):TGt C (.Tuple es k pos) (kG n h):=by
 intro pins s σ H v u Q I r ⟨ρ,B,p,ρ',S,rp,e,k⟩;cases p with
 | tup ps=>
  have e:(if ps.length=n then h ps ρ else none)=some ρ':=e
  by_cases hl:ps.length=n
  ·rw[if_pos hl] at e
   obtain⟨a,xs,rfl,hq,r1⟩:=rp;exact xC hc hh hn hst pins s σ H _ u Q I r ⟨a,xs,rfl,tq hq,by rw[← r1.length];exact hl,ρ,B,ps,ρ',S,r1,e,k⟩
  ·rw[if_neg hl] at e
   cases e
 | _=>cases e
def ItP(K:HA)(J:It)(H₁:Hp)(ps:List PV):Prop:=
 ∀(i:Nat)(H:Hp),Kp H₁ H->(i=ps.length->J.stop i H)/\∀p,ps[i]?=some p->J.go i H/\∀x H',J.yld i H x H'->Same H H'/\Rep K H' p x
def tI(C:Cn)(f:PSt->R (List PV)):TI:=fun σ H Q=>∃ρ,View C.X.K H σ ρ/\RQ C H (f ρ) fun ps=>∀J H',Same H H'->ItP C.X.K J H' ps->Q J H'
def EI(C:Cn)(tg iter:Expr)(f:PSt->R (List PV)):Prop:=PI C.X tg iter (tI C f)
theorem pV{α:Type}{l:List α}{i:Nat}{x:α}(h:l[i]?=some x):l.drop i=x::l.drop (i+1):=by
 obtain⟨hl,e⟩:=HM.mp h;rw[Ir hl,e]
theorem cZ{fi:PSt->R (List PV)}{h:PV->PSt->Option PSt}(hi:EI C tg iter fi)(hg:TGt C tg h)(hb:SVs C body g)
  (hs:∀x,KZ iter C.X.env x=pure x:=by intro _;rfl) (hp:Np (IK C.X.prog C.X.w) C.X.A C.X.env C.X.xe:=by exact NG) (hc:C.X.calm=true:=by rfl):SV C (.For tg iter body [] pos) (ky fi h g):=by
 intro pins s σ H D I ⟨ρ,B,S,q⟩;refine Bj hp hc hi hg hb hs pins s σ H D I ⟨ρ,S.vw,(q.bind S.same).imp fun ps _ k J H1 s1 it=>?_⟩;refine⟨fun i m σ' H'=>∃ρ',m=ps.length-i/\i<=ps.length/\StOk C.X.K (B.1,H1) H' σ' ρ'/\RS C B D (gq h g (ps.drop i) ρ'),⟨ps.length,ρ,rfl,JI _,(S.grow s1).rebase (Kp.refl H1),by simpa using k⟩,?_⟩;rintro i m σ' H' ⟨ρ',rfl,hi',S',q'⟩;have back:∀{σ2:L2.St}{H2:Hp}{ρ2:PSt},StOk C.X.K (B.1,H1) H2 σ2 ρ2->StOk C.X.K B H2 σ2 ρ2:=fun {σ2 H2 ρ2} S2=>⟨S2.len,S2.same,(S.kp.trans (Same.kp s1)).trans S2.kp,S2.vw,S2.fresh,S2.apart,S2.pinned⟩;obtain⟨stp,stepp⟩:=it i H' S'.kp
 by_cases hlt:i<ps.length
 ·have ei:ps[i]?=some ps[i]:=by simp[hlt]
  obtain⟨go,yl⟩:=stepp _ ei;rw[pV ei] at q';obtain⟨ρ1,e1,q1⟩:=RS.ofO q';refine .inr ⟨go,fun σ2 H2=>∃ρ2,StOk C.X.K (B.1,H1) H2 σ2 ρ2/\RS C B D (gq h g (ps.drop (i+1)) ρ2),fun σ2 H2 ⟨ρ2,S2,r2⟩=>⟨ps.length-(i+1),by omega,ρ2,rfl,hlt,S2,r2⟩,fun x H2 y=>?_⟩;obtain⟨s2,rp⟩:=yl x H2 y;refine⟨ρ',(B.1,H1),ps[i],ρ1,S'.grow s2,rp,e1,fun σ3 S3=>⟨ρ1,(B.1,H1),S3,?_⟩⟩;cases hgr:g ρ1 with
  | ok fl=>
   rw[hgr] at q1;cases fl with
   | next ρ2=>exact fun σ4 H4 S4=>⟨ρ2,S4,q1⟩
   | cont ρ2=>exact fun σ4 H4 S4=>⟨ρ2,S4,q1⟩
   | brk ρ2=>exact fun σ4 H4 S4=>q1 σ4 H4 (back S4)
   | ret p=>exact q1
  | er x=>rw[hgr] at q1;exact q1
  | no=>rw[hgr] at q1;exact q1
 ·have e:i=ps.length:=by omega
  subst e;rw[L6] at q';exact .inl ⟨stp rfl,q' σ' H' (back S')⟩
end
end PU
namespace PU
open PySem PySem.Spec PyProof.Rows L2
variable[TW]
def spP(K:HA)(n:Nat)(F:List PV->Option PV):Sp:=fun vs H Q _=>vs.length=n/\qZ H/\∃ps p,aE K H ps vs/\F ps=some p/\∀v H',Same H H'->Rep K H' p v->Q v H'
structure PF(P:HX)(w:IA)(K:HA)(mg:Str->Option HB)(base:Heap)(k:Nat)(x:Str)(F:List PV->Option PV):Prop where
 ex:∃(f:Addr)(fd:FuncData)(ps:List Str),FnOk P w K mg base CX0 k f fd ps (spP K ps.length F)/\mg x=some (.ref f)/\JH K (.ref f)=true/\Binds K fd ps []/\∀qs p,F qs=some p->qs.length=ps.length
section
variable{C : Cn}{e : Expr}{es : List Expr}{fs : PSt → R (List PV)}{x : Str}{k : Nat}{F : List PV → Option PV}{p pos : JO}
theorem aq(G:PF C.X.prog C.X.w C.X.K C.X.mg C.X.base k x F){kr:Nat}(hr:Room kr C.X.A)(ha:EA C (e::es) fs)
  (hdb:(x == ("__debug__":Str))=false:=by decide) (he:Hw (e::es) C.X.env=(false,J8 e C.X.env)::Hw es C.X.env:=by exact c6 rfl) (hpl:(KI pos (Hw es C.X.env)).any (·.1)=false:=by exact iT rfl) (hk:k<=kr:=by decide) (hg:Gl C.X x:=by exact rfl) :
  EV C (.Call (.Name x p) (e::es) [] pos) (aL fs F):=by
 replace hr:=hr.mono hk;obtain⟨f,fd,ps,a,b,c,d,l⟩:=G.ex;intro pins s σ H Q I ⟨ρ,vw,q⟩;refine yX (dvs:=[]) (ds:=[]) (E:=E0) a hr hg b c d .nil Ek ha hdb he hpl pins s σ H Q I ⟨ρ,vw,q.bind.imp fun qs _ k vs H1 s1 r1=>?_⟩;obtain⟨z,ez,k⟩:=k.ofO;rw[Iy];exact⟨by rw[← r1.length];exact l qs z ez,s1.tabs vw.tb,qs,z,r1,ez,fun v H' s' r'=>k v H' (s1.trans s') r'⟩
end
section
variable{P : HX}{w : IA}{K : HA}{mg : Str → Option HB}{base : Heap}
abbrev Av(P:HX)(w:IA)(K:HA)(mg:Str->Option HB)(base:Heap)(N:List Str)(qual:Str)(sc:Scope)(f:Addr)(cdv:HB)(A:IL)(outer:List M5)(s:HC)(H:Hp)(E:XK):Cn:=
 ⟨(yf CX0 P w K mg base N qual sc f cdv A outer s H E).nox,fun _ _=>False⟩
theorem xG{ps:List PV}{n i:Nat}{p:PV}(e:(start n ps)[i]?=some (.own p)):False:=by
 unfold start at e
 by_cases hi:i<ps.length
 ·rw[HZ (by simpa using hi),HW] at e
  cases h:ps[i]? with
  | none=>rw[h] at e;cases e
  | some p=>rw[h] at e;cases e
 ·rw[IJ (by simpa using hi),Ih] at e
  split at e <;> cases e
theorem BC{n i:Nat}{ps qs:List PV}{a:Addr}(e:(start n ps)[i]?=some (.pin qs a)):False:=by
 unfold start at e
 by_cases hi:i<ps.length
 ·rw[HZ (by simpa using hi),HW] at e
  cases h:ps[i]? with
  | none=>rw[h] at e;cases e
  | some p=>rw[h] at e;cases e
 ·rw[IJ (by simpa using hi),Ih] at e
  split at e <;> cases e
theorem iS{K:HA}{H:Hp}{N:List Str}{ps:List PV}{vs:List V}(tb:qZ H)(r:aE K H ps vs):StOk K (H,H) H (L2.start N vs) (start N.length ps):=by
 have hl:=r.length;refine⟨by simp[start,L2.start,hl],Same.refl H,Kp.refl H,⟨fun i l e=>?_,tb⟩,fun i p a e f=>?_,fun i j p q a e1 e2 f1 f2=>?_,fun i qs a e=>?_⟩
 ·unfold start at e
  by_cases hi:i<ps.length
  ·rw[HZ (by simpa using hi),HW] at e
   cases h:ps[i]? with
   | none=>rw[h] at e;cases e
   | some p=>
    rw[h] at e;cases e;obtain⟨v,ev,rp⟩:=r.get h;refine⟨v,?_,rp⟩;unfold L2.start;rw[HZ (by rw[HF,← hl];exact hi),HW,ev];rfl
  ·rw[IJ (by simpa using hi),Ih] at e
   split at e
   ·cases e
    exact trivial
   ·cases e
 all_goals exfalso
 ·exact xG e
 ·exact xG e1
 ·exact BC e
theorem Ef{x qual:Str}{st:Stmt}{f:Addr}{fd:FuncData}{N ps:List Str}{k:Nat}{g:PSt->R Fl}(F:Fun K x qual st f fd)(S:FnScope N ps (ah st))(hm:mg x=some (.ref f))(hb:Binds K fd ps [])
  (hbody:∀(cdv:HB)(A:IL)(outer:List M5)(s:HC)(H:Hp)(E:XK),Room k (A.deeper (Kb qual (ah st) s.heap.objs.size f cdv))->SVs (Av P w K mg base N qual (ah st) f cdv A outer s H E) (bz st) g) :
  PF P w K mg base (k+1) x (eI ps.length N.length g):=by
 refine⟨f,fd,ps,F.ok S (fun vs H Q E h=>h.1) (fun cdv A outer s H vs Q E hr h=>?_),hm,F.kp,hb,fun qs p h=>?_⟩
 ·obtain⟨hl,tb,qs,p,r,e,k⟩:=h
  refine⟨_,hbody cdv A outer s H E hr,start N.length qs,(H,H),iS tb r,?_⟩;unfold eI at e;rw[if_pos (by rw[r.length];exact hl)] at e;cases hg:g (start N.length qs) with
  | ok fl=>
   rw[hg] at e;cases fl with
   | next ρ=>cases e;exact fun σ H' S'=>k .non H' S'.same rfl
   | ret q=>cases e;exact fun v H' s' r'=>k v H' s' r'
   | brk ρ=>cases e
   | cont ρ=>cases e
  | er x=>rw[hg] at e;cases e
  | no=>rw[hg] at e;cases e
 ·unfold eI at h
  split at h
  ·rename_i hl;exact hl
  ·cases h
end
end PU
namespace PU
open PySem PySem.Spec PyProof.Rows L2
variable[TW]
def fq(X:Cx)(N':List Str)(scope:Scope)(cl:List (Str×Addr))(L:Addr)(s₂:HC)(H₂:Hp)(fp:List Addr):Cx where
 prog:=X.prog
 w:=X.w
 K:=X.K
 mg:=X.mg
 base:=X.base
 A:=X.A
 N:=N'
 s₀:=s₂
 H₀:=H₂
 env:=compEnvC scope cl L X.env
 outer:=X.stack
 stack:=X.stack
 ex:=fp
 fn:=fun _=>false
 calm:=true
 pn:=[]
 xe:=fun _ _=>False
abbrev d4(C:Cn)(N':List Str)(scope:Scope)(cl:List (Str×Addr))(L:Addr)(s₂:HC)(H₂:Hp)(fp:List Addr):Cn:=⟨fq C.X N' scope cl L s₂ H₂ fp,fun _ _=>False⟩
def tTc(C:Cn)(h:Tgt):TG:=fun v σ H Q=>∃ρ p ρ',ρ.length=σ.length/\View C.X.K H σ ρ/\Rep C.X.K H p v/\h p ρ=some ρ'/\∀σ',ρ'.length=σ'.length->View C.X.K H σ' ρ'->Q σ' H
def TCt(C:Cn)(tg:Expr)(h:Tgt):Prop:=PG C.X tg (tTc C h)
def Gj(C:Cn)(h:uS):TGs:=fun vs σ H Q=>∃ρ ps ρ',ρ.length=σ.length/\View C.X.K H σ ρ/\aE C.X.K H ps vs/\h ps ρ=some ρ'/\∀σ',ρ'.length=σ'.length->View C.X.K H σ' ρ'->Q σ' H
def Ah(C:Cn)(ts:List Expr)(h:uS):Prop:=PGs C.X ts (Gj C h)
theorem View.setV{K:HA}{H:Hp}{σ:L2.St}{ρ:PSt}{i:Nat}{p:PV}{v:V}(vw:View K H σ ρ)(hl:ρ.length=σ.length)(r:Rep K H p v):View K H (σ.set i (some v)) (ρ.set i (.val p)):=by
 refine⟨fun j l e=>?_,vw.tb⟩;rcases bW e with⟨rfl,rfl,hl2⟩|⟨hj,e⟩
 ·exact⟨v,dj (by rw[← hl];exact hl2),r⟩
 ·rw[bq hj]
  exact vw j l e
section
variable{C : Cn}{e : Expr}{pos : JO}
theorem yu(i:Nat){x:Str}(hN:C.X.N.Nodup)(hi:C.X.N[i]?=some x)(hx:Loc C.X.env.scope x)(hf:C.X.fn x=true\/C.X.env.scope.names.lookup x=some .local:=by first | exact .inl rfl | exact .inr rfl | assumption) :
  TCt C (.Name x pos) (ay i):=by
 intro pins s σ H v u Q I r ⟨ρ,p,ρ',hl,vw,rp,e,k⟩;cases e;exact lP hN hi hx hf pins s σ H v u Q I r (k _ (by simp[hl]) (vw.setV hl rp))
theorem rN:Ah C [] kX:=by
 intro pins s σ H vs us Q I r ⟨ρ,ps,ρ',hl,vw,rp,e,k⟩;cases ps with
 | nil=>cases e;cases rp;exact sr pins s σ H _ us Q I r ⟨rfl,k _ hl vw⟩
 | cons _ _=>cases e
theorem iP{es:List Expr}{h:Tgt}{h':uS}(h1:TCt C e h)(h2:Ah C es h')(hs:(JN (e::es) C.X.env).map (·.2)=Ln e C.X.env::(JN es C.X.env).map (·.2):=by rfl):Ah C (e::es) (bG h h'):=by
 intro pins s σ H vs us Q I r ⟨ρ,ps,ρ',hl,vw,rp,ee,k⟩;cases ps with
 | nil=>cases ee
 | cons p qs=>
  obtain⟨x,xs,rfl,rp1,rp2⟩:=rp;have ee:(h p ρ).bind (fun ρ1=>h' qs ρ1)=some ρ':=ee;obtain⟨ρ1,e1,e2⟩:=HV.mp ee;exact pj h1 h2 hs pins s σ H _ us Q I r ⟨x,xs,rfl,ρ,p,ρ1,hl,vw,rp1,e1,fun σ1 hl1 vw1=>⟨ρ1,qs,ρ',hl1,vw1,rp2,e2,k⟩⟩
theorem xn{es:List Expr}{k n:Nat}{h:uS}(hc:C.X.calm=true)(hh:Ah C es h)
  (hn:(JN es C.X.env).length=n:=by rfl) (hst:(JN es C.X.env).findIdx? (·.1)=none:=by rfl):TCt C (.Tuple es k pos) (kG n h):=by
 intro pins s σ H v u Q I r ⟨ρ,p,ρ',hl,vw,rp,e,k⟩;cases p with
 | tup ps=>
  have e:(if ps.length=n then h ps ρ else none)=some ρ':=e
  by_cases hl2:ps.length=n
  ·rw[if_pos hl2] at e
   obtain⟨a,xs,rfl,hq,r1⟩:=rp;exact xC hc hh hn hst pins s σ H _ u Q I r ⟨a,xs,rfl,tq hq,by rw[← r1.length];exact hl2,ρ,ps,ρ',hl,vw,r1,e,k⟩
  ·rw[if_neg hl2] at e
   cases e
 | _=>cases e
end
def Ai(n:Nat)(h:Tgt):Prop:=∀p ρ ρ1,h p ρ=some ρ1->ρ1.length=ρ.length/\∀i,n<=i->ρ1[i]?=ρ[i]?
def xb(n:Nat)(h:uS):Prop:=∀p ρ ρ1,h p ρ=some ρ1->ρ1.length=ρ.length/\∀i,n<=i->ρ1[i]?=ρ[i]?
theorem lW{n i:Nat}(h:i<n):Ai n (ay i):=fun p ρ ρ1 e=>by
 cases e;exact⟨by simp,fun j hj=>bq (by omega)⟩
theorem oD{n:Nat}:xb n kX:=fun ps ρ ρ1 e=>by
 cases ps with
 | nil=>cases e;exact⟨rfl,fun _ _=>rfl⟩
 | cons _ _=>cases e
theorem lX{n:Nat}{h:Tgt}{h':uS}(a:Ai n h)(b:xb n h'):xb n (bG h h'):=fun ps ρ ρ2 e=>by
 cases ps with
 | nil=>cases e
 | cons p qs=>
  have e:(h p ρ).bind (fun ρ1=>h' qs ρ1)=some ρ2:=e;obtain⟨ρ1,e1,e2⟩:=HV.mp e;obtain⟨l1,g1⟩:=a p ρ ρ1 e1;obtain⟨l2,g2⟩:=b qs ρ1 ρ2 e2;exact⟨l2.trans l1,fun i hi=>(g2 i hi).trans (g1 i hi)⟩
theorem oC{n m:Nat}{h:uS}(a:xb n h):Ai n (kG m h):=fun p ρ ρ1 e=>by
 cases p with
 | tup ps=>
  have e:(if ps.length=m then h ps ρ else none)=some ρ1:=e;split at e
  ·exact a ps ρ ρ1 e
  ·cases e
 | _=>cases e
def ETs(C:Cn)(ifs:List Expr)(t:PSt->R Bool):Prop:=(ifs=[]/\t=kC)\/∃c,ifs=[c]/\ET C c t
theorem oN{C:Cn}:ETs C [] kC:=.inl ⟨rfl,rfl⟩
def df(cells:List (Str×Addr)):List (Str×Jc)->List (Str×Addr)->List (Str×Addr)
 | [],acc=>acc
 | (n,k)::r,acc=>if (k == .free)=true then (match cells.lookup n with
  | some c=>df cells r ((n,c)::acc)
  | none=>df cells r acc) else df cells r acc
theorem bP{scope:Scope}{env:M5}(h:∀y∈scope.names,y.2=.free->∃c,env.cells.lookup y.1=some c):closureFor scope env=pure (df env.cells scope.names []):=by
 have gen:∀(l:List (Str×Jc))(acc:List (Str×Addr)),(∀y∈l,y.2=.free->∃c,env.cells.lookup y.1=some c)->
   (forIn l acc fun x r=>(match x with | (name,kind)=>if (kind == Ie)=true then do let a<- N5 env name;pure (JK ((name,a)::r)) else pure (JK r):Sem (ForInStep (List (Str×Addr)))))=pure (df env.cells l acc):=by
  intro l
  induction l with
  | nil=>intro acc _;rfl
  | cons y r ih=>
   intro acc hy;obtain⟨n,k⟩:=y;rw[List.forIn_cons];have hr:=fun z hz=>hy z (I9 _ hz)
   by_cases hk:(k == Ie)=true
   ·obtain⟨c,hc⟩:=hy (n,k) ID (by simpa using hk)
    have hc:env.cells.lookup n=some c:=hc;have e1:N5 env n=pure c:=by unfold N5;rw[hc]
    simp only[hk,if_true,e1,df,hc];exact ih _ hr
   ·simp only[hk,if_false,df]
    exact ih _ hr
 have:=gen scope.names [] h;have e:closureFor scope env=((forIn scope.names ([]:List (Str×Addr)) fun x r=>(match x with | (name,kind)=>if (kind == Ie)=true then do let a<- N5 env name;pure (JK ((name,a)::r)) else pure (JK r):Sem (ForInStep (List (Str×Addr))))) >>= fun cs=>pure cs):=rfl;rw[e,this];rfl
theorem cN{cells:List (Str×Addr)}{x:Str}{c:Addr}:∀{l:List (Str×Jc)}{acc:List (Str×Addr)},(df cells l acc).lookup x=some c->cells.lookup x=some c\/acc.lookup x=some c
 | [],acc,h=>.inr h
 | (n,k)::r,acc,h=>by
  unfold df at h;split at h
  ·split at h
   ·rename_i d hd
    rcases cN h with z | z
    ·exact .inl z
    ·rw[IR] at z
     by_cases e:(x == n)=true
     ·rw[e] at z
      cases z;rw[K6 e];exact .inl hd
     ·simp only[Jy] at e
      rw[e] at z;exact .inr z
   ·exact cN h
  ·exact cN h
theorem gT{cells:List (Str×Addr)}{x:Str}:∀{l:List (Str×Jc)}{acc:List (Str×Addr)},(acc.lookup x).isSome=true->((df cells l acc).lookup x).isSome=true
 | [],acc,h=>h
 | (n,k)::r,acc,h=>by
  unfold df
  split
  ·split
   ·refine gT ?_
    rw[IR]
    split
    ·rfl
    ·exact h
   ·exact gT h
  ·exact gT h
theorem pZ{cells:List (Str×Addr)}{x:Str}{c:Addr}(hc:cells.lookup x=some c):∀{l:List (Str×Jc)}{acc:List (Str×Addr)},(x,Ie)∈l->(df cells l acc).lookup x=some c:=by
 have fin:∀{l:List (Str×Jc)}{acc:List (Str×Addr)},(∀d,acc.lookup x=some d->d=c)->((df cells l acc).lookup x).isSome=true->(df cells l acc).lookup x=some c:=fun {l acc} ha h=>by
  obtain⟨d,hd⟩:=MV.mp h;rcases cN hd with z | z
  ·rw[hc] at z;cases z;exact hd
  ·rw[hd,ha d z]
 intro l
 induction l with
 | nil=>intro acc h;cases h
 | cons y r ih=>
  intro acc h;obtain⟨n,k⟩:=y;have rest:∀acc,(x,Ie)∈r->(df cells r acc).lookup x=some c:=fun acc hr=>ih hr;rcases Hr.mp h with z | z
  ·cases z
   unfold df;rw[if_pos (show (Ie == Ie)=true from rfl),hc];show (df cells r ((x,c)::acc)).lookup x=some c;have hs:(((x,c)::acc).lookup x)=some c:=by rw[IR,beq_self_eq_true]
   exact fin (fun d hd=>by rw[hs] at hd;cases hd;rfl) (gT (by rw[hs];rfl))
  ·unfold df
   split
   ·split
    ·exact rest _ z
    ·exact rest _ z
   ·exact rest _ z
theorem gb{env:M5}{x:Str}:∀{names:List (Str×Jc)},names.lookup x=some .free->
  (names.map fun (n,k)=>if (k == Ie && env.scope.kind == .function && env.kindOf n == some .cell) then (n,LQ) else (n,k)).lookup x=some .cell ∨
  (names.map fun (n,k)=>if (k == Ie && env.scope.kind == .function && env.kindOf n == some .cell) then (n,LQ) else (n,k)).lookup x=some .free
 | [],h=>by simp at h
 | (n,k)::r,h=>by
  have ih:=@gb env x r;cases hx:x == n with
  | true=>
   simp only[IR,hx] at h;cases h
   by_cases hc:(Ie == Ie && env.scope.kind == .function && env.kindOf n == some .cell)=true
   ·left
    simp only[HI,hc,if_true,IR,hx]
   ·right
    simp only[Jy] at hc;simp only[HI,hc,IY,if_false,IR,hx]
  | false=>
   simp only[IR,hx] at h
   by_cases hc:(k == Ie && env.scope.kind == .function && env.kindOf n == some .cell)=true
   ·simp only[HI,hc,if_true,IR,hx]
    exact ih h
   ·simp only[Jy] at hc
    simp only[HI,hc,IR,IY,if_false,hx];exact ih h
theorem nS{prog:HX}{w:IA}{A:IL}{R:Result->HC->Prop}{s:HC}{elt target iter:Expr}{ifs:List Expr}{scope:Scope}{pos:JO}{it acc:HB}{env:M5}(I:Nat->HC->Prop)
  (turn:∀n s,I n s->Hx (IK prog w) A (pyNext it) (fun r s₁=>match r with
   | none=>R (.ok .next) s₁
   | some v=>Hx (IK prog w) A (Lc target it v) (fun _ s₁=>Hx (IK prog w) A (Ln target env v) (fun _ s₂=>
     Hx (IK prog w) A (forIn ifs true fun c r=>if r=true then do let ok<- isTrue c env (J8 c env);pure (JK ok) else pure (JK r)) (fun ok s₃=>
      if ok=true then Hx (IK prog w) A (J8 elt env) (fun x s₄=>
       Hx (IK prog w) A (call (.builtin "list.append") [acc,x]) (fun _ s₅=>∃m,m<n/\I m s₅) (fun _ _=>False) s₄) (fun _ _=>False) s₃
      else ∃m,m<n/\I m s₃) (fun _ _=>False) s₂) (fun _ _=>False) s₁) (fun _ _=>False) s₁) (fun _ _=>False) s)
  (n:Nat) (h:I n s) :
  LB (IK prog w) A (.compLoop (.ListComp elt [⟨target,iter,ifs,0⟩] scope pos) 0 it acc env) R s:=by
 refine codeAny_loop rfl I (fun n s hI=>?_) n h;show Hx _ A ((compTurn (.ListComp elt [⟨target,iter,ifs,0⟩] scope pos) 0 it acc env).onRaise (fun x=>do noteFrame x env;theTreesLotGoes x)) _ _ s;refine wpAny_noted ?_;rw[compTurn_list];refine HD (NY (HD (JG (turn n s hI) (fun r s₁ h₁=>?_) fun _ _ h'=>h'.elim)));cases r with
 | none=>exact HK h₁
 | some v=>
  refine HD (JG h₁ (fun _ s₁ h₁=>?_) fun _ _ h'=>h'.elim);refine HD (JG h₁ (fun _ s₂ h₂=>HD (JG h₂ (fun ok s₃ h₃=>?_) fun _ _ h'=>h'.elim)) fun _ _ h'=>h'.elim);cases ok with
  | false=>exact HK ⟨rfl,h₃⟩
  | true=>
   exact HD (HD (JG h₃ (fun x s₄ h₄=>HD (JG h₄ (fun _ s₅ h₅=>HK (HK ⟨rfl,h₅⟩)) fun _ _ h'=>h'.elim)) fun _ _ h'=>h'.elim))
end PU
namespace PU
open PySem PySem.Spec PyProof.Rows L2
variable[TW]
structure CompOk(NX:List Str)(scX:Scope)(scope:Scope)(N':List Str)(nt:Nat)(idx:List Nat):Prop where
 kind:scope.kind=.function
 cell:∀y∈scope.names,y.2≠.cell
 names:∀y∈scope.names,y.2=.local->scope.names.lookup y.1=some .local
 free:∀y∈scope.names,y.2=.free->scX.names.lookup y.1=some .cell\/scX.names.lookup y.1=some .free
 len:N'.length=nt+idx.length
 ix:(idx.zip (N'.drop nt)).all (fun p=>decide (NX[p.1]?=some p.2) && decide (scope.names.lookup p.2=some .free))=true
theorem CompOk.at{NX:List Str}{scX:Scope}{scope:Scope}{N':List Str}{nt:Nat}{idx:List Nat}(O:CompOk NX scX scope N' nt idx){k:Nat}{x:Str}(h:N'[nt+k]?=some x) :
  ∃i,idx[k]?=some i/\NX[i]?=some x/\scope.names.lookup x=some .free:=by
 have hk:k<idx.length:=by
  have:=(HM.mp h).1;have:=O.len;omega
 have e1:idx[k]?=some idx[k]:=by simp[hk]
 have e2:(N'.drop nt)[k]?=some x:=by rw[List.getElem?_drop];exact h
 have e3:(idx.zip (N'.drop nt))[k]?=some (idx[k],x):=by
  rw[Mg];exact⟨e1,e2⟩
 have:=KU.mp O.ix _ (II e3);simp only[Ii,decide_eq_true_eq] at this;exact⟨_,e1,this.1,this.2⟩
section
variable{C : Cn}{elt tg iter : Expr}{ifs : List Expr}{scope : Scope}{pos : JO}{N' : List Str}{nt : Nat}{idx : List Nat}{h : Tgt}{t : PSt → R Bool}{fe : PSt → R PV}
theorem qU{pins:List (Addr×Obj)}{σ:L2.St}{H₂:Hp}{s₂:HC}{J:It}{fp:List Addr}{it:Addr}{tn:Nat->Heap->Prop}{ρ:PSt}(O:CompOk C.X.N C.X.env.scope scope N' nt idx)(hc:C.X.calm=true)
  (I:Inv C.X pins σ H₂ s₂) (T:Turn C.X.prog C.X.w C.X.K tg J fp it tn) (st:tn 0 s₂.heap) (hf:∀b∈fp,qd C.X pins H₂ b) (vw:View C.X.K H₂ σ ρ)
  {L D:Addr} {h₁:Heap} {tk:Nat} (hD:D=s₂.heap.objs.size) (hL:s₂.heap.objs.size<=L) (hDL:D≠L) (ns:h₁.Ns L (fun _=>none)) (keep:∀b o,s₂.heap.get? b=some o->h₁.get? b=some o)
  (acc:h₁.get? D=some { cls:=.type "list",data:=.seq ([]:List HB).toArray }) :
  ∃σ',Inv (fq C.X N' scope (df C.X.env.cells scope.names []) L s₂ H₂ fp) [] σ' (upd H₂ D (.lst [])) { s₂ with heap:=h₁,toks:=tk }/\View C.X.K (upd H₂ D (.lst [])) σ' (bU nt idx ρ)/\(bU nt idx ρ).length=σ'.length/\
   ∀b∈fp,b<s₂.heap.objs.size:=by
 have fl:∀b∈fp,b<s₂.heap.objs.size:=fun b hb=>by
  obtain⟨o,e,_⟩:=T.obj 0 _ st b hb;exact HU e
 have nD:H₂ D=none:=by rw[hD];exact I.fresh
 have frC:∀y∈scope.names,y.2=.free->∃c,C.X.env.cells.lookup y.1=some c:=fun y hy hk=>I.ok.has y.1 (O.free y hy hk)
 have clS:∀x c,(df C.X.env.cells scope.names []).lookup x=some c->C.X.env.cells.lookup x=some c:=fun x c e=>by
  rcases cN e with z | z
  ·exact z
  ·cases z
 have cne:∀x c,(df C.X.env.cells scope.names []).lookup x=some c->c<s₂.heap.objs.size:=fun x c e=>by
  obtain⟨v,q⟩:=I.cell x c (clS x c e);exact q.lt
 refine⟨IM nt none++idx.map (fun i=>(σ[i]?).getD none),⟨⟨I.ok.mod,O.kind,I.ok.glob,I.ok.blt,hL,fun x y c e1 e2=>I.ok.inj x y c (clS x c e1) (clS y c e2),fun x hx=>?_,(fun x c z=>absurd (show false=true from z) HP),fun _=>I.ok.hd hc,I.ok.frames,.inl rfl,
  fun b hb=>⟨IF (HR (fl b hb) hL),fun x c e=>(hf b hb).2.2.2.2.1 x c (clS x c e)⟩,I.bs,Ig I.ok.bsz I.sz,fun b o e hb=>?_,fun b hb z=>?_,I.stack,I.stkFree⟩,
  rfl,I.bare,Un.laid keep (ND hD.symm) nD,⟨_,ns,fun i x v hN hσ hv=>?_⟩,fun x c e=>?_,?_,fun x c e=>?_,fun p hp=>absurd (show p∈([]:List (Addr×Obj)) from hp) (by simp),?_,?_⟩,?_,?_,fl⟩
 ·-- has
  have hx:(relabel scope C.X.env).names.lookup x=some .cell\/(relabel scope C.X.env).names.lookup x=some .free:=hx
  have:scope.names.lookup x=some .free:=by
   have gen:∀(l:List (Str×Jc)),(∀y∈l,y.2≠.cell)->((l.map fun (n,k)=>if (k == Ie && C.X.env.scope.kind == .function && C.X.env.kindOf n == some .cell) then (n,LQ) else (n,k)).lookup x=some .cell ∨
     (l.map fun (n,k)=>if (k == Ie && C.X.env.scope.kind == .function && C.X.env.kindOf n == some .cell) then (n,LQ) else (n,k)).lookup x=some .free)->l.lookup x=some .free:=by
    intro l
    induction l with
    | nil=>intro _ z;simp at z
    | cons y r ih=>
     intro hy z;obtain⟨n,k⟩:=y;have hk:k≠.cell:=hy (n,k) ID;have ih:=ih fun y' hy'=>hy y' (I9 _ hy');rw[IR]
     by_cases hc':(k == Ie && C.X.env.scope.kind == .function && C.X.env.kindOf n == some .cell)=true
     ·simp only[HI,hc',if_true,IR] at z
      cases hx':x == n with
      | true=>
       have:k=.free:=by
        simp only[Ii] at hc';exact K6 hc'.1.1
       rw[this]
      | false=>
       rw[hx'] at z;exact ih z
     ·simp only[Jy] at hc'
      simp only[HI,hc',IY,if_false,IR] at z;cases hx':x == n with
      | true=>
       rw[hx'] at z;rcases z with z | z
       ·cases z;exact absurd rfl hk
       ·cases z;rfl
      | false=>
       rw[hx'] at z;exact ih z
   exact gen scope.names O.cell hx
  obtain⟨c,e⟩:=frC (x,.free) (IQ this) rfl;exact⟨c,pZ e (IQ this)⟩
 ·-- noex
  obtain⟨e1,e2⟩:=I.bs b o e;obtain⟨g1,g2,g3,g4,_⟩:=hf b hb;rcases g4 with z | z
  ·exact I.ok.noex b o e z
  ·exact absurd (HU (I.ok.bs b o e).1) (Mc.mpr z)
 ·-- exfs
  obtain⟨g1,g2,g3,_⟩:=hf b hb;exact(Hr.mp (I.stkSub b z)).elim g2 g3
 ·-- loc
  by_cases hi:i<nt
  ·rw[HZ (by simpa using hi),Ih,if_pos hi] at hσ
   cases hσ
  ·obtain⟨k,rfl⟩:∃k,i=nt+k:=⟨i-nt,by omega⟩
   have hN:N'[nt+k]?=some x:=hN;obtain⟨j,ej,ex,el⟩:=O.at hN;rw[IJ (by simp),Jl,Mw,HW,ej] at hσ;have hσ:some ((σ[j]?).getD none)=some (some v):=hσ
   have hσ:σ[j]?=some (some v):=by
    cases q:σ[j]? with
    | none=>rw[q] at hσ;cases hσ
    | some z=>rw[q] at hσ;cases hσ;rfl
   obtain⟨m,hn,hl⟩:=I.loc;have hfr:=O.free (x,.free) (IQ el) rfl;obtain⟨u,ru,lk⟩:=hl j x v ex hσ (by rcases hfr with z | z;exact .inr (.inl z);exact .inr (.inr z));refine⟨u,ru,.inr ?_⟩;rcases lk with⟨z,_⟩|⟨_,c,ec,hcell⟩
   ·exfalso
    have z:C.X.env.scope.names.lookup x=some .local:=z;rcases hfr with q | q <;> (rw[show C.X.env.scope.names.lookup x=_ from q] at z;cases z)
   ·refine⟨gb (env:=C.X.env) el,c,pZ ec (IQ el),?_⟩
    obtain⟨o,ho,hd⟩:=hcell;exact⟨o,keep c o ho,hd⟩
 ·obtain⟨v,o,ho,hd⟩:=I.cell x c (clS x c e)
  exact⟨v,o,keep c o ho,hd⟩
 ·-- free
  show upd H₂ D _ L=none;rw[az (Jg hDL)];exact I.hok.fresh hL
 ·show upd H₂ D _ c=none
  rw[az (by rw[hD];exact IF (cne x c e))];exact I.freeC x c (clS x c e)
 ·exact I.hok.laid keep (ND hD.symm) ⟨by simp,[],0,.nil,acc⟩
 ·show _=N'.length
  rw[O.len];simp
 ·refine⟨fun i l e=>?_,(Same.new (o:=.lst []) nD).tabs vw.tb⟩
  unfold bU at e
  by_cases hi:i<nt
  ·rw[HZ (by simpa using hi),Ih,if_pos hi] at e
   cases e;exact trivial
  ·obtain⟨k,rfl⟩:∃k,i=nt+k:=⟨i-nt,by omega⟩
   rw[IJ (by simp),Jl,Mw,HW] at e ⊢;cases ej:idx[k]? with
   | none=>rw[ej] at e;cases e
   | some j=>
    rw[ej] at e;have e:some (roS ρ[j]?)=some l:=e;cases e;cases q:ρ[j]? with
    | none=>exact trivial
    | some l'=>
     have:=(vw j l' q).same (Same.new (o:=.lst []) nD);cases l' with
     | no=>exact trivial
     | val p=>
      obtain⟨v,ev,r⟩:=this;exact⟨v,by show some ((σ[j]?).getD none)=_;rw[ev];rfl,r⟩
     | own p=>exact trivial
     | pin qs a=>exact trivial
 ·simp[bU]
theorem qV{ρ:PSt}{p:PV}{ps rest:List PV}(e:cq h t fe ρ (p::ps)=.ok rest):∃ρ1 b,h p ρ=some ρ1/\t ρ1=.ok b/\
  ((b=true/\∃q r,fe ρ1=.ok q/\cq h t fe ρ ps=.ok r/\rest=q::r)\/(b=false/\cq h t fe ρ ps=.ok rest)):=by
 unfold cq at e;cases h1:h p ρ with
 | none=>rw[h1] at e;cases e
 | some ρ1=>
  rw[h1] at e;simp only[R.ofO_some,R.ok_bind] at e;cases h2:t ρ1 with
  | ok b=>
   rw[h2] at e;simp only[R.ok_bind] at e;refine⟨ρ1,b,rfl,h2,?_⟩;cases b with
   | true=>
    rw[if_pos rfl] at e;cases h3:fe ρ1 with
    | ok q=>
     rw[h3] at e;simp only[R.ok_bind] at e;cases h4:cq h t fe ρ ps with
     | ok r=>
      rw[h4] at e;cases e;exact .inl ⟨rfl,q,r,rfl,rfl,rfl⟩
     | er x=>rw[h4] at e;cases e
     | no=>rw[h4] at e;cases e
    | er x=>rw[h3] at e;cases e
    | no=>rw[h3] at e;cases e
   | false=>
    rw[if_neg HP] at e;exact .inr ⟨rfl,e⟩
  | er x=>rw[h2] at e;cases e
  | no=>rw[h2] at e;cases e
theorem View.weak{K:HA}{H:Hp}{σ:L2.St}{ρ ρ1:PSt}{n:Nat}(vw:View K H σ ρ1)(low:∀i,n<=i->ρ1[i]?=ρ[i]?)(no:∀i l,i<n->ρ[i]?=some l->l=.no):View K H σ ρ:=by
 refine⟨fun i l e=>?_,vw.tb⟩
 by_cases hi:i<n
 ·rw[no i l hi e];exact trivial
 ·exact vw i l (by rw[low i (by omega)];exact e)
theorem uC{idx:List Nat}{nt:Nat}{ρ:PSt}{i:Nat}{l:Sl}(hi:i<nt)(e:(bU nt idx ρ)[i]?=some l):l=.no:=by
 unfold bU at e;rw[HZ (by simpa using hi),Ih,if_pos hi] at e;cases e;rfl
theorem uB{idx:List Nat}{nt:Nat}{ρ:PSt}{i:Nat}{p:PV}(e:(bU nt idx ρ)[i]?=some (.own p)):False:=by
 unfold bU at e
 by_cases hi:i<nt
 ·rw[HZ (by simpa using hi),Ih,if_pos hi] at e
  cases e
 ·rw[IJ (by simpa using hi),HW] at e
  cases q:idx[i-(IM nt Sl.no).length]? with
  | none=>rw[q] at e;cases e
  | some j=>
   rw[q] at e;have e:some (roS ρ[j]?)=some (Sl.own p):=e;unfold roS at e;split at e <;> cases e
theorem uA{idx:List Nat}{nt:Nat}{ρ:PSt}{i:Nat}{p:List PV}{a:Addr}(e:(bU nt idx ρ)[i]?=some (.pin p a)):False:=by
 unfold bU at e
 by_cases hi:i<nt
 ·rw[HZ (by simpa using hi),Ih,if_pos hi] at e
  cases e
 ·rw[IJ (by simpa using hi),HW] at e
  cases q:idx[i-(IM nt Sl.no).length]? with
  | none=>rw[q] at e;cases e
  | some j=>
   rw[q] at e;have e:some (roS ρ[j]?)=some (Sl.pin p a):=e;unfold roS at e;split at e <;> cases e
theorem View.noOwn{K:HA}{H H':Hp}{σ:L2.St}{ρ:PSt}(vw:View K H σ ρ)(no:∀(i:Nat)(p:PV),ρ[i]?≠some (Sl.own p))(np:∀(i:Nat)(ps:List PV)(a:Addr),ρ[i]?≠some (Sl.pin ps a))(k:Kp H H')(tb:qZ H'):View K H' σ ρ:=by
 refine⟨fun i l e=>?_,tb⟩;have:=vw i l e;cases l with
 | no=>exact trivial
 | val p=>obtain⟨v,ev,r⟩:=this;exact⟨v,ev,r.kp k⟩
 | own p=>exact absurd e (no i p)
 | pin ps a=>exact absurd e (np i ps a)
theorem kg{pins:List (Addr×Obj)}{σ:L2.St}{H₂:Hp}{s₂:HC}{J:It}{fp:List Addr}{it:Addr}{tn:Nat->Heap->Prop}{ρ:PSt}{ps qs:List PV}{RR:HB->Addr->Result->HC->Prop}{E:HB->HC->Prop}
  (O:CompOk C.X.N C.X.env.scope scope N' nt idx) (hc:C.X.calm=true)
  (hg:∀cl L s H fp,TCt (d4 C N' scope cl L s H fp) tg h) (hlow:Ai nt h) (ht:∀cl L s H fp,ETs (d4 C N' scope cl L s H fp) ifs t) (he:∀cl L s H fp,EV (d4 C N' scope cl L s H fp) elt fe)
  (I:Inv C.X pins σ H₂ s₂) (T:Turn C.X.prog C.X.w C.X.K tg J fp it tn) (st:tn 0 s₂.heap) (hf:∀b∈fp,qd C.X pins H₂ b) (vw:View C.X.K H₂ σ ρ) (ip:ItP C.X.K J H₂ ps)
  (hq:cq h t fe (bU nt idx ρ) ps=.ok qs) (hz:qs.length<=sizeLine)
  (hRR:∀D L σ' H' s' xs,Inv (fq C.X N' scope (df C.X.env.cells scope.names []) L s₂ H₂ fp) [] σ' H' s'->Same H₂ H'->H₂ D=none->H' D=some (.lst xs)->aE C.X.K H' qs xs->s₂.heap.objs.size<=L->RR (.ref D) L (.ok .next) s') :
  Hx (IK C.X.prog C.X.w) C.X.A (newList []) (fun acc s₃=>Hx (IK C.X.prog C.X.w) C.X.A (newFunctionEnv scope C.X.env.globals (df C.X.env.cells scope.names []) [] C.X.env.qual none .none (some C.X.env)) (fun cenv s₄=>
   LB (IK C.X.prog C.X.w) C.X.A (.compStart (.ListComp elt [⟨tg,iter,ifs,0⟩] scope pos) 0 (.ref it) acc { cenv with scope:=relabel scope C.X.env }) (RR acc cenv.locals) s₄) E s₃) E s₂:=by
 refine KY (wpAny_newFunctionEnv O.cell (by intro y hy;simp at hy) (fun h₁ hns₁ hsb₁=>?_) O.kind);dsimp only at hns₁ hsb₁ ⊢;generalize hG:s₂.heap.push { cls:=.type "list",dict:=none,data:=.seq ([]:List HB).toArray }=G at hns₁ hsb₁ ⊢;have hC:G.objs.size=s₂.heap.objs.size+1:=by rw[← hG,Heap.size_push]
 have hDL:s₂.heap.objs.size≠G.objs.size:=by rw[hC];exact IF (Nat.lt_succ_self _)
 have keep:∀b o,s₂.heap.get? b=some o->h₁.get? b=some o:=fun b o e=>
  hsb₁.extBut b o (by rw[hC];exact IF (Lz (HU e))) (HH _ (hG▸HH _ e))
 have acc:h₁.get? s₂.heap.objs.size=some { cls:=.type "list",data:=.seq ([]:List HB).toArray }:=hsb₁.extBut _ _ hDL (HH _ (hG▸IC _ rfl));have nD:H₂ s₂.heap.objs.size=none:=I.fresh;have hGe:s₂.heap.objs.size<=G.objs.size:=by rw[hC];exact Nd _
 obtain⟨σ0,I0,vw0,hl0,fl⟩:=qU O hc I T st hf vw (L:=G.objs.size) (tk:=s₂.toks+([]:List (Str×HB)).length) rfl hGe hDL (by simpa using hns₁) keep acc
 have fpk:∀{H':Hp}{pins':List (Addr×Obj)},(∀b∈fp,H' b=none)->(∀p∈pins',p.1 ∉ fp)->∀b∈fp,qd (fq C.X N' scope (df C.X.env.cells scope.names []) G.objs.size s₂ H₂ fp) pins' H' b:=fun {H' pins'} hn hp b hb=>by
  obtain⟨g1,g2,g3,g4,g5,g6⟩:=hf b hb;refine⟨hn b hb,IF (HR (fl b hb) hGe),fun z=>?_,.inl hb,fun x c e=>?_,fun p hp' z=>?_⟩
  ·exact(Hr.mp (I.stkSub b z)).elim g2 g3
  ·rcases cN e with z | z
   ·exact g5 x c z
   ·cases z
  ·subst z
   exact hp p ((show p∈([]:List (Addr×Obj))++pins' from hp')) hb
 have loop:LB (IK C.X.prog C.X.w) C.X.A (.compLoop (.ListComp elt [⟨tg,iter,ifs,0⟩] scope pos) 0 (.ref it) (.ref s₂.heap.objs.size) (compEnvC scope (df C.X.env.cells scope.names []) G.objs.size C.X.env))
   (RR (.ref s₂.heap.objs.size) G.objs.size) { s₂ with heap:=h₁,toks:=s₂.toks+([]:List (Str×HB)).length }:=by
  refine nS (fun n s=>∃i σ' H' xs dn rest,n=ps.length-i/\i<=ps.length/\Inv (fq C.X N' scope (df C.X.env.cells scope.names []) G.objs.size s₂ H₂ fp) [] σ' H' s/\tn i s.heap/\(∀b∈fp,H' b=none)/\Same H₂ H'/\
   H' s₂.heap.objs.size=some (.lst xs)/\aE C.X.K H' dn xs/\View C.X.K H' σ' (bU nt idx ρ)/\(bU nt idx ρ).length=σ'.length/\cq h t fe (bU nt idx ρ) (ps.drop i)=.ok rest/\dn++rest=qs) ?_ ps.length
   ⟨0,σ0,_,[],[],qs,rfl,JI _,I0,T.keep _ _ _ st fun b _ o e=>keep b o e,fun b hb=>?_,Same.new nD,ax,aE.nil,vw0,hl0,by simpa using hq,rfl⟩
  ·rintro n s ⟨i,σ',H',xs,dn,rest,rfl,hi,I',st',fr',sm',hD',rp',vw',hl',e',ea⟩
   obtain⟨stp,stepp⟩:=ip i H' (Same.kp sm')
   by_cases hlt:i<ps.length
   ·have ei:ps[i]?=some ps[i]:=by simp[hlt]
    obtain⟨go,yl⟩:=stepp _ ei;rw[pV ei] at e';obtain⟨ρ1,b,e1,e2,e3⟩:=qV e';obtain⟨l1,low1⟩:=hlow _ _ _ e1;refine thn (T.item (fq C.X N' scope (df C.X.env.cells scope.names []) G.objs.size s₂ H₂ fp) rfl rfl rfl rfl i [] s σ' H' _ I' (fpk fr' (by simp)) st' go) fun r s1 ⟨u,hr,h4⟩=>?_;subst hr;refine thn h4 fun _ s2 ⟨x,H3,I3,r3,y3,st3,fr3⟩=>?_;obtain⟨sm3,rp3⟩:=yl x H3 y3;have I3':=I3.pinned (fpk fr3 (by simp)) (T.obj _ _ st3);refine thn (hg _ _ _ _ _ _ s2 σ' H3 x u (fun σ4 H4=>H4=H3/\ρ1.length=σ4.length/\View C.X.K H4 σ4 ρ1) I3' r3 ⟨_,_,ρ1,hl',vw'.same sm3,rp3,e1,fun σ4 hl4 vw4=>⟨rfl,hl4,vw4⟩⟩) fun _ s4 ⟨σ4,H4,I4,q4⟩=>?_;obtain⟨rfl,hl4,vw4⟩:=q4
    have tests:Hx (IK C.X.prog C.X.w) C.X.A (forIn ifs true fun c r=>if r=true then do let ok<- isTrue c (compEnvC scope (df C.X.env.cells scope.names []) G.objs.size C.X.env) (J8 c (compEnvC scope (df C.X.env.cells scope.names []) G.objs.size C.X.env));pure (JK ok) else pure (JK r))
      (TP (fq C.X N' scope (df C.X.env.cells scope.names []) G.objs.size s₂ H₂ fp) ([]++kT fp s2.heap) σ4 (fun b' H5=>b'=b/\Same H4 H5)) (fun _ _=>False) s4:=by
     rcases ht (df C.X.env.cells scope.names []) G.objs.size s₂ H₂ fp with⟨ez,et⟩|⟨c,ez,et⟩
     ·subst ez
      subst et;cases e2;exact wpAny_tests_nil ⟨H4,I4,rfl,Same.refl _⟩
     ·subst ez
      exact wpAny_tests_one (et _ s4 σ4 H4 _ I4 ⟨ρ1,vw4,by rw[e2];exact fun H' s'=>⟨rfl,s'⟩⟩)
    refine thn tests fun b' s5 ⟨H5,I5,eb,sm5⟩=>?_;subst eb
    have fin:∀{H7:Hp}{s7:HC},Inv (fq C.X N' scope (df C.X.env.cells scope.names []) G.objs.size s₂ H₂ fp) ([]++kT fp s2.heap) σ4 H7 s7->Inv (fq C.X N' scope (df C.X.env.cells scope.names []) G.objs.size s₂ H₂ fp) [] σ4 H7 s7/\tn (i+1) s7.heap/\∀b∈fp,H7 b=none:=fun {H7 s7} I7=>by
     refine⟨I7.unpinned,T.keep _ _ _ st3 fun b hb o e=>(I7.pin (b,o) (IS _ (IS _ (fX hb e)))).1,fun b hb=>?_⟩;obtain⟨o,e,_⟩:=T.obj _ _ st3 b hb;exact(I7.pin (b,o) (IS _ (IS _ (fX hb e)))).2.1
    have sm25:Same H₂ H5:=(sm'.trans sm3).trans sm5;have smd:Same H' H5:=sm3.trans sm5;have vw5:View C.X.K H5 σ4 (bU nt idx ρ):=View.weak (vw4.same sm5) low1 fun i l hi e=>uC hi e;have hl5:(bU nt idx ρ).length=σ4.length:=by rw[← l1];exact hl4
    rcases e3 with⟨rfl,q,r,e4,e5,rfl⟩|⟨rfl,e4⟩
    ·rw[if_pos rfl]
     refine thn (he _ _ _ _ _ _ s5 σ4 H5 (fun v H6=>Same H5 H6/\Rep C.X.K H6 q v) I5 ⟨ρ1,vw4.same sm5,by rw[e4];exact fun v H' s' r=>⟨s',r⟩⟩) fun u6 s6 ⟨v,H6,I6,r6,sm6,rp6⟩=>?_;have hD6:H6 s₂.heap.objs.size=some (.lst xs):=sm6 _ _ (smd _ _ hD')
     have hx:xs.length<sizeLine:=by
      have a1:=rp'.length;have a2:qs.length=dn.length+(r.length+1):=by rw[← ea];simp
      omega
     refine thn (n9 (X:=fq C.X N' scope (df C.X.env.cells scope.names []) G.objs.size s₂ H₂ fp) _ s6 σ4 H6 (.ref s₂.heap.objs.size) [v] (.ref s₂.heap.objs.size) [u6] (fun _ H7=>H7=upd H6 s₂.heap.objs.size (.lst (xs++[v]))) I6 rfl (.cons r6 .nil) ⟨_,xs,v,rfl,rfl,hD6,hx,rfl⟩) fun _ s7 ⟨_,H7,I7,_,e7⟩=>?_;subst e7;obtain⟨J7,st7,fr7⟩:=fin I7;have kp7:Kp H6 (upd H6 s₂.heap.objs.size (.lst (xs++[v]))):=Kp.upd hD6 rfl;refine⟨ps.length-(i+1),by omega,i+1,σ4,_,xs++[v],dn++[q],r,rfl,hlt,J7,st7,fr7,(sm25.trans sm6).but nD (fun u h=>by rw[hD6] at h;cases h;rfl) (fun b hb=>az hb),ax,?_,?_,hl5,e5,by rw[← ea];simp⟩
     ·exact aE.append (aE.kp kp7 _ ((rp'.same smd).same sm6)) (aE.cons (Rep.kp kp7 _ rp6) aE.nil)
     ·exact(vw5.same sm6).noOwn (fun i p e=>uB e) (fun i p a e=>uA e) kp7 ((vw5.same sm6).tb.but (fun u h=>by rw[hD6] at h;cases h;exact⟨rfl,rfl⟩) (fun b hb=>az hb))
    ·rw[if_neg HP]
     obtain⟨J7,st7,fr7⟩:=fin I5;exact⟨ps.length-(i+1),by omega,i+1,σ4,H5,xs,dn,rest,rfl,hlt,J7,st7,fr7,sm25,smd _ _ hD',rp'.same smd,vw5,hl5,e4,ea⟩
   ·have e:i=ps.length:=by omega
    subst e;rw[L6] at e';cases e';rw[Iy] at ea;subst ea;refine thn (T.done (fq C.X N' scope (df C.X.env.cells scope.names []) G.objs.size s₂ H₂ fp) rfl rfl rfl rfl ps.length [] s σ' H' _ I' (fpk fr' (by simp)) st' (stp rfl)) fun r s1 ⟨hr,I1⟩=>?_;subst hr;exact hRR _ _ σ' H' s1 xs I1 sm' nD hD' rp' hGe
  ·show upd H₂ _ _ b=none
   rw[az (IF (fl b hb))];exact(hf b hb).1
 exact codeAny_compStart_list loop (T.self _ 0 _ _ _ (T.keep _ _ _ st fun b _ o e=>keep b o e) loop)
end
end PU
namespace PU
open PySem PySem.Spec PyProof.Rows L2
variable[TW]
section
variable{C : Cn}{elt tg iter : Expr}{ifs : List Expr}{scope : Scope}{pos : JO}{N' : List Str}{nt : Nat}{idx : List Nat}{fi : PSt → R (List PV)}{h : Tgt}{t : PSt → R Bool}{fe : PSt → R PV}
theorem kh{pins:List (Addr×Obj)}{σ σ':L2.St}{H₂ H':Hp}{s₂ s':HC}{fp:List Addr}{cl:List (Str×Addr)}{L:Addr}(I:Inv C.X pins σ H₂ s₂)(hf:∀b∈fp,qd C.X pins H₂ b)
  (I':Inv (fq C.X N' scope cl L s₂ H₂ fp) [] σ' H' s'):Inv C.X pins σ H' s':=
 I.call' (ch:=fp) I'.os I'.base I'.hok I'.bare fun b hb=>by
  obtain⟨g1,g2,g3,g4,g5,g6⟩:=hf b hb;exact⟨g4,g2,g5,g6⟩
theorem z7{α:Type}{H:Hp}{r:R α}{k:α->Prop}(q:RQ C H (za r) k):∃a,r=.ok a/\k a:=by
 cases r with
 | ok a=>exact⟨a,rfl,q⟩
 | er x=>exact HJ q
 | no=>exact HJ q
theorem k8{pins:List (Addr×Obj)}{σ:L2.St}{H:Hp}{s:HC}{L:Addr}{h':Heap}(I:Inv C.X pins σ H s)(hn:H L=none)(hL:L≠C.X.env.locals)(h1:C.X.s₀.heap.objs.size<=L)(h2:∀x c,C.X.env.cells.lookup x=some c->c≠L)
  (h3:∀p∈C.X.pn++pins,p.1≠L) (sb:KG L s.heap h'):Inv C.X pins σ H { s with heap:=h' }:=
 I.turned (t':=s.toks) (fun b o hb e=>(sb.2 b hb).trans e) hn hL (.inr h1) h2 h3
theorem mi(O:CompOk C.X.N C.X.env.scope scope N' nt idx)(hi:EI C tg iter fi)
  (hg:∀cl L s H fp,TCt (d4 C N' scope cl L s H fp) tg h) (he:∀cl L s H fp,EV (d4 C N' scope cl L s H fp) elt fe)
  (hs:∀x,KZ iter C.X.env x=pure x:=by intro _;rfl) (hc:C.X.calm=true:=by rfl) (hlow:Ai nt h:=by repeat' (first | exact oD | exact lW (by decide) | apply oC | apply lX)) (ht:∀cl L s H fp,ETs (d4 C N' scope cl L s H fp) ifs t:=by exact fun _ _ _ _ _=>oN):EN C (.ListComp elt [⟨tg,iter,ifs,0⟩] scope pos) (fS fi h t fe nt idx):=by
 intro pins s σ H Q I ⟨ρ,vw,q⟩;rw[eval_ListComp];refine LG (use:=none) rfl hs (bP fun y hy hk=>I.ok.has y.1 (O.free y hy hk)) O.kind O.names ?_
 refine thn (hi pins s σ H (fun J H'=>∃ps qs,Same H H'/\ItP C.X.K J H' ps/\cq h t fe (bU nt idx ρ) ps=.ok qs/\qs.length<=sizeLine/\∀a H'',Same H H''->H a=none->bY C.X.K H'' a (.lst qs)->Q (.ref a) H'') I
  ⟨ρ,vw,q.bind.imp fun ps _ k J H' s' ip=>?_⟩) fun v s1 h1=>thn h1 fun itv s2 h2=>?_
 ·obtain⟨qs,e1,k⟩:=z7 k.bind
  obtain⟨z,k⟩:=jM k;exact⟨ps,qs,s',ip,e1,z,k⟩
 ·obtain⟨it,fp,tn,J,H2,e,I2,T,st2,f2,ps,qs,sm,ip,e1,hz,k⟩:=h2
  subst e;refine kg O hc hg hlow ht he I2 T st2 f2 (vw.same sm) ip e1 hz fun D L σ' H' s' xs I' sm' nD hD rp hL=>?_;obtain⟨m,hn,_⟩:=id I'.loc;have IB:=kh I2 f2 I';refine⟨m,hn,fun h' sb=>⟨.ref D,H',k8 IB I'.free ?_ (Ig I2.sz hL) ?_ ?_ sb,rfl,k D H' (sm.trans sm') (sm.free nD) ⟨xs,hD,rp⟩⟩⟩
  ·exact Jd (HR I2.lt hL)
  ·intro x c ec z
   obtain⟨v,qc⟩:=I2.cell x c ec;have z:c=L:=z;exact Iw _ (HR (z▸qc.lt) hL)
  ·intro p hp z
   have z:p.1=L:=z;exact Iw _ (HR (z▸HU (I2.pin p hp).1) hL)
theorem RS.bind'{C:Cn}{B:Hp×Hp}{D:Ends}{H:Hp}{fi:PSt->R (List PV)}{h:Tgt}{t:PSt->R Bool}{fe:PSt->R PV}{nt:Nat}{idx:List Nat}{ρ:PSt}{g:PV->Sl}{i:Nat}
  (q:RS C B D (fS fi h t fe nt idx ρ >>= fun p=>.ok (.next (ρ.set i (g p))))) (s:Same B.1 H) :
  RQ C H (fi ρ) fun ps=>∃qs,cq h t fe (bU nt idx ρ) ps=.ok qs/\qs.length<=sizeLine/\∀σ' H'',StOk C.X.K B H'' σ' (ρ.set i (g (.lst qs)))->D.nx σ' H'':=by
 unfold fS at q;rw[R.bind_assoc] at q;refine(q.bind s).imp fun ps _ k=>?_;rw[R.bind_assoc] at k;cases hc:cq h t fe (bU nt idx ρ) ps with
 | ok qs=>
  rw[hc] at k;have k:RS C B D ((fh qs >>= fun qs=>R.ok (.lst qs)) >>= fun p=>.ok (.next (ρ.set i (g p)))):=k;unfold fh at k
  by_cases hz:qs.length<=16777216
  ·rw[if_pos hz] at k
   exact⟨qs,rfl,by rw[Il];exact hz,k⟩
  ·rw[if_neg hz] at k
   exact HJ k
 | er x=>rw[hc] at k;exact HJ k
 | no=>rw[hc] at k;exact HJ k
theorem rR(own:Bool)(i:Nat){x:Str}{px:JO}{spos:JO}(hN:C.X.N.Nodup)(O:CompOk C.X.N C.X.env.scope scope N' nt idx)(hi:EI C tg iter fi)
  (hg:∀cl L s H fp,TCt (d4 C N' scope cl L s H fp) tg h) (he:∀cl L s H fp,EV (d4 C N' scope cl L s H fp) elt fe)
  (hsw:KL (.ListComp elt [⟨tg,iter,ifs,0⟩] scope pos) (some (.Name x px)) spos.line C.X.env=pure true:=by rfl)
  (hs:∀x,KZ iter C.X.env x=pure x:=by intro _;rfl)
  (hf:C.X.fn x=true\/C.X.env.scope.names.lookup x=some .local:=by first | exact .inl rfl | exact .inr rfl | assumption) (hc:C.X.calm=true:=by rfl) (hlow:Ai nt h:=by repeat' (first | exact oD | exact lW (by decide) | apply oC | apply lX)) (ht:∀cl L s H fp,ETs (d4 C N' scope cl L s H fp) ifs t:=by exact fun _ _ _ _ _=>oN) (hi':C.X.N[i]?=some x:=by rfl) (hx:Loc C.X.env.scope x:=by first | exact .inl rfl | exact .inr rfl) :
  SV C (.Assign [.Name x px] (.ListComp elt [⟨tg,iter,ifs,0⟩] scope pos) spos) ((if own=true then o4 else bZ) i (fS fi h t fe nt idx)):=by
 intro pins s σ H D I ⟨ρ,B,S,q⟩;rw[exec_Assign_Name_used _ _ _ _ hsw];refine HD (NY (HD ?_));show Hx _ C.X.A (do let _<- comprehension (.ListComp elt [⟨tg,iter,ifs,0⟩] scope pos) scope C.X.env _ (newList []) false (J8 iter C.X.env) (some (Ln (.Name x px) C.X.env))) _ _ s
 refine HD (JG (LG (use:=some (Ln (.Name x px) C.X.env)) (Q:=fun _ s'=>SP C.X pins D .next s') rfl hs (bP fun y hy hk=>I.ok.has y.1 (O.free y hy hk)) O.kind O.names ?_)
  (fun _ s' hq=>HK (HK hq)) fun _ _ e=>e)
 have q':RS C B D (fS fi h t fe nt idx ρ >>= fun p=>.ok (.next (ρ.set i (if own=true then .own p else .val p)))):=by
  cases own with
  | true=>exact q
  | false=>exact q
 refine thn (hi pins s σ H (fun J H'=>∃ps qs,Same H H'/\ItP C.X.K J H' ps/\cq h t fe (bU nt idx ρ) ps=.ok qs/\qs.length<=sizeLine/\∀σ' H'',StOk C.X.K B H'' σ' (ρ.set i (if own=true then .own (.lst qs) else .val (.lst qs)))->D.nx σ' H'') I
  ⟨ρ,S.vw,(RS.bind' q' S.same).imp fun ps _ k J H' s' ip=>?_⟩) fun v s1 h1=>thn h1 fun itv s2 h2=>?_
 ·obtain⟨qs,e1,z,k⟩:=k
  exact⟨ps,qs,s',ip,e1,z,k⟩
 ·obtain⟨it,fp,tn,J,H2,e,I2,T,st2,f2,ps,qs,sm,ip,e1,hz,k⟩:=h2
  subst e;refine kg O hc hg hlow ht he I2 T st2 f2 (S.vw.same sm) ip e1 hz fun Da L σ' H' s' xs I' sm' nD hD rp hL=>?_;obtain⟨m,⟨o,es,ep,ho,hrest⟩,_⟩:=id I'.loc;have IB:=kh I2 f2 I';have nL:L≠C.X.env.locals:=Jd (HR I2.lt hL)
  have nC:∀x c,C.X.env.cells.lookup x=some c->c≠L:=fun x c ec z=>by
   obtain⟨v,qc⟩:=I2.cell x c ec;have z:c=L:=z;exact Iw _ (HR (z▸qc.lt) hL)
  have nP:∀p∈C.X.pn++pins,p.1≠L:=fun p hp z=>by
   have z:p.1=L:=z;exact Iw _ (HR (z▸HU (I2.pin p hp).1) hL)
  have IP:Inv C.X (pins++[(L,o)]) σ H' s':=IB.pins_of fun p hp=>by
   rcases IV.mp hp with z | z
   ·exact IB.pin p (IS _ z)
   ·have:p=(L,o):=by simpa using z
    subst this;exact⟨ho,I'.free,nL,I2.nofs hL,fun v z=>by rw[hrest.1] at z;cases z⟩
  have S2:=S.grow (sm.trans sm')
  have fin:∀{H3:Hp}{v:V},Inv C.X (pins++[(L,o)]) σ H3 s'->v=.ref Da->(∀σ3,σ3=σ.set i (some v)->D.nx σ3 H3)->
    Hx (IK C.X.prog C.X.w) C.X.A (Ln (.Name x px) C.X.env (.ref Da)) (fun _ s''=>∃m,s''.heap.Ns L m/\∀h',KG L s''.heap h'->SP C.X pins D .next { s'' with heap:=h' }) C.X.xe s':=fun {H3 v} I3 ev k3=>by
   refine thn (lP hN hi' hx hf (pins++[(L,o)]) s' σ H3 v (.ref Da) (fun σ4 H4=>σ4=σ.set i (some v)/\H4=H3) I3 (by subst ev;rfl) ⟨rfl,rfl⟩) fun _ s4 ⟨σ4,H4,I4,e4,e5⟩=>?_;have hp:=I4.pin (L,o) (by simp);have IU:Inv C.X pins σ4 H4 s4:=I4.unpinned;refine⟨m,⟨o,es,ep,hp.1,hrest⟩,fun h' sb=>⟨σ4,H4,k8 IU hp.2.1 nL (Ig I2.sz hL) nC nP sb,?_⟩⟩;subst e5;exact k3 σ4 e4
  cases own with
  | true=>
   exact fin IP rfl fun σ3 e3=>by
    subst e3;exact k _ _ (S.setN (sm.trans sm') (sm.free nD) ⟨xs,hD,rp⟩)
  | false=>
   obtain⟨H3,I3,rp3,oth⟩:=L2.Inv.frz (a:=Da) (p:=.lst qs) IP ⟨xs,hD,rp⟩;refine fin I3 rfl fun σ3 e3=>?_;subst e3;exact k _ _ ((S.grow ((sm.trans sm').but (sm.free nD) (fun u h=>by rw[hD] at h;cases h;rfl) oth)).setV rp3)
end
end PU
namespace PU
open PySem PySem.Spec PyProof.Rows L2 PySem.SeqAt
variable[TW]
section
variable{X : Cx}{pins : List (Addr×Obj)}{σ : L2.St}{H : Hp}{s : HC}
theorem iz{a:Addr}{xs ys:List V}(I:Inv X pins σ H s)(h1:SqT X.K H a xs)(h2:SqO X.K H a ys):False:=by
 obtain⟨its,_,⟨o,e,c,_⟩,_⟩:=I.tuple h1;obtain⟨_,its2,n,_,e2⟩:=h2.is I;rw[e] at e2;cases e2;have c:Kl "list"=Kl "tuple":=c;exact absurd c (by decide)
theorem yy{a:Addr}{xs ys:List V}(I:Inv X pins σ H s)(h1:SqO X.K H a xs)(h2:SqO X.K H a ys):xs=ys:=I.list_inj h1.l h2.l
mutual
theorem gB(I:Inv X pins σ H s):∀(p q:PV)(v:V)(b:Bool),b8 X.K H p v->b8 X.K H q v->bE p q=some b->b=true
 | .non,q,v,b,h1,h2,e=>by
  cases (show v=.non from h1);cases q with
  | non=>simpa [bE] using e.symm
  | bl j=>cases (show V.non=.bl j from h2)
  | int j=>cases (show V.non=.int j from h2)
  | str j=>cases (show V.non=.str j from h2)
  | tup qs=>obtain⟨a,xs,z,_⟩:=b8.tup_inv h2;cases z
  | lst qs=>obtain⟨a,xs,z,_⟩:=b8.lst_inv h2;cases z
  | _=>simp[bE] at e
 | .bl i,q,v,b,h1,h2,e=>by
  cases (show v=.bl i from h1);cases q with
  | bl j=>cases (show V.bl i=.bl j from h2);simpa [bE] using e.symm
  | non=>cases (show V.bl i=.non from h2)
  | int j=>cases (show V.bl i=.int j from h2)
  | str j=>cases (show V.bl i=.str j from h2)
  | tup qs=>obtain⟨a,xs,z,_⟩:=b8.tup_inv h2;cases z
  | lst qs=>obtain⟨a,xs,z,_⟩:=b8.lst_inv h2;cases z
  | _=>simp[bE] at e
 | .int i,q,v,b,h1,h2,e=>by
  cases (show v=.int i from h1);cases q with
  | int j=>cases (show V.int i=.int j from h2);simpa [bE] using e.symm
  | bl j=>cases (show V.int i=.bl j from h2)
  | non=>cases (show V.int i=.non from h2)
  | str j=>cases (show V.int i=.str j from h2)
  | tup qs=>obtain⟨a,xs,z,_⟩:=b8.tup_inv h2;cases z
  | lst qs=>obtain⟨a,xs,z,_⟩:=b8.lst_inv h2;cases z
  | _=>simp[bE] at e
 | .str i,q,v,b,h1,h2,e=>by
  cases (show v=.str i from h1);cases q with
  | str j=>cases (show V.str i=.str j from h2);simpa [bE] using e.symm
  | bl j=>cases (show V.str i=.bl j from h2)
  | non=>cases (show V.str i=.non from h2)
  | int j=>cases (show V.str i=.int j from h2)
  | tup qs=>obtain⟨a,xs,z,_⟩:=b8.tup_inv h2;cases z
  | lst qs=>obtain⟨a,xs,z,_⟩:=b8.lst_inv h2;cases z
  | _=>simp[bE] at e
 | .tup ps,q,v,b,h1,h2,e=>by
  obtain⟨a,xs,rfl,g1,r1⟩:=b8.tup_inv h1;cases q with
  | tup qs=>
   obtain⟨a2,ys,z,g2,r2⟩:=b8.tup_inv h2;cases z;cases I.tuple_inj g1 g2;exact jx I ps qs xs b r1 r2 (by simpa [bE] using e)
  | lst qs=>
   obtain⟨a2,ys,z,g2,r2⟩:=b8.lst_inv h2;cases z;exact(iz I g1 g2).elim
  | non=>cases (show V.ref a=.non from h2)
  | bl j=>cases (show V.ref a=.bl j from h2)
  | int j=>cases (show V.ref a=.int j from h2)
  | str j=>cases (show V.ref a=.str j from h2)
  | _=>simp[bE] at e
 | .lst ps,q,v,b,h1,h2,e=>by
  obtain⟨a,xs,rfl,g1,r1⟩:=b8.lst_inv h1;cases q with
  | lst qs=>
   obtain⟨a2,ys,z,g2,r2⟩:=b8.lst_inv h2;cases z;cases yy I g1 g2;exact jx I ps qs xs b r1 r2 (by simpa [bE] using e)
  | tup qs=>
   obtain⟨a2,ys,z,g2,r2⟩:=b8.tup_inv h2;cases z;exact(iz I g2 g1).elim
  | non=>cases (show V.ref a=.non from h2)
  | bl j=>cases (show V.ref a=.bl j from h2)
  | int j=>cases (show V.ref a=.int j from h2)
  | str j=>cases (show V.ref a=.str j from h2)
  | _=>simp[bE] at e
 | .dct _ _,_,_,_,_,_,e=>by simp[bE] at e
 | .dtt _ _,_,_,_,_,_,e=>by simp[bE] at e
 | .fn _ _,_,_,_,_,_,e=>by simp[bE] at e
theorem jx(I:Inv X pins σ H s):∀(ps qs:List PV)(xs:List V)(b:Bool),aE X.K H ps xs->aE X.K H qs xs->c8 ps qs=some b->b=true
 | [],qs,xs,b,r1,r2,e=>by
  cases r1;cases qs with
  | nil=>simpa [c8] using e.symm
  | cons q qs=>obtain⟨x,r,z,_⟩:=r2;cases z
 | p::ps,qs,xs,b,r1,r2,e=>by
  obtain⟨x,r,rfl,h1,t1⟩:=r1;cases qs with
  | nil=>cases (show x::r=[] from r2)
  | cons q qs=>
   obtain⟨x2,r2',z,h2,t2⟩:=r2;cases z;simp only[c8] at e;obtain⟨b1,e1,e⟩:=HV.mp e;obtain⟨b2,e2,e⟩:=HV.mp e;cases e;rw[gB I p q x b1 h1.o h2.o e1,jx I ps qs r b2 t1 t2 e2];rfl
end
theorem kW{p q:PV}{ps qs:List PV}{j:Nat}:gj (p::ps) (q::qs) (j+1)=gj ps qs j:=by simp[gj]
theorem iV:∀(ps qs:List PV)(b:Bool),c8 ps qs=some b->((Hy (O5 ps.length qs.length)).all (gj ps qs) && ps.length == qs.length)=b
 | [],[],b,e=>by simp[c8] at e;simp[e]
 | [],_::_,b,e=>by simp[c8] at e;simp[e]
 | _::_,[],b,e=>by simp[c8] at e;simp[e]
 | p::ps,q::qs,b,e=>by
  simp only[c8] at e;obtain⟨b1,e1,e⟩:=HV.mp e;obtain⟨b2,e2,e⟩:=HV.mp e;cases e;have ih:=iV ps qs b2 e2;have hm:O5 (p::ps).length (q::qs).length=O5 ps.length qs.length+1:=by simp only[IG];omega
  rw[hm,KH,JR,N1];have h0:gj (p::ps) (q::qs) 0=b1:=by simp[gj,e1]
  have hs:(gj (p::ps) (q::qs) ∘ Nat.succ)=gj ps qs:=by funext j;exact kW
  rw[h0,hs,← ih,IG,IG];simp[Bool.and_assoc]
theorem lS:∀{ps:List PV}{j:Nat}{p:PV},ps[j]?=some p->v7 p<=cR ps
 | [],_,_,h=>by simp at h
 | p::ps,0,_,h=>by simp at h;subst h;simp only[cR];omega
 | p::ps,j+1,q,h=>by
  have:=lS (ps:=ps) (j:=j) (p:=q) (by simpa using h);simp only[cR];omega
mutual
theorem uh(I:Inv X pins σ H s):∀(p q:PV)(A:IL)(v u:V)(v' u':HB)(b:Bool),b8 X.K H p v->b8 X.K H q u->RelV v v'->RelV u u'->bE p q=some b->A.units+v7 p<cLine->EqAt A s v' u' b
 | .non,q,A,v,u,v',u',b,h1,h2,e1,e2,e,hu=>by
  cases (show v=.non from h1);cases e1;have hu:=K8 (L8 _ _) hu;cases q with
  | non=>cases (show u=.non from h2);cases e2;simp[bE] at e;subst e;exact EqAt.same _
  | bl j=>cases (show u=.bl j from h2);cases e2;simp[bE] at e;subst e;exact EqAt.none_bool j
  | int j=>cases (show u=.int j from h2);obtain⟨t,rfl⟩:=e2;simp[bE] at e;subst e;exact EqAt.none_int j t
  | str j=>cases (show u=.str j from h2);obtain⟨t,rfl⟩:=e2;simp[bE] at e;subst e;exact EqAt.none_str j t
  | tup qs=>obtain⟨a,xs,rfl,g,_⟩:=b8.tup_inv h2;cases e2;obtain⟨its,_,pl,_⟩:=I.tuple g;simp[bE] at e;subst e;exact EqAt.none_tuple pl hu
  | lst qs=>obtain⟨a,xs,rfl,g,_⟩:=b8.lst_inv h2;cases e2;obtain⟨its,_,pl,_⟩:=I.list g.l;simp[bE] at e;subst e;exact EqAt.none_list pl.isList hu
  | _=>simp[bE] at e
 | .bl i,q,A,v,u,v',u',b,h1,h2,e1,e2,e,hu=>by
  cases (show v=.bl i from h1);cases e1;have hu:=K8 (L8 _ _) hu;cases q with
  | non=>cases (show u=.non from h2);cases e2;simp[bE] at e;subst e;exact EqAt.bool_none i
  | bl j=>cases (show u=.bl j from h2);cases e2;simp only[bE,K3] at e;subst e;exact EqAt.bool_bool i j
  | int j=>cases (show u=.int j from h2);obtain⟨t,rfl⟩:=e2;simp only[bE,K3] at e;subst e;exact EqAt.bool_int i j t
  | str j=>cases (show u=.str j from h2);obtain⟨t,rfl⟩:=e2;simp[bE] at e;subst e;exact EqAt.bool_str i j t
  | tup qs=>obtain⟨a,xs,rfl,g,_⟩:=b8.tup_inv h2;cases e2;obtain⟨its,_,pl,_⟩:=I.tuple g;simp[bE] at e;subst e;exact EqAt.bool_tuple i pl hu
  | lst qs=>obtain⟨a,xs,rfl,g,_⟩:=b8.lst_inv h2;cases e2;obtain⟨its,_,pl,_⟩:=I.list g.l;simp[bE] at e;subst e;exact EqAt.bool_list i pl.isList hu
  | _=>simp[bE] at e
 | .int i,q,A,v,u,v',u',b,h1,h2,e1,e2,e,hu=>by
  cases (show v=.int i from h1);obtain⟨t',rfl⟩:=e1;have hu:=K8 (L8 _ _) hu;cases q with
  | non=>cases (show u=.non from h2);cases e2;simp[bE] at e;subst e;exact EqAt.int_none i t'
  | bl j=>cases (show u=.bl j from h2);cases e2;simp only[bE,K3] at e;subst e;exact EqAt.int_bool i t' j
  | int j=>cases (show u=.int j from h2);obtain⟨t,rfl⟩:=e2;simp only[bE,K3] at e;subst e;exact EqAt.int_int i t' j t
  | str j=>cases (show u=.str j from h2);obtain⟨t,rfl⟩:=e2;simp[bE] at e;subst e;exact EqAt.int_str i t' j t
  | tup qs=>obtain⟨a,xs,rfl,g,_⟩:=b8.tup_inv h2;cases e2;obtain⟨its,_,pl,_⟩:=I.tuple g;simp[bE] at e;subst e;exact EqAt.int_tuple i t' pl hu
  | lst qs=>obtain⟨a,xs,rfl,g,_⟩:=b8.lst_inv h2;cases e2;obtain⟨its,_,pl,_⟩:=I.list g.l;simp[bE] at e;subst e;exact EqAt.int_list i t' pl.isList hu
  | _=>simp[bE] at e
 | .str i,q,A,v,u,v',u',b,h1,h2,e1,e2,e,hu=>by
  cases (show v=.str i from h1);obtain⟨t',rfl⟩:=e1;have hu:=K8 (L8 _ _) hu;cases q with
  | non=>cases (show u=.non from h2);cases e2;simp[bE] at e;subst e;exact EqAt.str_none i t'
  | bl j=>cases (show u=.bl j from h2);cases e2;simp[bE] at e;subst e;exact EqAt.str_bool i t' j
  | int j=>cases (show u=.int j from h2);obtain⟨t,rfl⟩:=e2;simp[bE] at e;subst e;exact EqAt.str_int i t' j t
  | str j=>cases (show u=.str j from h2);obtain⟨t,rfl⟩:=e2;simp only[bE,K3] at e;subst e;exact EqAt.str_str i t' j t
  | tup qs=>obtain⟨a,xs,rfl,g,_⟩:=b8.tup_inv h2;cases e2;obtain⟨its,_,pl,_⟩:=I.tuple g;simp[bE] at e;subst e;exact EqAt.str_tuple i t' pl hu
  | lst qs=>obtain⟨a,xs,rfl,g,_⟩:=b8.lst_inv h2;cases e2;obtain⟨its,_,pl,_⟩:=I.list g.l;simp[bE] at e;subst e;exact EqAt.str_list i t' pl.isList hu
  | _=>simp[bE] at e
 | .tup ps,q,A,v,u,v',u',b,h1,h2,e1,e2,e,hu=>by
  obtain⟨a,xs,rfl,g1,r1⟩:=b8.tup_inv h1;cases e1;obtain⟨its,rv,pl,_⟩:=I.tuple g1;simp only[v7] at hu;have hu0:A.units<cLine:=by omega
  cases q with
  | non=>cases (show u=.non from h2);cases e2;simp[bE] at e;subst e;exact EqAt.tuple_none pl hu0
  | bl j=>cases (show u=.bl j from h2);cases e2;simp[bE] at e;subst e;exact EqAt.tuple_bool j pl hu0
  | int j=>cases (show u=.int j from h2);obtain⟨t,rfl⟩:=e2;simp[bE] at e;subst e;exact EqAt.tuple_int j t pl hu0
  | str j=>cases (show u=.str j from h2);obtain⟨t,rfl⟩:=e2;simp[bE] at e;subst e;exact EqAt.tuple_str j t pl hu0
  | lst qs=>obtain⟨a2,ys,rfl,g,_⟩:=b8.lst_inv h2;cases e2;obtain⟨its2,_,pl2,_⟩:=I.list g.l;simp[bE] at e;subst e;exact EqAt.tuple_list pl pl2.isList hu0
  | tup qs=>
   by_cases hv:V.ref a=u
   ·subst hv
    rw[gB I _ _ _ b h1 h2 e];cases e2;exact EqAt.same _
   ·obtain⟨a2,ys,rfl,g2,r2⟩:=b8.tup_inv h2
    cases e2;obtain⟨its2,rv2,pl2,_⟩:=I.tuple g2;have l1:=r1.length;have l2:=r2.length;have l3:=rv.length;have l4:=rv2.length;have e':c8 ps qs=some b:=by simpa [bE] using e
    rw[← iV ps qs b e',show ps.length=its.toArray.size by simp;omega,show qs.length=its2.toArray.size by simp;omega];refine EqAt.of_refs (fun z=>hv (by rw[z])) (RcAt.tuples pl pl2 hu0 fun j j1 j2=>?_);have:=jX I ps qs A.in1 xs ys its its2 b r1 r2 rv rv2 e' (by show A.units+1+_<_;omega) j (by simpa using j1) (by simpa using j2);simpa using this
  | _=>simp[bE] at e
 | .lst ps,q,A,v,u,v',u',b,h1,h2,e1,e2,e,hu=>by
  obtain⟨a,xs,rfl,g1,r1⟩:=b8.lst_inv h1;cases e1;obtain⟨its,rv,pl,_⟩:=I.list g1.l;simp only[v7] at hu;have hu0:A.units<cLine:=by omega
  cases q with
  | non=>cases (show u=.non from h2);cases e2;simp[bE] at e;subst e;exact EqAt.list_none pl.isList hu0
  | bl j=>cases (show u=.bl j from h2);cases e2;simp[bE] at e;subst e;exact EqAt.list_bool j pl.isList hu0
  | int j=>cases (show u=.int j from h2);obtain⟨t,rfl⟩:=e2;simp[bE] at e;subst e;exact EqAt.list_int j t pl.isList hu0
  | str j=>cases (show u=.str j from h2);obtain⟨t,rfl⟩:=e2;simp[bE] at e;subst e;exact EqAt.list_str j t pl.isList hu0
  | tup qs=>obtain⟨a2,ys,rfl,g,_⟩:=b8.tup_inv h2;cases e2;obtain⟨its2,_,pl2,_⟩:=I.tuple g;simp[bE] at e;subst e;exact EqAt.list_tuple pl.isList pl2 hu0
  | lst qs=>
   by_cases hv:V.ref a=u
   ·subst hv
    rw[gB I _ _ _ b h1 h2 e];cases e2;exact EqAt.same _
   ·obtain⟨a2,ys,rfl,g2,r2⟩:=b8.lst_inv h2
    cases e2;obtain⟨its2,rv2,pl2,_⟩:=I.list g2.l;have l1:=r1.length;have l2:=r2.length;have l3:=rv.length;have l4:=rv2.length;have e':c8 ps qs=some b:=by simpa [bE] using e
    have hp:=iV ps qs b e';refine EqAt.of_refs (fun z=>hv (by rw[z])) ?_
    by_cases hl:ps.length=qs.length
    ·have hb:(Hy its.toArray.size).all (gj ps qs)=b:=by
      rw[← hp,hl,Nat.min_self,beq_self_eq_true,Lh,show its.toArray.size=qs.length by simp;omega]
     rw[← hb];refine RcAt.lists pl.isList pl2.isList (by simp;omega) hu0 fun j j1 j2=>?_;have:=jX I ps qs A.in1 xs ys its its2 b r1 r2 rv rv2 e' (by show A.units+1+_<_;omega) j (by simpa using j1) (by simpa using j2);simpa using this
    ·have hb:b=false:=by
      rw[← hp,beq_eq_false_iff_ne.mpr hl,LR]
     rw[hb];exact RcAt.lists_lengths pl.isList pl2.isList (by simp;omega) hu0
  | _=>simp[bE] at e
 | .dct _ _,_,_,_,_,_,_,_,_,_,_,_,e,_=>by simp[bE] at e
 | .dtt _ _,_,_,_,_,_,_,_,_,_,_,_,e,_=>by simp[bE] at e
 | .fn _ _,_,_,_,_,_,_,_,_,_,_,_,e,_=>by simp[bE] at e
theorem jX(I:Inv X pins σ H s):∀(ps qs:List PV)(A:IL)(xs ys:List V)(vs ws:List HB)(b:Bool),aE X.K H ps xs->aE X.K H qs ys->Vals xs vs->Vals ys ws->c8 ps qs=some b->A.units+cR ps<cLine->
  ∀j (h1:j<vs.length) (h2:j<ws.length),EqAt A s vs[j] ws[j] (gj ps qs j)
 | [],qs,A,xs,ys,vs,ws,b,r1,r2,rv,rw',e,hu,j,h1,h2=>by
  cases r1;cases rv;exact absurd h1 (Jk _)
 | p::ps,[],A,xs,ys,vs,ws,b,r1,r2,rv,rw',e,hu,j,h1,h2=>by
  cases r2;cases rw';exact absurd h2 (Jk _)
 | p::ps,q::qs,A,xs,ys,vs,ws,b,r1,r2,rv,rw',e,hu,j,h1,h2=>by
  obtain⟨x,r,rfl,p1,t1⟩:=r1;obtain⟨y,r',rfl,p2,t2⟩:=r2;cases rv with
  | cons a1 c1=>
   cases rw' with
   | cons a2 c2=>
    simp only[c8] at e;obtain⟨b1,e1,e⟩:=HV.mp e;obtain⟨b2,e2,e⟩:=HV.mp e;simp only[cR] at hu;cases j with
    | zero=>
     have:gj (p::ps) (q::qs) 0=b1:=by simp[gj,e1]
     rw[this];exact uh I p q A x y _ _ b1 p1.o p2.o a1 a2 e1 (by omega)
    | succ j=>
     rw[kW];exact jX I ps qs A r r' _ _ b2 t1 t2 c1 c2 e2 (by omega) j (NC h1) (NC h2)
end
end
end PU
namespace PU
open PySem PySem.Spec PyProof.Rows L2 PySem.SeqAt PySem.Calls PyProof.V
variable[TW]
def EqW(P:HX)(w:IA)(A:IL)(s:HC)(y x:HB)(b:Bool):Prop:=∀(E:HB->HC->Prop)(Q:Bool->HC->Prop),Q b s->Hx (IK P w) A (eqBool y x) Q E s
theorem EqW.of{P:HX}{w:IA}{A:IL}{s:HC}{y x:HB}{b:Bool}(h:EqAt A s y x b):EqW P w A s y x b:=fun E Q q=>h P w E Q q
section
variable{P : HX}{w : IA}{κ : Type}[DecidableEq κ]{kd : KeyKind P w κ}{A : IL}{E : HB → HC → Prop}{s : HC}
inductive HitW (P:HX) (w:IA) (A:IL) (s:HC) (other:List (κ×HB)):List (κ×HB)->Bool->Prop
 | done:HitW P w A s other [] true
 | lacks {k:κ} {v:HB} {t:List (κ×HB)}:JD other k=none->HitW P w A s other ((k,v)::t) false
 | meets {k:κ} {v y:HB} {t:List (κ×HB)} {e b:Bool}:JD other k=some y->EqW P w A s v y e->HitW P w A s other t b->HitW P w A s other ((k,v)::t) (e && b)
theorem HitW.split{other:List (κ×HB)}{k:κ}{v:HB}{t:List (κ×HB)}{b:Bool}(h:HitW P w A s other ((k,v)::t) b) :
  (JD other k=none/\b=false)\/∃y e c,JD other k=some y/\EqW P w A s v y e/\HitW P w A s other t c/\b=(e && c):=by
 cases h with
 | lacks n=>exact .inl ⟨n,rfl⟩
 | meets y1 y2 y3=>exact .inr ⟨_,_,_,y1,y2,y3,rfl⟩
theorem qw{nm:String}{d1 d2:Addr}{l1 l2:List (κ×HB)}{r:Bool}{Q:Bool->HC->Prop}(n1:(d1 == Im)=false)(n2:(d2 == Im)=false)(D1:s.heap.DictOf kd d1 l1)(D2:s.heap.DictOf kd d2 l2)
  (hh:l1.length=l2.length->HitW P w A s l2 l1 r) (q:Q (l1.length == l2.length && r) s):Hx (IK P w) A (M7 nm d1 d2) Q E s:=by
 obtain⟨o1,es1,c1,get1,_,dat1,ks1,prs1,_⟩:=D1;obtain⟨o2,es2,c2,get2,_,dat2,ks2,prs2,_⟩:=D2;have len1:l1.length=es1.size:=by rw[← prs1.length];exact Io
 have len2:l2.length=es2.size:=by rw[← prs2.length];exact Io
 have seek:∀k,findBy kd.is es2 k=JD l2 k:=fun k=>by
  rw[← prs2.find k];clear len2 prs2 ks2 dat2 get2;cases es2;simp[findBy]
 rw[len1,len2] at q;unfold M7 Builtin.Dict.showsAll;rw[if_neg (by rw[n1];exact HP),if_neg (by rw[n2];exact HP)];refine HD (HK (HD (HK (HD (LA get1 dat1 ?_)))));dsimp only;refine HD (LA get2 dat2 ?_)
 by_cases sz:es1.size=es2.size
 case neg=>
  rw[if_pos (by simpa using sz)];have no:(es1.size == es2.size)=false:=by simpa using sz
  rw[no,MX] at q;exact HD (MC (HK q))
 case pos=>
  have q':Q r s:=by simpa [sz] using q
  have hh':=hh (by rw[len1,len2];exact sz);rw[if_neg (by rw[sz];simp)];refine HD (wpAny_dictEpoch get1 dat1 (HD ?_));rw[Std.Legacy.Range.forIn_eq_forIn_range'];simp only[Std.Legacy.Range.size,Nat.sub_zero,Nat.add_sub_cancel,Nat.div_one];refine LM _ (fun todo z s'=>s'=s/\z=(none,())/\∃j,todo=NK j (es1.size-j)/\j<=es1.size/\HitW P w A s l2 (l1.drop j) r) _ ?_ ?_ _ _ ⟨rfl,rfl,0,by simp,JI _,hh'⟩
  ·rintro x todo z s' ⟨rfl,rfl,j,et,hj,rest⟩
   have lt:j<es1.size:=by
    rcases Je j es1.size with g | g
    ·exact g
    ·rw[Nat.sub_eq_zero_of_le g] at et;simp at et
   have e1:es1.size-j=(es1.size-(j+1))+1:=by omega
   rw[e1,M9] at et;injection et with ex et;subst ex;refine HD (LA get1 dat1 ?_);rw[Jz lt];have lt':x<l1.length:=by rw[len1];exact lt
   obtain⟨k,v,ekv⟩:∃k v,l1[x]=(k,v):=⟨_,_,rfl⟩;have cut:l1.drop x=(k,v)::l1.drop (x+1):=by rw[← ekv];exact Ir lt'
   obtain⟨isk,isv⟩:=prs1.get? (i:=x) (e:=es1[x]) (k:=k) (v:=v) (by rw[N2];exact Jz lt) (by rw[Ic lt',ekv]);obtain⟨k',isk',hs⟩:=ks1 es1[x] (Array.getElem_mem lt);have ek:k'=k:=kd.inj _ _ _ isk' isk;rw[ek] at hs;rw[cut] at rest;show Hx _ _ (holding [es1[x].key,es1[x].val] _ >>= _) _ _ _;rw[hs];refine HD (Js (HD (wpAny_dictFind_of isk get2 dat2 ks2 ?_)));cases at2:es2.findIdx? fun e=>kd.is k e.key with
   | none=>
    have nn:JD l2 k=none:=by rw[← seek k,findBy_of_findIdx?,at2]
    rcases rest.split with⟨_,er⟩|⟨y,_,_,hy,_⟩
    ·rw[er] at q'
     refine HK ?_;show Hx _ _ (if (!false)=true then _ else _) _ _ _;rw[if_pos (by decide)];exact HK (HK q')
    ·rw[nn] at hy;cases hy
   | some m=>
    obtain⟨mlt,_,_⟩:=Array.findIdx?_eq_some_iff_getElem.mp at2
    have vv:JD l2 k=some es2[m].val:=by
     rw[← seek k,findBy_of_findIdx?,at2];simp[Jz mlt]
    refine HD (LA get2 dat2 ?_);rw[Jz mlt];rcases rest.split with⟨nn,_⟩|⟨y,e,c,hy,he,ht,er⟩
    ·rw[vv] at nn;cases nn
    ·have ey:es2[m].val=y:=Ib (vv.symm.trans hy)
     rw[← ey,← isv] at he;refine Js (he _ _ ?_);cases e with
     | false=>
      rw[er,MX] at q';show Hx _ _ (if (!false)=true then _ else _) _ _ _;rw[if_pos (by decide)];exact HK (HK q')
     | true=>
      rw[Mm] at er;rw[← er] at ht;show Hx _ _ (if (!true)=true then _ else _) _ _ _;rw[if_neg (by decide)];refine HD (wpAny_dictEpoch get1 dat1 ?_);rw[if_neg (by simp)];exact HK ⟨rfl,rfl,x+1,et,lt,ht⟩
  ·rintro z s' ⟨rfl,rfl,j,et,hj,rest⟩
   have ej:j=es1.size:=by
    rcases Je j es1.size with g | g
    ·have e1:es1.size-j=(es1.size-(j+1))+1:=by omega
     rw[e1,M9] at et;cases et
    ·exact Nat.le_antisymm hj g
   refine HK ?_;rw[ej,← len1,L6] at rest;cases rest;exact q'
theorem jd{d1 d2:Addr}{l1 l2:List (κ×HB)}{r:Bool}{Q:HB->HC->Prop}(n1:(d1 == Im)=false)(n2:(d2 == Im)=false)(D1:s.heap.DictOf kd d1 l1)(D2:s.heap.DictOf kd d2 l2)(hu:A.units<cLine)
  (hh:l1.length=l2.length->HitW P w A.in1 s l2 l1 r) (q:Q (.bool (l1.length == l2.length && r)) s):Hx (IK P w) A (richCompare .Eq (.ref d1) (.ref d2)) Q E s:=by
 refine wpAny_richCompare_same_room (op:=.Eq) D1.typeIs D2.typeIs Mq (LO Mq D1.typeIs PySem.F.entry_dict_eq ?_ (PySem.F.args_dict_eq_2 _ _)) hu;show Hx _ _ (Lp "__eq__" ⟨[.ref d1,.ref d2],[]⟩ >>= _) _ _ s;unfold Lp;refine HD (HD (wpAny_notOrdered_dict D1.typeIs ?_));show Hx _ _ (pure (JA d1,JA d2)) _ _ s;refine HK (HD (MY (T:="dict") D2.typeIs PySem.F.sub_dict_dict ?_));simp only[Mn,IY,if_false];refine HD (HK (HD (HK (HD (qw n1 n2 D1 D2 hh (HK ⟨_,rfl,(fun z=>nomatch z),?_⟩))))));simpa using q
end
section
variable{X : Cx}{pins : List (Addr×Obj)}{σ : L2.St}{H : Hp}{s : HC}
theorem kD{kvs:List (Key×V)}{vs:List (Key×HB)}(r:KV kvs vs)(k:Key):(mE kvs k=none/\JD vs k=none)\/∃v u,mE kvs k=some v/\JD vs k=some u/\RelV v u:=by
 induction r with
 | nil=>exact .inl ⟨rfl,rfl⟩
 | @cons p q ps qs h t ih=>
  obtain⟨h1,h2⟩:=h
  by_cases e:p.1=k
  ·refine .inr ⟨p.2,q.2,gx e,?_,h2⟩
   simp[JD,JB,← h1,e]
  ·rw[eJ e]
   have e2:JD (q::qs) k=JD qs k:=by simp[JD,JB,← h1,e]
   rw[e2];exact ih
theorem l5{k:Key}:∀{ks:List Key}{ps:List PV}{kvs:List (Key×V)},kvs.map (·.1)=ks->ps.length=kvs.length->bO ks ps k=none->mE kvs k=none
 | [],_,kvs,e,_,_=>by
  have:kvs=[]:=by simpa using e
  subst this;rfl
 | j::ks,[],kvs,e,hl,_=>by
  have:kvs.length=0:=by simpa using hl.symm
  have:kvs=[]:=Ik this;subst this;cases e
 | j::ks,p::ps,kv::kvs,e,hl,h=>by
  have e1:kv.1=j:=by simpa using congrArg Ll e
  have e2:kvs.map (·.1)=ks:=by simpa using congrArg M8 e
  have h:(if j=k then some p else bO ks ps k)=none:=h;split at h
  ·cases h
  ·rename_i hn
   rw[eJ (by rw[e1];exact hn)];exact l5 e2 (by simpa using hl) h
 | j::ks,p::ps,[],e,_,_=>by cases e
theorem gE{K:HA}{H:Hp}{k:Key}:∀{ks:List Key}{ps:List PV}{kvs:List (Key×V)}{p:PV},kvs.map (·.1)=ks->aE K H ps (kvs.map (·.2))->bO ks ps k=some p->∃v,mE kvs k=some v/\Rep K H p v
 | _,_,[],_,h1,h2,e=>by
  subst h1;simp only[Jv,bO] at e;cases e
 | _,[],kv::kvs,_,h1,h2,e=>by
  cases h2
 | _,q::ps,kv::kvs,p,h1,h2,e=>by
  subst h1;obtain⟨x,r,ex,hx,ht⟩:=h2;simp only[HI,JZ] at ex;obtain⟨rfl,rfl⟩:=ex;simp only[HI,bO] at e
  by_cases hk:kv.1=k
  ·rw[if_pos hk] at e
   cases e;exact⟨kv.2,gx hk,hx⟩
  ·rw[if_neg hk] at e
   rw[eJ hk];exact gE rfl ht e
theorem m9(A:IL)(eqf:PV->PV->Option Bool)(I:Inv X pins σ H s){ls:List Key}{qs:List PV}{kvs2:List (Key×V)}{vs2:List (Key×HB)}(e2:kvs2.map (·.1)=ls)(r2:aE X.K H qs (kvs2.map (·.2)))(kv2:KV kvs2 vs2) :
  ∀(ks:List Key)(ps:List PV)(kvs1:List (Key×V))(vs1:List (Key×HB))(b:Bool),kvs1.map (·.1)=ks->aE X.K H ps (kvs1.map (·.2))->KV kvs1 vs1->jL eqf ks ps ls qs=some b->
   (∀p∈ps,∀(q:PV)(v u:V)(v' u':HB)(c:Bool),b8 X.K H p v->b8 X.K H q u->RelV v v'->RelV u u'->eqf p q=some c->EqW X.prog X.w A s v' u' c)->HitW X.prog X.w A s vs2 vs1 b
 | [],[],kvs1,vs1,b,e1,r1,kv1,h,_=>by
  have:kvs1=[]:=by simpa using e1
  subst this;cases kv1;have h:some true=some b:=h;cases h;exact .done
 | k::ks,p::ps,kvs1,vs1,b,e1,r1,kv1,h,he=>by
  cases kvs1 with
  | nil=>cases e1
  | cons kv kvs=>
   have ek:kv.1=k:=by simpa using congrArg Ll e1
   have et:kvs.map (·.1)=ks:=by simpa using congrArg M8 e1
   obtain⟨x,r,ex,rp,rt⟩:=r1;have exx:kv.2=x:=by simpa using congrArg Ll ex
   have err:kvs.map (·.2)=r:=by simpa using congrArg M8 ex
   cases kv1 with
   | @cons _ q _ qs' hd tl=>
    obtain⟨k',u1⟩:=q;obtain⟨h1,h2⟩:=hd;have h1:kv.1=k':=h1;have h2:RelV kv.2 u1:=h2;subst err;rw[← h1,ek];unfold jL at h;cases hl:bO ls qs k with
    | none=>
     rw[hl] at h;have h:some false=some b:=h;cases h;have:=l5 e2 (by rw[r2.length,HF]) hl;rcases kD kv2 k with⟨_,z⟩|⟨v,u,z,_⟩
     ·exact .lacks z
     ·rw[this] at z;cases z
    | some q2=>
     rw[hl] at h;have h:((eqf p q2).bind fun a=>(jL eqf ks ps ls qs).bind fun b=>some (a && b))=some b:=h;obtain⟨c1,g1,h⟩:=HV.mp h;obtain⟨c2,g2,h⟩:=HV.mp h;cases h;obtain⟨v2,ev2,rp2⟩:=gE e2 r2 hl;rcases kD kv2 k with⟨z,_⟩|⟨v,u,z,z2,z3⟩
     ·rw[ev2] at z;cases z
     ·rw[ev2] at z
      cases z;exact .meets z2 (he p ID q2 kv.2 v2 u1 u c1 (exx▸rp.o) rp2.o h2 z3 g1) (m9 A eqf I e2 r2 kv2 ks ps kvs qs' c2 et rt tl g2 fun p' hp'=>he p' (I9 _ hp'))
 | [],_::_,_,_,_,_,_,_,h,_=>by cases h
 | _::_,[],_,_,_,_,_,_,h,_=>by cases h
theorem sP{k:Key}{r:PV}:∀(ks:List Key)(ps:List PV),ks.length=ps.length->k ∉ ks->∀(ls:List Key)(qs:List PV),bO (ks++k::ls) (ps++r::qs) k=some r
 | [],[],_,_,ls,qs=>by
  show (if k=k then some r else _)=_;rw[if_pos rfl]
 | j::ks,p::ps,hl,hn,ls,qs=>by
  show (if j=k then some p else bO (ks++k::ls) (ps++r::qs) k)=_;rw[if_neg (fun e=>hn (by rw[e];exact ID))];exact sP ks ps (by simpa using hl) (fun h=>hn (I9 _ h)) ls qs
 | [],_::_,h,_,_,_=>by simp at h
 | _::_,[],h,_,_,_=>by simp at h
theorem mT{P:HX}{w:IA}{κ:Type}[DecidableEq κ]{kd:KeyKind P w κ}:∀{es:List DictEntry}{l1 l2:List (κ×HB)},Pairs kd es l1->Pairs kd es l2->l1=l2
 | _,_,_,.nil,.nil=>rfl
 | _,_,_,.cons a b c,.cons a' b' c'=>by
  rw[mT c c'];have h1:=kd.inj _ _ _ a a';have h2:=b.symm.trans b';rw[Ls h1 h2]
theorem qR{P:HX}{w:IA}{κ:Type}[DecidableEq κ]{kd:KeyKind P w κ}{h:Heap}{a:Addr}{l1 l2:List (κ×HB)}(d1:h.DictOf kd a l1)(d2:h.DictOf kd a l2):l1=l2:=by
 obtain⟨o1,es1,c1,get1,_,dat1,_,prs1,_⟩:=d1;obtain⟨o2,es2,c2,get2,_,dat2,_,prs2,_⟩:=d2;rw[get1] at get2;cases get2;rw[dat1] at dat2;cases dat2;exact mT prs1 prs2
theorem xO:∀{l1 l2:List (Key×V)}{vs:List (Key×HB)},KV l1 vs->KV l2 vs->l1=l2
 | _,_,_,.nil,.nil=>rfl
 | _,_,_,.cons a c,.cons a' c'=>by
  rw[xO c c'];rw[Ls (a.1.trans a'.1.symm) (RelV.inj a.2 a'.2)]
theorem t7:∀{l:List (Key×V)}{vs:List (Key×HB)},KV l vs->l.map (·.1)=vs.map (·.1)
 | _,_,.nil=>rfl
 | _,_,.cons a c=>by rw[HI,HI,t7 c,a.1]
theorem nG(eqf:PV->PV->Option Bool)(he:∀(p q:PV)(v:V)(c:Bool),Rep X.K H p v->Rep X.K H q v->eqf p q=some c->c=true):∀(kvs kvs0:List (Key×V))(qs0 qs ps:List PV)(b:Bool),
  ((kvs0++kvs).map (·.1)).Nodup->aE X.K H qs0 (kvs0.map (·.2))->aE X.K H qs (kvs.map (·.2))->aE X.K H ps (kvs.map (·.2))->jL eqf (kvs.map (·.1)) ps ((kvs0++kvs).map (·.1)) (qs0++qs)=some b->b=true
 | [],kvs0,qs0,qs,ps,b,nd,r0,rq,rp,h=>by
  have:ps=[]:=Ik (by rw[rp.length];rfl);subst this;have h:some true=some b:=h;cases h;rfl
 | kv::kvs,kvs0,qs0,[],ps,b,nd,r0,rq,rp,h=>by
  have:=rq.length;simp at this
 | kv::kvs,kvs0,qs0,q::qs,[],b,nd,r0,rq,rp,h=>by
  have:=rp.length;simp at this
 | kv::kvs,kvs0,qs0,q::qs,p::ps,b,nd,r0,rq,rp,h=>by
  obtain⟨x,r,ex,rp1,rpt⟩:=rp;obtain⟨y,r',ey,rq1,rqt⟩:=rq;have exx:kv.2=x:=by simpa using congrArg Ll ex
  have err:kvs.map (·.2)=r:=by simpa using congrArg M8 ex
  have eyy:kv.2=y:=by simpa using congrArg Ll ey
  have err':kvs.map (·.2)=r':=by simpa using congrArg M8 ey
  subst exx eyy err;rw[← err'] at rqt
  have nk:kv.1 ∉ kvs0.map (·.1):=fun z=>by
   rw[IH,JP] at nd;exact nd.2.2 _ z _ (by simp) rfl
  have lk:bO ((kvs0++kv::kvs).map (·.1)) (qs0++q::qs) kv.1=some q:=by
   rw[IH,HI];exact sP _ _ (by rw[HF,r0.length,HF]) nk _ _
  rw[HI] at h;unfold jL at h;rw[lk] at h;have h:((eqf p q).bind fun a=>(jL eqf (kvs.map (·.1)) ps ((kvs0++kv::kvs).map (·.1)) (qs0++q::qs)).bind fun b=>some (a && b))=some b:=h;obtain⟨c1,g1,h⟩:=HV.mp h;obtain⟨c2,g2,h⟩:=HV.mp h;cases h;rw[he p q kv.2 c1 rp1 rq1 g1];have:=nG eqf he kvs (kvs0++[kv]) (qs0++[q]) qs ps c2 (by simpa using nd) (by rw[IH];exact r0.append (aE.cons rq1 aE.nil)) rqt rpt (by simpa using g2);rw[this];rfl
theorem sv(hw:X.w=TW.w)(I:Inv X pins σ H s):∀(n:Nat)(p q:PV)(v:V)(b:Bool),b8 X.K H p v->b8 X.K H q v->v5 n p q=some b->b=true:=by
 intro n
 induction n with
 | zero=>
  intro p q v b h1 h2 e;have e:bE p q=some b:=by cases p <;> exact e
  exact gB I p q v b h1 h2 e
 | succ n ih=>
  intro p q v b h1 h2 e
  by_cases hd:∃ks ps ls qs,p=.dct ks ps/\q=.dct ls qs
  ·obtain⟨ks,ps,ls,qs,rfl,rfl⟩:=hd
   have e:(if ks.length=ls.length then jL (v5 n) ks ps ls qs else some false)=some b:=e;obtain⟨a1,kvs1,rfl,d1,k1,r1⟩:=h1;obtain⟨a2,kvs2,ea,d2,k2,r2⟩:=h2;cases ea;obtain⟨_,n1,vs1,kv1,D1⟩:=DkR.at hw I d1;obtain⟨_,n2,vs2,kv2,D2⟩:=DkR.at hw I d2;have:=qR D1 D2;subst this;have:=xO kv1 kv2;subst this;subst k1;subst k2;rw[if_pos rfl] at e;obtain⟨_,_,_,_,_,_,_,_,nd⟩:=D1;exact nG (v5 n) (fun p q v c g1 g2 g=>ih p q v c g1.o g2.o g) kvs1 [] [] qs ps b (by rw[Kh,t7 kv1];exact nd) aE.nil r2 r1 (by simpa using e)
  ·have e:bE p q=some b:=by
    rw[← e];cases p with
    | dct ks ps=>
     cases q with
     | dct ls qs=>exact absurd ⟨ks,ps,ls,qs,rfl,rfl⟩ hd
     | _=>rfl
    | _=>rfl
   exact gB I p q v b h1 h2 e
theorem zJ(hw:X.w=TW.w)(I:Inv X pins σ H s):∀(n:Nat)(p q:PV)(A:IL)(v u:V)(v' u':HB)(b:Bool),b8 X.K H p v->b8 X.K H q u->RelV v v'->RelV u u'->v5 n p q=some b->A.units+v7 p<cLine->EqW X.prog X.w A s v' u' b:=by
 intro n
 induction n with
 | zero=>
  intro p q A v u v' u' b h1 h2 e1 e2 e hu;have e:bE p q=some b:=by cases p <;> exact e
  exact .of (uh I p q A v u v' u' b h1 h2 e1 e2 e hu)
 | succ n ih=>
  intro p q A v u v' u' b h1 h2 e1 e2 e hu
  by_cases hd:∃ks ps ls qs,p=.dct ks ps/\q=.dct ls qs
  ·obtain⟨ks,ps,ls,qs,rfl,rfl⟩:=hd
   have e0:=e;have h10:=h1;have h20:=h2;have e:(if ks.length=ls.length then jL (v5 n) ks ps ls qs else some false)=some b:=e;obtain⟨a1,kvs1,rfl,d1,k1,r1⟩:=h1;obtain⟨a2,kvs2,rfl,d2,k2,r2⟩:=h2;cases e1;cases e2;obtain⟨_,n1,vs1,kv1,D1⟩:=DkR.at hw I d1;obtain⟨_,n2,vs2,kv2,D2⟩:=DkR.at hw I d2;have l1:vs1.length=ks.length:=by rw[← k1,HF];exact(Ij kv1).symm
   have l2:vs2.length=ls.length:=by rw[← k2,HF];exact(Ij kv2).symm
   simp only[v7] at hu;have hu0:A.units<cLine:=by omega
   have dep:∀p∈ps,v7 p<=cR ps:=fun p hp=>by
    obtain⟨j,hj⟩:=KR.mp hp;exact lS hj
   by_cases same:a1=a2
   ·subst same
    rw[sv hw I (n+1) _ _ _ b h10 h20 e0];exact .of (EqAt.same _)
   ·intro E Q hq
    unfold eqBool;refine Js (wpAny_ite_split (fun hab=>absurd (by have:=K6 hab;injection this) same) fun _=>HD ?_)
    by_cases hl:ks.length=ls.length
    ·rw[if_pos hl] at e
     refine jd (r:=b) n1 n2 D1 D2 hu0 (fun _=>m9 A.in1 (v5 n) I k2 r2 kv2 ks ps kvs1 vs1 b k1 r1 kv1 e fun p hp q v u v' u' c g1 g2 g3 g4 g5=>ih p q A.in1 v u v' u' c g1 g2 g3 g4 g5 ?_) (JT ?_)
     ·have:=dep p hp
      show A.units+1+_<_;omega
     ·have:(vs1.length == vs2.length)=true:=by rw[l1,l2,hl];simp
      rw[this,Mm];exact hq
    ·rw[if_neg hl] at e
     cases e;refine jd (r:=false) n1 n2 D1 D2 hu0 (fun z=>absurd (by rw[← l1,← l2];exact z) hl) (JT ?_);rw[LR];exact hq
  ·have e:bE p q=some b:=by
    rw[← e];cases p with
    | dct ks ps=>
     cases q with
     | dct ls qs=>exact absurd ⟨ks,ps,ls,qs,rfl,rfl⟩ hd
     | _=>rfl
    | _=>rfl
   exact .of (uh I p q A v u v' u' b h1 h2 e1 e2 e hu)
end
end PU
namespace PU
open PySem PySem.Spec PyProof.Rows L2 PySem.SeqAt
variable[TW]
theorem bT{K:HA}{H:Hp}{p:PV}{v:V}(h:m4 p=true)(r:b8 K H p v):v=scV p:=by
 cases p with
 | non=>exact r
 | bl b=>exact r
 | int i=>exact r
 | str x=>exact r
 | _=>cases h
section
variable{X : Cx}
theorem oX{pins:List (Addr×Obj)}{σ:L2.St}{H:Hp}{s:HC}{ps qs:List PV}{v u:V}{v' u':HB}{b:Bool}(hu:X.A.units+64<cLine)(I:Inv X pins σ H s)(e:c8 ps qs=some b)(hd:cR ps<=60) :
  (b8 X.K H (.tup ps) v->b8 X.K H (.tup qs) u->RelV v v'->RelV u u'->RcAt X.A s v' u' b/\RcNeAt X.A s v' u' (!b))/\
  (b8 X.K H (.lst ps) v->b8 X.K H (.lst qs) u->RelV v v'->RelV u u'->RcAt X.A s v' u' b/\RcNeAt X.A s v' u' (!b)):=by
 have hu0:X.A.units<cLine:=by omega
 have hp:=iV ps qs b e;constructor
 ·intro h1 h2 e1 e2
  obtain⟨a,xs,rfl,g1,r1⟩:=b8.tup_inv h1;obtain⟨a2,ys,rfl,g2,r2⟩:=b8.tup_inv h2;cases e1;cases e2;obtain⟨its,rv,pl,_⟩:=I.tuple g1;obtain⟨its2,rv2,pl2,_⟩:=I.tuple g2;have l1:=r1.length;have l2:=r2.length;have l3:=rv.length;have l4:=rv2.length
  have each:∀j (j1:j<its.toArray.size) (j2:j<its2.toArray.size),EqAt X.A.in1 s its.toArray[j] its2.toArray[j] (gj ps qs j):=fun j j1 j2=>by
   have:=jX I ps qs X.A.in1 xs ys its its2 b r1 r2 rv rv2 e (by show X.A.units+1+_<_;omega) j (by simpa using j1) (by simpa using j2);simpa using this
  rw[← hp,show ps.length=its.toArray.size by simp;omega,show qs.length=its2.toArray.size by simp;omega];exact⟨RcAt.tuples pl pl2 hu0 each,RcNeAt.tuples pl pl2 hu0 each⟩
 ·intro h1 h2 e1 e2
  obtain⟨a,xs,rfl,g1,r1⟩:=b8.lst_inv h1;obtain⟨a2,ys,rfl,g2,r2⟩:=b8.lst_inv h2;cases e1;cases e2;obtain⟨its,rv,pl,_⟩:=I.list g1.l;obtain⟨its2,rv2,pl2,_⟩:=I.list g2.l;have l1:=r1.length;have l2:=r2.length;have l3:=rv.length;have l4:=rv2.length
  have each:∀j (j1:j<its.toArray.size) (j2:j<its2.toArray.size),EqAt X.A.in1 s its.toArray[j] its2.toArray[j] (gj ps qs j):=fun j j1 j2=>by
   have:=jX I ps qs X.A.in1 xs ys its its2 b r1 r2 rv rv2 e (by show X.A.units+1+_<_;omega) j (by simpa using j1) (by simpa using j2);simpa using this
  by_cases hl:ps.length=qs.length
  ·have hb:(Hy its.toArray.size).all (gj ps qs)=b:=by
    rw[← hp,hl,Nat.min_self,beq_self_eq_true,Lh,show its.toArray.size=qs.length by simp;omega]
   rw[← hb];exact⟨RcAt.lists pl.isList pl2.isList (by simp;omega) hu0 each,RcNeAt.lists pl.isList pl2.isList (by simp;omega) hu0 each⟩
  ·have hb:b=false:=by
    rw[← hp,beq_eq_false_iff_ne.mpr hl,LR]
   rw[hb];exact⟨RcAt.lists_lengths pl.isList pl2.isList (by simp;omega) hu0,RcNeAt.lists_lengths pl.isList pl2.isList (by simp;omega) hu0⟩
theorem iD(hu:X.A.units+64<cLine)(hw:X.w=TW.w:=by rfl):OpR X (Ia .Eq) (rP X.K gEq):=by
 intro pins s σ H x y v u Q I rx ry ⟨p,q,z,hp,hq,e,k⟩;unfold gEq at e;split at e
 ·rename_i ks ps ls qs
  split at e
  ·rename_i hd
   obtain⟨b,eb,ez⟩:=HQ.mp e;subst ez;have eb:(if ks.length=ls.length then jL (v5 2) ks ps ls qs else some false)=some b:=eb;obtain⟨a1,kvs1,rfl,d1,k1,r1⟩:=hp;obtain⟨a2,kvs2,rfl,d2,k2,r2⟩:=hq;cases rx;cases ry;obtain⟨_,n1,vs1,kv1,D1⟩:=DkR.at hw I d1;obtain⟨_,n2,vs2,kv2,D2⟩:=DkR.at hw I d2;have l1:vs1.length=ks.length:=by rw[← k1,HF];exact(Ij kv1).symm
   have l2:vs2.length=ls.length:=by rw[← k2,HF];exact(Ij kv2).symm
   have fin:EP X pins σ Q (.bool b) s:=⟨.bl b,H,I,rfl,k _ H (Same.refl H) rfl⟩;have hu0:X.A.units<cLine:=by omega
   by_cases hl:ks.length=ls.length
   ·rw[if_pos hl] at eb
    refine jd (r:=b) n1 n2 D1 D2 hu0 (fun _=>m9 X.A.in1 (v5 2) I k2 r2 kv2 ks ps kvs1 vs1 b k1 r1 kv1 eb fun p hp q v u v' u' c g1 g2 g3 g4 g5=>zJ hw I 2 p q X.A.in1 v u v' u' c g1 g2 g3 g4 g5 ?_) ?_
    ·obtain⟨j,hj⟩:=KR.mp hp
     have:=lS hj;show X.A.units+1+_<_;omega
    ·have:(vs1.length == vs2.length)=true:=by rw[l1,l2,hl];simp
     rw[this,Mm];exact fin
   ·rw[if_neg hl] at eb
    cases eb;refine jd (r:=false) n1 n2 D1 D2 hu0 (fun z=>absurd (by rw[← l1,← l2];exact z) hl) ?_;rw[LR];exact fin
  ·cases e
 ·split at e
  ·rename_i hd
   obtain⟨b,eb,ez⟩:=HQ.mp e;subst ez;exact((oX hu I eb hd).1 hp hq rx ry).1 _ _ _ _ ⟨.bl b,H,I,rfl,k _ H (Same.refl H) rfl⟩
  ·cases e
 ·split at e
  ·rename_i hd
   obtain⟨b,eb,ez⟩:=HQ.mp e;subst ez;exact((oX hu I eb hd).2 hp hq rx ry).1 _ _ _ _ ⟨.bl b,H,I,rfl,k _ H (Same.refl H) rfl⟩
  ·cases e
 ·split at e
  ·rename_i hc
   obtain⟨h1,h2,h3⟩:=hc;cases e;rw[bT h1 hp] at rx;rw[bT h2 hq] at ry;exact Ep pins s σ H _ _ v u Q I rx ry ⟨h3,k _ H (Same.refl H) rfl⟩
  ·cases e
theorem Ao(hu:X.A.units+64<cLine):OpR X (Ia .NotEq) (rP X.K gNe):=by
 intro pins s σ H x y v u Q I rx ry ⟨p,q,z,hp,hq,e,k⟩;unfold gNe at e;split at e
 ·split at e
  ·rename_i hd
   obtain⟨b,eb,ez⟩:=HQ.mp e;subst ez;exact((oX hu I eb hd).1 hp hq rx ry).2 _ _ _ _ ⟨.bl (!b),H,I,rfl,k _ H (Same.refl H) rfl⟩
  ·cases e
 ·split at e
  ·rename_i hd
   obtain⟨b,eb,ez⟩:=HQ.mp e;subst ez;exact((oX hu I eb hd).2 hp hq rx ry).2 _ _ _ _ ⟨.bl (!b),H,I,rfl,k _ H (Same.refl H) rfl⟩
  ·cases e
 ·split at e
  ·rename_i hc
   obtain⟨h1,h2,h3⟩:=hc;cases e;rw[bT h1 hp] at rx;rw[bT h2 hq] at ry;exact Em pins s σ H _ _ v u Q I rx ry ⟨h3,k _ H (Same.refl H) rfl⟩
  ·cases e
theorem Es:OpR X (Ia .Lt) (rP X.K gLt):=by
 intro pins s σ H x y v u Q I rx ry ⟨p,q,z,hp,hq,e,k⟩;unfold gLt at e;split at e
 ·rename_i i j
  cases e;cases (show x=.int i from hp);cases (show y=.int j from hq);exact En pins s σ H _ _ v u Q I rx ry ⟨i,j,rfl,rfl,k _ H (Same.refl H) rfl⟩
 ·rename_i i j
  cases e;cases (show x=.str i from hp);cases (show y=.str j from hq);exact sA pins s σ H _ _ v u Q I rx ry ⟨i,j,rfl,rfl,k _ H (Same.refl H) rfl⟩
 ·cases e
theorem GF:OpR X (Ia .LtE) (rP X.K gLe):=by
 intro pins s σ H x y v u Q I rx ry ⟨p,q,z,hp,hq,e,k⟩;unfold gLe at e;split at e
 ·rename_i i j
  cases e;cases (show x=.int i from hp);cases (show y=.int j from hq);exact Eo pins s σ H _ _ v u Q I rx ry ⟨i,j,rfl,rfl,k _ H (Same.refl H) rfl⟩
 ·rename_i i j
  cases e;cases (show x=.str i from hp);cases (show y=.str j from hq);obtain⟨t,rfl⟩:=rx;obtain⟨t',rfl⟩:=ry;exact PySem.P.le_str ⟨.bl _,H,I,rfl,k _ H (Same.refl H) rfl⟩
 ·cases e
theorem yE{K:HA}{H:Hp}{p:PV}{v:V}(r:b8 K H p v):decide (v=.non)=Cg p:=by
 cases p with
 | non=>cases (show v=.non from r);rfl
 | bl b=>cases (show v=.bl b from r);rfl
 | int b=>cases (show v=.int b from r);rfl
 | str b=>cases (show v=.str b from r);rfl
 | tup ps=>obtain⟨a,xs,rfl,_⟩:=b8.tup_inv r;rfl
 | lst ps=>obtain⟨a,xs,rfl,_⟩:=b8.lst_inv r;rfl
 | dct ks ps=>obtain⟨a,kvs,rfl,_⟩:=r;rfl
 | dtt ks ps=>obtain⟨a,kvs,rfl,_⟩:=r;rfl
 | fn L cs=>obtain⟨f,_,_,_,_,_,rfl,_⟩:=(show Rep K H (.fn L cs) v from r);rfl
theorem Et:OpR X (Ia .Is) (rP X.K wG):=by
 intro pins s σ H x y v u Q I rx ry ⟨p,q,z,hp,hq,e,k⟩;unfold wG at e;split at e
 ·cases e
  cases (show y=.non from hq);refine Bx pins s σ H _ _ v u Q I rx ry ⟨rfl,?_⟩;rw[yE hp];exact k _ H (Same.refl H) rfl
 ·cases e
end
end PU
namespace PU
open PySem PySem.Spec PyProof.Rows L2 PySem.SeqAt
variable[TW]
theorem dq{K:HA}{H:Hp}{p:PV}{v:V}{k:Key}(e:eK p=some k)(r:b8 K H p v):v=kV k:=by
 cases p with
 | int i=>cases e;exact r
 | str i=>cases e;exact r
 | _=>cases e
theorem p7{K:HA}{H:Hp}{ps:List PV}{xs:List V}{i:Int}{p:PV}(r:aE K H ps xs)(e:atI ps i=some p):∃v,atI xs i=some v/\Rep K H p v:=by
 unfold atI at e ⊢;rw[← r.length];obtain⟨j,ej,e2⟩:=HV.mp e;obtain⟨v,ev,rp⟩:=r.get e2;exact⟨v,by rw[ej];exact ev,rp⟩
section
variable{X : Cx}
theorem ixP(hu:X.A.units+64<cLine)(hw:X.w=TW.w:=by rfl):IxR X (rP X.K gIx):=by
 intro value slice pins s σ H x y v u Q I rx ry ⟨p,q,z,hp,hq,e,k⟩ hs;have h16:=Il;unfold gIx at e;split at e
 ·rename_i ps i
  obtain⟨a,xs,rfl,g,r⟩:=b8.lst_inv hp;cases (show y=.int i from hq);obtain⟨w,ew,rp⟩:=p7 r e;exact zo value slice pins s σ H _ _ v u Q I rx ry ⟨a,xs,i,w,rfl,rfl,g.l,ew,k w H (Same.refl H) rp⟩ hs
 ·rename_i ps i
  obtain⟨a,xs,rfl,g,r⟩:=b8.tup_inv hp;cases (show y=.int i from hq);obtain⟨w,ew,rp⟩:=p7 r e;exact Ca value slice pins s σ H _ _ v u Q I rx ry ⟨a,xs,i,w,rfl,rfl,g,ew,k w H (Same.refl H) rp⟩ hs
 ·rename_i t i
  split at e
  ·rename_i hl
   obtain⟨c,ec,ez⟩:=HQ.mp e;subst ez;cases (show x=.str t from hp);cases (show y=.int i from hq);exact Cb value slice pins s σ H _ _ v u Q I rx ry ⟨t,i,c,rfl,rfl,by omega,ec,k _ H (Same.refl H) rfl⟩ hs
  ·cases e
 ·rename_i ks ps
  obtain⟨kk,ek,e⟩:=HV.mp e;obtain⟨a,kvs,rfl,g,e1,r⟩:=hp;cases rx;have hy:=dq ek hq;subst hy;obtain⟨w,ew,rp⟩:=gE e1 r e;obtain⟨zz,hd,vs,rel,dd⟩:=DkR.at hw I g;obtain⟨w',hw,rw'⟩:=r8.some_of (v:=w) (o:=JD vs kk) (by rw[← ew];exact rel.val kk);exact tail_any dd.typeIs PySem.F.slot_dict_getitem.lookup (wpAny_getItem_of (lZ ry) dd.mapOf hw ⟨w,H,I.tok _,rw',k w H (Same.refl H) rp⟩) hs
 ·cases e
theorem ko{K:HA}{H:Hp}:∀{qs:List PV}{xs:List V},qs.all m4=true->aE K H qs xs->xs=qs.map scV/\xs.all kz=true
 | [],_,_,r=>by cases r;exact⟨rfl,rfl⟩
 | q::qs,_,h,⟨x,t,e,h1,h2⟩=>by
  subst e;simp only[JR,Ii] at h;obtain⟨e1,e2⟩:=ko h.2 h2;have hx:=bT h.1 h1.o;refine⟨by rw[HI,hx,e1],?_⟩;rw[JR,e2,Lh,hx];cases q <;> first | rfl | cases h.1
theorem lG{p:PV}(h:m4 p=true):kz (scV p)=true:=by
 cases p <;> first | rfl | cases h
theorem FL(hu:X.A.units+64<cLine)(hw:X.w=TW.w:=by rfl):OpR X (Ia .In) (rP X.K gIn):=by
 intro pins s σ H x y v u Q I rx ry ⟨p,q,z,hp,hq,e,k⟩;unfold gIn at e;split at e
 ·rename_i i j
  cases e;cases (show x=.str i from hp);cases (show y=.str j from hq);exact sC pins s σ H _ _ v u Q I rx ry ⟨i,j,rfl,rfl,k _ H (Same.refl H) rfl⟩
 ·rename_i qs _
  split at e
  ·rename_i hc
   cases e;obtain⟨a,xs,rfl,g,r⟩:=b8.lst_inv hq;obtain⟨e1,e2⟩:=ko hc.2 r;refine mY pins s σ H _ _ v u Q I rx ry ⟨a,xs,rfl,.inl g.l,by rw[bT hc.1 hp];exact lG hc.1,e2,?_⟩;rw[bT hc.1 hp,e1];exact k _ H (Same.refl H) rfl
  ·cases e
 ·rename_i qs _
  split at e
  ·rename_i hc
   cases e;obtain⟨a,xs,rfl,g,r⟩:=b8.tup_inv hq;obtain⟨e1,e2⟩:=ko hc.2 r;refine mY pins s σ H _ _ v u Q I rx ry ⟨a,xs,rfl,.inr g,by rw[bT hc.1 hp];exact lG hc.1,e2,?_⟩;rw[bT hc.1 hp,e1];exact k _ H (Same.refl H) rfl
  ·cases e
 ·rename_i ks ps _
  obtain⟨kk,ek,ez⟩:=HQ.mp e;subst ez;obtain⟨a,kvs,rfl,g,e1,r⟩:=hq;cases ry;have hx:=dq ek hp;subst hx;obtain⟨zz,hd,vs,rel,dd⟩:=DkR.at hw I g;refine wpAny_in_of (lZ rx) hd dd.mapOf ?_;rw[← (rel.val kk).isSome_eq,← iO];refine⟨.bl _,H,I.tok _,rfl,k _ H (Same.refl H) ?_⟩;subst e1;rw[Jx];rfl
 ·cases e
theorem yZ(hu:X.A.units+64<cLine)(hw:X.w=TW.w:=by rfl):OpR X (Ia .NotIn) (rP X.K gc):=by
 intro pins s σ H x y v u Q I rx ry ⟨p,q,z,hp,hq,e,k⟩;have e:=e;obtain⟨z0,e1,ez⟩:=HV.mp e;clear e;have e:=e1;clear e1;unfold gIn at e;split at e
 ·rename_i i j _
  cases e;cases ez;cases (show x=.str i from hp);cases (show y=.str j from hq);exact mX pins s σ H _ _ v u Q I rx ry ⟨i,j,rfl,rfl,k _ H (Same.refl H) rfl⟩
 ·rename_i qs _
  split at e
  ·rename_i hc
   cases e;cases ez;obtain⟨a,xs,rfl,g,r⟩:=b8.lst_inv hq;obtain⟨e1,e2⟩:=ko hc.2 r;refine iC pins s σ H _ _ v u Q I rx ry ⟨a,xs,rfl,.inl g.l,by rw[bT hc.1 hp];exact lG hc.1,e2,?_⟩;rw[bT hc.1 hp,e1];exact k _ H (Same.refl H) rfl
  ·cases e
 ·rename_i qs _
  split at e
  ·rename_i hc
   cases e;cases ez;obtain⟨a,xs,rfl,g,r⟩:=b8.tup_inv hq;obtain⟨e1,e2⟩:=ko hc.2 r;refine iC pins s σ H _ _ v u Q I rx ry ⟨a,xs,rfl,.inr g,by rw[bT hc.1 hp];exact lG hc.1,e2,?_⟩;rw[bT hc.1 hp,e1];exact k _ H (Same.refl H) rfl
  ·cases e
 ·rename_i ks ps _
  obtain⟨kk,ek,ez'⟩:=HQ.mp e;subst ez';cases ez;obtain⟨a,kvs,rfl,g,e1,r⟩:=hq;cases ry;have hx:=dq ek hp;subst hx;obtain⟨zz,hd,vs,rel,dd⟩:=DkR.at hw I g;refine wpAny_notIn_of (lZ rx) hd dd.mapOf ?_;rw[← (rel.val kk).isSome_eq,← iO];refine⟨.bl _,H,I.tok _,rfl,k _ H (Same.refl H) ?_⟩;subst e1;rw[Jx];rfl
 ·cases e
theorem rL(hw:X.w=TW.w):G5 X (fun v H Q=>∃p b,b8 X.K H p v/\rM p=some b/\Q b H):=by
 intro pins s σ H x v Q I rx ⟨p,b,rp,e,q⟩;have h16:=Il;cases p with
 | non=>
  cases (show x=.non from rp);cases e;exact cu pins s σ H _ v Q I rx ⟨_,rfl,q⟩
 | bl i=>
  cases (show x=.bl i from rp);cases e;exact cu pins s σ H _ v Q I rx ⟨_,rfl,q⟩
 | int i=>
  cases (show x=.int i from rp);cases e;exact cu pins s σ H _ v Q I rx ⟨_,rfl,q⟩
 | str i=>
  cases (show x=.str i from rp);simp only[rM] at e;split at e
  ·cases e
   exact cu pins s σ H _ v Q I rx ⟨_,⟨by omega,rfl⟩,q⟩
  ·cases e
 | tup ps=>
  obtain⟨a,xs,rfl,g,r⟩:=b8.tup_inv rp;cases e;have:ps.isEmpty=xs.isEmpty:=by have:=r.length;cases ps <;> cases xs <;> simp_all
  exact cu pins s σ H _ v Q I rx ⟨_,.inr (.inl ⟨xs,g,by rw[this]⟩),q⟩
 | lst ps=>
  obtain⟨a,xs,rfl,g,r⟩:=b8.lst_inv rp;cases e;have:ps.isEmpty=xs.isEmpty:=by have:=r.length;cases ps <;> cases xs <;> simp_all
  exact cu pins s σ H _ v Q I rx ⟨_,.inl ⟨xs,g.l,by rw[this]⟩,q⟩
 | dct ks ps=>
  obtain⟨a,kvs,rfl,g,e1,r⟩:=rp;cases rx;cases e;obtain⟨hz,hS,vs,rel,m⟩:=DkR.at hw I g;have hlen:kvs.length=vs.length:=Ij rel;refine wpAny_truthy_dict hS m (by omega) ⟨H,I.tok _,?_⟩;rw[l9 rel];subst e1;have:(kvs.map (·.1)).isEmpty=kvs.isEmpty:=by cases kvs <;> rfl
  rw[this] at q;exact q
 | dtt ks ps=>cases e
 | fn L cs=>cases e
end
section
variable{C : Cn}{a b c e : Expr}{f fa fb fc : PSt → R PV}{t u : PSt → R Bool}{rest : List Expr}{pos : JO}
theorem mf(ha:EO C a f)(he:∀whole,isTrue a C.X.env whole=(do let v<- whole;standAt a.pos;holding [v] (truthy v)):=by intro _;rfl)(hw:C.X.w=TW.w:=by rfl):ET C a (cY f):=by
 intro pins s σ H Q I ⟨ρ,vw,q⟩;refine isTrue_plain (thn (ha pins s σ H (fun v H'=>∃p b,b8 C.X.K H' p v/\rM p=some b/\Q b H') I ⟨ρ,vw,q.bind.imp fun p _ k v H' s' r=>?_⟩) fun v s1 ⟨x,H1,I1,r1,q1⟩=>rL hw pins s1 σ H1 x v Q I1 r1 q1) (he _);obtain⟨b,eb,k⟩:=k.ofO;exact⟨p,b,r,eb,k H' s'⟩
def tB(g:PV->PV->Option PV):Prop:=∀p q z,g p q=some z->∃b,z=.bl b
theorem bh{op:CmpOp}{g:PV->PV->Option PV}(ho:OpR C.X (Ia op) (rP C.X.K g))(hg:tB g)(ha:EO C a fa)(hb:EO C b fb)(hm:Kj op b=false:=by first | exact xF _ | with_unfolding_all rfl):ET C (.Compare a [op] [b] pos) (cY (ak fa fb g)):=by
 intro pins s σ H Q I ⟨ρ,vw,q⟩;refine yM ho ha hb hm pins s σ H Q I ?_;refine t2 vw (g:=g) (q.bind.imp fun p e k v H' s' r=>?_) fun _ _ _ _ h=>h
 have:∃b,p=.bl b:=by
  unfold ak at e;cases h1:fa ρ with
  | ok x=>
   rw[h1] at e;cases h2:fb ρ with
   | ok y=>
    rw[h2] at e;cases h3:g x y with
    | some z=>
     simp only[R.ok_bind,h3,R.ofO_some] at e;cases e;exact hg x y _ h3
    | none=>simp only[R.ok_bind,h3,R.ofO_none] at e;cases e
   | er x=>rw[h2] at e;cases e
   | no=>rw[h2] at e;cases e
  | er x=>rw[h1] at e;cases e
  | no=>rw[h1] at e;cases e
 obtain⟨b,rfl⟩:=this;cases (show v=.bl b from r);exact⟨b,rfl,k H' s'⟩
theorem EW.et(h:EW C e t):ET C e t:=PW.pt h
theorem jU(ha:ET C a t):EW C (.BoolOp .And [a] pos) t:=yK ha
theorem uc(ha:ET C a t):EW C (.BoolOp .Or [a] pos) t:=Bf ha
theorem nO(ha:ET C a t)(hb:EW C (.BoolOp .And (b::rest) pos) u):EW C (.BoolOp .And (a::b::rest) pos) (x8 t u):=by
 intro wh pins s σ H Q I ⟨ρ,vw,q⟩;refine Bg ha hb wh pins s σ H Q I ⟨ρ,vw,q.bind.imp fun c _ k H' s'=>?_⟩;cases c with
 | true=>exact Ar ⟨ρ,vw.same s',(k.same s').imp fun b _ k2 H2 s2=>k2 H2 (s'.trans s2)⟩
 | false=>exact As (k H' s')
theorem zF(ha:ET C a t)(hb:EW C (.BoolOp .Or (b::rest) pos) u):EW C (.BoolOp .Or (a::b::rest) pos) (orB t u):=by
 intro wh pins s σ H Q I ⟨ρ,vw,q⟩;refine Ec ha hb wh pins s σ H Q I ⟨ρ,vw,q.bind.imp fun c _ k H' s'=>?_⟩;cases c with
 | true=>exact Ar (k H' s')
 | false=>exact As ⟨ρ,vw.same s',(k.same s').imp fun b _ k2 H2 s2=>k2 H2 (s'.trans s2)⟩
theorem Cw(ha:ET C a t):ET C (.UnaryOp .Not a pos) (BB t):=by
 intro pins s σ H Q I ⟨ρ,vw,q⟩;exact Bh ha pins s σ H Q I ⟨ρ,vw,q.bind.imp fun c _ k H' s'=>k H' s'⟩
theorem Ct{op}(h:EV C a f):EV C (.BoolOp op [a] pos) f:=Bp h
theorem Cv(ha:EV C a fa)(hb:EV C (.BoolOp .And (b::rest) pos) fb):EV C (.BoolOp .And (a::b::rest) pos) (DC fa fb):=by
 intro pins s σ H Q I ⟨ρ,vw,q⟩;refine Bu ha hb pins s σ H Q I ⟨ρ,vw,q.bind.imp fun p _ k v H' s' r=>?_⟩;cases p with
 | bl c=>
  cases (show v=.bl c from r);refine⟨c,rfl,?_⟩;cases c with
  | true=>exact Ar ⟨ρ,vw.same s',(RQ.same k s').imp fun z _ k2 v2 H2 s2 r2=>k2 v2 H2 (s'.trans s2) r2⟩
  | false=>exact As (k _ H' s' rfl)
 | _=>exact HJ k
theorem Cu(hc:ET C c t)(ha:EV C a fa)(hb:EV C b fb):EV C (.IfExp c a b pos) (ifV t fa fb):=by
 intro pins s σ H Q I ⟨ρ,vw,q⟩;refine vY hc ha hb pins s σ H Q I ⟨ρ,vw,q.bind.imp fun c _ k H' s'=>?_⟩;cases c with
 | true=>exact Ar ⟨ρ,vw.same s',(RQ.same k s').imp fun z _ k2 v2 H2 s2 r2=>k2 v2 H2 (s'.trans s2) r2⟩
 | false=>exact As ⟨ρ,vw.same s',(RQ.same k s').imp fun z _ k2 v2 H2 s2 r2=>k2 v2 H2 (s'.trans s2) r2⟩
end
theorem bF:tB gEq:=fun p q z e=>by
 unfold gEq at e;split at e
 ·split at e
  ·obtain⟨b,_,ez⟩:=HQ.mp e
   exact⟨b,ez.symm⟩
  ·cases e
 ·split at e
  ·obtain⟨b,_,ez⟩:=HQ.mp e
   exact⟨b,ez.symm⟩
  ·cases e
 ·split at e
  ·obtain⟨b,_,ez⟩:=HQ.mp e
   exact⟨b,ez.symm⟩
  ·cases e
 ·split at e
  ·cases e
   exact⟨_,rfl⟩
  ·cases e
theorem jI:tB gNe:=fun p q z e=>by
 unfold gNe at e;split at e
 ·split at e
  ·obtain⟨b,_,ez⟩:=HQ.mp e;exact⟨_,ez.symm⟩
  ·cases e
 ·split at e
  ·obtain⟨b,_,ez⟩:=HQ.mp e;exact⟨_,ez.symm⟩
  ·cases e
 ·split at e
  ·cases e;exact⟨_,rfl⟩
  ·cases e
theorem oJ:tB gLt:=fun p q z e=>by unfold gLt at e;split at e <;> cases e <;> exact⟨_,rfl⟩
theorem zw:tB gLe:=fun p q z e=>by unfold gLe at e;split at e <;> cases e <;> exact⟨_,rfl⟩
theorem wA:tB wG:=fun p q z e=>by unfold wG at e;split at e <;> cases e <;> exact⟨_,rfl⟩
theorem tx:tB gIn:=fun p q z e=>by
 unfold gIn at e;split at e
 ·cases e;exact⟨_,rfl⟩
 ·split at e <;> cases e;exact⟨_,rfl⟩
 ·split at e <;> cases e;exact⟨_,rfl⟩
 ·obtain⟨b,_,ez⟩:=HQ.mp e;exact⟨_,ez.symm⟩
 ·cases e
theorem qL:tB gc:=fun p q z e=>by
 obtain⟨z0,e,ez⟩:=HV.mp e;cases z0 <;> cases ez
 exact⟨_,rfl⟩
end PU
namespace PU
open PySem PySem.Spec PyProof.Rows L2 PySem.SeqAt
variable[TW]
def r1(K:HA)(g:PV->Option PV):List V->Hp->VK->Prop:=fun vs H Q=>∃v p z,vs=[v]/\b8 K H p v/\g p=some z/\∀w H',Same H H'->Rep K H' z w->Q w H'
def rn1(K:HA)(g:PV->Option PV):List V->Hp->VK->Prop:=fun vs H Q=>∃v p z,vs=[v]/\b8 K H p v/\g p=some z/\∀a H',Same H H'->H a=none->bY K H' a z->Q (.ref a) H'
section
variable{C : Cn}{e : Expr}{f : PSt → R PV}{g : PV → Option PV}{x : Str}{p pos : JO}{id T : String}
theorem t1{σ:L2.St}{H:Hp}{Q:VK}{ρ:PSt}(vw:View C.X.K H σ ρ)(q:RQ C H (un1 f g ρ) fun p=>∀v H',Same H H'->Rep C.X.K H' p v->Q v H'):tCB (r1 C.X.K g) (tA1 C f) σ H Q:=by
 refine⟨ρ,vw,q.bind.imp fun p _ k v H1 s1 r1=>?_⟩;obtain⟨z,ez,k⟩:=k.ofO;exact⟨v,p,z,rfl,r1,ez,fun w H' s' r'=>k w H' (s1.trans s') r'⟩
theorem tn1{σ:L2.St}{H:Hp}{Q:VK}{ρ:PSt}(vw:View C.X.K H σ ρ)(q:RQ C H (un1 f g ρ) fun p=>∀a H',Same H H'->H a=none->bY C.X.K H' a p->Q (.ref a) H'):tCB (rn1 C.X.K g) (tA1 C f) σ H Q:=by
 refine⟨ρ,vw,q.bind.imp fun p _ k v H1 s1 r1=>?_⟩;obtain⟨z,ez,k⟩:=k.ofO;exact⟨v,p,z,rfl,r1,ez,fun a H' s' n' r'=>k a H' (s1.trans s') (s1.free n') r'⟩
theorem jW (hc:gX C.X (.builtin id) (r1 C.X.K g)) (hg:Gl C.X x) (hm:C.X.mg x=none) (hv:Jo x=some (.builtin id)) (ha:EO C e f) (hn:x≠"__name__":=by decide) (hdb:(x == ("__debug__":Str))=false:=by decide)
  (hs:Hw [e] C.X.env=[(false,J8 e C.X.env)]:=by exact cg rfl):EV C (.Call (.Name x p) [e] [] pos) (un1 f g):=by
 intro pins s σ H Q I ⟨ρ,vw,q⟩;exact w6 hc hg hm hv (pU ha hs) hn hdb hs (by rfl) pins s σ H Q I (t1 vw q)
theorem ud (hc:gX C.X (.type T) (r1 C.X.K g)) (hg:Gl C.X x) (hm:C.X.mg x=none) (hv:Jo x=some (.type T)) (ha:EO C e f) (hn:x≠"__name__":=by decide) (hdb:(x == ("__debug__":Str))=false:=by decide)
  (hs:Hw [e] C.X.env=[(false,J8 e C.X.env)]:=by exact cg rfl):EV C (.Call (.Name x p) [e] [] pos) (un1 f g):=by
 intro pins s σ H Q I ⟨ρ,vw,q⟩;exact mS hc hg hm hv (pU ha hs) hn hdb hs (by rfl) pins s σ H Q I (t1 vw q)
theorem zK (hc:gX C.X (.type T) (rn1 C.X.K g)) (hg:Gl C.X x) (hm:C.X.mg x=none) (hv:Jo x=some (.type T)) (ha:EO C e f) (hn:x≠"__name__":=by decide) (hdb:(x == ("__debug__":Str))=false:=by decide)
  (hs:Hw [e] C.X.env=[(false,J8 e C.X.env)]:=by exact cg rfl):EN C (.Call (.Name x p) [e] [] pos) (un1 f g):=by
 intro pins s σ H Q I ⟨ρ,vw,q⟩;exact mS hc hg hm hv (pU ha hs) hn hdb hs (by rfl) pins s σ H Q I (tn1 vw q)
end
section
variable{X : Cx}
theorem uI (hw:X.w=TW.w:=by rfl):gX X (.builtin "len") (r1 X.K iZ):=by
 intro pins s σ H xs us Q I r ⟨v,p,z,e1,rp,ez,k⟩;have h16:=Il;subst e1;cases p with
 | lst ps=>
  obtain⟨a,xs,rfl,g,rr⟩:=b8.lst_inv rp;cases ez;exact mB pins s σ H _ us Q I r ⟨_,_,rfl,.inl ⟨xs,g.l,rfl⟩,by rw[← rr.length];exact k _ H (Same.refl H) rfl⟩
 | tup ps=>
  obtain⟨a,xs,rfl,g,rr⟩:=b8.tup_inv rp;cases ez;exact mB pins s σ H _ us Q I r ⟨_,_,rfl,.inr ⟨xs,g,rfl⟩,by rw[← rr.length];exact k _ H (Same.refl H) rfl⟩
 | str x=>
  simp only[iZ] at ez;split at ez
  ·cases ez
   cases (show v=.str x from rp);exact mB pins s σ H _ us Q I r ⟨_,_,rfl,⟨by omega,rfl⟩,k _ H (Same.refl H) rfl⟩
  ·cases ez
 | dct ks ps=>
  obtain⟨a,kvs,rfl,g,e1,rr⟩:=rp;cases ez;obtain⟨u,rfl,ru⟩:=vals1 r;cases ru;obtain⟨hz,hS,vs,rel,m⟩:=DkR.at hw I g;have hlen:kvs.length=vs.length:=Ij rel;subst e1;rw[HF,hlen] at k;exact call_len_dict hS m (by omega) ⟨.int vs.length,H,I.tok _,⟨_,rfl⟩,k _ H (Same.refl H) rfl⟩
 | _=>cases ez
theorem cInt:gX X (.type "int") (r1 X.K zC):=by
 intro pins s σ H xs us Q I r ⟨v,p,z,e1,rp,ez,k⟩;subst e1;cases p with
 | int i=>cases ez;cases (show v=.int i from rp);exact nV pins s σ H _ us Q I r (.inl ⟨i,rfl,k _ H (Same.refl H) rfl⟩)
 | bl i=>cases ez;cases (show v=.bl i from rp);exact nV pins s σ H _ us Q I r (.inr ⟨i,rfl,k _ H (Same.refl H) rfl⟩)
 | _=>cases ez
theorem CS:gX X (.type "tuple") (r1 X.K pQ):=by
 intro pins s σ H xs us Q I r ⟨v,p,z,e1,rp,ez,k⟩;subst e1;cases p with
 | lst ps=>
  obtain⟨a,xs,rfl,g,rr⟩:=b8.lst_inv rp;cases ez;exact gU pins s σ H _ us Q I r ⟨a,xs,rfl,.inl ⟨g.l,fun l hl=>k _ _ (Same.new hl) ⟨l,xs,rfl,ax,rr.same (Same.new hl)⟩⟩⟩
 | tup ps=>
  obtain⟨a,xs,rfl,g,rr⟩:=b8.tup_inv rp;cases ez;exact gU pins s σ H _ us Q I r ⟨a,xs,rfl,.inr ⟨g,k _ H (Same.refl H) rp⟩⟩
 | _=>cases ez
end
section
variable{C : Cn}{e tg : Expr}{f : PSt → R PV}{pos : JO}
theorem zr{K:HA}{H:Hp}{a:Addr}{xs:List V}{ps:List PV}(g:SqF K H a xs)(r:aE K H ps xs):ItP K (Itl K a) H ps:=fun i H' k=>by
 have g':=(k.sqF g).l.l;have r':=aE.kp k ps r;have hl:=r'.length;refine⟨fun h=>⟨xs,g',by omega⟩,fun p e=>?_⟩;obtain⟨x,ex,rp⟩:=r'.get e
 exact⟨⟨xs,x,g',ex⟩,fun y H2 ⟨eh,hy⟩=>by
  subst eh;have:=hy xs g';rw[ex] at this;cases this;exact⟨Same.refl _,rp⟩⟩
theorem Cc{K:HA}{H:Hp}{a:Addr}{xs:List V}{ps:List PV}(g:SqT K H a xs)(r:aE K H ps xs):ItP K (Itt K a) H ps:=fun i H' k=>by
 have g':=k.sqT g;have r':=aE.kp k ps r;have hl:=r'.length;refine⟨fun h=>⟨xs,g',by omega⟩,fun p e=>?_⟩;obtain⟨x,ex,rp⟩:=r'.get e
 exact⟨⟨xs,x,g',ex⟩,fun y H2 ⟨eh,hy⟩=>by
  subst eh;have:=hy xs g';rw[ex] at this;cases this;exact⟨Same.refl _,rp⟩⟩
theorem pL{K:HA}{H:Hp}{lo:Int}{n:Nat}:ItP K (Itr lo n) H (bM lo n):=fun i H' k=>by
 refine⟨fun h=>?_,fun p e=>?_⟩
 ·have:n<=i:=by simp[bM] at h;omega
  exact this
 ·unfold bM at e
  rw[HW] at e
  have hi:i<n:=by
   by_cases hi:i<n
   ·exact hi
   ·rw[Jm (by simpa using hi)] at e
    cases e
  rw[Ki hi] at e;cases e;exact⟨hi,fun y H2 ⟨eh,hy⟩=>by subst eh hy;exact⟨Same.refl _,rfl⟩⟩
theorem fP {p:JO} (hg:Gl C.X "range") (hm:C.X.mg "range"=none) (he:EV C e f) (hs:Hw [e] C.X.env=[(false,J8 e C.X.env)]:=by exact cg rfl):EI C tg (.Call (.Name "range" p) [e] [] pos) (xr f):=by
 intro pins s σ H Rk I ⟨ρ,vw,q⟩;refine sq hg hm (cK he gC hs) hs pins s σ H Rk I ⟨ρ,vw,q.bind.imp fun p _ k v H1 s1 r1=>?_⟩;cases p with
 | int j=>
  cases (show v=.int j from r1)
  by_cases hj:j.natAbs<1000000000
  ·have k:RQ C H (if j.natAbs<1000000000 then R.ok (bM 0 j.toNat) else R.no) fun ps=>∀J H',Same H H'->ItP C.X.K J H' ps->Rk J H':=k
   rw[if_pos hj] at k;exact⟨j,rfl,by omega,by omega,k _ H1 s1 pL⟩
  ·have k:RQ C H (if j.natAbs<1000000000 then R.ok (bM 0 j.toNat) else R.no) fun ps=>∀J H',Same H H'->ItP C.X.K J H' ps->Rk J H':=k
   rw[if_neg hj] at k;exact HJ k
 | _=>exact HJ k
end
section
variable{C : Cn}{e : Expr}{f : PSt → R PV}{pos apos cpos : JO}
theorem dY(i:Nat){x:Str}{np:JO}(he:EV C e f)(hs:Hw [e] C.X.env=[(false,J8 e C.X.env)]:=by exact cg rfl)
  (hb:M4 (.Name x np) "append" C.X.env (J8 (.Name x np) C.X.env)=J8 (.Name x np) C.X.env:=by rfl) (hline:(apos.endLine == cpos.line)=true:=by rfl)
  (hd:(x == ("__debug__":Str))=false:=by decide) (hcd:(x == ("__classdict__":Str))=false:=by decide) (hN:C.X.N[i]?=some x:=by rfl) (hv:Vis C.X.env.scope x:=by first | exact .inl rfl | exact .inr (.inl rfl) | exact .inr (.inr rfl)):SV C (.Expr (.Call (.Attribute (.Name x np) "append" apos) [e] [] cpos) pos) (qb i f):=by
 intro pins s σ H D I ⟨ρ,B,S,q⟩;unfold qb at q;split at q
 ·rename_i ps e1
  obtain⟨a,e2,xs,hx,rr⟩:=S.vw i _ e1;refine yN (Bt PySem.F.plainAttrs_list NA PySem.F.type_list_append n9 (fF hN hv hd hcd) (cK he gC hs) hb (by rw[hs];rfl) hline hs (by rfl)) (by rfl) pins s σ H D I ?_;refine⟨_,e2,.inl ⟨rfl,xs,SqL.of hx⟩,ρ,S.vw,(RS.bind q S.same).imp fun p _ q' v H1 s1 r1=>?_⟩
  by_cases hl:ps.length<16777216
  ·rw[if_pos hl] at q'
   refine⟨a,xs,v,rfl,rfl,s1 _ _ hx,by rw[Il,← rr.length];exact hl,?_⟩;refine q' σ _ ((S.grow s1).turn e1 e2 (fun b hb=>az hb) ?_);have kp:Kp H1 (upd H1 a (.lst (xs++[v]))):=Kp.upd (s1 _ _ hx) rfl;exact⟨a,rfl,xs++[v],ax,aE.append (aE.kp kp _ (rr.same s1)) (aE.cons (Rep.kp kp _ r1) aE.nil)⟩
  ·rw[if_neg hl] at q'
   exact HJ q'
 ·exact HJ q
end
end PU
namespace PU
open PySem PySem.Spec PyProof.Rows L2 PySem.SeqAt
variable[TW]
section
variable{C : Cn}
theorem aC(i:Nat){x:Str}{pos:JO}(hN:C.X.N[i]?=some x:=by rfl)(hv:Vis C.X.env.scope x:=by first | exact MH rfl | exact Le (MH rfl) | exact Le (Le rfl))
  (hd:(x == ("__debug__":Str))=false:=by decide) (hcd:(x == ("__classdict__":Str))=false:=by decide):EV C (.Name x pos) (af i):=Cs i hN hv hd hcd
theorem wL(i:Nat){x:Str}{pos:JO}(hN:C.X.N[i]?=some x:=by rfl)(hv:Vis C.X.env.scope x:=by first | exact MH rfl | exact Le (MH rfl) | exact Le (Le rfl))
  (hd:(x == ("__debug__":Str))=false:=by decide) (hcd:(x == ("__classdict__":Str))=false:=by decide):EO C (.Name x pos) (lj i):=Cz i hN hv hd hcd
variable{a b c : Expr}{fa fb fc : PSt → R PV}{pos : JO}
end
end PU
namespace PU
open PySem PySem.Spec PyProof.Rows L2 PySem.SeqAt
variable[TW]
section
variable{X : Cx}{pins : List (Addr×Obj)}{σ : L2.St}{H : Hp}{s : HC}
theorem _root_.L2.Inv.turnedL{wr:List Addr}{h':Heap}{t':Nat}(I:L2.Inv X pins σ H s)(k:∀b o,b ∉ wr->s.heap.get? b=some o->h'.get? b=some o)(hw:∀b∈wr,qd X pins H b):L2.Inv X pins σ H { s with heap:=h',toks:=t' }:=by
 have nw:∀b u,H b=some u->b ∉ wr:=fun b u e z=>by rw[(hw b z).1] at e;cases e
 refine I.step (g':=s.gens) (d':=s.drawn) (ch:=wr) (fun b hb=>?_) (fun b o _ _ hc e _=>k b o hc e) (fun b o _ _ hc e _=>⟨o.slots,k b o hc e⟩) (fun _ _ _ _ n=>n)
  (fun b o hc e=>⟨o,k b o hc e⟩) (fun _ _ e=>e) (fun _ _ _ e=>e) (fun b ps e=>⟨#[],by rw[e];simp⟩) (fun m hm=>?_) (fun b u e=>?_) I.bare
 ·obtain⟨g1,g2,g3,g4,g5,g6⟩:=hw b hb
  exact⟨g4,g2,g5,g6⟩
 ·obtain⟨o,es,ep,ho,r⟩:=hm
  exact⟨o,es,ep,k _ o (fun z=>(hw _ z).2.1 rfl) ho,r⟩
 ·refine(I.hok b u e).stay (fun c v hc q=>k c v ?_ q) (fun _ q=>q) fun _ _ q=>q
  rcases hc with z | z
  ·rw[z];exact nw b u e
  ·exact nw c _ z
theorem _root_.L2.Inv.tupled{wr:List Addr}{h':Heap}{t':Nat}{T:Addr}{vals:List HB}{xs:List V}(I:L2.Inv X pins σ H s)(k:∀b o,b ∉ wr->s.heap.get? b=some o->h'.get? b=some o)(hw:∀b∈wr,qd X pins H b)(hws:∀b∈wr,b<s.heap.objs.size)
  (hT:s.heap.objs.size<=T) (ht:h'.IsTuple T vals.toArray) (rv:Vals xs vals) (hz:xs.length<=sizeLine) (hnr:¬ ∀v∈vals,∃b,v=JA b):L2.Inv X pins σ (upd H T (.tup xs)) { s with heap:=h',toks:=t' }:=by
 have nw:∀b u,H b=some u->b ∉ wr:=fun b u e z=>by rw[(hw b z).1] at e;cases e
 have nT:H T=none:=I.hok.fresh hT;have neT:∀b u,H b=some u->b≠T:=fun b u e=>bp e nT
 have lo:∀b o,s.heap.get? b=some o->b≠T:=fun b o e z=>by
  subst z;exact absurd (HU e) (Mc.mpr hT)
 have hlt:X.env.locals≠T:=fun z=>absurd I.lt (by rw[z];exact Mc.mpr hT)
 refine I.step (g':=s.gens) (d':=s.drawn) (ch:=wr) (fun b hb=>?_) (fun b o _ _ hc e _=>k b o hc e) (fun b o _ _ hc e _=>⟨o.slots,k b o hc e⟩) (fun b o _ e n=>by rw[az (lo b o e)];exact n)
  (fun b o hc e=>⟨o,k b o hc e⟩) (fun b xs e=>by rw[az (neT _ _ e)];exact e) (fun b o u e=>by rw[az (neT _ _ e)];exact e) (fun b ps e=>⟨#[],by rw[az (neT _ _ e),e];simp⟩) (fun m hm=>?_) (fun b u e=>?_) I.bare
 ·obtain⟨g1,g2,g3,g4,g5,g6⟩:=hw b hb
  exact⟨g4,g2,g5,g6⟩
 ·obtain⟨o,es,ep,ho,r⟩:=hm
  exact⟨o,es,ep,k _ o (fun z=>(hw _ z).2.1 rfl) ho,r⟩
 ·by_cases hb:b=T
  ·subst hb
   rw[ax] at e;cases e;obtain⟨o,e1,e2,e3⟩:=ht;exact⟨hz,vals,rv,o,e1,e2,e3,fun h=>absurd h hnr⟩
  ·rw[az hb] at e
   refine(I.hok b u e).stay (fun c v hc q=>k c v ?_ q) (fun c q=>by rw[az (neT _ _ q)];exact q) fun c ys q=>by rw[az (neT _ _ q)];exact q
   rcases hc with z | z
   ·rw[z];exact nw b u e
   ·exact nw c _ z
end
theorem rK{P:HX}{w:IA}{K:HA}{elts:List Expr}{kk:Nat}{tp:JO}{it:Addr}{fp wr:List Addr}{n:Nat}{own:Nat->Heap->Prop}{J:It}
  (W:∀(X:Cx)(pins:List (Addr×Obj))(σ:L2.St)(H:Hp)(s:HC)(i:Nat),X.prog=P->X.w=w->X.K=K->X.calm=true->L2.Inv X pins σ H s->own i s.heap->J.go i H\/J.stop i H->
   ∃(more:List Addr)(Pt:Nat->Array HB->Prop)(St:Nat->Heap->Prop)(Mid:Nat->Addr->Heap->Prop),WalksT P w X.A it more wr n Pt St Mid/\St i s.heap/\(∀j h,St j h->own j h)/\
    ∀vals,Pt i vals->∃xs,Vals xs vals.toList/\xs.length<=sizeLine/\(¬ ∀v∈vals.toList,∃b,v=JA b)/\∀T,H T=none->J.yld i H (.ref T) (upd H T (.tup xs)))
  (hI:it∈fp) (hwr:∀b∈wr,b∈fp)
  (obj:∀i h,own i h->∀b∈fp,∃o,h.get? b=some o/\∀v,o.data≠.cell v) (keep:∀i h h',own i h->(∀b∈fp,∀o,h.get? b=some o->h'.get? b=some o)->own i h')
  (hgo:∀i H,J.go i H->i<n) (hstop:∀i H,J.stop i H->i=n)
  (self:∀(A:IL)(i:Nat)(s:HC)(Q:HB->HC->Prop)(E:HB->HC->Prop),own i s.heap->Q (.ref it) s->Hx (IK P w) A (pyIter (.ref it)) Q E s) :
  Turn P w K (.Tuple elts kk tp) J fp it own where
 mem:=hI
 obj:=obj
 keep:=keep
 item:=by
  intro X hP hw hK hc i pins s σ H E I hf st hg;obtain⟨more,Pt,St,Mid,W',st',ofSt,hval⟩:=W X pins σ H s i hP hw hK hc I st (.inl hg);subst hP hw hK;refine W'.item i s _ _ (hgo i H hg) st' fun T vals h' tk hPt hT hTup hMid hk=>?_;obtain⟨xs,rv,hz,hnr,hy⟩:=hval vals hPt;have nT:H T=none:=I.hok.fresh hT;have hfw:∀b∈wr,qd X pins H b:=fun b hb=>hf b (hwr b hb)
  have hws:∀b∈wr,b<s.heap.objs.size:=fun b hb=>by
   obtain⟨o,e,_⟩:=obj i _ st b (hwr b hb);exact HU e
  have I1:L2.Inv X pins σ (upd H T (.tup xs)) { s with heap:=h',toks:=tk }:=I.tupled (vals:=vals.toList) hk hfw hws hT (by simpa using hTup) rv hz hnr;refine⟨_,rfl,W'.go elts kk tp i T _ _ _ hMid fun h'' st'' hk''=>?_⟩
  have fne:∀b∈fp,upd H T (.tup xs) b=none:=fun b hb=>by
   obtain⟨o,e,_⟩:=obj i _ st b hb;rw[az (IF (HR (HU e) hT))];exact(hf b hb).1
  have I2:L2.Inv X pins σ (upd H T (.tup xs)) { s with heap:=h'',toks:=tk }:=L2.Inv.turnedL (s:={ s with heap:=h',toks:=tk }) (wr:=wr) (t':=tk) I1 hk'' fun b hb=>⟨fne b (hwr b hb),(hfw b hb).2⟩;exact⟨.ref T,_,I2,rfl,hy T nT,ofSt _ _ st'',fne⟩
 done:=by
  intro X hP hw hK hc i pins s σ H E I hf st hg;obtain⟨more,Pt,St,Mid,W',st',ofSt,hval⟩:=W X pins σ H s i hP hw hK hc I st (.inr hg);subst hP hw hK;have e:=hstop i H hg;subst e;refine W'.done s _ _ st' fun h' tk hk=>⟨rfl,?_⟩;exact I.turnedL hk fun b hb=>hf b (hwr b hb)
 self:=self
def mD(n:Nat)(Gd:Hp->Prop)(xs:List (List V)):It:=
 ⟨fun i H=>i<n/\Gd H,fun i H x H'=>∃T ys,x=.ref T/\H T=none/\xs[i]?=some ys/\H'=upd H T (.tup ys),fun i H=>i=n/\Gd H⟩
theorem oH{K:HA}{H₁:Hp}{n:Nat}{Gd:Hp->Prop}{xs:List (List V)}{pss:List (List PV)}(hn:pss.length=n)(hg:∀H,Kp H₁ H->Gd H)(r:∀(i:Nat)(ps:List PV)(ys:List V),pss[i]?=some ps->xs[i]?=some ys->aE K H₁ ps ys) :
  ItP K (mD n Gd xs) H₁ (pss.map PV.tup):=fun i H k=>by
 refine⟨fun h=>⟨by rw[h,HF,hn],hg H k⟩,fun p e=>?_⟩;rw[HW] at e;cases hp:pss[i]? with
 | none=>rw[hp] at e;cases e
 | some ps=>
  rw[hp] at e;cases e;have hi:i<n:=by rw[← hn];exact(HM.mp hp).1
  refine⟨⟨hi,hg H k⟩,fun x H' ⟨T,ys,ex,nT,ey,eH⟩=>?_⟩;subst ex eH;refine⟨Same.new nT,T,ys,rfl,ax,?_⟩;exact(aE.kp k ps (r i ps ys hp ey)).same (Same.new nT)
end PU
namespace PU
open PySem PySem.Spec PyProof.Rows L2 PySem.SeqAt
variable[TW]
theorem kA:Jo "enumerate"=some (.type "enumerate"):=by decide +kernel
def mL(x:Str):List V:=x.cps.toList.map fun c=>.str ⟨#[c]⟩
theorem qr{K:HA}{H:Hp}(x:Str):aE K H (fw x) (mL x):=by
 unfold fw mL
 induction x.cps.toList with
 | nil=>rfl
 | cons c r ih=>exact⟨_,_,rfl,rfl,ih⟩
def Ap(xs:List V):List (List V):=(Hy xs.length).zipWith (fun (i:Nat) x=>[.int (i:Int),x]) xs
theorem ov{α β:Type}(f:Nat->α->β)(l:List α)(i:Nat):((Hy l.length).zipWith f l)[i]?=l[i]?.map (f i):=by
 rw[LK]
 by_cases hi:i<l.length
 ·rw[Ki hi]
  simp[hi]
 ·rw[Jm (by simpa using hi)]
  simp[hi]
theorem pz{K:HA}{H:Hp}{ps:List PV}{xs:List V}(r:aE K H ps xs):∀(i:Nat)(qs:List PV)(ys:List V),(xE ps)[i]?=some qs->(Ap xs)[i]?=some ys->aE K H qs ys:=fun i qs ys h1 h2=>by
 unfold xE at h1;unfold Ap at h2;rw[ov] at h1 h2;cases e:ps[i]? with
 | none=>rw[e] at h1;cases h1
 | some p=>
  rw[e] at h1;obtain⟨x,ex,rp⟩:=r.get e;rw[ex] at h2;cases h1;cases h2;exact⟨_,_,rfl,rfl,_,_,rfl,rp,rfl⟩
theorem pA(ps:List PV):(xE ps).length=ps.length:=by simp[xE]
section
variable{P : HX}{w : IA}{K : HA}{elts : List Expr}{kk : Nat}{tp : JO}
theorem ql(a it e:Addr)(xs:List V)(hne:e≠it)(hae:a≠e)(hai:a≠it) :
  Turn P w K (.Tuple elts kk tp) (mD xs.length (fun H=>SqL K H a xs) (Ap xs)) [e,it] e (fun i h=>(∃old,IsEnum h e it i old)/\h.IsListIter it a i):=by
 refine rK (wr:=[e,it]) (n:=xs.length) (fun X pins σ H s i hP hw hK hc I st hg=>?_) (by simp) (fun b hb=>hb) (fun i h st b hb=>?_) (fun i h h' st k=>?_) (fun i H h=>h.1) (fun i H h=>h.1) fun A i s Q E st h=>L9 st.1.choose_spec h
 ·subst hP hw hK
  have hq:SqL X.K H a xs:=by rcases hg with h | h <;> exact h.2
  obtain⟨its,rv,pl,hz⟩:=I.list hq;have hl:=rv.length;have W:=Nc (A:=X.A) (Draws.list (prog:=X.prog) (w:=X.w) (A:=X.A.in1) (I.ok.hd hc) it a hai its.toArray) e hne (by simp[hne,Jg hae]) (by simp);rw[show its.toArray.size=xs.length by simp[hl]] at W;refine⟨_,_,_,_,W,⟨st.1,st.2,pl.isList⟩,fun j h st=>⟨st.1,st.2.1⟩,fun vals hv=>?_⟩;obtain⟨t,x,hx,rfl⟩:=hv;have hx:its[i]?=some x:=by simpa using hx
  have hi:i<xs.length:=by rw[hl];exact(HM.mp hx).1
  have e1:xs[i]?=some xs[i]:=by simp[hi]
  obtain⟨u,eu,ru⟩:=rv.get e1;rw[hx] at eu;cases eu;refine⟨[.int i,xs[i]],.cons ⟨t,rfl⟩ (.cons ru .nil),by show 2<=sizeLine;decide,fun z=>(by obtain⟨b,z⟩:=z _ ID;cases z),fun T hT=>⟨T,_,rfl,hT,?_,rfl⟩⟩;unfold Ap;rw[ov,e1];rfl
 ·obtain⟨⟨old,he⟩,o,ho,hc,hd⟩:=st
  rcases Hr.mp hb with rfl | hb
  ·exact⟨_,he,fun v z=>by cases (show MG _=LW v from z)⟩
  ·have:b=it:=by simpa using hb
   subst this;exact⟨o,ho,fun v z=>by rw[hd] at z;cases z⟩
 ·obtain⟨⟨old,he⟩,hi⟩:=st
  exact⟨⟨old,k e (by simp) _ he⟩,hi.at fun o x=>k it (by simp) o x⟩
theorem uo{prog:HX}{w:IA}{A:IL}(hh:A.handled=none)(it:Addr)(x:Str)(t:Tok) :
  Draws prog w A it [it] x.cps.size (fun i v=>∃c u,x.cps[i]?=some c/\v=.str ⟨#[c]⟩ u) (fun i h=>h.IsStrIter it (K2 x) x t i):=by
 unfold K2
 split
 ·exact Draws.strAscii hh it x t
 ·exact Draws.strWide hh it x t
theorem qk(it e:Addr)(x:Str)(t:Tok)(hne:e≠it) :
  Turn P w K (.Tuple elts kk tp) (mD x.cps.size (fun _=>True) (Ap (mL x))) [e,it] e (fun i h=>(∃old,IsEnum h e it i old)/\h.IsStrIter it (K2 x) x t i):=by
 refine rK (wr:=[e,it]) (n:=x.cps.size) (fun X pins σ H s i hP hw hK hc I st hg=>?_) (by simp) (fun b hb=>hb) (fun i h st b hb=>?_) (fun i h h' st k=>?_) (fun i H h=>h.1) (fun i H h=>h.1) fun A i s Q E st h=>L9 st.1.choose_spec h
 ·subst hP hw hK
  refine⟨_,_,_,_,Nc (A:=X.A) (uo (A:=X.A.in1) (I.ok.hd hc) it x t) e hne (by simp[hne]) (by simp),⟨st.1,st.2⟩,fun j h st=>⟨st.1,st.2⟩,fun vals hv=>?_⟩;obtain⟨t',v,⟨c,u,hc',rfl⟩,rfl⟩:=hv
  have e1:(mL x)[i]?=some (.str ⟨#[c]⟩):=by
   unfold mL;rw[HW];simp[hc']
  refine⟨[.int i,.str ⟨#[c]⟩],.cons ⟨t',rfl⟩ (.cons ⟨u,rfl⟩ .nil),by show 2<=sizeLine;decide,fun z=>(by obtain⟨b,z⟩:=z _ ID;cases z),fun T hT=>⟨T,_,rfl,hT,?_,rfl⟩⟩;unfold Ap;rw[ov,e1];rfl
 ·obtain⟨⟨old,he⟩,o,ho,hc,hd⟩:=st
  rcases Hr.mp hb with rfl | hb
  ·exact⟨_,he,fun v z=>by cases (show MG _=LW v from z)⟩
  ·have:b=it:=by simpa using hb
   subst this;exact⟨o,ho,fun v z=>by rw[hd] at z;cases z⟩
 ·obtain⟨⟨old,he⟩,o,ho,r⟩:=st
  exact⟨⟨old,k e (by simp) _ he⟩,o,k it (by simp) o ho,r⟩
end
theorem zL {C:Cn} {e:Expr} {elts:List Expr} {kk:Nat} {tp p pos:JO} {f:PSt->R PV} (hg:Gl C.X "enumerate") (hm:C.X.mg "enumerate"=none) (he:EV C e f) (hs:Hw [e] C.X.env=[(false,J8 e C.X.env)]:=by exact cg rfl) :
  EI C (.Tuple elts kk tp) (.Call (.Name "enumerate" p) [e] [] pos) (wM f):=by
 intro pins s σ H Rk I ⟨ρ,vw,q⟩
 refine Call_ (l6 I hg hm kA (J9 (thn ((cK he gC hs) pos pins s σ H (fun vs H'=>∃v p ps,vs=[v]/\Same H H'/\Rep C.X.K H' p v/\qQ p=some ps/\∀J H2,Same H' H2->ItP C.X.K J H2 ps->Rk J H2) I ⟨ρ,vw,q.bind.imp fun p _ k v H' s' r=>?_⟩)
  fun us s1 ⟨vs,H1,I1,r1,v,p,ps,ev,sm,rp,ep,k⟩=>?_) hs rfl))
 ·obtain⟨ps,ep,k⟩:=k.ofO
  exact⟨v,p,ps,rfl,s',r,ep,fun J H2 s2 it=>k J H2 (s'.trans s2) it⟩
 ·subst ev
  obtain⟨u,rfl,ru⟩:=vals1 r1;have hne:s1.heap.objs.size+1≠s1.heap.objs.size:=Nat.succ_ne_self _
  have fp:∀{h':Heap},(∀b o,s1.heap.get? b=some o->h'.get? b=some o)->L2.Inv C.X pins σ H1 { s1 with heap:=h' }/\∀b∈[s1.heap.objs.size+1,s1.heap.objs.size],qd C.X pins H1 b:=fun {h'} hk=>by
   refine⟨I1.kept (t':=s1.toks) hk,fun b hb=>?_⟩
   have hb:s1.heap.objs.size<=b:=by
    simp only[Hr,JW,or_false] at hb;rcases hb with rfl | rfl
    ·exact Nd _
    ·exact Hu _
   exact I1.fpOk hb (I1.hok.fresh hb)
  cases p with
  | lst qs=>
   cases ep;obtain⟨a,xs,rfl,g,rr⟩:=rp;cases ru;obtain⟨its,rv,pl,hz⟩:=I1.list g.l.l;have ha:a<s1.heap.objs.size:=by obtain⟨o,n,ho,_⟩:=pl;exact HU ho
   refine call_enumerate_list pl.isList fun h' he' hi' hsz hk=>L9 he' ?_;obtain⟨I2,hf⟩:=fp hk;refine⟨_,_,_,_,H1,rfl,I2,ql a s1.heap.objs.size (s1.heap.objs.size+1) xs hne (IF (Lz ha)) (IF ha),⟨⟨_,he'⟩,hi'⟩,hf,k _ H1 (Same.refl H1) ?_⟩;exact oH (by rw[pA,rr.length]) (fun H2 k2=>(k2.sqF g).l.l) (pz rr)
  | str x=>
   cases ep;cases (show v=.str x from rp);obtain⟨t,rfl⟩:=ru;refine call_enumerate_str fun h' he' hi' hsz hk=>L9 he' ?_;obtain⟨I2,hf⟩:=fp hk;refine⟨_,_,_,_,H1,rfl,I2,qk s1.heap.objs.size (s1.heap.objs.size+1) x t hne,⟨⟨_,he'⟩,hi'⟩,hf,k _ H1 (Same.refl H1) ?_⟩;exact oH (by rw[pA];simp[fw]) (fun H2 k2=>trivial) (pz (qr x))
  | _=>cases ep
end PU
namespace PU
open PySem PySem.Spec PyProof.Rows L2 PySem.SeqAt
variable[TW]
theorem wq{K:HA}{H:Hp}(k:Key):Rep K H (wu k) (kV k):=by
 cases k <;> rfl
section
variable{P : HX}{w : IA}{K : HA}{elts : List Expr}{kk : Nat}{tp : JO}
theorem qC{kvs:List (Key×V)}{vs:List (Key×HB)}(rel:KV kvs vs):∀{i:Nat}{a:Key×V}{b:Key×HB},kvs[i]?=some a->vs[i]?=some b->a.1=b.1/\RelV a.2 b.2:=by
  induction rel with
  | nil=>intro i a b h _;simp at h
  | cons h t ih=>
   intro i a b h1 h2;cases i with
   | zero=>simp at h1 h2;subst h1 h2;exact h
   | succ i=>exact ih (by simpa using h1) (by simpa using h2)
def xf(K:HA)(H:Hp)(d:Addr)(o:Obj)(kvs:List (Key×V)):Prop:=H d=some (.frz o (.dK kvs))\/(K.lookup d=some o/\uV K d kvs)
theorem xf.at{X:Cx}{pins:List (Addr×Obj)}{σ:L2.St}{H:Hp}{s:HC}{d:Addr}{o:Obj}{kvs:List (Key×V)}{es:Array DictEntry}{ep:Nat}(hw:X.w=TW.w)(I:L2.Inv X pins σ H s)(h:xf X.K H d o kvs)(ho:o.data=.dict es ep) :
  ∃vs,KV kvs vs/\s.heap.DictAt (au X.prog X.w) d vs ep/\s.heap.get? d=some o/\o.ExactDict:=by
 rcases h with hq | ⟨hk,_,_,o2,es2,ep2,e,x,d2,r⟩
 ·obtain⟨e0,z,_,vs,rel,o',es',ep',e1,x1,d1,rest⟩:=I.hok d _ hq
  rw[e0] at e1;cases e1;rw[ho] at d1;cases d1;exact⟨vs,rel,⟨o,es,e0,x1,ho,rest⟩,e0,x1⟩
 ·rw[hk] at e
  cases e;rw[ho] at d2;cases d2;obtain⟨vs,rel,rest⟩:=r X.prog;rw[← hw] at rest;exact⟨vs,rel,⟨o,es,I.kIn _ _ hk,x,ho,rest⟩,I.kIn _ _ hk,x⟩
end
end PU
namespace PU
open PySem PySem.Spec PyProof.Rows L2 PySem.SeqAt
variable[TW]
section
variable{P : HX}{w : IA}{K : HA}{tg : Expr}
def ym(K:HA)(d:Addr)(o:Obj)(kvs:List (Key×V)):It:=
 ⟨fun i H=>i<kvs.length/\xf K H d o kvs,fun i H x H'=>H'=H/\∃kv,kvs[i]?=some kv/\x=kV kv.1,fun i H=>i=kvs.length/\xf K H d o kvs⟩
theorem xf.kp{H H':Hp}{d:Addr}{o:Obj}{kvs:List (Key×V)}(k:Kp H H')(h:xf K H d o kvs):xf K H' d o kvs:=by
 rcases h with h | h
 ·exact .inl (k _ _ h rfl)
 ·exact .inr h
theorem zt{H:Hp}{d:Addr}{o:Obj}{kvs:List (Key×V)}{ks:List Key}(g:xf K H d o kvs)(e:kvs.map (·.1)=ks):ItP K (ym K d o kvs) H (ks.map wu):=fun i H' k=>by
 subst e;refine⟨fun h=>⟨by simpa using h,g.kp k⟩,fun p ep=>?_⟩;rw[HW,HW] at ep;cases hk:kvs[i]? with
 | none=>rw[hk] at ep;cases ep
 | some kv=>
  rw[hk] at ep;cases ep;refine⟨⟨(HM.mp hk).1,g.kp k⟩,fun x H2 ⟨eh,kv',e1,e2⟩=>?_⟩;rw[hk] at e1;cases e1;subst eh e2;exact⟨Same.refl _,wq kv.1⟩
theorem rJ(d it:Addr)(o:Obj)(es:Array DictEntry)(ep:Nat)(ho:o.data=.dict es ep)(kvs:List (Key×V))(hw:w=TW.w):Turn P w K tg (ym K d o kvs) [it] it (fun i h=>h.IsKeyIter it d i kvs.length ep) where
 mem:=by simp
 obj:=fun i h st b hb=>by
  have e:b=it:=by simpa using hb
  subst e;obtain⟨o,e,c,dd⟩:=st;exact⟨o,e,fun v z=>by rw[dd] at z;cases z⟩
 keep:=fun i h h' st k=>st.at fun o e=>k it (by simp) o e
 item:=by
  intro X hP hw hK hc i pins s σ H E I hf st hg;subst hP hw hK;obtain⟨hi,hq⟩:=hg;obtain⟨vs,rel,dat,_,_⟩:=hq.at hw I ho;have hl:kvs.length=vs.length:=Ij rel;obtain⟨f0,f1,f2,f3,f4,f5⟩:=hf it (by simp);have eg:vs[i]?=some vs[i]:=by simp[← hl,hi]
  have egk:kvs[i]?=some kvs[i]:=by simp[hi]
  obtain⟨hk1,hk2⟩:kvs[i].1=vs[i].1/\RelV kvs[i].2 vs[i].2:=qC rel egk eg;rw[hl] at st;refine wpAny_pyNext_dict_item st dat (k:=vs[i].1) (v:=vs[i].2) eg fun key h' hkey st' sb=>?_;have I1:Inv X pins σ H { s with heap:=h' }:=I.turned (t':=s.toks) (fun b o hb e=>(sb.2 b hb).trans e) f0 f1 f3 f4 f5;obtain⟨oi,e,c,dd⟩:=id st'
  have rk:RelV (kV kvs[i].1) key:=by
   rw[hk1];rcases aY hkey with⟨j,t,e1,e2⟩|⟨y,t,e1,e2⟩
   ·rw[e1,e2];exact⟨t,rfl⟩
   ·rw[e1,e2];exact⟨t,rfl⟩
  exact⟨key,rfl,tJ (s:={ s with heap:=h' }) e c dd (by decide) ⟨kV kvs[i].1,H,I1,rk,⟨rfl,_,egk,rfl⟩,by rw[hl];exact st',fun b hb=>(hf b hb).1⟩⟩
 done:=by
  intro X hP hw hK hc i pins s σ H E I hf st hg;subst hP hw hK;obtain⟨hi,hq⟩:=hg;obtain⟨vs,rel,dat,_,_⟩:=hq.at hw I ho;have hl:kvs.length=vs.length:=Ij rel;obtain⟨f0,f1,f2,f3,f4,f5⟩:=hf it (by simp);rw[hl] at st;exact wpAny_pyNext_dict_end (I.ok.hd hc) st dat (by simp[← hl,hi]) fun h' eb=>⟨rfl,I.turned (t':=s.toks) (fun b o hb e=>eb b o hb e) f0 f1 f3 f4 f5⟩
 self:=fun _ _ _ _ _ st h=>wpAny_pyIter_keyiter st h
def uW(x:Str):It:=⟨fun i _=>i<x.cps.size,fun i H y H'=>H'=H/\∃c,x.cps[i]?=some c/\y=.str ⟨#[c]⟩,fun i _=>i=x.cps.size⟩
theorem wz{H:Hp}{x:Str}:ItP K (uW x) H (fw x):=fun i H' k=>by
 refine⟨fun h=>show i=x.cps.size by simpa [fw] using h,fun p ep=>?_⟩;unfold fw at ep;rw[HW] at ep;cases hk:x.cps.toList[i]? with
 | none=>rw[hk] at ep;cases ep
 | some c=>
  rw[hk] at ep;cases ep;refine⟨show i<x.cps.size by simpa using (HM.mp hk).1,fun y H2 ⟨eh,c',e1,e2⟩=>?_⟩
  have:c'=c:=by
   rw[N2] at hk;rw[hk] at e1;exact(Ib e1).symm
  subst this eh e2;exact⟨Same.refl _,rfl⟩
theorem mF{A:IL}(hh:A.handled=none)(it:Addr)(x:Str)(t:Tok):Walks P w A it [it] [it] x.cps.size (SignAt x) (fun i h=>h.IsStrIter it (K2 x) x t i):=by
 unfold K2
 split
 ·exact Walks.strAscii hh it x t
 ·exact Walks.strWide hh it x t
theorem og (x:Str):["enumerate","zip","dict_itemiterator","dict_reverseitemiterator","odict_iterator","itertools.zip_longest","itertools.pairwise"].contains (K2 x)=false:=by
 unfold K2
 split <;> decide
theorem qi(it:Addr)(x:Str)(t:Tok):Turn P w K tg (uW x) [it] it (fun i h=>h.IsStrIter it (K2 x) x t i) where
 mem:=by simp
 obj:=fun i h st b hb=>by
  have e:b=it:=by simpa using hb
  subst e;obtain⟨o,e,c,dd⟩:=st;exact⟨o,e,fun v z=>by rw[dd] at z;cases z⟩
 keep:=fun i h h' st k=>by
  obtain⟨o,e,r⟩:=st;exact⟨o,k it (by simp) o e,r⟩
 item:=by
  intro X hP hw hK hc i pins s σ H E I hf st hg;subst hP hw hK;obtain⟨f0,f1,f2,f3,f4,f5⟩:=hf it (by simp);have W:=mF (P:=X.prog) (w:=X.w) (I.ok.hd hc) it x t;refine W.item i s _ _ hg st fun v h' tk hv st' kk=>?_;obtain⟨c,u,ec,rfl⟩:=hv;have I1:Inv X pins σ H { s with heap:=h',toks:=tk }:=I.turned (fun b o hb e=>kk b o (by simpa using hb) e) f0 f1 f3 f4 f5;obtain⟨oi,e,cc,dd⟩:=id st';exact⟨_,rfl,tJ (s:={ s with heap:=h',toks:=tk }) e cc dd (og x) ⟨.str ⟨#[c]⟩,H,I1,⟨u,rfl⟩,⟨rfl,c,ec,rfl⟩,st',fun b hb=>(hf b hb).1⟩⟩
 done:=by
  intro X hP hw hK hc i pins s σ H E I hf st hg;subst hP hw hK;obtain⟨f0,f1,f2,f3,f4,f5⟩:=hf it (by simp);have W:=mF (P:=X.prog) (w:=X.w) (I.ok.hd hc) it x t;have hg:i=x.cps.size:=hg;subst hg;refine W.done s _ _ st fun h' tk hk=>⟨rfl,I.turned (fun b o hb e=>hk b o (by simpa using hb) e) f0 f1 f3 f4 f5⟩
 self:=fun A i s Q E st h=>by
  unfold K2 at st;split at st
  ·exact wpAny_pyIter_striter_ascii st h
  ·exact wpAny_pyIter_striter_wide st h
end
section
variable{C : Cn}{e tg : Expr}{f : PSt → R PV}
theorem eC(he:EV C e f)(hw:C.X.w=TW.w:=by rfl):EI C tg e (itF f):=by
 intro pins s σ H R I ⟨ρ,vw,q⟩;refine thn (he pins s σ H (fun v H'=>∃p ps,Same H H'/\Rep C.X.K H' p v/\eV p=some ps/\∀J H2,Same H' H2->ItP C.X.K J H2 ps->R J H2) I ⟨ρ,vw,q.bind.imp fun p _ k v H' s' r=>?_⟩) fun v s1 ⟨x,H1,I1,r1,p,ps,sm,rp,ep,k⟩=>?_
 ·obtain⟨ps,ep,k⟩:=k.ofO
  exact⟨p,ps,s',r,ep,fun J H2 s2 it=>k J H2 (s'.trans s2) it⟩
 ·cases p with
  | lst qs=>
   cases ep;obtain⟨a,xs,rfl,g,rr⟩:=rp;cases r1;obtain⟨its,rv,pl,hz⟩:=I1.list g.l.l;refine wpAny_pyIter_list pl.isList ?_;refine⟨s1.heap.objs.size,[s1.heap.objs.size],_,_,H1,rfl,I1.kept (t':=s1.toks) fun b o e=>HH _ e,rH a _,⟨_,IC _ rfl,rfl,rfl⟩,fun b hb=>?_,k _ H1 (Same.refl H1) (zr g rr)⟩;have e:b=s1.heap.objs.size:=by simpa using hb
   subst e;exact I1.fpOk (Hu _) (I1.hok.fresh (Hu _))
  | tup qs=>
   cases ep;obtain⟨a,xs,rfl,g,rr⟩:=rp;cases r1;obtain⟨its,rv,pl,hz⟩:=I1.tuple (tq g);refine wpAny_pyIter_tuple (show s1.heap.IsTuple a its.toArray from pl) ?_;refine⟨s1.heap.objs.size,[s1.heap.objs.size],_,_,H1,rfl,I1.kept (t':=s1.toks) fun b o e=>HH _ e,qh a _,⟨_,IC _ rfl,rfl,rfl⟩,fun b hb=>?_,k _ H1 (Same.refl H1) (Cc (tq g) rr)⟩;have e:b=s1.heap.objs.size:=by simpa using hb
   subst e;exact I1.fpOk (Hu _) (I1.hok.fresh (Hu _))
  | dct ks qs=>
   cases ep;obtain⟨a,kvs,rfl,g,ek,rr⟩:=rp;cases r1
   obtain⟨o,es,ep,ho,hq,hs⟩:∃o es ep,o.data=.dict es ep/\xf C.X.K H1 a o kvs/\(a == Im)=false:=by
    rcases g with⟨o,g⟩ | g
    ·obtain⟨e0,z,hs,vs,rel,o',es',ep',e1,x1,d1,rest⟩:=I1.hok a _ g
     rw[e0] at e1;cases e1;exact⟨o,es',ep',d1,.inl g,hs⟩
    ·obtain⟨_,hs,o,es,ep,e,x,d,r⟩:=id g
     exact⟨o,es,ep,d,.inr ⟨e,g⟩,hs⟩
   obtain⟨vs,rel,dat,_,_⟩:=hq.at hw I1 ho;have hl:kvs.length=vs.length:=Ij rel;refine wpAny_pyIter_dict hs dat ?_;refine⟨s1.heap.objs.size,[s1.heap.objs.size],_,_,H1,rfl,I1.kept (t':=s1.toks) fun b o e=>HH _ e,rJ a _ o es ep ho kvs hw,⟨_,IC _ rfl,rfl,by rw[hl];rfl⟩,fun b hb=>?_,k _ H1 (Same.refl H1) (zt hq ek)⟩;have e:b=s1.heap.objs.size:=by simpa using hb
   subst e;exact I1.fpOk (Hu _) (I1.hok.fresh (Hu _))
  | str y=>
   cases ep;cases (show x=.str y from rp);obtain⟨t,rfl⟩:=r1;refine wpAny_pyIter_strU ?_;refine⟨s1.heap.objs.size,[s1.heap.objs.size],_,_,H1,rfl,I1.kept (t':=s1.toks) fun b o e=>HH _ e,qi _ y t,⟨_,IC _ rfl,rfl,rfl⟩,fun b hb=>?_,k _ H1 (Same.refl H1) wz⟩;have e:b=s1.heap.objs.size:=by simpa using hb
   subst e;exact I1.fpOk (Hu _) (I1.hok.fresh (Hu _))
  | _=>cases ep
end
end PU
namespace PU
open PySem PySem.Spec PyProof.Rows L2 PySem.SeqAt
variable[TW]
theorem jV{C:Cn}{e:Expr}{f:PSt->R PV}{pos:JO}(h:EV C e f):EV C (.UnaryOp .USub e pos) (un1 f pR):=by
 intro pins s σ H Q I ⟨ρ,vw,q⟩;refine Eg AS h pins s σ H Q I ⟨ρ,vw,q.bind.imp fun p _ k v H1 s1 r1=>?_⟩;obtain⟨z,ez,k⟩:=k.ofO;cases p with
 | int i=>cases ez;cases (show v=.int i from r1);exact⟨i,rfl,k _ H1 s1 rfl⟩
 | _=>cases ez
def rM1(K:HA)(g:PV->PV->Option PV):V->List V->Hp->VK->Prop:=fun v vs H Q=>∃p q z u,vs=[u]/\b8 K H p v/\b8 K H q u/\g p q=some z/\∀w H',Same H H'->Rep K H' z w->Q w H'
structure StrM(name:Str)(id:String):Prop where
 slot:Slot "str" name id
 ty:typeOf (.builtin id)=pure (.type "method_descriptor")
theorem zG{C:Cn}{o e:Expr}{fo fe:PSt->R PV}{g:PV->PV->Option PV}{name:Str}{id:String}{apos cpos:JO}(S:StrM name id)(hm:MtR C.X id (rM1 C.X.K g))(ho:EV C o fo)(he:EO C e fe)
  (hbase:M4 o name C.X.env (J8 o C.X.env)=J8 o C.X.env:=by rfl) (hline:(apos.endLine == cpos.line)=true:=by rfl) (hs:Hw [e] C.X.env=[(false,J8 e C.X.env)]:=by exact cg rfl) :
  EV C (.Call (.Attribute o name apos) [e] [] cpos) (oz fo fe g):=by
 intro pins s σ H Q I ⟨ρ,vw,q⟩;refine Bt PySem.F.plainAttrs_str S.slot S.ty hm ho (pU he hs) hbase (by rw[hs];rfl) hline hs (by rfl) pins s σ H Q I ⟨ρ,vw,q.bind.imp fun p _ k v H1 s1 r1=>?_⟩;cases p with
 | str x=>
  cases (show v=.str x from r1);have k:RQ C H (fe ρ >>= fun q=>R.ofO (g (.str x) q)) fun p=>∀v H',Same H H'->Rep C.X.K H' p v->Q v H':=k;refine⟨rfl,ρ,vw.same s1,(k.bind.same s1).imp fun p2 _ k2 u H2 s2 r2=>?_⟩;obtain⟨z,ez,k3⟩:=k2.ofO;exact⟨.str x,p2,z,u,rfl,rfl,r2,ez,fun w H3 s3 r3=>k3 w H3 ((s1.trans s2).trans s3) r3⟩
 | _=>exact HJ k
theorem iq{K:HA}{H:Hp}:∀{ps:List PV}{xs:List V}{us:List HB}{ys:List Str},iJ ps=some ys->aE K H ps xs->Vals xs us->StrsAre us ys
 | [],_,_,_,e,r,rv=>by cases e;cases r;cases rv;exact .nil
 | p::ps,_,_,_,e,⟨x,t,ex,h1,h2⟩,rv=>by
  subst ex;cases p with
  | str y=>
   obtain⟨r,er,ez⟩:=HQ.mp (show (iJ ps).map (y::·)=some _ from e);subst ez;cases (show x=.str y from h1);cases rv with
   | cons a b=>
    obtain⟨tt,rfl⟩:=a;exact .cons y tt (iq er h2 b)
  | _=>cases e
theorem B7:StrM "join" "str.join":=⟨PySem.F.slot_str_join,PySem.F.type_str_join⟩
theorem BO {X:Cx}:MtR X "str.join" (rM1 X.K oM):=by
 intro pins s σ H x xs v us Q I rx rs ⟨p,q,z,u,e1,rp,rq,ez,k⟩;subst e1;obtain⟨u',rfl,ru⟩:=vals1 rs;unfold oM at ez;split at ez
 ·rename_i y ps
  obtain⟨ys,ey,ez⟩:=HV.mp ez;split at ez
  ·rename_i hl
   cases ez;cases (show x=.str y from rp);obtain⟨t,rfl⟩:=rx;obtain⟨a,zs,rfl,g,rr⟩:=b8.lst_inv rq;cases ru;obtain⟨_,its,n,rv,e⟩:=g.is I;exact join_list (items:=its.toArray) ⟨_,e,rfl,_,rfl⟩ (iq ey rr (by simpa using rv)) hl fun t' k'=>⟨.str _,H,I.tok _,⟨_,rfl⟩,k _ H (Same.refl H) rfl⟩
  ·cases ez
 ·rename_i y ps
  obtain⟨ys,ey,ez⟩:=HV.mp ez;split at ez
  ·rename_i hl
   cases ez;cases (show x=.str y from rp);obtain⟨t,rfl⟩:=rx;obtain⟨a,zs,rfl,g,rr⟩:=b8.tup_inv rq;cases ru;obtain⟨its,rv,pl,_⟩:=I.tuple g;exact join_tuple (items:=its.toArray) pl (iq ey rr (by simpa using rv)) hl fun t' k'=>⟨.str _,H,I.tok _,⟨_,rfl⟩,k _ H (Same.refl H) rfl⟩
  ·cases ez
 ·cases ez
end PU
namespace PU
open PySem PySem.Spec PyProof.Rows L2 PySem.SeqAt
variable[TW]
def Gz(K:HA):V->Option Int->Option Int->Hp->VK->Prop:=fun v lo hi H Q=>∃p z,b8 K H p v/\gSl p lo hi=some z/\∀w H',Same H H'->Rep K H' z w->Q w H'
def tOI(C:Cn)(f:PSt->R (Option Int)):TO:=fun σ H Q=>∃ρ,View C.X.K H σ ρ/\RQ C H (f ρ) fun o=>∀H',Same H H'->Q o H'
def EOI(C:Cn)(e:Option Expr)(f:PSt->R (Option Int)):Prop:=PO C.X e (tOI C f)
theorem mr{K:HA}{H:Hp}{ps:List PV}{xs:List V}(r:aE K H ps xs)(lo hi:Option Int):aE K H (iN ps lo hi) (wU xs lo hi):=by
 unfold iN wU;rw[r.length];exact(r.drop _).take _
section
variable{C : Cn}{e : Expr}{f : PSt → R PV}{lo hi : Option Expr}{l h : PSt → R (Option Int)}{pos p2 : JO}
theorem dP:EOI C none e8:=fun pins s σ H Q I ⟨ρ,vw,q⟩=>yR pins s σ H Q I (q H (Same.refl H))
theorem cV(he:EV C e f):EOI C (some e) (gv f):=by
 intro pins s σ H Q I ⟨ρ,vw,q⟩;refine yQ he pins s σ H Q I ⟨ρ,vw,q.bind.imp fun p _ k v H1 s1 r1=>?_⟩;cases p with
 | int i=>cases (show v=.int i from r1);exact⟨i,rfl,k H1 s1⟩
 | _=>exact HJ k
theorem slP{X:Cx}:SlR X (Gz X.K):=by
 intro pins s σ H x v vl vu lo hi sl Q I rx hs pl pu ⟨p,z,rp,ez,k⟩;cases p with
 | lst ps=>
  cases ez;obtain⟨a,xs,rfl,g,rr⟩:=b8.lst_inv rp;obtain⟨T,id,h1,h2,h3⟩:=yz pins s σ H _ v vl vu lo hi sl (fun w H'=>∃b,w=.ref b/\H b=none/\H'=upd H b (.lst (wU xs lo hi))) I rx hs pl pu ⟨a,xs,rfl,g.l,fun b hb=>⟨b,rfl,hb,rfl⟩⟩;refine⟨T,id,h1,h2,thn h3 fun u s' ⟨w,H',I',rw',b,ew,nb,eH⟩=>?_⟩;subst ew eH;obtain⟨H2,I2,rp2,oth⟩:=L2.Inv.frz (a:=b) (p:=.lst (iN ps lo hi)) I' ⟨_,ax,(mr rr lo hi).same (Same.new nb)⟩;refine⟨.ref b,H2,I2,rw',k _ H2 (.of fun c o ec=>?_) rp2⟩;have hc:=bp ec nb;rw[oth c hc,az hc];exact ec
 | tup ps=>
  simp only[gSl] at ez;obtain⟨a,xs,rfl,g,rr⟩:=b8.tup_inv rp
  by_cases hw:HT.sIx ps.length 0 lo=0/\HT.sIx ps.length ps.length hi=ps.length
  ·rw[if_pos hw] at ez
   cases ez
  ·rw[if_neg hw] at ez
   cases ez;exact xp pins s σ H _ v vl vu lo hi sl Q I rx hs pl pu ⟨a,xs,rfl,g,by rw[← rr.length];exact hw,fun b hb=>k _ _ (Same.new hb) ⟨b,_,rfl,ax,(mr rr lo hi).same (Same.new hb)⟩⟩
 | _=>cases ez
theorem jc(ha:EO C e f)(hl:EOI C lo l)(hh:EOI C hi h):EV C (.Subscript e (.Slice lo hi none p2) pos) (jh f l h):=by
 intro pins s σ H Q I ⟨ρ,vw,q⟩;refine lR slP ha hl hh pins s σ H Q I ⟨ρ,vw,q.bind.imp fun p _ k v H1 s1 r1=>⟨ρ,vw.same s1,(k.bind.same s1).imp fun o1 _ k2 H2 s2=>⟨ρ,(vw.same s1).same s2,(k2.bind.same (s1.trans s2)).imp fun o2 _ k3 H3 s3=>?_⟩⟩⟩;obtain⟨z,ez,k4⟩:=k3.ofO;exact⟨p,z,(r1.same s2).same s3,ez,fun w H4 s4 r4=>k4 w H4 (((s1.trans s2).trans s3).trans s4) r4⟩
end
theorem mO{K:HA}{H:Hp}{k:Key}{p:PV}{v:V}(rp:Rep K H p v):∀{kvs:List (Key×V)}{ps:List PV},aE K H ps (kvs.map (·.2))->aE K H (iM (kvs.map (·.1)) ps k p) ((kvs.map fun kv=>if kv.1=k then (kv.1,v) else kv).map (·.2))
 | [],ps,r=>by
  cases ps with
  | nil=>rfl
  | cons q qs=>obtain⟨x,t,e,_⟩:=r;cases e
 | kv::kvs,ps,r=>by
  cases ps with
  | nil=>cases r
  | cons q qs=>
   obtain⟨x,t,e,h1,h2⟩:=r;simp only[HI,JZ] at e;obtain⟨rfl,rfl⟩:=e;have ih:=mO (k:=k) rp h2;simp only[HI,iM,Jb]
   by_cases hk:kv.1=k
   ·rw[if_pos hk,if_pos hk];exact⟨_,_,rfl,rp,ih⟩
   ·rw[if_neg hk,if_neg hk];exact⟨_,_,rfl,h1,ih⟩
theorem p9{K:HA}{H:Hp}{kvs:List (Key×V)}{ps:List PV}{k:Key}{p:PV}{v:V}(rr:aE K H ps (kvs.map (·.2)))(rp:Rep K H p v) :
  ∃ks' ps',kq (kvs.map (·.1)) ps k p=.dct ks' ps'/\(putK kvs k v).map (·.1)=ks'/\aE K H ps' ((putK kvs k v).map (·.2)):=by
 unfold kq;have e:((kvs.map (·.1)).any fun j=>decide (j=k))=(kvs.any fun kv=>decide (kv.1=k)):=by rw[Jx];rfl
 rw[e];unfold putK
 split
 ·refine⟨_,_,rfl,?_,mO rp rr⟩
  rw[I8];apply JU;intro kv _;simp only[Ja]
  split <;> rfl
 ·refine⟨_,_,rfl,by simp,?_⟩
  rw[IH];exact aE.append rr ⟨_,_,rfl,rp,rfl⟩
theorem oo{K:HA}{H:Hp}{a:Addr}{kvs:List (Key×V)}{ps:List PV}{k:Key}{p:PV}{v:V}(rr:aE K H ps (kvs.map (·.2)))(rp:Rep K H p v)(ha:H a=some (.dK (putK kvs k v))):bY K H a (kq (kvs.map (·.1)) ps k p):=by
 obtain⟨ks',ps',e,e1,e2⟩:=p9 (k:=k) rr rp;rw[e];exact⟨_,ha,e1,e2⟩
theorem kK{C:Cn}(i:Nat){x:Str}{ke e:Expr}{fk fv:PSt->R PV}{np pos' pos:JO}(hu:C.X.A.units+64<cLine)(hk:EV C ke fk)(hv:EV C e fv)(hN:C.X.N[i]?=some x:=by rfl)(hvis:Vis C.X.env.scope x:=by first | exact MH rfl | exact Le (MH rfl))
  (hs:KL e (some (.Subscript (.Name x np) ke pos')) pos.line C.X.env=pure false:=by rfl) (hd:(x == ("__debug__":Str))=false:=by decide) (hcd:(x == ("__classdict__":Str))=false:=by decide) :
  SV C (.Assign [.Subscript (.Name x np) ke pos'] e pos) (rf i fk fv):=by
 intro pins s σ H D I ⟨ρ,B,S,q⟩;unfold rf at q;split at q
 ·rename_i ks ps e1
  obtain⟨a,e2,kvs,hx,ek,rr⟩:=S.vw i _ e1;refine sh (by omega) (fF hN hvis hd hcd) hk hv hs pins s σ H D I ⟨ρ,S.vw,(q.bind S.same).imp fun p _ q1 v H1 s1 r1=>⟨_,e2,ρ,S.vw.same s1,(q1.bind (S.same.trans s1)).imp fun kp _ q2 y H2 s2 r2=>?_⟩⟩;obtain⟨k,e3,q3⟩:=RS.ofO q2
  by_cases hl:ks.length<16777216
  ·rw[if_pos hl] at q3
   have hy:=dq e3 r2.o;subst hy;subst ek;have hx2:H2 a=some (.dK kvs):=s2 _ _ (s1 _ _ hx);refine⟨a,_,rfl,yn.k hx2 (by rw[Il];simpa using hl),?_⟩;have kp:Kp H2 (upd H2 a (.dK (putK kvs k v))):=Kp.upd hx2 rfl;refine q3 σ _ (((S.grow s1).grow s2).turn e1 e2 (fun b hb=>az hb) ⟨a,rfl,?_⟩);exact oo (aE.kp kp _ ((rr.same s1).same s2)) (Rep.kp kp _ (r1.same s2)) ax
  ·rw[if_neg hl] at q3
   exact HJ q3
 ·exact HJ q
theorem mh{C:Cn}{pos:JO}:EN C (.Dict [] [] pos) newD:=fun pins s σ H Q I ⟨ρ,vw,q⟩=>vZ pins s σ H Q I fun p hp=>q p _ (Same.new hp) hp ⟨[],ax,rfl,rfl⟩
def ir(K:HA)(H:Hp):List (Key×PV)->List (Key×V)->Prop
 | [],xs=>xs=[]
 | kp::r,xs=>∃v t,xs=(kp.1,v)::t/\Rep K H kp.2 v/\ir K H r t
theorem ir.kp{K:HA}{H H':Hp}(k:Kp H H'):∀{kps:List (Key×PV)}{xs:List (Key×V)},ir K H kps xs->ir K H' kps xs
 | [],_,h=>h
 | kp::r,_,⟨v,t,e,h1,h2⟩=>⟨v,t,e,Rep.kp k _ h1,ir.kp k h2⟩
def ED(C:Cn)(pos:JO)(ks:List (Option Expr))(vs:List Expr)(f:PSt->R (List (Key×PV))):Prop:=∃trs,PPs C.X pos ks vs trs/\
 ∀σ H Q,(∃ρ,View C.X.K H σ ρ/\RQ C H (f ρ) fun kps=>∀kvs H',Same H H'->ir C.X.K H' kps kvs->Q (kvs.map fun kv=>(kV kv.1,kv.2)) H')->oU trs σ H Q
theorem yb{C:Cn}{pos:JO}:ED C pos [] [] BH:=⟨[],sj,fun σ H Q ⟨ρ,vw,q⟩=>q [] H (Same.refl H) rfl⟩
theorem ik{C:Cn}{pos:JO}{k v:Expr}{ks:List (Option Expr)}{vs:List Expr}{fk fv:PSt->R PV}{f:PSt->R (List (Key×PV))}(hk:EV C k fk)(hv:EV C v fv)(h:ED C pos ks vs f):ED C pos (some k::ks) (v::vs) (mv fk fv f):=by
 obtain⟨trs,hp,ht⟩:=h;refine⟨_,pe hk hv hp,fun σ H Q ⟨ρ,vw,q⟩=>⟨ρ,vw,q.bind.imp fun kp _ q1 x H1 s1 r1=>?_⟩⟩
 obtain⟨kk,ek,q1⟩:∃kk,eK kp=some kk/\RQ C H (fv ρ >>= fun p=>f ρ >>= fun r=>R.ok ((kk,p)::r)) _:=by
  cases h:eK kp with
  | none=>rw[h] at q1;exact HJ q1
  | some kk=>rw[h] at q1;exact⟨kk,rfl,q1⟩
 refine⟨ρ,vw.same s1,(q1.bind.same s1).imp fun p _ q2 y H2 s2 r2=>ht σ H2 _ ⟨ρ,(vw.same s1).same s2,(q2.bind.same (s1.trans s2)).imp fun kps _ q3 kvs H3 s3 r3=>?_⟩⟩;have hx:=dq ek r1.o;subst hx;exact q3 ((kk,y)::kvs) H3 ((s1.trans s2).trans s3) ⟨y,kvs,rfl,r2.same s3,r3⟩
def x9(d:PV)(kp:Key×PV):PV:=match d with
 | .dct ks ps=>kq ks ps kp.1 kp.2
 | d=>d
theorem lV(kps:List (Key×PV)):fg kps=kps.foldl x9 (.dct [] []):=rfl
theorem jB{K:HA}{H:Hp}:∀{kps:List (Key×PV)}{kvs acc:List (Key×V)}{ps:List PV},ir K H kps kvs->aE K H ps (acc.map (·.2))->
  ∃ks' ps',kps.foldl x9 (PV.dct (acc.map (·.1)) ps)=PV.dct ks' ps'/\(e9 acc kvs).map (·.1)=ks'/\aE K H ps' ((e9 acc kvs).map (·.2))
 | [],kvs,acc,ps,h,r=>by cases h;exact⟨_,_,rfl,rfl,r⟩
 | kp::kps,kvs,acc,ps,⟨v,t,e,h1,h2⟩,r=>by
  subst e;obtain⟨ks',ps',g,g1,g2⟩:=p9 (k:=kp.1) r h1;obtain⟨ks2,ps2,f,f1,f2⟩:=jB (acc:=putK acc kp.1 v) h2 g2;refine⟨ks2,ps2,?_,f1,f2⟩;rw[LI]
  have:x9 (PV.dct (acc.map (·.1)) ps) kp=PV.dct ((putK acc kp.1 v).map (·.1)) ps':=by
   show kq _ _ _ _=_;rw[g,g1]
  rw[this];exact f
theorem ir.length{K:HA}{H:Hp}:∀{kps:List (Key×PV)}{xs:List (Key×V)},ir K H kps xs->kps.length=xs.length
 | [],_,h=>by cases h;rfl
 | kp::r,_,⟨v,t,e,h1,h2⟩=>by subst e;simp[ir.length h2]
theorem um{C:Cn}{pos:JO}{ks:List (Option Expr)}{vs:List Expr}{f:PSt->R (List (Key×PV))}(h:ED C pos ks vs f)(hall:ks.all (·.isSome)=true:=by rfl)(hl:ks.length=vs.length:=by rfl)(h0:ks≠[]:=by exact fun z=>nomatch z)
  (h15:ks.length<=15:=by decide):EN C (.Dict ks vs pos) (ur f):=by
 obtain⟨trs,hp,ht⟩:=h;intro pins s σ H Q I ⟨ρ,vw,q⟩;refine yV hp hall hl h0 h15 pins s σ H Q I fun p hn=>ht σ _ _ ⟨ρ,vw.same (Same.new hn),(q.bind.same (Same.new hn)).imp fun kps _ q1 kvs H3 s3 r3=>?_⟩;have sm:Same H H3:=(Same.new hn).trans s3;have e3:H3 p=some (.dK []):=s3 _ _ ax
 by_cases hk:kps.length<=15
 ·rw[if_pos hk] at q1
  refine⟨e3,kvs,rfl,by rw[← r3.length];exact hk,?_⟩;have kp:Kp H3 (upd H3 p (.dK (e9 [] kvs))):=Kp.upd e3 rfl;obtain⟨ks',ps',g,g1,g2⟩:=jB (acc:=[]) (ps:=[]) (ir.kp kp r3) aE.nil;refine q1 p _ (sm.but hn (fun u h=>by rw[e3] at h;cases h;rfl) (fun b hb=>az hb)) hn ?_
  ·rw[lV]
   have g:kps.foldl x9 (PV.dct [] [])=PV.dct ks' ps':=g;rw[g];exact⟨_,ax,g1,g2⟩
 ·rw[if_neg hk] at q1
  exact HJ q1
end PU
namespace PU
open PySem PySem.Spec PyProof.Rows L2 PySem.SeqAt
variable[TW]
structure Con(K:HA)(mg:Str->Option HB)(x:Str)(c:PV):Prop where
 ex:∃v u,mg x=some u/\RelV v u/\∀H,Rep K H c v
theorem nR {C:Cn} {x:Str} {c:PV} {pos:JO} (hg:Gl C.X x) (h:Con C.X.K C.X.mg x c) (hd:(x == ("__debug__":Str))=false:=by decide):EV C (.Name x pos) (kP c):=by
 obtain⟨v,u,hm,r,rp⟩:=h.ex;exact zH hg hm r rp hd
def CB(p:Params)(e:Str×Tok×HB):DictEntry:={ hash:=PyData.keyHash p e.1,key:=.str e.1 e.2.1,val:=e.2.2 }
omit [TW] in
theorem qK(w:IA)(x:Str):PyData.keyHash w.params x=hashStr w x:=rfl
omit [TW] in
theorem kU{P:HX}{w:IA}:∀(es:List (Str×Tok×HB)),Pairs (au P w) (es.map (CB w.params)) (es.map fun e=>((JF e.1:Key),e.2.2))
 | []=>.nil
 | e::es=>.cons (eT P w e.1 e.2.1) rfl (kU es)
omit [TW] in
theorem t8:∀{xs:List V}{es:List (Str×Tok×HB)},Vals xs (es.map (·.2.2))->KV ((es.map fun e=>(JF e.1:Key)).zip xs) (es.map fun e=>((JF e.1:Key),e.2.2))
 | [],[],_=>.nil
 | x::xs,e::es,r=>by
  cases r with
  | cons a b=>exact .cons ⟨rfl,a⟩ (t8 b)
 | [],_::_,r=>by cases r
 | _::_,[],r=>by cases r
omit [TW] in
theorem con_dct{w:IA}{tabs:List Addr}{qual:Nat->Nat->Str}{K:HA}{h:Heap}{mg:Str->Option HB}{x:Str}{a:Addr}{o:Obj}(es:List (Str×Tok×HB)){ep:Nat}{ps:List PV}{xs:List V}(X:K.In h)(G:h.Ns mainGlobals mg)
  (n1:Iu K mainGlobals x=some (some (.ref a))) (n2:K.lookup a=some o) (n3:o={ cls:=.type "dict",data:=.dict (es.map (CB w.params)).toArray ep }) (hs:(a == Im)=false)
  (nd:(es.map (·.1)).Nodup) (hz:es.length<=sizeLine) (vals:Vals xs (es.map (·.2.2))) (reps:∀H,@aE ⟨w,tabs,qual⟩ K H ps xs):@Con ⟨w,tabs,qual⟩ K mg x (.dct (es.map fun e=>.inr e.1) ps):=by
 letI:TW:=⟨w,tabs,qual⟩
 have hl:xs.length=es.length:=by rw[vals.length,HF]
 have e1:((es.map fun e=>(JF e.1:Key)).zip xs).map (·.1)=es.map fun e=>.inr e.1:=List.map_fst_zip (by rw[HF];omega);have e2:((es.map fun e=>(JF e.1:Key)).zip xs).map (·.2)=xs:=List.map_snd_zip (by rw[HF];omega);refine⟨.ref a,_,Kq X G n1,rfl,fun H=>⟨a,(es.map fun e=>(JF e.1:Key)).zip xs,rfl,.inr ⟨?_,hs,o,_,_,n2,?_,by rw[n3],fun P=>⟨es.map fun e=>((JF e.1:Key),e.2.2),t8 vals,?_,?_,?_⟩⟩,e1,by rw[e2];exact reps H⟩⟩
 ·rw[List.length_zip,HF,hl]
  omega
 ·rw[n3]
  exact⟨rfl,rfl,rfl⟩
 ·intro e he
  have he:e∈es.map (CB w.params):=by simpa using he
  obtain⟨z,_,rfl⟩:=HN.mp he;exact⟨.inr z.1,eT P w z.1 z.2.1,qK w z.1⟩
 ·have e3:(es.map (CB w.params)).toArray.toList=es.map (CB w.params):=by simp
  rw[e3];exact kU (P:=P) (w:=w) es
 ·rw[I8]
  have:((·.1) ∘ fun e:Str×Tok×HB=>((JF e.1:Key),e.2.2))=JF ∘ (·.1):=rfl;rw[this,← I8];exact List.Pairwise.map _ (fun a b hab e=>hab (K4 e)) nd
theorem Eu{P:HX}{w:IA}{K:HA}{mg:Str->Option HB}{base:Heap}{x qual:Str}{st:Stmt}{f:Addr}{fd:FuncData}{N ps:List Str}{k:Nat}{g:PSt->R Fl}(F:Fun K x qual st f fd)(S:FnScope N ps (ah st))
  (hbody:∀(cdv:HB)(A:IL)(outer:List M5)(s:HC)(H:Hp)(E:XK),Room k (A.deeper (Kb qual (ah st) s.heap.objs.size f cdv))->SVs (Av P w K mg base N qual (ah st) f cdv A outer s H E) (bz st) g) :
  FnOk P w K mg base CX0 (k+1) f fd ps (spP K ps.length (eI ps.length N.length g)):=by
 refine F.ok S (fun vs H Q E h=>h.1) (fun cdv A outer s H vs Q E hr h=>?_);obtain⟨hl,tb,qs,p,r,e,k⟩:=h;refine⟨_,hbody cdv A outer s H E hr,start N.length qs,(H,H),iS tb r,?_⟩;unfold eI at e;rw[if_pos (by rw[r.length];exact hl)] at e;cases hg:g (start N.length qs) with
 | ok fl=>
  rw[hg] at e;cases fl with
  | next ρ=>cases e;exact fun σ H' S'=>k .non H' S'.same rfl
  | ret q=>cases e;exact fun v H' s' r'=>k v H' s' r'
  | brk ρ=>cases e
  | cont ρ=>cases e
 | er x=>rw[hg] at e;cases e
 | no=>rw[hg] at e;cases e
theorem qt{K:HA}{H:Hp}{a:Addr}{ns:List Int}(h:SqF K H a (ns.map V.int)):aE K H [.lst (ns.map .int)] [.ref a]:=by
 have:∀l:List Int,aE K H (l.map PV.int) (l.map V.int):=by
  intro l
  induction l with
  | nil=>rfl
  | cons x l ih=>exact⟨_,_,rfl,rfl,ih⟩
 exact⟨_,_,rfl,⟨a,_,rfl,h,this ns⟩,rfl⟩
end PU
namespace PU
open PySem PySem.Spec PyProof.Rows L2 PySem.SeqAt
section
variable{P : HX}{w : IA}{A : IL}{E : HB → HC → Prop}{s : HC}{it a : Addr}{i n ep slot : Nat}
def Tells(P:HX)(w:IA)(s:HC)(a:Addr)(slot i ep:Nat)(r:Option (HB×Nat)):Prop:=∀(A:IL)(E:HB->HC->Prop)(Q:Option (HB×Nat)->HC->Prop),Q r s->Hx (IK P w) A (setNext a slot i ep) Q E s
end
end PU
section
namespace PU
def whF(t:PSt->R Bool)(g:PSt->R Fl):Nat->PSt->R Fl
 | 0,_=>.no
 | n+1,ρ=>t ρ >>= fun b=>if b=true then g ρ >>= fun fl=>(match fl with
  | .next ρ2=>whF t g n ρ2
  | .cont ρ2=>whF t g n ρ2
  | .brk ρ2=>.ok (.next ρ2)
  | .ret q=>.ok (.ret q)) else .ok (.next ρ)
def whS(n:Nat)(t:PSt->R Bool)(g:PSt->R Fl):PSt->R Fl:=whF t g n
end PU
namespace PU
open PySem PySem.Spec PyProof.Rows L2 PySem.SeqAt
variable[TW]
theorem oV{C:Cn}{c:Expr}{body:List Stmt}{t:PSt->R Bool}{g:PSt->R Fl}{pos:JO}(n:Nat)(hc:ET C c t)(hb:SVs C body g)(hp:Np (IK C.X.prog C.X.w) C.X.A C.X.env C.X.xe:=by exact NG):SV C (.While c body [] pos) (whS n t g):=by
 intro pins s σ H D I ⟨ρ,B,S,q⟩;refine vU hp hc hb pins s σ H D I ⟨fun m σ' H'=>∃ρ',StOk C.X.K B H' σ' ρ'/\RS C B D (whF t g m ρ'),⟨n,ρ,S,q⟩,?_⟩;rintro m σ' H' ⟨ρ',S',q'⟩;cases m with
 | zero=>exact HJ q'
 | succ m=>
  have q':RS C B D (t ρ' >>= fun b=>if b=true then g ρ' >>= fun fl=>(match fl with
   | .next ρ2=>whF t g m ρ2
   | .cont ρ2=>whF t g m ρ2
   | .brk ρ2=>.ok (.next ρ2)
   | .ret q=>.ok (.ret q)) else .ok (.next ρ')):=q'
  refine⟨ρ',S'.vw,(q'.bind S'.same).imp fun b _ k H1 s1=>?_⟩;cases b with
  | false=>
   rw[if_neg HP] at k ⊢;exact k σ' H1 (S'.grow s1)
  | true=>
   rw[if_pos rfl] at k ⊢;refine⟨fun σ2 H2=>∃ρ2,StOk C.X.K B H2 σ2 ρ2/\RS C B D (whF t g m ρ2),fun σ2 H2 z=>⟨m,Nat.lt_succ_self m,z⟩,ρ',B,S'.grow s1,?_⟩;cases hgr:g ρ' with
   | ok fl=>
    rw[hgr] at k;cases fl with
    | next ρ2=>exact fun σ4 H4 S4=>⟨ρ2,S4,k⟩
    | cont ρ2=>exact fun σ4 H4 S4=>⟨ρ2,S4,k⟩
    | brk ρ2=>exact fun σ4 H4 S4=>k σ4 H4 S4
    | ret p=>exact k
   | er x=>rw[hgr] at k;exact k
   | no=>rw[hgr] at k;exact k
end PU
end
namespace PU
open PySem PySem.Spec PyProof.Rows L2 PySem.SeqAt
variable[TW]
theorem vx{K:HA}{H:Hp}{p q z:PV}{x u:V}{v:HB}{us:List HB}{g:PV->PV->Option PV}(hg:∀p q z,g p q=some z->∃a b,p=.str a/\q=.str b)(rx:RelV x v)(rs:Vals [u] us)(rp:b8 K H p x)(rq:b8 K H q u)(ez:g p q=some z) :
  ∃a b t t2,p=.str a/\q=.str b/\v=.str a t/\us=[.str b t2]:=by
 obtain⟨a,b,rfl,rfl⟩:=hg p q z ez;obtain⟨u',rfl,ru⟩:=vals1 rs;cases (show x=.str a from rp);cases (show u=.str b from rq);obtain⟨t,rfl⟩:=rx;obtain⟨t2,rfl⟩:=ru;exact⟨a,b,t,t2,rfl,rfl,rfl,rfl⟩
end PU
namespace PU
open PySem PySem.Spec PyProof.Rows L2 PySem.SeqAt
variable[TW]
theorem jY {C:Cn} {tg a b:Expr} {f f2:PSt->R PV} {p pos:JO} (hg:Gl C.X "range") (hm:C.X.mg "range"=none) (ha:EV C a f) (hb:EV C b f2) (hs:Hw [a,b] C.X.env=[(false,J8 a C.X.env),(false,J8 b C.X.env)]:=by rfl)
  (hs2:Hw [b] C.X.env=[(false,J8 b C.X.env)]:=by exact cg rfl):EI C tg (.Call (.Name "range" p) [a,b] [] pos) (An f f2):=by
 intro pins s σ H Rk I ⟨ρ,vw,q⟩;refine so hg hm (cK ha (cK hb gC hs2) (by rw[hs,hs2])) hs hs2 pins s σ H Rk I ⟨ρ,vw,q.bind.imp fun p _ k v H1 s1 r1=>⟨ρ,vw.same s1,(k.bind.same s1).imp fun p2 _ k2 v2 H2 s2 r2=>?_⟩⟩;cases p with
 | int i=>
  cases p2 with
  | int j=>
   cases (show v=.int i from r1);cases (show v2=.int j from r2);have k2:RQ C H (if i.natAbs<1000000000/\j.natAbs<1000000000 then R.ok (bM i (j-i).toNat) else R.no) fun ps=>∀J H',Same H H'->ItP C.X.K J H' ps->Rk J H':=k2
   by_cases hj:i.natAbs<1000000000/\j.natAbs<1000000000
   ·rw[if_pos hj] at k2
    exact⟨i,j,rfl,⟨by omega,by omega,by omega,by omega⟩,k2 _ H2 (s1.trans s2) pL⟩
   ·rw[if_neg hj] at k2
    exact HJ k2
  | _=>exact HJ k2
 | _=>exact HJ k2
end PU
section
namespace PU
def zu:PV->Bool
 | .dct _ _=>true
 | _=>false
end PU
namespace PU
open PySem PySem.Spec PyProof.Rows L2 PySem.SeqAt
variable[TW]
theorem l0{K:HA}{H:Hp}{k:Key}:∀{ks:List Key}{ps:List PV}{kvs:List (Key×V)},kvs.map (·.1)=ks->aE K H ps (kvs.map (·.2))->bO ks ps k=none->mE kvs k=none
 | _,_,[],h1,h2,e=>rfl
 | _,[],kv::kvs,h1,h2,e=>by
  cases h2
 | _,q::ps,kv::kvs,h1,h2,e=>by
  subst h1;obtain⟨x,r,ex,hx,ht⟩:=h2;simp only[HI,JZ] at ex;obtain⟨rfl,rfl⟩:=ex;simp only[HI,bO] at e
  by_cases hk:kv.1=k
  ·rw[if_pos hk] at e
   cases e
  ·rw[if_neg hk] at e
   rw[eJ hk];exact l0 rfl ht e
end PU
end
namespace PU
open PySem PySem.Spec PyProof.Rows L2 PySem.SeqAt
theorem lD:isSubtype (.type "dict") (.type "dict")=pure true:=by rw[isSubtype_type];kernel_rfl
section
variable{P : HX}{w : IA}{A : IL}{E : HB → HC → Prop}{s : HC}{d : Addr}{kvs : List (Key×HB)}{ep : Nat}
theorem nr{Q:HB->HC->Prop}(hh:A.handled=none)(hd:(d == Im)=false)(m:s.heap.DictAt (au P w) d kvs ep)(hz:kvs.length<=sizeLine)
  (q:∀(h':Heap) (tk:Nat) (acc:Array HB) (c:Nat),(∀b o,s.heap.get? b=some o->h'.get? b=some o)->h'.get? s.heap.objs.size=some { cls:=.type "list",data:=.seq acc c }->
   ItemsOf (fun i v=>∃k x,kvs[i]?=some (k,x)/\(au P w).is k v=true) acc kvs.length->Q (.ref s.heap.objs.size) { s with heap:=h',toks:=tk }):Hx (IK P w) A (call (.type "list") [.ref d]) Q E s:=by
 have ld:d<s.heap.objs.size:=by obtain⟨o,es,ho,_⟩:=m;exact HU ho
 refine callType_codes (Q₁:=fun obj s₁=>obj=.ref s.heap.objs.size/\s₁={ s with heap:=s.heap.push { cls:=.type "list",data:=.seq #[] } }) PySem.F.called_list (PySem.F.typeCall_list_1 _) PySem.F.entry_list_init (code_list_new _ ⟨rfl,rfl⟩) fun obj s₁ h₁=>?_;obtain⟨rfl,rfl⟩:=h₁;have g0:(s.heap.push { cls:=.type "list",data:=.seq #[] }).get? s.heap.objs.size=some { cls:=.type "list",data:=.seq #[] }:=IC _ rfl;refine⟨⟨_,g0,rfl⟩,PySem.F.args_list_init_2 _ _,?_⟩;show Hx _ _ (do let old<- M6 (.ref s.heap.objs.size);Builtin.List.listUpdate (.ref s.heap.objs.size) (fun _=>#[]);letGo old.toList.reverse;KN (.ref s.heap.objs.size) (.ref d) .none) _ _ _;refine HD ?_;unfold M6;refine HD (wpAny_seqItems g0 rfl (HK ?_));show Hx _ _ (updateSeq s.heap.objs.size (fun _=>#[]) >>= fun _=>letGo (#[]:Array HB).toList.reverse >>= fun _=>KN (.ref s.heap.objs.size) (.ref d) .none) _ _ _;refine HD (Mo g0 rfl ?_ (JI _) (JI _));have g1:=LJ (JC (fun _=>(#[]:Array HB))) g0 rfl
 have k1:∀b o,s.heap.get? b=some o->((s.heap.push { cls:=.type "list",data:=.seq #[] }).update s.heap.objs.size (JC (fun _=>(#[]:Array HB)))).get? b=some o:=
  fun b o e=>(KF _ _ (Jd (HU e))).trans (HH _ e)
 have z1:((s.heap.push { cls:=.type "list",data:=.seq #[] }).update s.heap.objs.size (JC (fun _=>(#[]:Array HB)))).objs.size=s.heap.objs.size+1:=by rw[Heap.size_update,Heap.size_push]
 refine HD (wpAny_letGo ?_);generalize (s.heap.push { cls:=.type "list",data:=.seq #[] }).update s.heap.objs.size (JC (fun _=>(#[]:Array HB)))=h1 at g1 k1 z1 ⊢
 have m1:h1.DictAt (au P w) d kvs ep:=by
  obtain⟨o,es,ho,r⟩:=m;exact⟨o,es,k1 _ _ ho,r⟩
 have t1:({ s with heap:=h1 }:HC).TypeIs (.ref d) "dict":=m1.dictOf.typeIs;unfold KN;refine HD (KW (T:="dict") t1 ?_)
 have r1:Builtin.List.listSameRef (.ref s.heap.objs.size) (.ref d)=false:=by
  show (s.heap.objs.size == d)=false;simpa using Jd ld
 have r2:(Kl "dict" == Kl "list")=false:=by decide
 have r3:(Kl "dict" == Kl "tuple")=false:=by decide
 simp only[r1,r2,r3,Bool.or_false,IY,if_false];refine HD (wpAny_pyIter_dict (knd:=au P w) (s:={ s with heap:=h1 }) hd m1 ?_);refine HD (Js ?_)
 have m2:(h1.push { cls:=.type "dict_keyiterator",data:=.fields #[.ref d,.int 0 0,.int kvs.length 0,.int ep 0] }).DictAt (au P w) d kvs ep:=by
  obtain⟨o,es,ho,r⟩:=m1;exact⟨o,es,HH _ ho,r⟩
 have t2:=(show ({ s with heap:=h1.push { cls:=.type "dict_keyiterator",data:=.fields #[.ref d,.int 0 0,.int kvs.length 0,.int ep 0] } }:HC).TypeIs (.ref d) "dict" from m2.dictOf.typeIs);unfold Builtin.List.listLengthHint;refine HD (LZ (T:="dict") (v:=.ref d) t2 PySem.F.slot_dict_len.lookup ?_)
 wp_delta
 refine HD (MY (T:="dict") (v:=.ref d) (b:=true) t2 lD ?_);show Hx _ _ (typeOf (JA d) >>= _) _ _ _;refine HD (KW (T:="dict") (v:=.ref d) t2 (HK ?_));rw[if_pos (by decide)];refine HD (MC (HD ?_));unfold Builtin.List.listTouch;have nI:h1.objs.size≠s.heap.objs.size:=by rw[z1];exact Nat.succ_ne_self _
 have gL2:(h1.push { cls:=.type "dict_keyiterator",data:=.fields #[.ref d,.int 0 0,.int kvs.length 0,.int ep 0] }).get? s.heap.objs.size=some _:=HH _ g1;have gI2:(h1.push { cls:=.type "dict_keyiterator",data:=.fields #[.ref d,.int 0 0,.int kvs.length 0,.int ep 0] }).get? h1.objs.size=some _:=IC _ rfl;have k2:∀b o,s.heap.get? b=some o->(h1.push { cls:=.type "dict_keyiterator",data:=.fields #[.ref d,.int 0 0,.int kvs.length 0,.int ep 0] }).get? b=some o:=fun b o e=>HH _ (k1 b o e);refine HD (Mo gL2 rfl ?_ (JI _) (by show 1<=_;rw[Il];decide));have g3:=LJ (JC (·.push Km)) gL2 rfl;refine Mo g3 rfl ?_ (by show 1<=_;rw[Il];decide) (JI _);have g4:=LJ (JC (·.pop)) g3 rfl
 have k4:∀b ob,b≠s.heap.objs.size->(h1.push { cls:=.type "dict_keyiterator",data:=.fields #[.ref d,.int 0 0,.int kvs.length 0,.int ep 0] }).get? b=some ob->(((h1.push { cls:=.type "dict_keyiterator",data:=.fields #[.ref d,.int 0 0,.int kvs.length 0,.int ep 0] }).update s.heap.objs.size (JC (·.push Km))).update s.heap.objs.size (JC (·.pop))).get? b=some ob:=fun b ob hb e=>
  (KF _ _ (Jg hb)).trans ((KF _ _ (Jg hb)).trans e)
 show Hx _ _ _ _ _ { s with heap:=(((h1.push { cls:=.type "dict_keyiterator",data:=.fields #[.ref d,.int 0 0,.int kvs.length 0,.int ep 0] }).update s.heap.objs.size (JC (·.push Km))).update s.heap.objs.size (JC (·.pop))) };generalize ((h1.push { cls:=.type "dict_keyiterator",data:=.fields #[.ref d,.int 0 0,.int kvs.length 0,.int ep 0] }).update s.heap.objs.size (JC (·.push Km))).update s.heap.objs.size (JC (·.pop))=h4 at g4 k4 ⊢;have nd:d≠s.heap.objs.size:=IF ld;have ndI:d≠h1.objs.size:=by rw[z1];exact IF (Lz ld)
 have st4:h4.IsKeyIter h1.objs.size d 0 kvs.length ep/\h4.DictAt (au P w) d kvs ep:=by
  refine⟨⟨_,k4 _ _ nI gI2,rfl,rfl⟩,?_⟩;obtain⟨o,es,ho,r⟩:=m2;exact⟨o,es,k4 _ _ nd ho,r⟩
 have nL:s.heap.objs.size ∉ [h1.objs.size,d]:=fun z=>by
  rcases Hr.mp z with e | z
  ·exact nI e.symm
  ·exact nd (HY.mp z).symm
 have W:∀A':IL,A'.handled=none->Walks P w A' h1.objs.size [h1.objs.size,d] [h1.objs.size] kvs.length _ _:=fun A' hA=>Walks.dictKeys (knd:=au P w) hA h1.objs.size d ndI kvs ep;refine HK ⟨Na PySem.F.plain_extend_loop _,codeAny_extend_loopS (W A.in1.in1 hh).toS hz _ nL _ kvs.length 0 _ _ _ rfl (JI _) st4 g4 (ItemsOf.nil _) fun s' acc c mm gA it'=>?_⟩;rw[Moved.eq_with mm];refine⟨rfl,q s'.heap s'.toks acc c (fun b o e=>mm.heap b o (fun hb=>?_) (k4 b o (IF (HU e)) (k2 b o e))) gA it'⟩;have lt:=HU e;rcases Hr.mp hb with z | z
 ·exact absurd lt (z▸Iw _)
 ·rw[HY.mp z,z1] at lt
  exact absurd lt (Mc.mpr (Nd _))
end
end PU
section
namespace PU
def tQ:PV->Option PV
 | .lst ps=>some (.lst ps)
 | .tup ps=>some (.lst ps)
 | .dct ks _=>some (.lst (ks.map wu))
 | _=>none
end PU
namespace PU
open PySem PySem.Spec PyProof.Rows L2 PySem.SeqAt
variable[TW]
theorem nA{K:HA}{H:Hp}:∀ks:List Key,aE K H (ks.map wu) (ks.map kV)
 | []=>rfl
 | k::ks=>by
  refine⟨kV k,ks.map kV,rfl,?_,nA ks⟩;cases k <;> exact rfl
omit [TW] in
theorem zj{P:HX}{w:IA}{k:Key}{v:HB}(h:(au P w).is k v=true):RelV (kV k) v:=by
 rcases aY (show oG k v=true from h) with⟨i,t,rfl,rfl⟩|⟨x,t,rfl,rfl⟩
 ·exact⟨t,rfl⟩
 ·exact⟨t,rfl⟩
omit [TW] in
theorem rC{P:HX}{w:IA}:∀(kvs:List (Key×HB))(us:List HB),us.length=kvs.length->(∀(i:Nat)(v:HB),us[i]?=some v->∃k x,kvs[i]?=some (k,x)/\(au P w).is k v=true)->Vals ((kvs.map (·.1)).map kV) us
 | [],us,hl,_=>by
  cases us with
  | nil=>exact .nil
  | cons a r=>cases hl
 | kv::kvs,us,hl,h=>by
  cases us with
  | nil=>cases hl
  | cons a r=>
   obtain⟨k,x,e,hk⟩:=h 0 a rfl;cases e;exact .cons (zj hk) (rC kvs r (by simpa using hl) fun i v e=>h (i+1) v e)
theorem CT {X:Cx} (hc:X.calm=true:=by rfl) (hw:X.w=TW.w:=by rfl):gX X (.type "list") (rn1 X.K tQ):=by
 intro pins s σ H xs us Q I r ⟨v,p,z,e1,rp,ez,k⟩;subst e1;cases p with
 | lst ps=>
  obtain⟨a,xs,rfl,g,rr⟩:=b8.lst_inv rp;cases ez;exact iI pins s σ H _ us Q I r ⟨a,xs,rfl,.inl g.l,fun l hl=>k _ _ (Same.new hl) hl ⟨xs,ax,rr.same (Same.new hl)⟩⟩
 | tup ps=>
  obtain⟨a,xs,rfl,g,rr⟩:=b8.tup_inv rp;cases ez;exact iI pins s σ H _ us Q I r ⟨a,xs,rfl,.inr g,fun l hl=>k _ _ (Same.new hl) hl ⟨xs,ax,rr.same (Same.new hl)⟩⟩
 | dct ks ps=>
  obtain⟨a,kvs,rfl,g,e1,rr⟩:=rp;cases ez;obtain⟨u,rfl,ru⟩:=vals1 r;cases ru;obtain⟨hz,hS,vs,rel,o,es,ep,ho,x1,d1,rest⟩:=DkR.at hw I g;have hl:kvs.length=vs.length:=Ij rel
  have hk:kvs.map (·.1)=vs.map (·.1):=by
   clear hl hz e1 rr g rest
   induction rel with
   | nil=>rfl
   | cons a b ih=>rw[HI,HI,ih,a.1]
  refine nr (kvs:=vs) (ep:=ep) (I.ok.hd hc) hS ⟨o,es,ho,x1,d1,rest⟩ (by omega) fun h' tk acc c keep gA it'=>?_;obtain⟨i1,i2⟩:=it'
  have rv:Vals (ks.map kV) acc.toList:=by
   rw[← e1,hk];exact rC (P:=X.prog) (w:=X.w) vs acc.toList (by simpa using i1) fun i v e=>i2 i v (by simpa using e)
  have hlk:ks.length=kvs.length:=by rw[← e1,HF]
  have I2:=I.laid (a:=s.heap.objs.size) (o:=.lst (ks.map kV)) (h':=h') (t':=tk) keep (Hu _) ⟨by rw[HF];omega,acc.toList,c,rv,by rw[Array.toArray_toList];exact gA⟩;have nf:H s.heap.objs.size=none:=I.fresh;exact⟨.ref _,_,I2,rfl,k _ _ (Same.new nf) nf ⟨_,ax,nA ks⟩⟩
 | _=>cases ez
end PU
end
section
namespace PU
def pD(fo fe fd:PSt->R PV)(g:PV->PV->PV->Option PV):PSt->R PV:=fun ρ=>fo ρ >>= fun p=>if zu p=true then fe ρ >>= fun q=>fd ρ >>= fun y=>R.ofO (g p q y) else .no
def qO:PV->PV->PV->Option PV
 | .dct ks ps,q,y=>(eK q).bind fun k=>some ((bO ks ps k).getD y)
 | _,_,_=>none
end PU
namespace PU
open PySem PySem.Spec PyProof.Rows L2 PySem.SeqAt
variable[TW]
theorem zI{C:Cn}{o e d:Expr}{fo fe fd:PSt->R PV}{apos cpos:JO}(ho:EO C o fo)(he:EV C e fe)(hd:EV C d fd)(hw:C.X.w=TW.w:=by rfl)
  (hbase:M4 o "get" C.X.env (J8 o C.X.env)=J8 o C.X.env:=by rfl) (hline:(apos.endLine == cpos.line)=true:=by rfl) (hs:Hw [e,d] C.X.env=[(false,J8 e C.X.env),(false,J8 d C.X.env)]:=by rfl) (hs2:Hw [d] C.X.env=[(false,J8 d C.X.env)]:=by exact cg rfl) :
  EV C (.Call (.Attribute o "get" apos) [e,d] [] cpos) (pD fo fe fd qO):=by
 intro pins s σ H Q I ⟨ρ,vw,q⟩;refine Nw hbase (by rw[hs];rfl) hline rfl (thn (ho pins s σ H (fun v H1=>∃p,b8 C.X.K H1 p v/\Same H H1/\RQ C H (if zu p=true then fe ρ >>= fun q=>fd ρ >>= fun y=>R.ofO (qO p q y) else .no) fun p=>∀v H',Same H H'->Rep C.X.K H' p v->Q v H') I ⟨ρ,vw,q.bind.imp fun p _ k v H1 s1 r1=>⟨p,r1,s1,k⟩⟩) fun v s1 ⟨x,H1,I1,r1,p,ro,sm,k⟩=>?_);cases p with
 | dct ks ps=>
  have ro':=ro;obtain⟨a,kvs,rfl,g,e1,r⟩:=ro;cases r1;obtain⟨hz,hdd,vs,rel,dd⟩:=DkR.at hw I1 g;have k:RQ C H (fe ρ >>= fun q=>fd ρ >>= fun y=>R.ofO (qO (.dct ks ps) q y)) fun p=>∀v H',Same H H'->Rep C.X.K H' p v->Q v H':=k;refine⟨"dict","dict.get",PySem.F.plainAttrs_dict,Ml,PySem.F.type_dict_get,dd.typeIs,dd.mapOf.noDict,?_⟩
  have hA:=(cK he (cK hd gC hs2) (by rw[hs,hs2])) cpos pins s1 σ H1 (fun xs H2=>∃q y z u x,xs=[u,x]/\Rep C.X.K H2 q u/\Rep C.X.K H2 y x/\qO (.dct ks ps) q y=some z/\Same H1 H2/\∀v H',Same H H'->Rep C.X.K H' z v->Q v H') I1 ⟨ρ,vw.same sm,(k.bind.same sm).imp fun q _ k2 u H2 s2 r2=>⟨ρ,vw.same (sm.trans s2),(k2.bind.same (sm.trans s2)).imp fun y _ k4 x H3 s3 r3=>by
   obtain⟨z,ez,k3⟩:=k4.ofO;exact⟨q,y,z,u,x,rfl,r2.same s3,r3,ez,s2.trans s3,k3⟩⟩⟩
  rw[hs] at hA ⊢;refine Mr rfl (NB ?_);refine thn hA fun us s2 ⟨xs,H2,I2,r2,q,y,z,u,x,eu,rq,ry,ez,s2',k3⟩=>?_;subst eu
  obtain⟨u',x',rfl,ru,rx⟩:∃u' x',us=[u',x']/\RelV u u'/\RelV x x':=by
   cases r2 with
   | cons a b=>
    obtain⟨x',e,rx⟩:=vals1 b;subst e;exact⟨_,x',rfl,a,rx⟩
  obtain⟨kk,ek,ez⟩:=HV.mp (show (eK q).bind (fun k=>some ((bO ks ps k).getD y))=some z from ez);cases ez;have hy:=dq ek rq.o;subst hy;obtain⟨a2,kvs2,ea,g2,e2,rr2⟩:=ro'.same s2';cases ea;obtain⟨_,hd2,vs2,rel2,dd2⟩:=DkR.at hw I2 g2;refine call_meetsIn Ml dd2.typeIs PySem.F.entry_dict_get (PySem.F.args_dict_get_3 _ _ _) (meets_dict_get_default (au C.X.prog C.X.w) a (lZ ru) hd2 x') ⟨_,dd2.mapOf,?_⟩;cases el:bO ks ps kk with
  | some p'=>
   obtain⟨w,ew,rp⟩:=gE e2 rr2 el;obtain⟨w',hw',rw'⟩:=r8.some_of (v:=w) (o:=JD vs2 kk) (by rw[← ew];exact rel2.val kk);rw[hw'];rw[el] at k3;exact⟨w,H2,I2.tok _,rw',k3 w H2 (sm.trans s2') rp⟩
  | none=>
   have ew:=l0 (k:=kk) e2 rr2 el;have hn:JD vs2 kk=none:=r8.none_of (by rw[← ew];exact rel2.val kk);rw[hn];rw[el] at k3;exact⟨x,H2,I2.tok _,rx,k3 x H2 (sm.trans s2') ry⟩
 | _=>exact HJ k
end PU
end
section
namespace PU
open PySem
def ll:PV->PV->Option PV
 | .str x,.str y=>match J6 x y 0 x.length 1 with
  | i::_=>some (.int i)
  | []=>none
 | _,_=>none
end PU
namespace PU
open PySem PySem.Spec PyProof.Rows L2 PySem.SeqAt
variable[TW]
theorem B9:StrM "index" "str.index":=⟨PySem.F.slot_str_index,PySem.F.type_str_index⟩
theorem BP {X:Cx}:MtR X "str.index" (rM1 X.K ll):=by
 intro pins s σ H x xs v us Q I rx rs ⟨p,q,z,u,e1,rp,rq,ez,k⟩;subst e1;obtain⟨a,b,t,t2,rfl,rfl,rfl,rfl⟩:=vx (g:=ll) (fun p q z e=>by unfold ll at e;split at e;exact⟨_,_,rfl,rfl⟩;cases e) rx rs rp rq ez
 have ez:(match J6 a b 0 a.length 1 with
  | i::_=>some (PV.int i)
  | []=>none)=some z:=ez
 cases ho:J6 a b 0 a.length 1 with
 | nil=>rw[ho] at ez;cases ez
 | cons i r=>
  rw[ho] at ez;cases ez;exact SC.index ho ⟨.int _,H,I.tok _,⟨_,rfl⟩,k _ H (Same.refl H) rfl⟩
end PU
end
namespace PU
open PySem PySem.Spec PyProof.Rows L2 PySem.SeqAt
theorem con_str{w:IA}{tabs:List Addr}{qual:Nat->Nat->Str}{K:HA}{h:Heap}{mg:Str->Option HB}{x:Str}{i:Str}{t:Tok}(X:K.In h)(G:h.Ns mainGlobals mg)(n1:Iu K mainGlobals x=some (some (.str i t))):@Con ⟨w,tabs,qual⟩ K mg x (.str i):=by
 letI:TW:=⟨w,tabs,qual⟩
 exact⟨.str i,.str i t,Kq X G n1,⟨t,rfl⟩,fun H=>rfl⟩
end PU
namespace PU
open PySem PySem.Spec PyProof.Rows L2 PySem.SeqAt
variable[TW]
theorem wK{C:Cn}{a b c:Expr}{fa fb fc:PSt->R PV}{pos:JO}{op op':CmpOp}{g g':PV->PV->Option PV}(ho:OpR C.X (Ia op) (rP C.X.K g))(ho':OpR C.X (Ia op') (rP C.X.K g'))(hg:tB g)(hg':tB g')(ha:EO C a fa)(hb:EO C b fb)(hc:EO C c fc)
  (hm:lastMarks [op,op'] [b,c]=false:=by with_unfolding_all rfl):ET C (.Compare a [op,op'] [b,c] pos) (cY (q0 fa fb fc g g')):=by
 intro pins s σ H Q I ⟨ρ,vw,q⟩;refine vT ho ho' ha hb hc hm pins s σ H Q I ?_;have q1:=q.bind;refine⟨ρ,vw,q1.bind.imp fun p _ k v H1 s1 r1=>⟨ρ,vw.same s1,(k.bind.same s1).imp fun p2 _ k2 u H2 s2 r2=>?_⟩⟩;obtain⟨z,ez,k3⟩:=k2.bind.ofO;obtain⟨bb,rfl⟩:=hg _ _ _ ez;refine⟨p,p2,.bl bb,r1.same s2,r2,ez,fun w H3 s3 r3=>?_⟩;cases (show w=.bl bb from r3);refine⟨bb,rfl,?_⟩;have s13:=(s1.trans s2).trans s3;cases bb with
 | true=>
  refine Ar ⟨ρ,vw.same s13,?_⟩;refine(RQ.same (RQ.bind k3) s13).imp fun p3 _ k4 w4 H4 s4 r4=>?_;obtain⟨z2,ez2,k5⟩:=k4.ofO;obtain⟨b2,rfl⟩:=hg' _ _ _ ez2;refine⟨p2,p3,.bl b2,(r2.same s3).same s4,r4,ez2,fun w5 H5 s5 r5=>?_⟩;cases (show w5=.bl b2 from r5);obtain⟨b3,eb,k6⟩:=k5.ofO;cases eb;exact⟨b2,rfl,k6 H5 ((s13.trans s4).trans s5)⟩
 | false=>
  have k3:RQ C H (R.ofO (rM (.bl false))) (fun b=>∀H',Same H H'->Q b H'):=k3;obtain⟨b3,eb,k6⟩:=RQ.ofO k3;cases eb;exact As ⟨false,rfl,k6 H3 s13⟩
end PU
namespace PU
open PySem PySem.Spec PyProof.Rows L2 PySem.SeqAt
def vc:PV->Option Int->Option Int->Option PV
 | .str x,lo,hi=>if x.length<=16777216 then some (.str (J1 x lo hi)) else none
 | .lst ps,lo,hi=>gSl (.lst ps) lo hi
 | .tup ps,lo,hi=>gSl (.tup ps) lo hi
 | _,_,_=>none
def gy(f:PSt->R PV)(l h:PSt->R (Option Int)):PSt->R PV:=fun ρ=>f ρ >>= fun p=>l ρ >>= fun lo=>h ρ >>= fun hi=>R.ofO (vc p lo hi)
variable[TW]
def GB(K:HA):V->Option Int->Option Int->Hp->VK->Prop:=fun v lo hi H Q=>∃p z,b8 K H p v/\vc p lo hi=some z/\∀w H',Same H H'->Rep K H' z w->Q w H'
theorem slA{X:Cx}:SlR X (GB X.K):=by
 intro pins s σ H x v vl vu lo hi sl Q I rx hs pl pu ⟨p,z,rp,ez,k⟩;cases p with
 | lst ps=>exact slP pins s σ H x v vl vu lo hi sl Q I rx hs pl pu ⟨_,z,rp,ez,k⟩
 | tup ps=>exact slP pins s σ H x v vl vu lo hi sl Q I rx hs pl pu ⟨_,z,rp,ez,k⟩
 | str y=>
  simp only[vc] at ez;split at ez
  ·rename_i hz
   cases ez;cases (show x=.str y from rp);obtain⟨t,rfl⟩:=rx;have fin:∀(lo hi:Option Int) t' kk,(∀w H',Same H H'->Rep X.K H' (.str (J1 y lo hi)) w->Q w H')->EP X pins σ Q (.str (J1 y lo hi) t') { s with toks:=kk }:=fun lo hi t' kk k=>⟨.str _,H,I.tok _,⟨t',rfl⟩,k _ H (Same.refl H) rfl⟩;obtain⟨o,e1,e2,e3⟩:=hs;have hz:y.length<=sizeLine:=by rw[Il];exact hz
   refine⟨"str",_,PySem.F.slot_str_getitem.lookup,typeIs_str _ _ _,?_⟩;cases pl with
   | none=>
    cases pu with
    | none=>exact KJ (l:=none) (u:=none) (st:=none) ⟨o,e1,e2,e3⟩ rfl (Lb ⟨Ig (Kf y _ _) hz,fun t' kk=>fin none none t' kk k⟩)
    | int j uj=>exact KJ (l:=none) (u:=some (j,uj)) (st:=none) ⟨o,e1,e2,e3⟩ rfl (Lb ⟨Ig (Kf y _ _) hz,fun t' kk=>fin none (some j) t' kk k⟩)
   | int i ui=>
    cases pu with
    | none=>exact KJ (l:=some (i,ui)) (u:=none) (st:=none) ⟨o,e1,e2,e3⟩ rfl (Lb ⟨Ig (Kf y _ _) hz,fun t' kk=>fin (some i) none t' kk k⟩)
    | int j uj=>exact KJ (l:=some (i,ui)) (u:=some (j,uj)) (st:=none) ⟨o,e1,e2,e3⟩ rfl (Lb ⟨Ig (Kf y _ _) hz,fun t' kk=>fin (some i) (some j) t' kk k⟩)
  ·cases ez
 | _=>cases ez
theorem eA{C:Cn}{e:Expr}{f:PSt->R PV}{lo hi:Option Expr}{l h:PSt->R (Option Int)}{pos p2:JO}(ha:EO C e f)(hl:EOI C lo l)(hh:EOI C hi h):EV C (.Subscript e (.Slice lo hi none p2) pos) (gy f l h):=by
 intro pins s σ H Q I ⟨ρ,vw,q⟩;refine lR slA ha hl hh pins s σ H Q I ⟨ρ,vw,q.bind.imp fun p _ k v H1 s1 r1=>⟨ρ,vw.same s1,(k.bind.same s1).imp fun o1 _ k2 H2 s2=>⟨ρ,(vw.same s1).same s2,(k2.bind.same (s1.trans s2)).imp fun o2 _ k3 H3 s3=>?_⟩⟩⟩;obtain⟨z,ez,k4⟩:=k3.ofO;exact⟨p,z,(r1.same s2).same s3,ez,fun w H4 s4 r4=>k4 w H4 (((s1.trans s2).trans s3).trans s4) r4⟩
end PU
namespace PU
open PySem PySem.Spec PyProof.Rows L2 PySem.SeqAt
def vg(ps qs:List PV):List (List PV):=ps.zipWith (fun a b=>[a,b]) qs
def gr:PV->Bool
 | .non | .bl _ | .int _ | .str _=>true
 | _=>false
def D5(f g:PSt->R PV):PSt->R (List PV):=fun ρ=>f ρ >>= fun p=>g ρ >>= fun q=>(match p,q with
 | .lst ps,.lst qs=>if (ps.all gr || qs.all gr)=true then .ok ((vg ps qs).map .tup) else .no
 | _,_=>.no)
variable[TW]
section
variable{P : HX}{w : IA}{K : HA}{elts : List Expr}{kk : Nat}{tp : JO}
def D4(xs ys:List V):List (List V):=xs.zipWith (fun a b=>[a,b]) ys
theorem pT{x:V}{u:HB}(r:RelV x u)(h:∀b,x≠.ref b):¬ ∃b,u=JA b:=fun ⟨b,e⟩=>by
 subst e;cases x with
 | ref a=>exact h a rfl
 | non=>cases r
 | bl b=>cases r
 | ty n=>cases r
 | int i=>obtain⟨t,r⟩:=r;cases r
 | str i=>obtain⟨t,r⟩:=r;cases r
 | byt i=>obtain⟨t,r⟩:=r;cases r
 | flt i=>obtain⟨t,r⟩:=r;cases r
theorem wI{K:HA}{H:Hp}{p:PV}{x:V}(hf:gr p=true)(r:Rep K H p x):∀b,x≠.ref b:=fun b e=>by
 subst e;cases p with
 | non=>cases (show V.ref b=_ from r)
 | bl _=>cases (show V.ref b=_ from r)
 | int _=>cases (show V.ref b=_ from r)
 | str _=>cases (show V.ref b=_ from r)
 | _=>cases hf
theorem nK{K:HA}{H:Hp}{ps:List PV}{xs:List V}(hf:ps.all gr=true)(r:aE K H ps xs):∀x∈xs,∀b,x≠.ref b:=fun x hx=>by
 obtain⟨i,hi⟩:=KR.mp hx;have hl:=r.length;have hlt:i<ps.length:=by rw[hl];exact(HM.mp hi).1
 have e1:ps[i]?=some ps[i]:=by simp[hlt]
 obtain⟨y,ey,ry⟩:=r.get e1;rw[hi] at ey;cases ey;exact wI (KU.mp hf _ (JY hlt)) ry
theorem vy(z TI TO i1 i2 a b:Addr)(D:ZipApart z TI TO i1 i2 a b)(xs ys:List V)(hfl:(∀x∈xs,∀b,x≠V.ref b)\/(∀y∈ys,∀b,y≠V.ref b)) :
  Turn P w K (.Tuple elts kk tp) (mD (O5 xs.length ys.length) (fun H=>SqL K H a xs/\SqL K H b ys) (D4 xs ys)) [z,TI,TO,i1,i2] z
   (fun i h=>IsZip h z TI TO .none/\IsPair h TI (.ref i1) (.ref i2)/\(∃a b,IsPair h TO a b)/\h.IsListIter i1 a i/\h.IsListIter i2 b i):=by
 refine rK (wr:=[z,TO,i1,i2]) (n:=O5 xs.length ys.length) (fun X pins σ H s i hP hw hK hc I st hg=>?_) (by simp) (fun b hb=>by simp at hb ⊢;rcases hb with rfl | rfl | rfl | rfl <;> simp) (fun i h st b hb=>?_) (fun i h h' st k=>?_) (fun i H h=>h.1) (fun i H h=>h.1) fun A i s Q E st h=>wpAny_pyIter_zip st.1 h
 ·subst hP hw hK
  obtain⟨hq1,hq2⟩:SqL X.K H a xs/\SqL X.K H b ys:=by rcases hg with h | h <;> exact h.2
  obtain⟨its1,rv1,pl1,hz1⟩:=I.list hq1;obtain⟨its2,rv2,pl2,hz2⟩:=I.list hq2;have hl1:=rv1.length;have hl2:=rv2.length;have W:=WalksT.zip2 (prog:=X.prog) (w:=X.w) (A:=X.A) (I.ok.hd hc) z TI TO i1 i2 a b D its1.toArray its2.toArray;rw[show O5 its1.toArray.size its2.toArray.size=O5 xs.length ys.length by simp[hl1,hl2]] at W;refine⟨_,_,_,_,W,⟨st.1,st.2.1,st.2.2.1,st.2.2.2.1,st.2.2.2.2,pl1.isList,pl2.isList⟩,fun j h st=>⟨st.1,st.2.1,st.2.2.1,st.2.2.2.1,st.2.2.2.2.1⟩,fun vals hv=>?_⟩;obtain⟨x,y,hx,hy,rfl⟩:=hv;have hx:its1[i]?=some x:=by simpa using hx
  have hy:its2[i]?=some y:=by simpa using hy
  have h1:i<xs.length:=by rw[hl1];exact(HM.mp hx).1
  have h2:i<ys.length:=by rw[hl2];exact(HM.mp hy).1
  have e1:xs[i]?=some xs[i]:=by simp[h1]
  have e2:ys[i]?=some ys[i]:=by simp[h2]
  obtain⟨u,eu,ru⟩:=rv1.get e1;rw[hx] at eu;cases eu;obtain⟨v,ev,rv⟩:=rv2.get e2;rw[hy] at ev;cases ev;refine⟨[xs[i],ys[i]],.cons ru (.cons rv .nil),by show 2<=sizeLine;decide,fun z=>?_,fun T hT=>⟨T,_,rfl,hT,?_,rfl⟩⟩
  ·rcases hfl with g | g
   ·exact pT ru (g _ (JY h1)) (z _ ID)
   ·exact pT rv (g _ (JY h2)) (z _ (I9 _ ID))
  unfold D4;rw[LK,e1,e2]
 ·obtain⟨hz,hTI,⟨u,v,hTO⟩,⟨o1,ho1,_,hd1⟩,o2,ho2,_,hd2⟩:=st
  simp only[Hr,JW,or_false] at hb;rcases hb with rfl | rfl | rfl | rfl | rfl
  ·exact⟨_,hz,fun v z=>by cases (show MG _=LW v from z)⟩
  ·exact⟨_,hTI,fun v z=>by cases (show Data.seq _ _=LW v from z)⟩
  ·exact⟨_,hTO,fun v z=>by cases (show Data.seq _ _=LW v from z)⟩
  ·exact⟨o1,ho1,fun v z=>by rw[hd1] at z;cases z⟩
  ·exact⟨o2,ho2,fun v z=>by rw[hd2] at z;cases z⟩
 ·obtain⟨hz,hTI,⟨u,v,hTO⟩,h1,h2⟩:=st
  exact⟨k z (by simp) _ hz,k TI (by simp) _ hTI,⟨u,v,k TO (by simp) _ hTO⟩,h1.at fun o x=>k i1 (by simp) o x,h2.at fun o x=>k i2 (by simp) o x⟩
end
theorem vf{K:HA}{H:Hp}{ps qs:List PV}{xs ys:List V}(r1:aE K H ps xs)(r2:aE K H qs ys):∀(i:Nat)(zs:List PV)(ws:List V),(vg ps qs)[i]?=some zs->(D4 xs ys)[i]?=some ws->aE K H zs ws:=fun i zs ws h1 h2=>by
 unfold vg at h1;unfold D4 at h2;rw[LK] at h1 h2;cases e:ps[i]? with
 | none=>rw[e] at h1;cases h1
 | some p=>
  cases e2:qs[i]? with
  | none=>rw[e,e2] at h1;cases h1
  | some q=>
   rw[e,e2] at h1;obtain⟨x,ex,rp⟩:=r1.get e;obtain⟨y,ey,rq⟩:=r2.get e2;rw[ex,ey] at h2;cases h1;cases h2;exact⟨_,_,rfl,rp,_,_,rfl,rq,rfl⟩
theorem CG {C:Cn} {e e2:Expr} {elts:List Expr} {kk:Nat} {tp p pos:JO} {f g:PSt->R PV} (hg:Gl C.X "zip") (hm:C.X.mg "zip"=none) (he:EV C e f) (he2:EV C e2 g)
  (hs:Hw [e,e2] C.X.env=[(false,J8 e C.X.env),(false,J8 e2 C.X.env)]:=by exact vE rfl rfl) (hs2:Hw [e2] C.X.env=[(false,J8 e2 C.X.env)]:=by exact cg rfl) :
  EI C (.Tuple elts kk tp) (.Call (.Name "zip" p) [e,e2] [] pos) (D5 f g):=by
 intro pins s σ H Rk I ⟨ρ,vw,q⟩
 refine Call_ (l6 I hg hm PyProof.Rows.boot_zip (J9 (thn ((cK he (cK he2 gC hs2) (by rw[hs,hs2])) pos pins s σ H (fun vs H'=>∃v u ps qs,vs=[v,u]/\Same H H'/\Rep C.X.K H' (.lst ps) v/\Rep C.X.K H' (.lst qs) u/\(ps.all gr || qs.all gr)=true/\∀J H2,Same H' H2->ItP C.X.K J H2 ((vg ps qs).map .tup)->Rk J H2) I ⟨ρ,vw,q.bind.imp fun p _ k v H1 s1 r1=>⟨ρ,vw.same s1,(k.bind.same s1).imp fun p2 _ k2 u H2 s2 r2=>?_⟩⟩)
  fun us s1 ⟨vs,H1,I1,r1,v,u,ps,qs,ev,sm,rp,rq,hfl,k⟩=>?_) (by rw[hs,hs2]) (by rw[hs2];rfl)))
 ·cases p with
  | lst ps=>
   cases p2 with
   | lst qs=>
    by_cases hfl:(ps.all gr || qs.all gr)=true
    ·simp only[if_pos hfl] at k2
     exact⟨v,u,ps,qs,rfl,s1.trans s2,r1.same s2,r2,hfl,fun J H3 s3 it=>k2 J H3 ((s1.trans s2).trans s3) it⟩
    ·simp only[if_neg hfl] at k2
     exact HJ k2
   | _=>exact HJ k2
  | _=>exact HJ k2
 ·subst ev
  obtain⟨w1,w2,rfl,rw1,rw2⟩:=vals2 r1;obtain⟨a,xs,rfl,g1,rr1⟩:=rp;obtain⟨b,ys,rfl,g2,rr2⟩:=rq;cases rw1;cases rw2;obtain⟨its1,rv1,pl1,hz1⟩:=I1.list g1.l.l;obtain⟨its2,rv2,pl2,hz2⟩:=I1.list g2.l.l;have ha:a<s1.heap.objs.size:=by obtain⟨o,n,ho,_⟩:=pl1;exact HU ho
  have hb:b<s1.heap.objs.size:=by obtain⟨o,n,ho,_⟩:=pl2;exact HU ho
  have hfl2:(∀x∈xs,∀b,x≠V.ref b)\/(∀y∈ys,∀b,y≠V.ref b):=by
   cases hA:ps.all gr with
   | true=>exact .inl (nK hA rr1)
   | false=>
    rw[hA,Bool.false_or] at hfl;exact .inr (nK hfl rr2)
  refine call_zip_2 pl1.isList pl2.isList fun h' z1 z2 z3 z4 z5 hsz hk=>wpAny_pyIter_zip z1 ?_;refine⟨_,[s1.heap.objs.size+4,s1.heap.objs.size+2,s1.heap.objs.size+3,s1.heap.objs.size,s1.heap.objs.size+1],_,_,H1,rfl,I1.kept (t':=s1.toks) hk,vy (s1.heap.objs.size+4) (s1.heap.objs.size+2) (s1.heap.objs.size+3) s1.heap.objs.size (s1.heap.objs.size+1) a b (zipApart_new ha hb) xs ys hfl2,⟨z1,z2,⟨_,_,z3⟩,z4,z5⟩,fun c hc=>?_,k _ H1 (Same.refl H1) ?_⟩
  ·have hc:s1.heap.objs.size<=c:=by
    simp only[Hr,JW,or_false] at hc;rcases hc with rfl | rfl | rfl | rfl | rfl <;> omega
   exact I1.fpOk hc (I1.hok.fresh hc)
  ·refine oH ?_ (fun H2 k2=>⟨(k2.sqF g1).l.l,(k2.sqF g2).l.l⟩) (vf rr1 rr2)
   unfold vg;rw[List.length_zipWith,rr1.length,rr2.length]
end PU
namespace PU
open PySem PySem.Spec PyProof.Rows L2
variable[TW]
def spN(K:HA)(n:Nat)(F:List PV->Option PV):Sp:=fun vs H Q _=>vs.length=n/\qZ H/\∃ps p,aE K H ps vs/\F ps=some p/\∀a H',Same H H'->H a=none->bY K H' a p->Q (.ref a) H'
structure PFN(P:HX)(w:IA)(K:HA)(mg:Str->Option HB)(base:Heap)(k:Nat)(x:Str)(F:List PV->Option PV):Prop where
 ex:∃(f:Addr)(fd:FuncData)(ps:List Str),FnOk P w K mg base CX0 k f fd ps (spN K ps.length F)/\mg x=some (.ref f)/\JH K (.ref f)=true/\Binds K fd ps []/\∀qs p,F qs=some p->qs.length=ps.length
end PU
namespace PU
open PySem PySem.Spec PyProof.Rows L2
variable[TW]
def RN(C:Cn)(B:Hp×Hp)(D:Ends):R Fl->Prop
 | .ok (.ret p)=>∀a H,Same B.1 H->B.1 a=none->bY C.X.K H a p->D.rt (.ref a) H
 | _=>False
def tSN(C:Cn)(g:PSt->R Fl):TS:=fun D σ H=>∃ρ B,StOk C.X.K B H σ ρ/\RN C B D (g ρ)
def SVN(C:Cn)(st:List Stmt)(g:PSt->R Fl):Prop:=PSs C.X st (tSN C g)
section
variable{C : Cn}{st : Stmt}{sts : List Stmt}{e : Expr}{f : PSt → R PV}{g g' : PSt → R Fl}{pos : JO}
theorem iQ(hn:∀ρ p,g ρ≠.ok (.ret p))(h1:SV C st g)(h2:SVN C sts g'):SVN C (st::sts) (aT g g'):=by
 intro pins s σ H D I ⟨ρ,B,S,h⟩;refine fU h1 h2 pins s σ H D I ⟨ρ,B,S,?_⟩;unfold aT at h;cases hg:g ρ with
 | ok fl=>
  rw[hg] at h;cases fl with
  | next ρ'=>exact fun σ' H' S'=>⟨ρ',B,S',h⟩
  | brk ρ'=>exact HJ h
  | cont ρ'=>exact HJ h
  | ret p=>exact absurd hg (hn ρ p)
 | er x=>rw[hg] at h;exact HJ h
 | no=>rw[hg] at h;exact HJ h
omit [TW] in
theorem ji(i:Nat)(f:PSt->R PV)(ρ:PSt)(p:PV):bZ i f ρ≠.ok (.ret p):=by
 unfold bZ;cases f ρ with
 | ok q=>intro h;cases h
 | er x=>intro h;cases h
 | no=>intro h;cases h
end
end PU
namespace PU
open PySem PySem.Spec PyProof.Rows L2 PySem.SeqAt
theorem jf:typeLookup (.type "tuple") "keys"=pure none:=by rw[typeLookup_type,builtinLookup_eq_fast];kernel_rfl
theorem gW{prog:HX}{w:IA}{A:IL}{E:HB->HC->Prop}{s:HC}{a:Addr}{o:Obj}{xs:Array HB}{k:Nat}{name:Str}{Q:Option HB->HC->Prop}
  (hx:s.heap.get? a=some o) (hc:o.cls=.type "tuple") (hdat:o.data=.seq xs k) (hd:o.dict=none) (hmiss:typeLookup (.type "tuple") name=pure none) (hname:(["__module__","__name__","__qualname__","__doc__","__annotations__"]:List Str).contains name=false) (hA:A.handled=none)
  (h:∀h' tk e,Heap.NewExcOf s.heap h' e "AttributeError"->Q none { s with heap:=h',toks:=tk }) (hsz:name.length+100<=sizeLine:=by size_fits) :
  Hx (IK prog w) A (getAttr? (.ref a) name) Q E s:=by
 obtain⟨c,dct,dat,sl⟩:=o;simp only at hc hdat hd;subst hc hdat hd;obtain⟨hp,g,d,tk,os⟩:=s;have hT:∀tk',(⟨hp,g,d,tk',os⟩:HC).TypeIs (.ref a) "tuple":=fun _=>⟨_,hx,rfl⟩;have f1:=sub_AttributeError;have f3:=Kx.lookup;have f4:=Kx.bind (.ref a);have f5:=am_tuple_getattr_none;unfold getAttr? getAttrBy? getAttrBy
 repeat (any_goals (first | assumption | exact hT _ | ((with_reducible show Hx _ _ (call (Value.builtin "tuple.__getattribute__") _ _) _ _ _);refine call_meets Kx (hT _) am_entry_tuple_getattribute (F.args_tuple_getattribute_2 _ _) (meets_getattribute_miss_tuple a xs k sl name _ hmiss hname hsz) ⟨hx,hA,fun h' tk' e hx'=>?_⟩) | wp_step))
 obtain⟨t',u',he⟩:=hx'.there;show Hx _ _ (getattributeRaised _ _ _ _ _ _ _) _ _ _;unfold getattributeRaised
 repeat (any_goals (first | assumption | wp_step))
 exact h _ _ _ hx'.of
theorem gd:entryFor table "dict.update.loop"=some MS.«dict.update.loop»:=entryFor_of_tree (by kernel_rfl)
section
variable{prog : HX}{w : IA}{K : Type}[DecidableEq K]{knd : KeyKind prog w K}{A : IL}
def storeAll(acc:List (K×HB))(l:List (K×HB)):List (K×HB):=l.foldl (fun a p=>N4 a p.1 p.2) acc
theorem oR{R:Result->HC->Prop}{h0:Heap}{d it a:Addr}{items:Array HB}{kvs:List (K×HB)}{result:HB}(hh:A.handled=none)(hda:a≠d)(hia:a≠it)(hdi:d≠it)(ha:h0.IsTuple a items)(hn:items.size=kvs.length)
  (hp:∀(j:Nat)(x:HB),items[j]?=some x->∃(p:Addr)(key:HB)(k:K)(v:HB),x=.ref p/\kvs[j]?=some (k,v)/\p≠d/\p≠it/\h0.IsTuple p #[key,v]/\knd.is k key=true) :
  ∀(m i:Nat)(s:HC)(acc:List (K×HB)),m=items.size-i->i<=items.size->(∀b o,b≠d->b≠it->h0.get? b=some o->s.heap.get? b=some o)->s.heap.IsTupleIter it a i->s.heap.DictOf knd d acc->acc.length+m<=sizeLine->
   (∀h' tk,(∀b o,b≠d->b≠it->h0.get? b=some o->h'.get? b=some o)->h'.DictOf knd d (storeAll acc (kvs.drop i))->R (.ok (.ret result)) { s with heap:=h',toks:=tk })->
   LB (IK prog w) A (.builtin "dict.update.loop" ⟨[.ref d,.ref it,Ko (i:Int),result],[]⟩) R s
 | 0,i,s,acc,hm,hi,hk,hit,hd,hz,hR=>by
  have e:i=items.size:=by omega
  have hq:s.heap.IsTuple a items:=ha.at fun o e=>hk a o hda hia e;refine Ld gd ?_;unfold MS.«dict.update.loop»;show Hx _ _ (pyNext (.ref it) >>= _) _ _ s;refine HD (Nv (by exact hh) hit hq (by rw[e];simp) fun h' eb=>?_);have hd':h'.DictOf knd d acc:=hd.extBut eb hdi;show Hx _ _ (Builtin.Dict.addKeywords d [] >>= _) _ _ _;refine HD (HK (HK (hR h' s.toks (fun b o hb1 hb2 q=>eb b o hb2 (hk b o hb1 hb2 q)) ?_)));rw[e,hn,L6];exact hd'
 | m+1,i,s,acc,hm,hi,hk,hit,hd,hz,hR=>by
  have hlt:i<items.size:=by omega
  have hq:s.heap.IsTuple a items:=ha.at fun o e=>hk a o hda hia e;have hx:items[i]?=some items[i]:=by simp[hlt]
  obtain⟨p,key,k,v,ex,ek,h1,h2,h3,h4⟩:=hp i _ hx;refine Ld gd ?_;unfold MS.«dict.update.loop»;show Hx _ _ (pyNext (.ref it) >>= _) _ _ s;refine HD (Ni hit hq hx fun h' hit' sb=>?_);rw[ex];have hd':h'.DictOf knd d acc:=hd.extBut sb.extBut hdi;have hpt:h'.IsTuple p #[key,v]:=h3.at fun o e=>(sb.2 p h2).trans (hk p o h1 h2 e);obtain⟨op,hop,hcp,np,hdp⟩:=id hpt;dsimp only;refine HD (Js (HD (wpAny_tryCatch ?_)));unfold Builtin.Dict.pairItems;refine HD (KW hpt.typeIs ?_);rw[if_pos (by decide)];refine HD ?_
  have hsi:Hx (IK prog w) (A.under (Code.builtin "dict.update.loop" ⟨[.ref d,.ref it,Ko (i:Int),result],[]⟩)) (seqItems? (.ref p)) (fun r s'=>r=some #[key,v]/\s'={ s with heap:=h' }) (fun _ _=>False) { s with heap:=h' }:=by
   repeat (any_goals (first | assumption | wp_step))
   rw[hdp];exact HK ⟨rfl,rfl⟩
  refine JG hsi (fun r s' hr=>?_) fun _ _ h=>h.elim;obtain⟨rfl,rfl⟩:=hr;refine HK ?_;show Hx _ _ (holding [key,v] (dictSet d key v)) _ _ _;refine Js (wpAny_dictSet_pairs h4 hd' (fun h'' hd'' sb'=>?_) (by omega));refine HK ⟨Code.quiet_builtin _ (by decide +kernel),?_⟩;have ei:((i:Int)+1)=((i+1:Nat):Int):=by omega
  rw[ei];have hlen:=stored_length_le acc k v;refine oR hh hda hia hdi ha hn hp m (i+1) _ (N4 acc k v) (by omega) hlt (fun b o hb1 hb2 q=>?_) ?_ hd'' (by omega) fun h3 tk hk3 hd3=>hR h3 tk hk3 ?_
  ·exact(sb'.2 b hb1).trans ((sb.2 b hb2).trans (hk b o hb1 hb2 q))
  ·exact hit'.at fun o e=>(sb'.2 it (Jg hdi)).trans e
  ·have hdr:kvs.drop i=(k,v)::kvs.drop (i+1):=by
    obtain⟨hl,e⟩:=HM.mp ek;rw[Ir hl,e]
   rw[hdr];exact hd3
theorem ki {E:HB->HC->Prop} {s:HC} {a:Addr} {o:Obj} {items:Array HB} {n0:Nat} {kvs:List (K×HB)} {Q:HB->HC->Prop} (hA:A.handled=none) (hx:s.heap.get? a=some o) (hc:o.cls=.type "tuple") (hdat:o.data=.seq items n0) (hdn:o.dict=none)
  (hn:items.size=kvs.length) (hz:kvs.length<=sizeLine)
  (hp:∀(j:Nat)(x:HB),items[j]?=some x->∃(p:Addr)(key:HB)(k:K)(v:HB),x=.ref p/\kvs[j]?=some (k,v)/\s.heap.IsTuple p #[key,v]/\knd.is k key=true)
  (h:∀h' tk,(∀b o,s.heap.get? b=some o->h'.get? b=some o)->h'.DictOf knd s.heap.objs.size (storeAll [] kvs)->Q (.ref s.heap.objs.size) { s with heap:=h',toks:=tk }) :
  Hx (IK prog w) A (call (.type "dict") [.ref a]) Q E s:=by
 refine callType_codes (Q₁:=fun obj s₁=>obj=.ref s.heap.objs.size/\s₁={ s with heap:=s.heap.push { cls:=.type "dict",data:=.dict #[] } }) F.kt_called_dict (F.kt_typeCall_dict_1 _) F.entry_dict_init (kt_code_dict_new _ ⟨rfl,rfl⟩) ?_;rintro obj s₁ ⟨rfl,rfl⟩;have hnew:(s.heap.push { cls:=.type "dict",data:=.dict #[] }).DictOf knd s.heap.objs.size []:=Ms s.heap;have hx':(s.heap.push { cls:=.type "dict",data:=.dict #[] }).get? a=some o:=HH _ hx;have hT:Shared.TypeIs { s with heap:=s.heap.push { cls:=.type "dict",data:=.dict #[] } } (.ref a) "tuple":=⟨o,hx',hc⟩;refine⟨hnew.typeIs,F.args_dict_init_2 _ _,?_⟩;unfold MS.«dict.__init__»;refine HD ?_;unfold Builtin.Dict.selfAndRest;refine HD (wpAny_notOrdered_dict hnew.typeIs ?_);show Hx _ _ (pure (s.heap.objs.size,[JA a])) _ _ _;refine HK ?_;show Hx _ _ (Ly "dict.__init__" s.heap.objs.size (.ref a) [] .none) _ _ _;unfold Ly;refine HD (KW hT ?_);rw[if_pos (by decide)];refine HD (gW hx' hc hdat hdn jf (by decide +kernel) (by exact hA) fun h1 tk1 e1 ne=>?_);have k1:∀b u,(s.heap.push { cls:=.type "dict",data:=.dict #[] }).get? b=some u->h1.get? b=some u:=fun b u q=>ne.keeps b u q;rw[if_pos (show (none:Option HB).isNone=true from rfl)];have ht:h1.IsTuple a items:=⟨o,k1 a o hx',hc,n0,hdat⟩;refine HD (MC (HD (wpAny_pyIter_tuple ht ?_)))
 have sD:s.heap.objs.size<h1.objs.size:=by
  obtain⟨od,_,_,hod,_⟩:=hnew;exact HU (k1 _ _ hod)
 have k2:∀b u,s.heap.get? b=some u->(h1.push { cls:=.type "tuple_iterator",data:=.fields #[.ref a,.int 0 0] }).get? b=some u:=fun b u q=>HH _ (k1 b u (HH _ q));refine HK ⟨Code.quiet_builtin _ (by decide +kernel),?_⟩;have lts:∀b u,s.heap.get? b=some u->b≠s.heap.objs.size/\b≠h1.objs.size:=fun b u q=>⟨IF (HU q),IF (Nat.lt_trans (HU q) sD)⟩;refine oR (knd:=knd) (h0:=h1.push { cls:=.type "tuple_iterator",data:=.fields #[.ref a,.int 0 0] }) (kvs:=kvs) (by exact hA) (lts a o hx).1 (lts a o hx).2 (IF sD) (ht.push _) hn (fun j x hj=>?_) items.size 0 _ [] (by omega) (JI _) (fun b u _ _ q=>q) ⟨_,IC _ rfl,rfl,rfl⟩ ?_ (by simp;omega) fun h' tk hk' hd'=>?_
 ·obtain⟨p,key,k,v,e1,e2,e3,e4⟩:=hp j x hj
  obtain⟨op,hop,r⟩:=id e3;exact⟨p,key,k,v,e1,e2,(lts p op hop).1,(lts p op hop).2,⟨op,k2 p op hop,r⟩,e4⟩
 ·obtain⟨od,es,ep,hod,r⟩:=hnew
  exact⟨od,es,ep,HH _ (k1 _ _ hod),r⟩
 ·exact⟨rfl,h h' tk (fun b u q=>hk' b u (lts b u q).1 (lts b u q).2 (k2 b u q)) hd'⟩
end
end PU
namespace PU
open PySem L2
def iB:List PV->Option (List (Key×PV))
 | []=>some []
 | .tup [.str k,v]::r=>(iB r).map fun l=>(.inr k,v)::l
 | _=>none
def nJ:PV->Option PV
 | .tup ps=>if ps.length<=1000 then (iB ps).map fg else none
 | _=>none
end PU
namespace PU
open PySem PySem.Spec PyProof.Rows L2 PySem.SeqAt
variable[TW]
theorem pw{X:Cx}{pins:List (Addr×Obj)}{σ:L2.St}{H:Hp}{s:HC}(I:L2.Inv X pins σ H s):∀{ps:List PV}{kps:List (Key×PV)}{xs:List V}{its:List HB},iB ps=some kps->aE X.K H ps xs->Vals xs its->
  ∃(kvs:List (Key×V))(vs:List (Key×HB)),ir X.K H kps kvs/\KV kvs vs/\its.length=vs.length/\∀(j:Nat)(x:HB),its[j]?=some x->∃(p:Addr)(key:HB)(k:Key)(v:HB),x=.ref p/\vs[j]?=some (k,v)/\s.heap.IsTuple p #[key,v]/\(au X.prog X.w).is k key=true
 | [],kps,xs,its,e,r,rv=>by
  cases e;cases r;cases rv;exact⟨[],[],rfl,.nil,rfl,fun j x h=>by simp at h⟩
 | p::ps,kps,xs,its,e,r,rv=>by
  obtain⟨x,t,rfl,r1,r2⟩:=r;cases rv with
  | cons ru rv=>
  unfold iB at e;split at e
  ·rename_i h;cases h
  ·rename_i k v r' h
   cases h;obtain⟨l,el,ez⟩:=HQ.mp e;cases ez;obtain⟨kvs,vs,q1,q2,q3,q4⟩:=pw I el r2 rv;obtain⟨a,ys,rfl,g,rr⟩:=r1;obtain⟨y1,t1,rfl,h1,y2,t2,rfl,h2,h3⟩:=rr;cases h3;cases h1;cases ru;obtain⟨its2,rv2,pl,hz⟩:=I.tuple (tq g);cases rv2 with
   | cons ra rv2=>
   cases rv2 with
   | cons rb rv2=>
   cases rv2;obtain⟨tk,rfl⟩:=ra;refine⟨(.inr k,y2)::kvs,(.inr k,_)::vs,⟨y2,kvs,rfl,h2,q1⟩,.cons ⟨rfl,rb⟩ q2,by simp[q3],fun j x hj=>?_⟩;cases j with
   | zero=>
    simp at hj;subst hj;exact⟨a,_,_,_,rfl,rfl,pl,eT _ _ _ _⟩
   | succ j=>
    obtain⟨p,key,k',v',e1,e2,e3,e4⟩:=q4 j x (by simpa using hj);exact⟨p,key,k',v',e1,by simpa using e2,e3,e4⟩
  ·cases e
omit [TW] in
theorem iu{K:Type}[DecidableEq K]:∀(l acc:List (K×HB)),(storeAll acc l).length<=acc.length+l.length
 | [],acc=>by simp[storeAll]
 | p::l,acc=>by
  have h1:=iu l (N4 acc p.1 p.2);have h2:=stored_length_le acc p.1 p.2;have e:storeAll acc (p::l)=storeAll (N4 acc p.1 p.2) l:=rfl;rw[e,IG];omega
theorem yg {X:Cx} (hc:X.calm=true:=by rfl) (hw:X.w=TW.w:=by rfl):gX X (.type "dict") (rn1 X.K nJ):=by
 intro pins s σ H xs us Q I r ⟨v,p,z,e1,rp,ez,k⟩;subst e1;cases p with
 | tup ps=>
  have ez:(if ps.length<=1000 then (iB ps).map fg else none)=some z:=ez
  by_cases hlen:ps.length<=1000
  ·rw[if_pos hlen] at ez
   obtain⟨kps,ek,rfl⟩:=HQ.mp ez;obtain⟨a,xs,rfl,g,rr⟩:=rp;obtain⟨u,rfl,ru⟩:=vals1 r;cases ru;obtain⟨its,rv,⟨o,ho,hcl,⟨n0,hdat⟩,hdn⟩,hz⟩:=I.tupleX (tq g);obtain⟨kvs,vs,q1,q2,q3,q4⟩:=pw I ek rr rv;have hl1:=rr.length;have hl2:=rv.length;have hs:=Il;refine ki (knd:=au X.prog X.w) (kvs:=vs) (I.ok.hd hc) ho hcl hdat (hdn fun v hv=>(by obtain⟨j,hj⟩:=KR.mp hv;obtain⟨p,_,_,_,e,_⟩:=q4 j v (by simpa using hj);exact⟨p,e⟩)) (by rw[Hz];exact q3) (by omega) (fun j x hj=>q4 j x (by simpa using hj)) fun h' tk keep D'=>?_;have nf:H s.heap.objs.size=none:=I.fresh
   have hne:(s.heap.objs.size == Im)=false:=by
    have hb:=I.big;refine beq_eq_false_iff_ne.mpr fun e=>?_;rw[e] at hb;exact Iw _ hb
   have hm:KV (e9 [] kvs) (storeAll [] vs):=KV.merge q2 .nil
   have hml:(e9 [] kvs).length<=sizeLine:=by
    have a1:(e9 [] kvs).length=(storeAll [] vs).length:=Ij hm;have a2:=iu vs [];simp only[Jh] at a2;omega
   have I2:=I.laid (a:=s.heap.objs.size) (o:=.dK (e9 [] kvs)) (h':=h') (t':=tk) keep (Hu _) ⟨hml,hne,_,hm,D'⟩;have kp:Kp H (upd H s.heap.objs.size (.dK (e9 [] kvs))):=Same.kp (Same.new nf);obtain⟨ks',ps',g1,g2,g3⟩:=jB (acc:=[]) (ps:=[]) (ir.kp kp q1) aE.nil;refine⟨.ref _,_,I2,rfl,k _ _ (Same.new nf) nf ?_⟩;rw[lV];have g1:kps.foldl x9 (PV.dct [] [])=PV.dct ks' ps':=g1;rw[g1];exact⟨_,ax,g2,g3⟩
  ·rw[if_neg hlen] at ez
   cases ez
 | _=>cases ez
end PU
namespace PU
open PySem PySem.Spec PyProof.Rows L2 PySem.SeqAt
def nE:List PV->Option (List Int)
 | []=>some []
 | .int i::r=>(nE r).map (i::·)
 | _=>none
def ltL:List Int->List Int->Bool
 | x::xs,y::ys=>if x=y then ltL xs ys else decide (x<y)
 | _,_=>false
def Co:PV->PV->Option PV
 | .tup [.int i,.lst ps],.tup [.int j,.lst qs]=>
  (match nE ps,nE qs with
  | some xs,some ys=>if i=j/\¬ xs.length=ys.length then none else some (.bl (if i=j then ltL xs ys else decide (i<j)))
  | _,_=>none)
 | _,_=>none
section
open AutoSeq1 (wpAny_loadPart')
open MeetsSeq MeetsSeq2 MeetsSeq3
def eF(A:IL)(s:HC)(y x:HB)(b:Bool):Prop:=
 ∀(prog:HX)(w:IA)(E:HB->HC->Prop)(Q:HB->HC->Prop),Q (.bool b) s->Hx (IK prog w) A (richCompare .Lt y x) Q E s
def ltR(e l:Nat->Bool):List Nat->Bool
 | []=>false
 | i::r=>if e i=true then ltR e l r else l i
theorem sJ(l b:Addr)(items items2:Array HB)(n n2:Nat)(dd dd2:Option Addr)(sl sl2:Array (Option HB))(hsz:items.size=items2.size)(e lt:Nat->Bool)(k:Nat) :
  ∀i:Nat,items.size-i=k->Meets (MS.«list.__eq__.loop» ⟨[.ref l,.ref b,Ko i,Ko 0],[]⟩)
   (fun A R s=>s.heap.get? l=some { cls:=.type "list",dict:=dd,data:=.seq items n,slots:=sl }/\s.heap.get? b=some { cls:=.type "list",dict:=dd2,data:=.seq items2 n2,slots:=sl2 }/\
    (∀j (h1:j<items.size) (h2:j<items2.size),EqAt A.in1 s items[j] items2[j] (e j)/\eF A.in1 s items[j] items2[j] (lt j))/\
    R (.ok (.ret (.bool (ltR e lt ((Hy items.size).drop i))))) s):=by
 induction k with
 | zero=>
  intro i hk prog w A R s h;obtain⟨hp,g,d,tk,os⟩:=s;obtain⟨hl,hb,he,h⟩:=h
  wp_walk using Iq hl,Iq hb
  have hi1:items[((i:Nat):Int).toNat]?=none:=by simp;omega
  have hi2:items2[((i:Nat):Int).toNat]?=none:=by simp;omega
  have hd:(Hy items.size).drop i=[]:=by simp;omega
  rw[hd] at h;rw[hi1,hi2]
  wp_walk using Iq hl,Iq hb
  show R (.ok (.ret (.bool (decide (items.size<items2.size))))) _;rw[hsz];simpa [ltR] using h
 | succ k ih=>
  intro i hk prog w A R s h;obtain⟨hp,g,d,tk,os⟩:=s;obtain⟨hl,hb,he,h⟩:=h
  wp_walk using Iq hl,Iq hb
  have hlt:i<items.size:=by omega
  have hlt2:i<items2.size:=by omega
  have hi1:items[((i:Nat):Int).toNat]?=some items[i]:=by simp[hlt]
  have hi2:items2[((i:Nat):Int).toNat]?=some items2[i]:=by simp[hlt2]
  have hd:(Hy items.size).drop i=i::(Hy items.size).drop (i+1):=by simp[Ir,hlt]
  have hc:((i:Int)+1)=((i+1:Nat):Int):=by push_cast;rfl
  rw[hd] at h;rw[hi1,hi2];refine HD ((he i hlt hlt2).1 prog w _ _ ?_);cases hb':e i with
  | true=>
   simp only[ltR,hb',if_true] at h
   wp_walk
   rw[hc]
   exact⟨Na plain_eq_loop _,Ld entry_eq_loop (by
    rw[Mu plain_eq_loop _];exact ih (i+1) (by omega) prog w A R _ ⟨hl,hb,he,by simpa using h⟩)⟩
  | false=>
   simp only[ltR,hb',IY,if_false] at h
   wp_walk using Iq hl,Iq hb
   rw[hi1,hi2];refine HD ((he i hlt hlt2).2 prog w _ _ ?_)
   wp_walk
   simpa using h
theorem sQ(l b:Addr)(items items2:Array HB)(n n2:Nat)(dd dd2:Option Addr)(sl sl2:Array (Option HB))(hsz:items.size=items2.size)(e lt:Nat->Bool) :
  Meets (MS.«list.__lt__» ⟨[.ref l,.ref b],[]⟩)
   (fun A R s=>s.heap.get? l=some { cls:=.type "list",dict:=dd,data:=.seq items n,slots:=sl }/\s.heap.get? b=some { cls:=.type "list",dict:=dd2,data:=.seq items2 n2,slots:=sl2 }/\
    (∀j (h1:j<items.size) (h2:j<items2.size),EqAt A.in1 s items[j] items2[j] (e j)/\eF A.in1 s items[j] items2[j] (lt j))/\
    R (.ok (.ret (.bool (ltR e lt (Hy items.size))))) s):=by
 intro prog w A R s h;obtain⟨hp,g,d,tk,os⟩:=s;obtain⟨hl,hb,he,h⟩:=h;have f3:=AutoSeq1.sub_list_list
 wp_walk using Iq hl,Iq hb
 exact⟨Na plain_eq_loop _,Ld entry_eq_loop (by
  rw[Mu plain_eq_loop _];exact sJ l b items items2 n n2 dd dd2 sl sl2 hsz e lt _ 0 rfl prog w A R _ ⟨hl,hb,he,by simpa using h⟩)⟩
theorem qm(l b:Addr)(items items2:Array HB)(n n2:Nat)(dd dd2:Option Addr)(sl sl2:Array (Option HB))(e lt:Nat->Bool)(hsz:items.size=items2.size) :
  Meets (MS.«tuple.__lt__» ⟨[.ref l,.ref b],[]⟩)
   (fun A R s=>s.heap.get? l=some { cls:=.type "tuple",dict:=dd,data:=.seq items n,slots:=sl }/\s.heap.get? b=some { cls:=.type "tuple",dict:=dd2,data:=.seq items2 n2,slots:=sl2 }/\
    (∀j (h1:j<items.size) (h2:j<items2.size),(∀m,m<j->e m=true)->EqAt A.in1 s items[j] items2[j] (e j)/\(e j=false->eF A.in1 s items[j] items2[j] (lt j)))/\
    R (.ok (.ret (.bool (ltR e lt (Hy items.size))))) s):=
 .of_wp fun prog w A R s h=>by
  obtain⟨hp,g,d,tk,os⟩:=s;obtain⟨hl,hb,he,h⟩:=h;have f2:=AutoSeq1.sub_tuple_tuple;have hZ:(items.toList.zip items2.toList).length=items.size:=by simp[hsz]
  wp_walk using Iq hl,Iq hb,LM _ (fun rest b s'=>b.1=none/\s'=⟨hp,g,d,tk,os⟩/\∃i,rest=(items.toList.zip items2.toList).drop i/\(∀m,m<i->m<items.size->e m=true)/\
   R (.ok (.ret (.bool (ltR e lt ((Hy items.size).drop i))))) ⟨hp,g,d,tk,os⟩) _
  case turn=>
   rintro⟨y,x⟩ rest b s' ⟨hb',rfl,i,hz,hm,hR⟩
   have hlt:i<(items.toList.zip items2.toList).length:=by
    rcases Je i (items.toList.zip items2.toList).length with h' | h'
    ·exact h'
    ·rw[N0 h'] at hz;cases hz
   have h1:i<items.size:=hZ▸hlt;have h2:i<items2.size:=hsz▸h1;rw[Ir hlt] at hz;injection hz with hyx hrest;have hy:y=items[i]:=by have:=congrArg Prod.fst hyx;simpa using this
   have hx:x=items2[i]:=by have:=congrArg Prod.snd hyx;simpa using this
   subst hy hx;have hd:(Hy items.size).drop i=i::(Hy items.size).drop (i+1):=by simp[Ir,h1]
   rw[hd] at hR;have hei:=he i h1 h2 fun m hmi=>hm m hmi (by omega);refine HD (hei.1 prog w _ _ ?_);cases hy:e i with
   | true=>
    simp only[ltR,hy,if_true] at hR
    wp_walk
    exact⟨rfl,rfl,i+1,hrest,fun m hm1 hm2=>by
     rcases Je m i with z | z
     ·exact hm m z hm2
     ·have:m=i:=by omega
      rw[this];exact hy,by simpa using hR⟩
   | false=>
    simp only[ltR,hy,IY,if_false] at hR;have hrc:=hei.2 hy prog w;generalize richCompare CmpOp.Lt items[i] items2[i]=M at hrc ⊢
    wp_walk
    refine hrc _ _ ?_
    wp_walk
    exact⟨_,rfl,by simpa using hR⟩
  case fin=>
   rintro⟨b1,b2⟩ s' ⟨hb',rfl,i,hz,hm,hR⟩;simp only at hb';subst hb'
   have hge:items.size<=i:=by
    rcases Je i (items.toList.zip items2.toList).length with h' | h'
    ·rw[Ir h'] at hz;cases hz
    ·exact hZ▸h'
   rw[N0 (by simpa using hge)] at hR
   wp_walk
   exact⟨_,rfl,by simpa [Builtin.Tuple.tupleCompareSizes,ltR,hsz] using hR⟩
  case h=>
   exact⟨rfl,rfl,0,rfl,fun m hm=>by omega,by simpa using h⟩
theorem eF.lists{A:IL}{s:HC}{l b:Addr}{items items2:Array HB}{e lt:Nat->Bool}(hl:s.heap.IsList l items)(hb:s.heap.IsList b items2)(hsz:items.size=items2.size)(hu:A.units<cLine)
  (he:∀j (h1:j<items.size) (h2:j<items2.size),EqAt A.in1 s items[j] items2[j] (e j)/\eF A.in1 s items[j] items2[j] (lt j)):eF A s (.ref l) (.ref b) (ltR e lt (Hy items.size)):=fun prog w E Q h=>by
 obtain⟨⟨cls,dd,data,sl⟩,ho,hc,n,hd⟩:=id hl;obtain⟨⟨cls2,dd2,data2,sl2⟩,ho2,hc2,n2,hd2⟩:=id hb;simp only at hc hd hc2 hd2;subst hc hd hc2 hd2
 exact Ny (op:=.Lt) ⟨_,ho,rfl⟩ ⟨_,ho2,rfl⟩ F.slot_list_lt F.entry_list_lt (F.args_list_lt_2 _ _) (sQ l b items items2 n n2 dd dd2 sl sl2 hsz e lt)
  ⟨ho,ho2,he,show MP _≠N8/\Q (.bool _) s from ⟨(fun x=>nomatch x),h⟩⟩ hu
theorem eF.tuples{A:IL}{s:HC}{l b:Addr}{items items2:Array HB}{e lt:Nat->Bool}(hl:s.heap.IsTuple l items)(hb:s.heap.IsTuple b items2)(hsz:items.size=items2.size)(hu:A.units<cLine)
  (he:∀j (h1:j<items.size) (h2:j<items2.size),(∀m,m<j->e m=true)->EqAt A.in1 s items[j] items2[j] (e j)/\(e j=false->eF A.in1 s items[j] items2[j] (lt j))):eF A s (.ref l) (.ref b) (ltR e lt (Hy items.size)):=fun prog w E Q h=>by
 obtain⟨⟨cls,dd,data,sl⟩,ho,hc,n,hd⟩:=id hl;obtain⟨⟨cls2,dd2,data2,sl2⟩,ho2,hc2,n2,hd2⟩:=id hb;simp only at hc hd hc2 hd2;subst hc hd hc2 hd2
 exact Ny (op:=.Lt) ⟨_,ho,rfl⟩ ⟨_,ho2,rfl⟩ F.slot_tuple_lt F.entry_tuple_lt (F.args_tuple_lt_2 _ _) (qm l b items items2 n n2 dd dd2 sl sl2 e lt hsz)
  ⟨ho,ho2,he,show MP _≠N8/\Q (.bool _) s from ⟨(fun x=>nomatch x),h⟩⟩ hu
end
theorem sM(e l:Nat->Bool)(f:Nat->Nat):∀r:List Nat,ltR e l (r.map f)=ltR (fun i=>e (f i)) (fun i=>l (f i)) r
 | []=>rfl
 | i::r=>by simp only[HI,ltR,sM e l f r]
theorem sN:∀xs ys:List Int,xs.length=ys.length->ltR (fun i=>decide (xs.getD i 0=ys.getD i 0)) (fun i=>decide (xs.getD i 0<ys.getD i 0)) (Hy xs.length)=ltL xs ys
 | [],[],_=>rfl
 | [],_::_,h=>by simp at h
 | _::_,[],h=>by simp at h
 | x::xs,y::ys,h=>by
  rw[IG,KH];simp only[ltR,Nf,sM,Ng];rw[sN xs ys (by simpa using h)];simp only[ltL,decide_eq_true_eq]
theorem pF:∀xs:List Int,ltL xs xs=false
 | []=>rfl
 | x::xs=>by simp only[ltL,if_true];exact pF xs
theorem jK:∀{ps:List PV}{xs:List Int},nE ps=some xs->ps=xs.map .int
 | [],_,e=>by cases e;rfl
 | p::ps,xs,e=>by
  cases p with
  | int i=>
   simp only[nE] at e;obtain⟨r,er,rfl⟩:=HQ.mp e;rw[jK er];rfl
  | _=>cases e
theorem uQ:∀xs ys:List Int,xs.length=ys.length->(Hy xs.length).all (fun m=>decide (xs.getD m 0=ys.getD m 0))=decide (xs=ys)
 | [],[],_=>rfl
 | [],_::_,h=>by simp at h
 | _::_,[],h=>by simp at h
 | x::xs,y::ys,h=>by
  have ih:=uQ xs ys (by simpa using h);rw[IG,KH,JR,N1]
  have e:((fun m=>decide ((x::xs).getD m 0=(y::ys).getD m 0)) ∘ Nat.succ)=fun m=>decide (xs.getD m 0=ys.getD m 0):=by
   funext m
   simp only[Ja,Nat.succ_eq_add_one,Ng]
  rw[e,ih];simp only[Nf,JZ,Bool.decide_and]
variable[TW]
theorem m8{K:HA}{H:Hp}:∀{ns:List Int}{xs:List V}{us:List HB},aE K H (ns.map .int) xs->Vals xs us->∀j (h:j<us.length),∃t,us[j]=.int (ns.getD j 0) t
 | [],xs,us,r,v,j,h=>by
  cases r;cases v;simp at h
 | n::ns,xs,us,r,v,j,h=>by
  obtain⟨x,xs',rfl,r1,r2⟩:∃x xs',xs=x::xs'/\Rep K H (.int n) x/\aE K H (ns.map .int) xs':=by
   cases xs with
   | nil=>have:=r.length;simp at this
   | cons x xs'=>
    obtain⟨a,b,e,c,d⟩:=r;cases e;exact⟨x,xs',rfl,c,d⟩
  cases v with
  | cons v1 v2=>
   cases (show x=.int n from r1);cases j with
   | zero=>obtain⟨t,e⟩:=v1;exact⟨t,by simpa using e⟩
   | succ j=>simpa using m8 r2 v2 j (by simpa using h)
theorem lN{K:HA}{H:Hp}:∀{ns:List Int}{xs:List V},aE K H (ns.map .int) xs->xs=ns.map V.int
 | [],xs,r=>by
  cases xs with
  | nil=>rfl
  | cons x xs=>have:=r.length;simp at this
 | n::ns,xs,r=>by
  cases xs with
  | nil=>have:=r.length;simp at this
  | cons x xs'=>
   obtain⟨a,b,e,c,d⟩:=r;cases e;cases (show x=.int n from c);rw[lN d];rfl
theorem Er{X:Cx}(hu:X.A.units+64<cLine):OpR X (Ia .Lt) (rP X.K Co):=by
 intro pins s σ H x y v u Q I rx ry ⟨p,q,z,hp,hq,e,k⟩;unfold Co at e;split at e
 ·rename_i i ps j qs
  split at e
  ·rename_i xs ys ex ey
   have ex:=jK ex;have ey:=jK ey;subst ex ey;split at e
   ·cases e
   ·rename_i hne
    cases e;obtain⟨a,vs,rfl,g1,r1⟩:=b8.tup_inv hp;obtain⟨b,us,rfl,g2,r2⟩:=b8.tup_inv hq;cases rx;cases ry;obtain⟨v1,vs1,rfl,q1,v2,vs2,rfl,q2,rfl⟩:=r1;obtain⟨u1,us1,rfl,q3,u2,us2,rfl,q4,rfl⟩:=r2;cases (show v1=.int i from q1);cases (show u1=.int j from q3);obtain⟨c,as,rfl,g3,r3⟩:=q2;obtain⟨d,bs,rfl,g4,r4⟩:=q4;obtain⟨its,rv,pl,_⟩:=I.tuple g1;obtain⟨its2,rv2,pl2,_⟩:=I.tuple g2;obtain⟨w1,w2,rfl,e1,e2⟩:=vals2 rv;obtain⟨w3,w4,rfl,e3,e4⟩:=vals2 rv2;obtain⟨t1,rfl⟩:=e1;obtain⟨t2,rfl⟩:=e3;cases e2;cases e4;obtain⟨is1,rw1,pl3,_⟩:=I.list g3.l.l;obtain⟨is2,rw2,pl4,_⟩:=I.list g4.l.l;have n1:is1.length=xs.length:=by rw[← rw1.length,← r3.length,HF]
    have n2:is2.length=ys.length:=by rw[← rw2.length,← r4.length,HF]
    have fin:∀b:Bool,b=(if i=j then ltL xs ys else decide (i<j))->EP X pins σ Q (.bool b) s:=fun b hb=>by
     subst hb;exact⟨.bl _,H,I,rfl,k _ H (Same.refl H) rfl⟩
    let ee:Nat->Bool:=fun m=>match m with
     | 0=>decide (i=j)
     | _=>decide (xs=ys)
    let lt:Nat->Bool:=fun m=>match m with
     | 0=>decide (i<j)
     | _=>ltL xs ys
    refine eF.tuples (e:=ee) (lt:=lt) (show s.heap.IsTuple a #[.int i t1,.ref c] from pl) (show s.heap.IsTuple b #[.int j t2,.ref d] from pl2) rfl (by omega) (fun m h1 h2 hm=>?_) X.prog X.w X.xe _ (fin _ ?_)
    ·match m,h1,h2,hm with
     | 0,h1,h2,hm=>exact⟨EqAt.int_int i t1 j t2,fun _ prog w E Q q=>lt_int q⟩
     | 1,h1,h2,hm=>
      have hij:i=j:=of_decide_eq_true (hm 0 (by omega))
      have hl:xs.length=ys.length:=by
       rcases Classical.em (xs.length=ys.length) with z | z
       ·exact z
       ·exact absurd ⟨hij,z⟩ hne
      have hsz:is1.toArray.size=is2.toArray.size:=by simp;omega
      have he:∀(A:IL) m (h1:m<is1.toArray.size) (h2:m<is2.toArray.size),EqAt A s is1.toArray[m] is2.toArray[m] (decide (xs.getD m 0=ys.getD m 0))/\eF A s is1.toArray[m] is2.toArray[m] (decide (xs.getD m 0<ys.getD m 0)):=fun A m h1 h2=>by
       obtain⟨t3,e3⟩:=m8 r3 rw1 m (by simpa using h1);obtain⟨t4,e4⟩:=m8 r4 rw2 m (by simpa using h2);simp only[List.getElem_toArray,e3,e4];exact⟨EqAt.int_int _ t3 _ t4,fun prog w E Q q=>lt_int q⟩
      refine⟨?_,fun _=>?_⟩
      ·by_cases hcd:c=d
       ·subst hcd
        have exy:xs=ys:=by
         have e5:=I.list_inj g3.l.l g4.l.l;rw[lN r3,lN r4] at e5;have:=congrArg (List.map fun v:V=>match v with | .int i=>i | _=>0) e5;rw[I8,I8] at this;simpa [NF] using this
        show EqAt _ s (.ref c) (.ref c) (decide (xs=ys));rw[decide_eq_true exy];exact EqAt.same _
       ·show EqAt _ s (.ref c) (.ref d) (decide (xs=ys))
        have:=EqAt.of_refs hcd (RcAt.lists (A:=X.A.in1) (e:=fun m=>decide (xs.getD m 0=ys.getD m 0)) pl3.isList pl4.isList hsz (by show X.A.units+1<cLine;omega) fun m h1 h2=>(he _ m h1 h2).1)
        have eb:(Hy is1.toArray.size).all (fun m=>decide (xs.getD m 0=ys.getD m 0))=decide (xs=ys):=by
         rw[show is1.toArray.size=xs.length by simp[n1]];exact uQ xs ys hl
        rw[eb] at this;exact this
      ·show eF _ s (.ref c) (.ref d) (ltL xs ys)
       have:=eF.lists (A:=X.A.in1) (e:=fun m=>decide (xs.getD m 0=ys.getD m 0)) (lt:=fun m=>decide (xs.getD m 0<ys.getD m 0)) pl3.isList pl4.isList hsz (by show X.A.units+1<cLine;omega) fun m h1 h2=>he _ m h1 h2;rw[show is1.toArray.size=xs.length by simp[n1],sN xs ys hl] at this;exact this
     | m+2,h1,h2,hm=>exact absurd h1 (by simp)
    ·show ltR ee lt [0,1]=_
     simp only[ltR,ee,lt,decide_eq_true_eq]
     by_cases hij:i=j
     ·rw[if_pos hij,if_pos hij]
      by_cases hxy:xs=ys
      ·rw[if_pos hxy,hxy,pF]
      ·rw[if_neg hxy]
     ·rw[if_neg hij,if_neg hij]
  ·cases e
 ·cases e
end PU
namespace PU
open PySem PySem.Spec PyProof.Rows L2
def xt(i:Nat):PSt->R Fl:=fun ρ=>match ρ[i]? with
 | some (.own p)=>.ok (.ret p)
 | _=>.no
def runN(m n:Nat)(g:PSt->R Fl)(ps:List PV):Option PV:=if ps.length=m then (match g (start n ps) with
 | .ok (.ret p)=>some p
 | _=>none) else none
section
variable{g g' : PSt → R Fl}{t : PSt → R Bool}{f fk fv : PSt → R PV}{i : Nat}
theorem mV(i:Nat)(f:PSt->R PV)(ρ:PSt)(p:PV):o4 i f ρ≠.ok (.ret p):=by
 unfold o4;cases f ρ with
 | ok q=>intro h;cases h
 | er x=>intro h;cases h
 | no=>intro h;cases h
theorem uN(i:Nat)(f:PSt->R PV)(ρ:PSt)(p:PV):qb i f ρ≠.ok (.ret p):=by
 unfold qb;intro h;split at h
 ·cases hf:f ρ with
  | ok q=>
   rw[hf,R.ok_bind] at h
   repeat' split at h
   all_goals cases h
  | er x=>rw[hf] at h;cases h
  | no=>rw[hf] at h;cases h
 ·cases h
theorem tW{h:Tgt}{fi:PSt->R (List PV)}(hg:∀ρ p,g ρ≠.ok (.ret p))(ρ:PSt)(p:PV):ky fi h g ρ≠.ok (.ret p):=by
 have go:∀(ps:List PV)(ρ:PSt),gq h g ps ρ≠.ok (.ret p):=by
  intro ps
  induction ps with
  | nil=>intro ρ h;cases h
  | cons x ps ih=>
   intro ρ e;unfold gq at e;cases h1:h x ρ with
   | none=>rw[h1] at e;cases e
   | some ρ1=>
    rw[h1,R.ofO_some,R.ok_bind] at e;cases h2:g ρ1 with
    | ok fl=>
     rw[h2,R.ok_bind] at e;cases fl with
     | next ρ2=>exact ih ρ2 e
     | cont ρ2=>exact ih ρ2 e
     | brk ρ2=>cases e
     | ret q=>exact hg ρ1 q h2
    | er x=>rw[h2] at e;cases e
    | no=>rw[h2] at e;cases e
 unfold ky;intro e;cases h1:fi ρ with
 | ok ps=>rw[h1,R.ok_bind] at e;exact go ps ρ e
 | er x=>rw[h1] at e;cases e
 | no=>rw[h1] at e;cases e
end
variable[TW]
section
variable{C : Cn}
theorem vC(i:Nat){x:Str}{np pos:JO}(hN:C.X.N[i]?=some x:=by rfl)(hv:Vis C.X.env.scope x:=by first | exact MH rfl | exact Le (MH rfl) | exact Le (Le rfl))
  (hd:(x == ("__debug__":Str))=false:=by decide) (hcd:(x == ("__classdict__":Str))=false:=by decide):SVN C [.Return (some (.Name x np)) pos] (xt i):=by
 intro pins s σ H D I ⟨ρ,B,S,h⟩;unfold xt at h;split at h
 ·rename_i p e1
  obtain⟨a,ea,nw⟩:=S.vw i _ e1;exact lO (pb (fF hN hv hd hcd)) pins s σ H D I ⟨.ref a,ea,h a H S.same (S.fresh i p a e1 ea) nw⟩
 ·exact HJ h
end
section
variable{P : HX}{w : IA}{K : HA}{mg : Str → Option HB}{base : Heap}
theorem yS{x qual:Str}{st:Stmt}{f:Addr}{fd:FuncData}{N ps:List Str}{k:Nat}{g:PSt->R Fl}(F:Fun K x qual st f fd)(S:FnScope N ps (ah st))(hm:mg x=some (.ref f))(hb:Binds K fd ps [])
  (hbody:∀(cdv:HB)(A:IL)(outer:List M5)(s:HC)(H:Hp)(E:XK),Room k (A.deeper (Kb qual (ah st) s.heap.objs.size f cdv))->SVN (Av P w K mg base N qual (ah st) f cdv A outer s H E) (bz st) g) :
  PFN P w K mg base (k+1) x (runN ps.length N.length g):=by
 refine⟨f,fd,ps,F.ok S (fun vs H Q E h=>h.1) (fun cdv A outer s H vs Q E hr' h=>?_),hm,F.kp,hb,fun qs p h=>?_⟩
 ·obtain⟨hl,tb,qs,p,r,e0,k⟩:=h
  refine⟨_,hbody cdv A outer s H E hr',start N.length qs,(H,H),iS tb r,?_⟩;unfold runN at e0;rw[if_pos (by rw[r.length];exact hl)] at e0;split at e0
  ·rename_i q hq
   rw[hq];cases e0;exact fun a H' s' n' w'=>k a H' s' n' w'
  ·cases e0
 ·unfold runN at h
  split at h
  ·rename_i hl;exact hl
  ·cases h
end
end PU
namespace PU
open PySem L2
def Dw(p:PV):R (List PV):=match p with
 | .int j=>if j.natAbs<1000000000 then .ok (bM 0 j.toNat) else .no
 | _=>.no
def Am(p q:PV):R (List PV):=match p,q with
 | .int i,.int j=>if i.natAbs<1000000000/\j.natAbs<1000000000 then .ok (bM i (j-i).toNat) else .no
 | _,_=>.no
theorem rE{j:Int}(h0:0<=j)(h1:j<1000000000):Dw (.int j)=.ok (bM 0 j.toNat):=by
 unfold Dw;exact if_pos (by omega)
theorem rD{i j:Int}(h0:0<=i)(h1:i<1000000000)(h2:0<=j)(h3:j<1000000000):Am (.int i) (.int j)=.ok (bM i (j-i).toNat):=by
 unfold Am;exact if_pos ⟨by omega,by omega⟩
section
def B5(g':PSt->R Fl):R Fl->R Fl
 | .ok (.next ρ)=>g' ρ
 | .ok (.brk ρ)=>.ok (.brk ρ)
 | .ok (.cont ρ)=>.ok (.cont ρ)
 | .ok (.ret p)=>.ok (.ret p)
 | .er x=>.er x
 | .no=>.no
def ri{α β:Type}(f:α->β):R α->R β
 | .ok a=>.ok (f a)
 | .er x=>.er x
 | .no=>.no
def gV{α β:Type}(f:α->R β):R α->R β
 | .ok a=>f a
 | .er x=>.er x
 | .no=>.no
def ifK{α:Type}(g g':PSt->R α)(ρ:PSt):R Bool->R α
 | .ok true=>g ρ
 | .ok false=>g' ρ
 | .er x=>.er x
 | .no=>.no
def lz{α β γ:Type}(f:α->β->R γ):R α->R β->R γ
 | .ok a,.ok b=>f a b
 | .ok _,.er x=>.er x
 | .ok _,.no=>.no
 | .er x,_=>.er x
 | .no,_=>.no
variable{α : Type}{ρ : PSt}{f fa fb fc : PSt → R PV}{g g' : PSt → R Fl}{t u : PSt → R Bool}{i : Nat}
@[simp] theorem l7:B5 g' (.ok (.next ρ))=g' ρ:=by unfold B5;exact IE _
@[simp] theorem tm(p:PV):B5 g' (.ok (.ret p))=.ok (.ret p):=by unfold B5;exact IE _
@[simp] theorem C3{β:Type}(f:α->β)(a:α):ri f (.ok a)=.ok (f a):=by unfold ri;exact IE _
@[simp] theorem jH{β:Type}(f:α->R β)(a:α):gV f (.ok a)=f a:=by unfold gV;exact IE _
@[simp] theorem FR(g g':PSt->R α):ifK g g' ρ (.ok true)=g ρ:=by unfold ifK;exact IE _
@[simp] theorem FU(g g':PSt->R α):ifK g g' ρ (.ok false)=g' ρ:=by unfold ifK;exact IE _
@[simp] theorem tj{β γ:Type}(f:α->β->R γ)(a:α)(b:β):lz f (.ok a) (.ok b)=f a b:=by unfold lz;exact IE _
@[simp] theorem rz:aT g g' ρ=B5 g' (g ρ):=by
 unfold aT;cases g ρ with
 | ok fl=>cases fl <;> rfl
 | er x=>rfl
 | no=>rfl
@[simp] theorem DI:cE ρ=.ok (.next ρ):=by unfold cE;exact IE _
@[simp] theorem xi:cJ f ρ=ri .ret (f ρ):=by unfold cJ;cases f ρ <;> rfl
@[simp] theorem Gb:ifF t g g' ρ=ifK g g' ρ (t ρ):=by
 unfold ifF;cases t ρ with
 | ok b=>cases b <;> rfl
 | er x=>rfl
 | no=>rfl
def E9(i:Nat)(ρ:PSt)(p:PV):Fl:=.next (ρ.set i (.val p))
def El(i:Nat)(ρ:PSt)(p:PV):Fl:=.next (ρ.set i (.own p))
@[simp] theorem EG(p:PV):E9 i ρ p=.next (ρ.set i (.val p)):=by unfold E9;exact IE _
@[simp] theorem GO(p:PV):El i ρ p=.next (ρ.set i (.own p)):=by unfold El;exact IE _
@[simp] theorem Az:bZ i f ρ=ri (E9 i ρ) (f ρ):=by unfold bZ;cases f ρ <;> rfl
@[simp] theorem Fq:o4 i f ρ=ri (El i ρ) (f ρ):=by unfold o4;cases f ρ <;> rfl
@[simp] theorem FC:CV ρ=.ok (.brk ρ):=by unfold CV;exact IE _
@[simp] theorem Fz:vd i g ρ=g (tU i ρ):=by unfold vd;exact IE _
@[simp] theorem Fx(j:Int):kI j ρ=.ok (.int j):=by unfold kI;exact IE _
@[simp] theorem G8(j:Bool):kB j ρ=.ok (.bl j):=by unfold kB;exact IE _
@[simp] theorem Hi:kN ρ=.ok .non:=by unfold kN;exact IE _
@[simp] theorem Hg(j:Str):kS j ρ=.ok (.str j):=by unfold kS;exact IE _
@[simp] theorem Hh(j:PV):kP j ρ=.ok j:=by unfold kP;exact IE _
@[simp] theorem Fu:aM ρ=.ok []:=by unfold aM;exact IE _
def zT(p:PV)(ps:List PV):R (List PV):=.ok (p::ps)
@[simp] theorem FX(p:PV)(ps:List PV):zT p ps=.ok (p::ps):=by unfold zT;exact IE _
@[simp] theorem DN{fs:PSt->R (List PV)}:aa f fs ρ=lz zT (f ρ) (fs ρ):=by unfold aa;cases f ρ <;> cases fs ρ <;> rfl
def tupP(ps:List PV):R PV:=if ps.length<=16777216 then .ok (.tup ps) else .no
def lstP(ps:List PV):R PV:=if ps.length<=16777216 then .ok (.lst ps) else .no
@[simp] theorem EF(ps:List PV):tupP ps=if ps.length<=16777216 then .ok (.tup ps) else .no:=by unfold tupP;exact IE _
@[simp] theorem C4(ps:List PV):lstP ps=if ps.length<=16777216 then .ok (.lst ps) else .no:=by unfold lstP;exact IE _
@[simp] theorem Fm{fs:PSt->R (List PV)}:dF fs ρ=gV tupP (fs ρ):=by
 unfold dF;cases fs ρ with
 | ok ps=>simp only[R.ok_bind,fh,jH,EF];split <;> rfl
 | er x=>rfl
 | no=>rfl
@[simp] theorem Fw{fs:PSt->R (List PV)}:o5 fs ρ=gV lstP (fs ρ):=by
 unfold o5;cases fs ρ with
 | ok ps=>simp only[R.ok_bind,fh,jH,C4];split <;> rfl
 | er x=>rfl
 | no=>rfl
def opP(g:PV->PV->Option PV)(p q:PV):R PV:=R.ofO (g p q)
def op1(g:PV->Option PV)(p:PV):R PV:=R.ofO (g p)
@[simp] theorem Hn(g:PV->PV->Option PV)(p q:PV):opP g p q=R.ofO (g p q):=by unfold opP;exact IE _
@[simp] theorem C2(g:PV->Option PV)(p:PV):op1 g p=R.ofO (g p):=by unfold op1;exact IE _
@[simp] theorem FD{g:PV->PV->Option PV}:ak fa fb g ρ=lz (opP g) (fa ρ) (fb ρ):=by unfold ak;cases fa ρ <;> cases fb ρ <;> rfl
@[simp] theorem Ay{g:PV->Option PV}:un1 f g ρ=gV (op1 g) (f ρ):=by unfold un1;cases f ρ <;> rfl
def DV(p:PV):R Bool:=R.ofO (rM p)
@[simp] theorem GK(p:PV):DV p=R.ofO (rM p):=by unfold DV;exact IE _
@[simp] theorem Fn:cY f ρ=gV DV (f ρ):=by unfold cY;cases f ρ <;> rfl
@[simp] theorem FG:x8 t u ρ=ifK u (fun _=>.ok false) ρ (t ρ):=by
 unfold x8;cases t ρ with
 | ok b=>cases b <;> rfl
 | er x=>rfl
 | no=>rfl
@[simp] theorem G7:orB t u ρ=ifK (fun _=>.ok true) u ρ (t ρ):=by
 unfold orB;cases t ρ with
 | ok b=>cases b <;> rfl
 | er x=>rfl
 | no=>rfl
@[simp] theorem Fs:BB t ρ=ri not (t ρ):=by unfold BB;cases t ρ <;> rfl
def Fi(fb:PSt->R PV)(ρ:PSt)(p:PV):R PV:=match p with
 | .bl true=>fb ρ
 | .bl false=>.ok (.bl false)
 | _=>.no
@[simp] theorem EU:Fi fb ρ (.bl true)=fb ρ:=by unfold Fi;exact IE _
@[simp] theorem FF:DC fa fb ρ=gV (Fi fb ρ) (fa ρ):=by unfold DC;cases fa ρ <;> rfl
@[simp] theorem Ga:ifV t fa fb ρ=ifK fa fb ρ (t ρ):=by
 unfold ifV;cases t ρ with
 | ok b=>cases b <;> rfl
 | er x=>rfl
 | no=>rfl
@[simp] theorem xg:kC ρ=.ok true:=by unfold kC;exact IE _
def A0(F:List PV->Option PV)(ps:List PV):R PV:=R.ofO (F ps)
@[simp] theorem FY(F:List PV->Option PV)(ps:List PV):A0 F ps=R.ofO (F ps):=by unfold A0;exact IE _
@[simp] theorem DP{fs:PSt->R (List PV)}{F:List PV->Option PV}:aL fs F ρ=gV (A0 F) (fs ρ):=by unfold aL;cases fs ρ <;> rfl
def itQ(F:PV->Option (List PV))(p:PV):R (List PV):=R.ofO (F p)
@[simp] theorem Ho(F:PV->Option (List PV))(p:PV):itQ F p=R.ofO (F p):=by unfold itQ;exact IE _
@[simp] theorem G9:itF f ρ=gV (itQ eV) (f ρ):=by unfold itF;cases f ρ <;> rfl
@[simp] theorem DK:wM f ρ=gV (itQ qQ) (f ρ):=by unfold wM;cases f ρ <;> rfl
def F5(h:Tgt)(g:PSt->R Fl)(ρ:PSt)(ps:List PV):R Fl:=gq h g ps ρ
@[simp] theorem C5(h:Tgt)(ps:List PV):F5 h g ρ ps=gq h g ps ρ:=by unfold F5;exact IE _
@[simp] theorem xj{fi:PSt->R (List PV)}{h:Tgt}:ky fi h g ρ=gV (F5 h g ρ) (fi ρ):=by unfold ky;cases fi ρ <;> rfl
@[simp] theorem Fo:xr f ρ=gV Dw (f ρ):=by unfold xr;cases f ρ <;> rfl
@[simp] theorem xh:An fa fb ρ=lz Am (fa ρ) (fb ρ):=by unfold An;cases fa ρ <;> cases fb ρ <;> rfl
@[simp] theorem De{g:PV->PV->Option PV}(x:Str):oz (kS x) fb g ρ=gV (opP g (.str x)) (fb ρ):=by unfold oz;cases fb ρ <;> rfl
@[simp] theorem D9:e8 ρ=.ok none:=by unfold e8;exact IE _
def aP(p:PV):R (Option Int):=match p with
 | .int i=>.ok (some i)
 | _=>.no
@[simp] theorem Hq(i:Int):aP (.int i)=.ok (some i):=by unfold aP;exact IE _
@[simp] theorem DQ:gv f ρ=gV aP (f ρ):=by unfold gv;cases f ρ <;> rfl
def slQ(p:PV)(lh:Option Int×Option Int):R PV:=R.ofO (gSl p lh.1 lh.2)
def ot(a b:Option Int):R (Option Int×Option Int):=.ok (a,b)
@[simp] theorem Hm(p:PV)(a b:Option Int):slQ p (a,b)=R.ofO (gSl p a b):=by unfold slQ;exact IE _
@[simp] theorem FP(a b:Option Int):ot a b=.ok (a,b):=by unfold ot;exact IE _
@[simp] theorem D7{l h:PSt->R (Option Int)}:jh f l h ρ=lz slQ (f ρ) (lz ot (l ρ) (h ρ)):=by unfold jh;cases f ρ <;> cases l ρ <;> cases h ρ <;> rfl
@[simp] theorem Fv:newD ρ=.ok (.dct [] []):=by unfold newD;exact IE _
@[simp] theorem Ft:BH ρ=.ok []:=by unfold BH;exact IE _
def BY(p:PV):R Key:=R.ofO (eK p)
@[simp] theorem xT(p:PV):BY p=R.ofO (eK p):=by unfold BY;exact IE _
def kvQ(k:Key)(p:PV):R (Key×PV):=.ok (k,p)
@[simp] theorem GP(k:Key)(p:PV):kvQ k p=.ok (k,p):=by unfold kvQ;exact IE _
def zS(a:Key×PV)(r:List (Key×PV)):R (List (Key×PV)):=.ok (a::r)
@[simp] theorem EM(a:Key×PV)(r:List (Key×PV)):zS a r=.ok (a::r):=by unfold zS;exact IE _
@[simp] theorem DM{fd:PSt->R (List (Key×PV))}:mv fa fb fd ρ=lz zS (lz kvQ (gV BY (fa ρ)) (fb ρ)) (fd ρ):=by
 unfold mv;cases fa ρ with
 | ok p=>simp only[R.ok_bind,jH,xT];cases eK p <;> cases fb ρ <;> cases fd ρ <;> rfl
 | er x=>cases fb ρ <;> cases fd ρ <;> rfl
 | no=>cases fb ρ <;> cases fd ρ <;> rfl
def zN(kps:List (Key×PV)):R PV:=if kps.length<=15 then .ok (fg kps) else .no
@[simp] theorem EK(kps:List (Key×PV)):zN kps=if kps.length<=15 then .ok (fg kps) else .no:=by unfold zN;exact IE _
@[simp] theorem DL{fd:PSt->R (List (Key×PV))}:ur fd ρ=gV zN (fd ρ):=by unfold ur;cases fd ρ <;> rfl
def zU(h:Tgt)(t:PSt->R Bool)(fe:PSt->R PV)(ρ:PSt)(ps:List PV):R PV:=gV lstP (za (cq h t fe ρ ps))
@[simp] theorem C6(h:Tgt)(ps:List PV):zU h t f ρ ps=gV lstP (za (cq h t f ρ ps)):=by unfold zU;exact IE _
@[simp] theorem DO{fi:PSt->R (List PV)}{h:Tgt}{nt:Nat}{idx:List Nat}:fS fi h t f nt idx ρ=gV (zU h t f (bU nt idx ρ)) (fi ρ):=by
 unfold fS;cases fi ρ with
 | ok ps=>
  simp only[R.ok_bind,jH,C6];cases cq h t f (bU nt idx ρ) ps with
  | ok qs=>simp only[za,R.ok_bind,jH,C4,fh];split <;> rfl
  | er x=>rfl
  | no=>rfl
 | er x=>rfl
 | no=>rfl
@[simp] theorem o6(p:PV):ay i p ρ=some (ρ.set i (.val p)):=by unfold ay;exact IE _
@[simp] theorem Dc(a:α):za (.ok a)=.ok a:=by unfold za;exact IE _
end
section
variable{p : PV}{l : Sl}{ρ : PSt}{i : Nat}
@[simp] theorem o7:af 0 (.val p::ρ)=.ok p:=by unfold af;exact IE _
@[simp] theorem yo:af (i+1) (l::ρ)=af i ρ:=by unfold af;rw[Ht]
@[simp] theorem Df:lj 0 (.own p::ρ)=.ok p:=by unfold lj;exact IE _
@[simp] theorem DJ:lj (i+1) (l::ρ)=lj i ρ:=by unfold lj;rw[Ht]
@[simp] theorem FB:tU 0 (.own p::ρ)=.val p::ρ:=by unfold tU;exact IE _
theorem tT:tU (i+1) (l::ρ)=l::tU i ρ:=by
 unfold tU;simp only[Ht];cases ρ[i]? with
 | none=>rfl
 | some x=>cases x <;> rfl
@[simp] theorem Fy:tU (i+1) (l::ρ)=l::tU i ρ:=tT
def roA(i:Nat)(ρ:PSt):Sl:=roS ρ[i]?
@[simp] theorem GN:roA 0 (.val p::ρ)=.val p:=by unfold roA roS;exact IE _
@[simp] theorem GM:roA (i+1) (l::ρ)=roA i ρ:=by unfold roA;rw[Ht]
theorem rA(nt:Nat)(idx:List Nat):bU nt idx ρ=IM nt .no++idx.map fun i=>roA i ρ:=by unfold bU roA;exact IE _
def yh(i:Nat)(ρ:PSt)(p:PV):R PSt:=match ρ[i]? with
 | some (.own (.lst ps))=>if ps.length<16777216 then .ok (ρ.set i (.own (.lst (ps++[p])))) else .no
 | _=>.no
def vb(i:Nat)(ρ:PSt):Bool:=match ρ[i]? with
 | some (.own (.lst _))=>true
 | _=>false
def wV(l:Sl)(ρ:PSt):PSt:=l::ρ
@[simp] theorem EL:wV l ρ=l::ρ:=by unfold wV;exact IE _
@[simp] theorem G0(ps:List PV):yh 0 (.own (.lst ps)::ρ) p=if ps.length<16777216 then .ok (.own (.lst (ps++[p]))::ρ) else .no:=by unfold yh;exact IE _
@[simp] theorem FZ:yh (i+1) (l::ρ) p=ri (wV l) (yh i ρ p):=by
 unfold yh;rw[Ht];cases ρ[i]? with
 | none=>rfl
 | some x=>
  cases x with
  | own q=>
   cases q with
   | lst ps=>dsimp only;split <;> rfl
   | _=>rfl
  | _=>rfl
@[simp] theorem FW(ps:List PV):vb 0 (.own (.lst ps)::ρ)=true:=by unfold vb;exact IE _
@[simp] theorem FV:vb (i+1) (l::ρ)=vb i ρ:=by unfold vb;rw[Ht]
def CZ(i:Nat)(ρ:PSt)(p:PV):R Fl:=ri .next (yh i ρ p)
@[simp] theorem C7:CZ i ρ p=ri .next (yh i ρ p):=by unfold CZ;exact IE _
theorem Ab(f:PSt->R PV)(h:vb i ρ=true):qb i f ρ=gV (CZ i ρ) (f ρ):=by
 unfold vb at h;unfold qb;cases e:ρ[i]? with
 | none=>rw[e] at h;cases h
 | some x=>
  rw[e] at h;cases x with
  | own q=>
   cases q with
   | lst ps=>
    dsimp only;cases f ρ with
    | ok p=>
     simp only[R.ok_bind,jH,C7];unfold yh;rw[e];dsimp only
     split <;> rfl
    | er x=>rfl
    | no=>rfl
   | _=>cases h
  | _=>cases h
def DB(b:Bool)(i:Nat)(ρ:PSt)(r:R PV):R Fl:=if b=true then gV (CZ i ρ) r else .no
@[simp] theorem C8(r:R PV):DB true i ρ r=gV (CZ i ρ) r:=by unfold DB;exact if_pos rfl
@[simp] theorem FE(f:PSt->R PV):qb i f ρ=DB (vb i ρ) i ρ (f ρ):=by
 cases h:vb i ρ with
 | true=>rw[Ab f h,C8]
 | false=>
  unfold DB;rw[if_neg HP];unfold vb at h;unfold qb
  split
  ·rename_i ps e
   rw[e] at h;cases h
  ·rfl
def xB(i:Nat)(ρ:PSt)(k:Key)(p:PV):R PSt:=match ρ[i]? with
 | some (.own (.dct ks ps))=>if ks.length<16777216 then .ok (ρ.set i (.own (kq ks ps k p))) else .no
 | _=>.no
def zB(i:Nat)(ρ:PSt):Bool:=match ρ[i]? with
 | some (.own (.dct _ _))=>true
 | _=>false
@[simp] theorem FO(ks:List Key)(ps:List PV)(k:Key):xB 0 (.own (.dct ks ps)::ρ) k p=if ks.length<16777216 then .ok (.own (kq ks ps k p)::ρ) else .no:=by unfold xB;exact IE _
@[simp] theorem FN(k:Key):xB (i+1) (l::ρ) k p=ri (wV l) (xB i ρ k p):=by
 unfold xB;rw[Ht];cases ρ[i]? with
 | none=>rfl
 | some x=>
  cases x with
  | own q=>
   cases q with
   | dct ks ps=>dsimp only;split <;> rfl
   | _=>rfl
  | _=>rfl
@[simp] theorem EJ(ks:List Key)(ps:List PV):zB 0 (.own (.dct ks ps)::ρ)=true:=by unfold zB;exact IE _
@[simp] theorem EH:zB (i+1) (l::ρ)=zB i ρ:=by unfold zB;rw[Ht]
def Dx(i:Nat)(ρ:PSt)(p:PV)(k:Key):R Fl:=ri .next (xB i ρ k p)
@[simp] theorem C0(k:Key):Dx i ρ p k=ri .next (xB i ρ k p):=by unfold Dx;exact IE _
def Ed(b:Bool)(i:Nat)(ρ:PSt)(v:R PV)(k:R PV):R Fl:=if b=true then lz (Dx i ρ) v (gV BY k) else .no
@[simp] theorem C1(v k:R PV):Ed true i ρ v k=lz (Dx i ρ) v (gV BY k):=by unfold Ed;exact if_pos rfl
@[simp] theorem Fp(fk fv:PSt->R PV):rf i fk fv ρ=Ed (zB i ρ) i ρ (fv ρ) (fk ρ):=by
 unfold rf zB;cases e:ρ[i]? with
 | none=>rfl
 | some x=>
  cases x with
  | own q=>
   cases q with
   | dct ks ps=>
    dsimp only;rw[C1];cases fv ρ with
    | ok p=>
     simp only[R.ok_bind];cases fk ρ with
     | ok kp=>
      simp only[R.ok_bind,jH,xT];cases eK kp with
      | none=>rfl
      | some k=>
       simp only[R.ofO_some,R.ok_bind,tj,C0];unfold xB;rw[e];dsimp only
       split <;> rfl
     | er x=>rfl
     | no=>rfl
    | er x=>rfl
    | no=>rfl
   | _=>rfl
  | _=>rfl
end
@[simp] theorem AR(a b:Int):eo (.int a) (.int b)=some (.int (a+b)):=rfl
theorem je{a b:Str}(h:a.length+b.length<=16777216):eo (.str a) (.str b)=some (.str (a++b)):=if_pos h
theorem rF{a b:List PV}(h:a.length+b.length<=16777216):eo (.lst a) (.lst b)=some (.lst (a++b)):=if_pos h
@[simp] theorem AQ(a b:List PV):eo (.tup a) (.tup b)=if a.length+b.length<=16777216 then some (.tup (a++b)) else none:=rfl
@[simp] theorem Ge(a b:Int):G3 (.int a) (.int b)=some (.int (a-b)):=rfl
theorem vn{a b:Int}(h:a.natAbs<18446744073709551616\/b.natAbs<18446744073709551616):qN (.int a) (.int b)=some (.int (a * b)):=if_pos h
theorem qg{a b:Int}(h:0<b/\b<1073741824):rj (.int a) (.int b)=some (.int (a / b)):=if_pos h
theorem ft{a b:Int}(h:0<b):cU (.int a) (.int b)=some (.int (a % b)):=if_pos h
@[simp] theorem v_lt(a b:Int):gLt (.int a) (.int b)=some (.bl (decide (a<b))):=rfl
@[simp] theorem Hj(a b:Int):gLe (.int a) (.int b)=some (.bl (decide (a<=b))):=rfl
@[simp] theorem Hk(a b:Int):gGt (.int a) (.int b)=some (.bl (decide (b<a))):=rfl
@[simp] theorem Hl(a b:Int):gGe (.int a) (.int b)=some (.bl (decide (b<=a))):=rfl
@[simp] theorem Dk(x y:Str):gLt (.str x) (.str y)=some (.bl (decide (x.cps.toList<y.cps.toList))):=rfl
@[simp] theorem Dt(a b:Int):gEq (.int a) (.int b)=some (.bl (decide (a=b))):=by simp[gEq,m4,scV,xq]
@[simp] theorem ly(a b:Str):gEq (.str a) (.str b)=some (.bl (decide (a=b))):=by simp[gEq,m4,scV,xq]
@[simp] theorem Dj(a b:Int):gNe (.int a) (.int b)=some (.bl (!decide (a=b))):=by simp[gNe,m4,scV,xq]
@[simp] theorem Dh(b:Bool):rM (.bl b)=some b:=rfl
@[simp] theorem AE(ps:List PV):rM (.lst ps)=some (!ps.isEmpty):=rfl
@[simp] theorem AF(ks:List Key)(ps:List PV):rM (.dct ks ps)=some (!ks.isEmpty):=rfl
@[simp] theorem AK(ps:List PV):iZ (.lst ps)=some (.int ps.length):=rfl
@[simp] theorem AJ(ps:List PV):iZ (.tup ps)=some (.int ps.length):=rfl
theorem fu{x:Str}(h:x.length<=16777216):iZ (.str x)=some (.int x.length):=if_pos h
@[simp] theorem Dm(ps:List PV)(i:Int):gIx (.lst ps) (.int i)=atI ps i:=rfl
@[simp] theorem Dl(ps:List PV)(i:Int):gIx (.tup ps) (.int i)=atI ps i:=rfl
theorem vo{z:Str}{i:Int}{c:Nat}(h:z.length<=16777216)(e:atI z.cps.toList i=some c):gIx (.str z) (.int i)=some (.str ⟨#[c]⟩):=by
 show (if z.length<=16777216 then (atI z.cps.toList i).map fun c=>PV.str ⟨#[c]⟩ else none)=_;rw[if_pos h,e];rfl
@[simp] theorem Do(ks:List Key)(ps:List PV)(k:PV):gIx (.dct ks ps) k=(eK k).bind fun k=>bO ks ps k:=rfl
@[simp] theorem AM(i:Int):eK (.int i)=some (.inl i):=rfl
@[simp] theorem AL(x:Str):eK (.str x)=some (.inr x):=rfl
@[simp] theorem kE(k j:Key)(ks:List Key)(p:PV)(ps:List PV):bO (k::ks) (p::ps) j=if k=j then some p else bO ks ps j:=rfl
@[simp] theorem Ds(b:Bool):zC (.bl b)=some (.int (if b then 1 else 0)):=rfl
@[simp] theorem AO(b:Int):zC (.int b)=some (.int b):=rfl
@[simp] theorem AD(ps:List PV):pQ (.lst ps)=some (.tup ps):=rfl
@[simp] theorem AC(ps:List PV):pQ (.tup ps)=some (.tup ps):=rfl
@[simp] theorem Dq(ps:List PV):eV (.lst ps)=some ps:=rfl
@[simp] theorem Dp(ps:List PV):eV (.tup ps)=some ps:=rfl
@[simp] theorem Dr(ks:List Key)(ps:List PV):eV (.dct ks ps)=some (ks.map wu):=rfl
@[simp] theorem FH(x:Str):wu (.inr x)=.str x:=rfl
@[simp] theorem Ak(ps:List PV):qQ (.lst ps)=some ((xE ps).map .tup):=rfl
@[simp] theorem Aj(x:Str):qQ (.str x)=some ((xE (fw x)).map .tup):=rfl
@[simp] theorem AH(i:Int):G4 (.int i)=if i.natAbs.log2<1920 then some (.str (toString i)) else none:=rfl
@[simp] theorem AG(x:Str):G4 (.str x)=some (.str x):=rfl
@[simp] theorem DU(x:Str):Ce (.str x)=true:=rfl
@[simp] theorem Di(ps:List PV)(lo hi:Option Int):gSl (.lst ps) lo hi=some (.lst (iN ps lo hi)):=rfl
theorem bj{α:Type}{xs:List α}{i:Int}{n:Nat}{x:α}(hi:i=n)(h:xs[n]?=some x):atI xs i=some x:=by
 subst hi;have hl:=(HM.mp h).1;unfold atI ixN;rw[if_pos (by omega),if_pos (by omega)];simpa using h
@[simp] theorem H8{α:Type}(x:α)(xs:List α):atI (x::xs) 0=some x:=bj (n:=0) rfl rfl
@[simp] theorem H0{α:Type}(x y:α)(xs:List α):atI (x::y::xs) 1=some y:=bj (n:=1) rfl rfl
@[simp] theorem GZ{α:Type}(x y z:α)(xs:List α):atI (x::y::z::xs) 2=some z:=bj (n:=2) rfl rfl
@[simp] theorem GY{α:Type}(x y z u:α)(xs:List α):atI (x::y::z::u::xs) 3=some u:=bj (n:=3) rfl rfl
theorem tY{h:Tgt}{g:PSt->R Fl}(I:Nat->PSt->Prop):∀(ps:List PV)(n:Nat)(ρ:PSt),I n ρ->
  (∀(i:Nat)(p:PV)(ρ:PSt),ps[i]?=some p->I (n+i) ρ->∃ρ1 ρ2,h p ρ=some ρ1/\(g ρ1=.ok (.next ρ2)\/g ρ1=.ok (.cont ρ2))/\I (n+i+1) ρ2)->
  ∃ρ',gq h g ps ρ=.ok (.next ρ')/\I (n+ps.length) ρ'
 | [],n,ρ,h0,_=>⟨ρ,rfl,h0⟩
 | p::ps,n,ρ,h0,hs=>by
  obtain⟨ρ1,ρ2,e1,e2,i2⟩:=hs 0 p ρ rfl h0
  obtain⟨ρ3,e3,i3⟩:=tY I ps (n+1) ρ2 i2 fun i q ρ' hq hi=>by
   have:=hs (i+1) q ρ' (by simpa using hq) (by rw[show n+(i+1)=n+1+i by omega];exact hi);rw[show n+(i+1)+1=n+1+i+1 by omega] at this;exact this
  refine⟨ρ3,?_,by rw[IG,show n+(ps.length+1)=n+1+ps.length by omega];exact i3⟩;unfold gq;rw[e1];rcases e2 with e2 | e2 <;> (simp only[R.ofO_some,R.ok_bind,e2];exact e3)
theorem wH{h:Tgt}{g:PSt->R Fl}{ps:List PV}{ρ:PSt}(I:Nat->PSt->Prop)(h0:I 0 ρ)
  (hs:∀(i:Nat)(p:PV)(ρ:PSt),ps[i]?=some p->I i ρ->∃ρ1 ρ2,h p ρ=some ρ1/\(g ρ1=.ok (.next ρ2)\/g ρ1=.ok (.cont ρ2))/\I (i+1) ρ2) :
  ∃ρ',gq h g ps ρ=.ok (.next ρ')/\I ps.length ρ':=by
 have:=tY I ps 0 ρ h0 fun i p ρ hp hi=>by
  rw[Nat.zero_add] at hi ⊢;exact hs i p ρ hp hi
 simpa using this
theorem qx(lo:Int)(n:Nat):(bM lo n).length=n:=by simp[bM]
theorem qy{lo:Int}{n i:Nat}{p:PV}(h:(bM lo n)[i]?=some p):i<n/\p=.int (lo+i):=by
 unfold bM at h;rw[HW] at h
 by_cases hi:i<n
 ·rw[Ki hi] at h
  exact⟨hi,(Ib h).symm⟩
 ·rw[Jm (by simpa using hi)] at h
  cases h
theorem forR{h:Tgt}{g:PSt->R Fl}{lo:Int}{n:Nat}{ρ:PSt}(I:Nat->PSt->Prop)(h0:I 0 ρ)
  (hs:∀(i:Nat)(ρ:PSt),i<n->I i ρ->∃ρ1 ρ2,h (.int (lo+i)) ρ=some ρ1/\(g ρ1=.ok (.next ρ2)\/g ρ1=.ok (.cont ρ2))/\I (i+1) ρ2) :
  ∃ρ',gq h g (bM lo n) ρ=.ok (.next ρ')/\I n ρ':=by
 obtain⟨ρ',e,i'⟩:=wH (ps:=bM lo n) I h0 fun i p ρ hp hi=>by
  obtain⟨hn,rfl⟩:=qy hp;exact hs i ρ hn hi
 rw[qx] at i';exact⟨ρ',e,i'⟩
theorem tX{α:Type}{enc:α->PV}{h:Tgt}{g:PSt->R Fl}{xs:List α}(I:List α->PSt->Prop)
  (hs:∀(pre:List α)(x:α)(post:List α)(ρ:PSt),xs=pre++x::post->I pre ρ->∃ρ1 ρ2,h (enc x) ρ=some ρ1/\(g ρ1=.ok (.next ρ2)\/g ρ1=.ok (.cont ρ2))/\I (pre++[x]) ρ2) :
  ∀(ys pre:List α)(ρ:PSt),xs=pre++ys->I pre ρ->∃ρ',gq h g (ys.map enc) ρ=.ok (.next ρ')/\I xs ρ'
 | [],pre,ρ,e,h0=>⟨ρ,rfl,by rw[e,Iy];exact h0⟩
 | y::ys,pre,ρ,e,h0=>by
  obtain⟨ρ1,ρ2,e1,e2,i2⟩:=hs pre y ys ρ e h0;obtain⟨ρ3,e3,i3⟩:=tX I hs ys (pre++[y]) ρ2 (by rw[e];simp) i2;refine⟨ρ3,?_,i3⟩;rw[HI];unfold gq;rw[e1];rcases e2 with e2 | e2 <;> (simp only[R.ofO_some,R.ok_bind,e2];exact e3)
theorem forM{α:Type}{enc:α->PV}{h:Tgt}{g:PSt->R Fl}{xs:List α}{ρ:PSt}(I:List α->PSt->Prop)(h0:I [] ρ)
  (hs:∀(pre:List α)(x:α)(post:List α)(ρ:PSt),xs=pre++x::post->I pre ρ->∃ρ1 ρ2,h (enc x) ρ=some ρ1/\(g ρ1=.ok (.next ρ2)\/g ρ1=.ok (.cont ρ2))/\I (pre++[x]) ρ2) :
  ∃ρ',gq h g (xs.map enc) ρ=.ok (.next ρ')/\I xs ρ':=tX I hs xs [] ρ rfl h0
end PU
namespace PU
open PySem PySem.Spec PyProof.Rows L2 PySem.SeqAt
def Dv:List PV->Option (List Key)
 | []=>some []
 | p::r=>(eK p).bind fun k=>(Dv r).map fun l=>k::l
def Gf:PV->Option (Key ⊕ List Key)
 | .tup qs=>(Dv qs).map .inr
 | p=>(eK p).map .inl
def Du:List PV->Option cI
 | []=>some []
 | p::r=>(Gf p).bind fun k=>(Du r).map fun l=>k::l
def qp:PV->Option cI
 | .tup ps=>Du ps
 | _=>none
def ij:PV->PV->Option PV
 | q,.dtt ks _=>(qp q).map fun k=>.bl (!(ks.any fun j=>decide (j=k)))
 | _,_=>none
def yD(ks:List cI)(ps:List PV)(k:cI)(p:PV):List PV:=List.zipWith (fun j q=>if j=k then p else q) ks ps
def v3(ks:List cI)(ps:List PV)(k:cI)(p:PV):PV:=if (ks.any fun j=>decide (j=k))=true then .dtt ks (yD ks ps k p) else .dtt (ks++[k]) (ps++[p])
def mR(i:Nat)(fk fv:PSt->R PV):PSt->R Fl:=fun ρ=>match ρ[i]? with
 | some (.own (.dtt ks ps))=>fv ρ >>= fun p=>fk ρ >>= fun kp=>R.ofO (qp kp) >>= fun k=>if ks.length<16777216 then .ok (.next (ρ.set i (.own (v3 ks ps k p)))) else .no
 | _=>.no
def wQ(fk fv:PSt->R PV):PSt->R PV:=fun ρ=>fk ρ >>= fun kp=>fv ρ >>= fun p=>R.ofO (qp kp) >>= fun k=>.ok (.dtt [k] [p])
variable[TW]
theorem mJ{K:HA}{H:Hp}:∀{ps:List PV}{xs:List V}{ks:List Key},Dv ps=some ks->aE K H ps xs->xs=ks.map kV
 | [],_,_,e,r=>by cases e;cases r;rfl
 | p::ps,_,_,e,⟨x,t,ex,h1,h2⟩=>by
  obtain⟨k,ek,e⟩:=HV.mp e;obtain⟨l,el,e⟩:=HQ.mp e;subst e ex;rw[HI,← dq ek h1.o,← mJ el h2]
theorem mI{K:HA}{H:Hp}:∀{ps:List PV}{xs:List V}{ks:cI},Du ps=some ks->aE K H ps xs->NV H ks xs
 | [],xs,ks,e,r=>by cases e;exact r
 | p::ps,xs,ks,e,r=>by
  obtain⟨x,t,rfl,r1,r2⟩:=r;unfold Du at e;obtain⟨k,e1,e⟩:=HV.mp e;obtain⟨l,e2,e⟩:=HQ.mp e;cases e;have ih:=mI e2 r2;cases p with
  | tup qs=>
   obtain⟨j,e3,e4⟩:=HQ.mp (show (Dv qs).map JF=some k from e1);subst e4;obtain⟨c,ys,rfl,hc,rr⟩:=r1;rw[mJ e3 rr] at hc;exact⟨c,t,rfl,hc,ih⟩
  | int i=>
   cases e1;cases (show x=.int i from r1);exact⟨t,rfl,ih⟩
  | str i=>
   cases e1;cases (show x=.str i from r1);exact⟨t,rfl,ih⟩
  | _=>cases e1
theorem lA{K:HA}{H:Hp}{p:PV}{v:V}{k:cI}(e:qp p=some k)(r:b8 K H p v):∃b,v=.ref b/\eG H b k:=by
 cases p with
 | tup ps=>
  obtain⟨a,xs,rfl,g,rr⟩:=r;exact⟨a,rfl,xs,g,mI e rr⟩
 | _=>cases e
theorem vk{kvs:List (cI×V)}{k:cI}:(mE kvs k).isSome=((kvs.map (·.1)).any fun j=>decide (j=k)):=by
 rw[Jx];unfold mE;rw[Lj]
 induction kvs with
 | nil=>rfl
 | cons kv r ih=>
  rw[J2,JB];simp only[Ja];cases decide (kv.1=k) with
  | true=>rfl
  | false=>exact ih
section
variable{X : Cx}
theorem w9(hu:X.A.units+64<cLine):OpR X (Ia .NotIn) (rP X.K ij):=by
 intro pins s σ H x y v u Q I rx ry ⟨p,q,z,hp,hq,e,k⟩;unfold ij at e;split at e
 ·rename_i ks ps
  obtain⟨kk,ek,ez⟩:=HQ.mp e;subst ez;obtain⟨a,kvs,rfl,g,e1,r⟩:=hq;cases ry;obtain⟨b,rfl,hb⟩:=lA ek hp;have dg:G6 H a (.ref b) (mE kvs kk):=.inr ⟨kvs,kk,b,g,rfl,hb,rfl⟩;refine zP (by omega) I dg rx fun s' I'=>⟨.bl _,H,I',rfl,k _ H (Same.refl H) ?_⟩;subst e1;rw[vk];rfl
 ·cases e
end
theorem oI:tB ij:=fun p q z e=>by
 unfold ij at e;split at e
 ·obtain⟨b,_,ez⟩:=HQ.mp e;exact⟨_,ez.symm⟩
 ·cases e
theorem kO{K:HA}{H:Hp}{k:cI}{p:PV}{v:V}(rp:Rep K H p v):∀{kvs:List (cI×V)}{ps:List PV},aE K H ps (kvs.map (·.2))->aE K H (yD (kvs.map (·.1)) ps k p) ((kvs.map fun kv=>if kv.1=k then (kv.1,v) else kv).map (·.2))
 | [],ps,r=>by
  cases ps with
  | nil=>rfl
  | cons q qs=>obtain⟨x,t,e,_⟩:=r;cases e
 | kv::kvs,ps,r=>by
  cases ps with
  | nil=>cases r
  | cons q qs=>
   obtain⟨x,t,e,h1,h2⟩:=r;simp only[HI,JZ] at e;obtain⟨rfl,rfl⟩:=e;have ih:=kO (k:=k) rp h2;simp only[HI,yD,Jb]
   by_cases hk:kv.1=k
   ·rw[if_pos hk,if_pos hk];exact⟨_,_,rfl,rp,ih⟩
   ·rw[if_neg hk,if_neg hk];exact⟨_,_,rfl,h1,ih⟩
theorem sd{K:HA}{H:Hp}{kvs:List (cI×V)}{ps:List PV}{k:cI}{p:PV}{v:V}(rr:aE K H ps (kvs.map (·.2)))(rp:Rep K H p v) :
  ∃ks' ps',v3 (kvs.map (·.1)) ps k p=.dtt ks' ps'/\(putK kvs k v).map (·.1)=ks'/\aE K H ps' ((putK kvs k v).map (·.2)):=by
 unfold v3;have e:((kvs.map (·.1)).any fun j=>decide (j=k))=(kvs.any fun kv=>decide (kv.1=k)):=by rw[Jx];rfl
 rw[e];unfold putK
 split
 ·refine⟨_,_,rfl,?_,kO rp rr⟩
  rw[I8];apply JU;intro kv _;simp only[Ja]
  split <;> rfl
 ·refine⟨_,_,rfl,by simp,?_⟩
  rw[IH];exact aE.append rr ⟨_,_,rfl,rp,rfl⟩
theorem vS{K:HA}{H:Hp}{a:Addr}{kvs:List (cI×V)}{ps:List PV}{k:cI}{p:PV}{v:V}(rr:aE K H ps (kvs.map (·.2)))(rp:Rep K H p v)(ha:H a=some (.dT (putK kvs k v))):bY K H a (v3 (kvs.map (·.1)) ps k p):=by
 obtain⟨ks',ps',e,e1,e2⟩:=sd (k:=k) rr rp;rw[e];exact⟨_,ha,e1,e2⟩
theorem yx{C:Cn}(i:Nat){x:Str}{ke e:Expr}{fk fv:PSt->R PV}{np pos' pos:JO}(hu:C.X.A.units+64<cLine)(hk:EV C ke fk)(hv:EV C e fv)(hN:C.X.N[i]?=some x:=by rfl)(hvis:Vis C.X.env.scope x:=by first | exact .inl rfl | exact .inr (.inl rfl) | exact .inr (.inr rfl))
  (hs:KL e (some (.Subscript (.Name x np) ke pos')) pos.line C.X.env=pure false:=by rfl) (hd:(x == ("__debug__":Str))=false:=by decide) (hcd:(x == ("__classdict__":Str))=false:=by decide) :
  SV C (.Assign [.Subscript (.Name x np) ke pos'] e pos) (mR i fk fv):=by
 intro pins s σ H D I ⟨ρ,B,S,q⟩;unfold mR at q;split at q
 ·rename_i ks ps e1
  obtain⟨a,e2,kvs,hx,ek,rr⟩:=S.vw i _ e1;refine sh (by omega) (fF hN hvis hd hcd) hk hv hs pins s σ H D I ⟨ρ,S.vw,(q.bind S.same).imp fun p _ q1 v H1 s1 r1=>⟨_,e2,ρ,S.vw.same s1,(q1.bind (S.same.trans s1)).imp fun kp _ q2 y H2 s2 r2=>?_⟩⟩;obtain⟨k,e3,q3⟩:=RS.ofO q2
  by_cases hl:ks.length<16777216
  ·rw[if_pos hl] at q3
   obtain⟨b,rfl,hb⟩:=lA e3 r2.o;subst ek;have hx2:H2 a=some (.dT kvs):=s2 _ _ (s1 _ _ hx);refine⟨a,_,rfl,yn.t hx2 hb (by rw[Il];simpa using hl),?_⟩;have kp:Kp H2 (upd H2 a (.dT (putK kvs k v))):=Kp.upd hx2 rfl;refine q3 σ _ (((S.grow s1).grow s2).turn e1 e2 (fun b hb=>az hb) ⟨a,rfl,?_⟩);exact vS (aE.kp kp _ ((rr.same s1).same s2)) (Rep.kp kp _ (r1.same s2)) ax
  ·rw[if_neg hl] at q3
   exact HJ q3
 ·exact HJ q
theorem CO{X:Cx}{pins:List (Addr×Obj)}{σ:L2.St}{H:Hp}{s:HC}{a b:Addr}{v:V}{r:HB}{A:IL}{E:HB->HC->Prop}{kvs:List (cI×V)}{k:cI}{Q:Unit->HC->Prop}(hu:A.units+16<cLine)(I:Inv X pins σ H s)
  (e:H a=some (.dT kvs)) (eb:eG H b k) (l:kvs.length<sizeLine) (rv:RelV v r) (h:∀s',Inv X pins σ (upd H a (.dT (putK kvs k v))) s'->Q () s') :
  Hx (IK X.prog X.w) A (dictSet a (.ref b) r) Q E s:=by
 obtain⟨z,hd,xs,rel,dd⟩:=CL I.hok e;have hz:xs.length<=sizeLine:=by rw[← Ij rel];exact z
 have hl:(putK kvs k v).length<=sizeLine:=by have:=eU kvs k v;omega
 refine wpAny_dictSet_heap (hsz:=hz) (knd:=fW X.prog X.w) (show A.units+8<cLine by omega) (key_of I.hok eb) dd fun h' dd' hs=>h _ ?_;obtain⟨q,es,ep,hq,h2,h3,h4,_,h5⟩:=dd';refine mq I (by rw[e];exact Kn) hs ⟨q,hq⟩ ⟨hl,hd,_,(rel.put k eb rv).keeps fun c ys ec=>?_,q,es,ep,hq,h2,h3,h4,h5⟩;rw[az (BJ ec e (fun z=>nomatch z))];exact ec
theorem wN{C:Cn}{k v:Expr}{fk fv:PSt->R PV}{pos:JO}(hu:C.X.A.units+64<cLine)(hk:EV C k fk)(hv:EV C v fv):EN C (.Dict [some k] [v] pos) (wQ fk fv):=by
 intro pins s σ H Q I ⟨ρ,vw,q⟩;have hn:=I.hok.fresh (Hu s.heap.objs.size);have I1:=I.laid (a:=s.heap.objs.size) (o:=.dT []) (h':=s.heap.push { cls:=.type "dict",data:=.dict #[] }) (t':=s.toks) (fun _ _ q=>HH _ q) (Hu _) (wO s.heap I.big)
 refine wpAny_Dict_any rfl rfl (by simp) (show 1<=15 by decide) (thn (pe hk hv sj pins _ σ _ (fun ps H3=>∃b k y,ps=[(.ref b,y)]/\eG H3 b k/\H3 s.heap.objs.size=some (.dT [])/\Q (.ref s.heap.objs.size) (upd H3 s.heap.objs.size (.dT (putK [] k y)))) I1
  ⟨ρ,vw.same (Same.new hn),(q.bind.same (Same.new hn)).imp fun kp _ q1 x H1 s1 r1=>⟨ρ,vw.same ((Same.new hn).trans s1),(q1.bind.same ((Same.new hn).trans s1)).imp fun p _ q2 y H2 s2 r2=>?_⟩⟩) fun ws s2 ⟨ps,H2,I2,rel,b,k,y,ep,hb,hd,q2⟩=>?_)
 ·obtain⟨k,ek,q3⟩:=q2.bind.ofO
  obtain⟨b,rfl,hb⟩:=lA ek (r1.same s2).o;have hd:H2 s.heap.objs.size=some (.dT []):=s2 _ _ (s1 _ _ ax);refine⟨b,k,y,rfl,hb,hd,?_⟩;have kp:Kp H2 (upd H2 s.heap.objs.size (.dT (putK [] k y))):=Kp.upd hd rfl;exact q3 s.heap.objs.size _ ((((Same.new hn).trans s1).trans s2).but hn (fun u h=>by rw[hd] at h;cases h;rfl) (fun b hb=>az hb)) hn ⟨_,ax,rfl,⟨_,_,rfl,Rep.kp kp _ r2,rfl⟩⟩
 ·subst ep
  cases rel with
  | @cons _ w _ ws h t=>
  cases t;obtain⟨w1,w2⟩:=w;cases (show w1=JA b from h.1);unfold PySem.storeAll;rw[List.forIn_cons];refine HD (HD (CO (by omega) I2 hd hb (by rw[Il];decide) h.2 fun s' I'=>HK ?_));dsimp only;rw[List.forIn_nil];exact HK ⟨.ref s.heap.objs.size,_,I',rfl,q2⟩
end PU
namespace PU
open PySem PySem.Spec PyProof.Rows L2 PySem.SeqAt
def Aw(i:Nat)(f:PSt->R PV):PSt->R Fl:=fun ρ=>match ρ[i]? with
 | some (.val (.int a))=>f ρ >>= fun q=>match q with
  | .int b=>.ok (.next (ρ.set i (.val (.int (a+b)))))
  | _=>.no
 | _=>.no
variable[TW]
theorem B4{C:Cn}{e:Expr}{f:PSt->R PV}{pos:JO}(i:Nat){x:Str}{pos':JO}(hN:C.X.N.Nodup)(he:EV C e f)
  (hf:C.X.fn x=true\/C.X.env.scope.names.lookup x=some .local:=by first | exact .inl rfl | exact .inr rfl | assumption) (hi:C.X.N[i]?=some x:=by rfl) (hx:Loc C.X.env.scope x:=by first | exact .inl rfl | exact .inr rfl) :
  SV C (.AugAssign (.Name x pos') .Add e pos) (Aw i f):=by
 intro pins s σ H D I ⟨ρ,B,S,h⟩;unfold Aw at h;split at h
 ·rename_i a e1
  obtain⟨v,ev,rv⟩:=S.vw i _ e1;cases (show v=.int a from rv);refine Bk hN hi hx he Ci hf pins s σ H D I ⟨_,ev,ρ,S.vw,(h.bind S.same).imp fun q _ k w H1 s1 r1=>?_⟩;cases q with
  | int b=>
   cases (show w=.int b from r1);exact⟨a,b,rfl,rfl,k _ H1 ((S.grow s1).setV rfl)⟩
  | _=>exact HJ k
 ·exact HJ h
end PU
namespace PU
open PySem PySem.Spec PyProof.Rows L2 PySem.SeqAt
variable[TW]
def trC(H:Hp)(l:List (Addr×Obj)):Hp:=fun b=>match l.lookup b with
 | some o=>some (.frz o (.own 0))
 | none=>H b
def drC(H:Hp)(l:List (Addr×Obj)):Hp:=fun b=>match l.lookup b with
 | some _=>none
 | none=>H b
theorem jg{H:Hp}{l:List (Addr×Obj)}{b:Addr}{o:Obj}(h:l.lookup b=some o):trC H l b=some (.frz o (.own 0)):=by unfold trC;rw[h]
theorem aS{H:Hp}{l:List (Addr×Obj)}{b:Addr}(h:l.lookup b=none):trC H l b=H b:=by unfold trC;rw[h]
theorem jZ{H:Hp}{l:List (Addr×Obj)}{b:Addr}{o:Obj}(h:l.lookup b=some o):drC H l b=none:=by unfold drC;rw[h]
theorem aX{H:Hp}{l:List (Addr×Obj)}{b:Addr}(h:l.lookup b=none):drC H l b=H b:=by unfold drC;rw[h]
structure Cls(X:Cx)(H:Hp)(s:HC)(l:List (Addr×Obj)):Prop where
 at_:∀c o,l.lookup c=some o->s.heap.get? c=some o
 fr:∀c o,l.lookup c=some o->H c=none
 bs:∀c o,l.lookup c=some o->X.base.get? c=none
 st:∀c o,l.lookup c=some o->c ∉ frs X.stack
section
variable{X : Cx}{pins : List (Addr×Obj)}{σ : L2.St}{H H' : Hp}{s s' : HC}{l : List (Addr×Obj)}
theorem Cls.out(hc:Cls X H s l){b:Addr}{o:HO}(e:H b=some o):l.lookup b=none:=by
 cases q:l.lookup b with
 | none=>rfl
 | some u=>rw[hc.fr b u q] at e;cases e
theorem CA(I:L2.Inv X pins σ H s)(hc:Cls X H s l):Env0 X.prog X.w X.K X.mg X.base X.A X.stack s (trC H l):=by
 have e:=I.env0;refine⟨e.frames,e.mod,fun b o h=>⟨(e.bs b o h).1,?_⟩,e.bsz,e.funs,fun b hb=>?_,fun b o h=>?_,e.bare⟩
 ·cases q:l.lookup b with
  | none=>rw[aS q];exact(e.bs b o h).2
  | some u=>rw[hc.bs b u q] at h;cases h
 ·cases q:l.lookup b with
  | none=>rw[aS q];exact e.frf b hb
  | some u=>exact absurd hb (hc.st b u q)
 ·cases q:l.lookup b with
  | some u=>
   rw[jg q] at h;cases h;exact⟨hc.at_ b u q,u,hc.at_ b u q⟩
  | none=>
   rw[aS q] at h;exact(e.hok b o h).stay (fun _ _ _ z=>z) (fun c z=>by rw[aS (hc.out z)];exact z) fun c xs z=>by rw[aS (hc.out z)];exact z
theorem mW(un:Un (frs X.stack) [] (trC H l) H' s.heap s'.heap){b:Addr}{o:HO}(e:H' b=some o)(n:∀q,o≠.frz q (.own 0)):l.lookup b=none:=by
 cases q:l.lookup b with
 | none=>rfl
 | some u=>
  rw[un.frzs b u _ (jg q)] at e;cases e;exact absurd rfl (n u)
theorem unC(hc:Cls X H s l)(un:Un (frs X.stack) [] (trC H l) H' s.heap s'.heap)(hok:HOk X.prog X.w H' s'.heap):Un (frs X.stack) [] H (drC H' l) s.heap s'.heap where
 keep:=fun b o e n hb hx=>by
  cases q:l.lookup b with
  | none=>exact un.keep b o e (by rw[aS q];exact n) hb hx
  | some u=>
   have h1:=hc.at_ b u q;rw[e] at h1;cases h1;exact(hok b _ (un.frzs b o _ (jg q))).1
 slot:=fun b o e n hb hx=>by
  cases q:l.lookup b with
  | none=>exact un.slot b o e (by rw[aS q];exact n) hb hx
  | some u=>exact absurd hb (hc.st b u q)
 free:=fun b o e n hx=>by
  cases q:l.lookup b with
  | none=>rw[aX q];exact un.free b o e (by rw[aS q];exact n) hx
  | some u=>exact jZ q
 there:=un.there
 tups:=fun b xs e=>by
  have q:=hc.out e;rw[aX q];exact un.tups b xs (by rw[aS q];exact e)
 frzs:=fun b o u e=>by
  have q:=hc.out e;rw[aX q];exact un.frzs b o u (by rw[aS q];exact e)
 tbls:=fun b ps e=>by
  have q:=hc.out e;rw[aX q];exact un.tbls b ps (by rw[aS q];exact e)
theorem GS(un:Un (frs X.stack) [] (trC H l) H' s.heap s'.heap)(hok:HOk X.prog X.w H' s'.heap):HOk X.prog X.w (drC H' l) s'.heap:=fun b o e=>by
 cases q:l.lookup b with
 | some u=>rw[jZ q] at e;cases e
 | none=>
  rw[aX q] at e;exact(hok b o e).stay (fun _ _ _ z=>z) (fun c z=>by rw[aX (mW un z fun _ h=>by cases h)];exact z) fun c xs z=>by rw[aX (mW un z fun _ h=>by cases h)];exact z
theorem B6(hc:Cls X H s l)(un:Un (frs X.stack) [] (trC H l) H' s.heap s'.heap)(sm:Same (trC H l) H'):Same H (drC H' l):=
 ⟨fun b o e n=>by
  have q:=hc.out e;rw[aX q];exact sm.at_ b o (by rw[aS q];exact e) n,fun b ps e=>by
  have q:=hc.out e;obtain⟨p1,e1,k1⟩:=sm.tb b ps (by rw[aS q];exact e);refine⟨p1,by rw[aX q];exact e1,fun t=>?_⟩;have t1:=k1 ⟨t.1,fun pos v h=>let ⟨c,f1,f2⟩:=t.2 pos v h;⟨c,f1,by rw[aS (hc.out f2)];exact f2⟩⟩;exact⟨t1.1,fun pos v h=>let ⟨c,f1,f2⟩:=t1.2 pos v h;⟨c,f1,by rw[aX (mW un f2 fun _ h=>by cases h)];exact f2⟩⟩⟩
theorem yi{Q:VK}{u:HB}(I:L2.Inv X pins σ H s)(hc:Cls X H s l)(h:CE X.stack X.prog X.w (trC H l) s (fun v H'=>Un (frs X.stack) [] (trC H l) H' s.heap s'.heap->Q v (drC H' l)) u s'):EP X pins σ Q u s':=by
 obtain⟨v,H',os,bare,un,hok,r,q⟩:=h;obtain⟨hh,g,d,t,os'⟩:=s';obtain rfl:os'=s.os:=os;exact⟨v,drC H' l,I.call (h':=hh) (g':=g) (d':=d) (t':=t) (ch:=[]) (unC hc un hok) (GS un hok) bare (fun b z=>absurd z (by simp)),r,q un⟩
end
mutual
def noFn:PV->Bool
 | .fn _ _=>false
 | .tup ps=>aQ ps
 | .lst ps=>aQ ps
 | .dct _ ps=>aQ ps
 | .dtt _ ps=>aQ ps
 | _=>true
def aQ:List PV->Bool
 | []=>true
 | p::ps=>noFn p && aQ ps
end
def Cf:HO->Bool
 | .tup _=>true
 | .frz _ (.lst _)=>true
 | .frz _ (.dK _)=>true
 | .frz _ (.dT _)=>true
 | _=>false
mutual
theorem Rep.pl{K:HA}{H H':Hp}(k:∀b u,H b=some u->Cf u=true->H' b=some u):∀(p:PV){v:V},noFn p=true->Rep K H p v->Rep K H' p v
 | .non,_,_,h=>h
 | .bl _,_,_,h=>h
 | .int _,_,_,h=>h
 | .str _,_,_,h=>h
 | .tup ps,_,n,⟨a,xs,e,h,r⟩=>⟨a,xs,e,k _ _ h rfl,aE.pl k ps n r⟩
 | .lst ps,_,n,⟨a,xs,e,h,r⟩=>⟨a,xs,e,by
   rcases h with⟨o,h⟩ | h
   ·exact .inl ⟨o,k _ _ h rfl⟩
   ·exact .inr h,aE.pl k ps n r⟩
 | .dct ks ps,_,n,⟨a,kvs,e,h,ek,r⟩=>⟨a,kvs,e,by
   rcases h with⟨o,h⟩ | h
   ·exact .inl ⟨o,k _ _ h rfl⟩
   ·exact .inr h,ek,aE.pl k ps n r⟩
 | .dtt ks ps,_,n,⟨a,o,kvs,e,h,ek,r⟩=>⟨a,o,kvs,e,k _ _ h rfl,ek,aE.pl k ps n r⟩
 | .fn _ _,_,n,_=>by cases n
theorem aE.pl{K:HA}{H H':Hp}(k:∀b u,H b=some u->Cf u=true->H' b=some u):∀(ps:List PV){xs:List V},aQ ps=true->aE K H ps xs->aE K H' ps xs
 | [],_,_,h=>h
 | p::ps,_,n,⟨x,r,e,h1,h2⟩=>by
  have n:(noFn p && aQ ps)=true:=n;rw[Ii] at n;exact⟨x,r,e,Rep.pl k p n.1 h1,aE.pl k ps n.2 h2⟩
end
theorem m5{u:HO}(h:Cf u=true):∀q,u≠.frz q (.own 0):=fun q e=>by subst e;cases h
end PU
namespace PU
open PySem PySem.Spec PyProof.Rows L2 PySem.SeqAt
variable[TW]
theorem uP{p:JO}{r:List HB}(l:List HB)(h:TriplesOk l):KM p (l++r)=(KM p l).or (KM p r):=by
 fun_induction TriplesOk l with
 | case1=>simp[KM]
 | case2 a t b u x rest ih=>
  simp only[Jw,KM]
  split
  ·rfl
  ·exact ih h
 | case3 l h1 h2=>exact h.elim
theorem uO{p pos:JO}{c v:HB}(h:KM p [Ko pos.line,Ko pos.col,c]=some v):v=c/\p.line=pos.line/\p.col=pos.col:=by
 simp only[KM,Ko] at h;split at h
 ·rename_i hc
  cases h;simp only[Ii,beq_iff_eq] at hc;exact⟨rfl,by omega,by omega⟩
 ·cases h
section
variable{X : Cx}{pins : List (Addr×Obj)}{σ : L2.St}{H : Hp}{s : HC}
theorem zx{H':Hp}{h':Heap}{P:Addr}{ps more:Array HB}{t':Nat}(I:L2.Inv X pins σ H s)(hP:H P=some (.tbl ps))(hx:NJ P s.heap h')(hp:H' P=some (.tbl (ps++more)))(gP:h'.get? P=some (JS (ps++more)))
  (old:∀b,b<s.heap.objs.size->b≠P->H' b=H b) (new:∀b o,s.heap.objs.size<=b->H' b=some o->cX X.prog X.w H' h' b o):L2.Inv X pins σ H' { s with heap:=h',toks:=t' }:=by
 have lt:∀b o,H b=some o->b<s.heap.objs.size:=fun b o e=>I.hok.lt e;have k:∀b o,b≠P->H b=some o->H' b=some o:=fun b o n e=>by rw[old b (lt b o e) n];exact e
 have nP:∀{b:Addr}{o:HO},H b=some o->(∀q,o≠.tbl q)->b≠P:=fun {b o} e n z=>by subst z;rw[hP] at e;cases e;exact n _ rfl
 refine I.un ⟨fun b o e n _ _=>hx b o (fun z=>by subst z;rw[hP] at n;cases n) e,fun b o e n _ _=>⟨o.slots,hx b o (fun z=>by subst z;rw[hP] at n;cases n) e⟩,
  fun b o e n _=>by rw[old b (HU e) (fun z=>by subst z;rw[hP] at n;cases n)];exact n,fun b o e _=>?_,fun b xs e=>k b _ (nP e fun _ z=>by cases z) e,fun b o u e=>k b _ (nP e fun _ z=>by cases z) e,fun b qs e=>?_⟩ fun b o e=>?_
 ·by_cases hb:b=P
  ·subst hb;exact⟨_,gP⟩
  ·exact⟨o,hx b o hb e⟩
 ·by_cases hb:b=P
  ·subst hb
   rw[hP] at e;cases e;exact⟨more,hp⟩
  ·exact⟨#[],by rw[k b _ hb e];simp⟩
 ·by_cases hl:b<s.heap.objs.size
  ·by_cases hb:b=P
   ·subst hb
    rw[hp] at e;cases e;exact gP
   ·rw[old b hl hb] at e
    refine(I.hok b o e).stay (fun c u hc q=>hx c u (fun z=>?_) q) (fun c q=>k c _ (nP q fun _ z=>by cases z) q) fun c xs q=>k c _ (nP q fun _ z=>by cases z) q;rcases hc with h | h
    ·exact hb (h▸z)
    ·exact nP h (fun _ z=>by cases z) z
  ·exact new b o (Nat.le_of_not_lt hl) e
theorem BM{F:Obj}{c':Addr}{q:Str}{h':Heap}{t':Nat}(I:L2.Inv X pins σ H s)(hk:∀b o,s.heap.get? b=some o->h'.get? b=some o)(hsz:s.heap.objs.size<=h'.objs.size)(hfr:F.isFreed=false)(hc':H c'=some (dO c' q)) :
  ∃H',L2.Inv X pins σ H' { s with heap:=h'.push F,toks:=t' }/\Same H H'/\H' h'.objs.size=some (FnAt h'.objs.size F)/\H' c'=some (dO c' q):=by
 have nf:H h'.objs.size=none:=I.hok.fresh hsz;have I1:L2.Inv X pins σ H { s with heap:=h',toks:=t' }:=I.kept (t':=t') hk;refine⟨upd H h'.objs.size (FnAt h'.objs.size F),I1.laid (a:=h'.objs.size) (t':=t') (fun _ _ q=>HH _ q) (Hu _) ⟨IC _ hfr,⟨_,IC _ hfr⟩,fun h1 h2 e k=>k _ e⟩,Same.new nf,ax,?_⟩;rw[az (bp hc' nf)];exact hc'
theorem BL{F:Obj}{c' P:Addr}{ps:Array HB}{pos:JO}{q:Str}{h':Heap}{t':Nat}(I:L2.Inv X pins σ H s)(hP:H P=some (.tbl ps))(hq:TW.qual pos.line pos.col=q)(hx:NJ P s.heap h')(hge:s.heap.objs.size<=c')(hlt:c'<h'.objs.size)(hrec:h'.CodeRec (.ref c') q)
  (htb:h'.get? P=some (JS (ps++#[Ko pos.line,Ko pos.col,.ref c']))) (hfr:F.isFreed=false) :
  ∃H',L2.Inv X pins σ H' { s with heap:=h'.push F,toks:=t' }/\Same H H'/\H' h'.objs.size=some (FnAt h'.objs.size F)/\H' c'=some (dO c' q):=by
 have gP:s.heap.get? P=some (JS ps):=I.hok P _ hP;have hPs:P<s.heap.objs.size:=HU gP;have hsz:s.heap.objs.size<=h'.objs.size:=M0 (K8 hge hlt);have nc:H c'=none:=I.hok.fresh hge;have nf:H h'.objs.size=none:=I.hok.fresh hsz;have c1:c'≠P:=Jd (HR hPs hge);have f1:h'.objs.size≠P:=Jd (HR hPs hsz);have cf:c'≠h'.objs.size:=IF hlt;obtain⟨H',hH⟩:∃H':Hp,H'=upd (upd (upd H P (.tbl (ps++#[Ko pos.line,Ko pos.col,.ref c']))) c' (dO c' q)) h'.objs.size (FnAt h'.objs.size F):=⟨_,rfl⟩;have eP:H' P=some (.tbl (ps++#[Ko pos.line,Ko pos.col,.ref c'])):=by rw[hH,az (Jg f1),az (Jg c1),ax]
 have ec:H' c'=some (dO c' q):=by rw[hH,az cf,ax]
 have ef:H' h'.objs.size=some (FnAt h'.objs.size F):=by rw[hH,ax]
 have old:∀b,b<s.heap.objs.size->b≠P->H' b=H b:=fun b hb hn=>by rw[hH,az (IF (HR hb hsz)),az (IF (HR hb hge)),az hn]
 have lt:∀b o,H b=some o->b<s.heap.objs.size:=fun b o e=>I.hok.lt e;have hx2:NJ P s.heap (h'.push F):=fun b o n e=>HH _ (hx b o n e);refine⟨H',zx (t':=t') I hP hx2 eP (HH _ htb) old fun b o hb e=>?_,⟨fun b o e n=>?_,fun b qs e=>?_⟩,ef,ec⟩
 ·by_cases hbf:b=h'.objs.size
  ·subst hbf
   rw[ef] at e;cases e;exact⟨IC _ hfr,⟨_,IC _ hfr⟩,fun h1 h2 e k=>k _ e⟩
  ·by_cases hbc:b=c'
   ·subst hbc
    rw[ec] at e;cases e;obtain⟨c2,oc,vs,tq,e1,e2,e3,e4⟩:=hrec;cases e1;refine⟨⟨b,oc,vs,tq,rfl,HH _ e2,e3,e4⟩,⟨oc,HH _ e2⟩,?_⟩;intro h1 h2 ⟨c3,oc3,vs3,tq3,g1,g2,g3,g4⟩ k;cases g1;exact⟨_,oc3,vs3,tq3,rfl,k _ g2,g3,g4⟩
   ·exfalso
    rw[hH,az hbf,az hbc,az (Jd (HR hPs hb)),I.hok.fresh hb] at e;cases e
 ·have hb:b≠P:=fun z=>by subst z;rw[hP] at e;cases e;cases n
  rw[old b (lt b o e) hb];exact e
 ·have keep:∀d q,H d=some (dO d q)->H' d=some (dO d q):=fun d q e=>by
   rw[old d (lt d _ e) (fun z=>by subst z;rw[hP] at e;cases e)];exact e
  by_cases hb:b=P
  ·subst hb
   rw[hP] at e;cases e;refine⟨_,eP,fun t=>⟨?_,fun p v hv=>?_⟩⟩
   ·rw[NU]
    exact TriplesOk_snoc _ _ _ _ t.1
   ·rw[NU,uP _ t.1] at hv
    cases hl:KM p ps.toList with
    | some u=>
     rw[hl] at hv;cases hv;obtain⟨d,d1,d2⟩:=t.2 p _ hl;exact⟨d,d1,keep d _ d2⟩
    | none=>
     rw[hl] at hv;obtain⟨e1,e2,e3⟩:=uO hv;subst e1;exact⟨c',rfl,by rw[e2,e3,hq];exact ec⟩
  ·refine⟨qs,by rw[old b (lt b _ e) hb];exact e,fun t=>⟨t.1,fun p v hv=>?_⟩⟩
   obtain⟨d,d1,d2⟩:=t.2 p v hv;exact⟨d,d1,keep d _ d2⟩
def Bn (X:Cx):Prop:=∃bm o,X.mg "__builtins__"=some (.ref bm)/\bm≠Iv/\bm≠mainGlobals/\X.base.get? bm=some o/\o.cls=.type "module"/\o.dict=some Iv/\o.data=.plain
theorem Fe{P:Addr}{ps:Array HB}(I:L2.Inv X pins σ H s)(hP:H P=some (.tbl ps))(hbn:Bn X):mainGlobals≠P/\s.heap.BuiltinsAt X.mg P:=by
 have nb:∀b o,X.base.get? b=some o->b≠P:=fun b o e z=>by subst z;have:=(I.bs b o e).2;rw[hP] at this;cases this
 obtain⟨bm,ob,b1,b2,b3,b4,b5,b6,b7⟩:=hbn;refine⟨?_,bm,ob,b1,b2,b3,nb _ _ b4,I.bk _ _ b4,b5,b6,b7⟩;obtain⟨o,es,ep,e,_⟩:=I.mod.glob;exact nb _ o e
theorem CN{name:Str}{params:Arguments}{body:List Stmt}{scope:Scope}{pos:JO}{c P:Addr}{ps:Array HB}{Q:Flow->HC->Prop}{E:HB->HC->Prop}(I:L2.Inv X pins σ H s)(hP:H P=some (.tbl ps))(tk:TOk H ps)(hcode:X.env.code=.ref c)
  (CH:ME X.base c P) (hbn:Bn X) (hd0:params.defaults=[]) (hk0:params.kw_defaults=[]) (ha:annTrees params none X.env=[])
  (hq:TW.qual pos.line pos.col=LU X.env name name) (hfree:∀y∈scope.names,y.2=.free->∃c,X.env.cells.lookup y.1=some c)
  (h:∀f c' doc pm ct H' s',L2.Inv X pins σ H' s'->Same H H'->H' f=some (FnAt f (MD name (LU X.env name name) params body scope (df X.env.cells scope.names []) doc pm c' ct))->H' c'=some (dO c' (LU X.env name name))->
   Hx (IK X.prog X.w) X.A (Nk X.env name (.ref f)) (fun _ s''=>Q .next s'') E s') :
  Hx (IK X.prog X.w) X.A (exec (.FunctionDef name params body [] none [] scope none name pos) X.env) Q E s:=by
 have gP:s.heap.get? P=some (JS ps):=I.hok P _ hP;have hg:s.heap.Ns mainGlobals X.mg:=I.mod.glob.keeps I.bk;obtain⟨hgP,hB⟩:=Fe I hP hbn;refine PySem.W.nestDef_K hd0 hk0 ha ?_;cases hf:KM pos ps.toList with
 | some cv=>
  obtain⟨c',rfl,hc'⟩:=tk.2 pos cv hf;rw[hq] at hc';refine PySem.W.makeFunction_hit (mg:=X.mg) (bP hfree) I.ok.glob hg hcode (CH.keeps I.bk) gP tk.1 hf hB fun ctv doc h' t' hk hsz=>?_;obtain⟨H',I',sm,e1,e2⟩:=BM (t':=t') (F:=MD name (LU X.env name name) params body scope (df X.env.cells scope.names []) doc ((X.mg "__name__").getD .none) c' ctv) I hk hsz rfl hc';exact h _ c' doc _ ctv H' _ I' sm e1 e2
 | none=>
  refine PySem.W.makeFunction_K (mg:=X.mg) (bP hfree) I.ok.glob hg hcode (CH.keeps I.bk) gP tk.1 hf hgP hB fun c' ctv doc h' t' hx hge hlt hrec htb=>?_;obtain⟨H',I',sm,e1,e2⟩:=BL (t':=t') (F:=MD name (LU X.env name name) params body scope (df X.env.cells scope.names []) doc ((X.mg "__name__").getD .none) c' ctv) I hP hq hx hge hlt hrec htb rfl;exact h _ c' doc _ ctv H' _ I' sm e1 e2
end
end PU
namespace PU
open PySem PySem.Spec PyProof.Rows L2 PySem.SeqAt
variable[TW]
structure LScope(ps fr ls:List Str)(sc:Scope):Prop where
 kind:sc.kind=.function
 co:sc.isCoroutine=false
 gen:sc.isGenerator=false
 nocell:∀x∈sc.names,x.2≠.cell
 par:∀x∈ps,sc.names.lookup x=some .local
 fre:∀x,sc.names.lookup x=some .free->x∈fr
 frk:∀x∈fr,sc.names.lookup x=some .free
 nd:(ps++fr++ls).Nodup
def cxL(P:HX)(w:IA)(K:HA)(mg:Str->Option HB)(base:Heap)(N:List Str)(qual:Str)(scope:Scope)(f:Addr)(cd:HB)(cl:List (Str×Addr))(A:IL)(outer:List M5)(s:HC)(H:Hp):Cx where
 prog:=P
 w:=w
 K:=K
 mg:=mg
 base:=base
 A:=A.deeper (K7 qual scope s.heap.objs.size f cd cl)
 N:=N
 s₀:=s
 H₀:=H
 env:=K7 qual scope s.heap.objs.size f cd cl
 outer:=outer
 stack:=K7 qual scope s.heap.objs.size f cd cl::outer
 ex:=[]
 calm:=true
 fn:=fun _=>false
 pn:=[]
 xe:=fun _ _=>False
theorem nj{cl:List (Str×Addr)}(nd:(cl.map (·.1)).Nodup):∀{i:Nat}{x:Str}{c:Addr},cl[i]?=some (x,c)->cl.lookup x=some c:=by
 induction cl with
 | nil=>intro i x c h;simp at h
 | cons p r ih=>
  intro i x c h;obtain⟨y,d⟩:=p;rw[HI,IX] at nd;cases i with
  | zero=>simp at h;obtain⟨rfl,rfl⟩:=h;simp[NR]
  | succ i=>
   have h:r[i]?=some (x,c):=by simpa using h
   have hne:(x == y)=false:=by
    rw[beq_eq_false_iff_ne];rintro rfl;exact nd.1 (HN.mpr ⟨_,II h,rfl⟩)
   rw[IR,hne];exact ih nd.2 h
theorem BN{cl:List (Str×Addr)}{x:Str}{c:Addr}(h:cl.lookup x=some c):∃i:Nat,cl[i]?=some (x,c):=by
 have:=IQ h;obtain⟨i,hi,e⟩:=JV this;exact⟨i,by rw[Ic hi,e]⟩
theorem tF{x y:Str}{c:Addr}:∀{cl:List (Str×Addr)},(cl.map (·.2)).Nodup->(x,c)∈cl->(y,c)∈cl->x=y
 | [],_,h,_=>nomatch h
 | (z,d)::r,nd,h1,h2=>by
  rw[HI,IX] at nd;rcases Hr.mp h1 with e1 | m1
  ·rcases Hr.mp h2 with e2 | m2
   ·cases e1;cases e2;rfl
   ·cases e1
    exact(nd.1 (HN.mpr ⟨_,m2,rfl⟩)).elim
  ·rcases Hr.mp h2 with e2 | m2
   ·cases e2
    exact(nd.1 (HN.mpr ⟨_,m1,rfl⟩)).elim
   ·exact tF nd.2 m1 m2
theorem Ck{cl:List (Str×Addr)}(nd:(cl.map (·.2)).Nodup){x y:Str}{c:Addr}(h1:cl.lookup x=some c)(h2:cl.lookup y=some c):x=y:=
 tF nd (IQ h1) (IQ h2)
theorem qH{cl:List (Str×HB)}(nd:(cl.map (·.1)).Nodup):∀{i:Nat}{x:Str}{c:HB},cl[i]?=some (x,c)->cl.lookup x=some c:=by
 induction cl with
 | nil=>intro i x c h;simp at h
 | cons p r ih=>
  intro i x c h;obtain⟨y,d⟩:=p;rw[HI,IX] at nd;cases i with
  | zero=>simp at h;obtain⟨rfl,rfl⟩:=h;simp[NR]
  | succ i=>
   have h:r[i]?=some (x,c):=by simpa using h
   have hne:(x == y)=false:=by
    rw[beq_eq_false_iff_ne];rintro rfl;exact nd.1 (HN.mpr ⟨_,II h,rfl⟩)
   rw[IR,hne];exact ih nd.2 h
theorem qf{ps:List Str}{us:List HB}(nd:ps.Nodup)(hl:us.length=ps.length){i:Nat}{x:Str}{u:HB}(h1:ps[i]?=some x)(h2:us[i]?=some u):(ps.zip us).reverse.lookup x=some u:=by
 have hm:(x,u)∈ps.zip us:=by
  refine II (i:=i) ?_;rw[Mg];exact⟨h1,h2⟩
 have hn:((ps.zip us).map (·.1)).Nodup:=by
  rw[List.map_fst_zip (by omega)];exact nd
 have hr:((ps.zip us).reverse.map (·.1)).Nodup:=by rw[List.map_reverse];exact List.pairwise_reverse.mpr (List.Pairwise.imp (fun h=>Jg h) hn)
 obtain⟨j,hj,e⟩:=JV (List.mem_reverse.mpr hm);exact qH hr (by rw[Ic hj,e])
section
variable{P : HX}{w : IA}{K : HA}{mg : Str → Option HB}{base : Heap}{ps fr ls : List Str}{qual : Str}{scope : Scope}{f : Addr}{cd : HB}{cl : List (Str×Addr)}{A : IL}{outer : List M5}{s : HC}{H : Hp}{l : List (Addr×Obj)}
theorem sY{us:List HB}{vs xs:List V}{h':Heap}{t':Nat}(S:LScope ps fr ls scope)(hd:A.handled=none)(e0:Env0 P w K mg base A outer s H)(hl:∀c o,l.lookup c=some o->H c=some (.frz o (.own 0)))
  (hcl:cl.map (·.1)=fr) (nd:(cl.map (·.2)).Nodup) (hxs:xs.length=cl.length) (hx:∀(i:Nat)(x:Str)(c:Addr),cl[i]?=some (x,c)->∃v o u,xs[i]?=some v/\l.lookup c=some o/\o.data=.cell (some u)/\RelV v u)
  (r:Vals vs us) (hv:vs.length=ps.length) (ns:h'.Ns s.heap.objs.size (fun x=>(ps.zip us).reverse.lookup x)) (hk:∀b o,s.heap.get? b=some o->h'.get? b=some o) :
  L2.Inv (cxL P w K mg base (ps++fr++ls) qual scope f cd cl A outer s (drC H l)) [] ((vs++xs).map some++IM ls.length none) (drC H l) { s with heap:=h',toks:=t' }:=by
 have noA:∀b:Addr,b ∉ ([]:List Addr):=fun b z=>nomatch z;have ndf:(cl.map (·.1)).Nodup:=by rw[hcl];exact(JP.mp (JP.mp S.nd).1).2.1
 have ndp:ps.Nodup:=(JP.mp (JP.mp S.nd).1).1
 have N5:∀x c,cl.lookup x=some c->∃(i:Nat)(v:V)(o:Obj)(u:HB),cl[i]?=some (x,c)/\xs[i]?=some v/\l.lookup c=some o/\o.data=.cell (some u)/\RelV v u/\s.heap.get? c=some o:=fun x c h=>by
  obtain⟨i,e⟩:=BN h;obtain⟨v,o,u,e1,e2,e3,e4⟩:=hx i x c e;exact⟨i,v,o,u,e,e1,e2,e3,e4,(e0.hok c _ (hl c o e2)).1⟩
 have drn:∀b,H b=none->drC H l b=none:=fun b n=>by
  cases q:l.lookup b with
  | none=>rw[aX q];exact n
  | some o=>exact jZ q
 have hok:HOk P w (drC H l) s.heap:=fun b o e=>by
  cases q:l.lookup b with
  | some u=>rw[jZ q] at e;cases e
  | none=>
   rw[aX q] at e
   have out:∀{c:Addr}{o:HO},H c=some o->(∀q,o≠.frz q (.own 0))->l.lookup c=none:=fun {c o} e n=>by
    cases q:l.lookup c with
    | none=>rfl
    | some u=>rw[hl c u q] at e;cases e;exact absurd rfl (n u)
   exact(e0.hok b o e).stay (fun _ _ _ z=>z) (fun c z=>by rw[aX (out z fun _ h=>by cases h)];exact z) fun c xs z=>by rw[aX (out z fun _ h=>by cases h)];exact z
 refine⟨⟨e0.mod,S.kind,rfl,rfl,Hu _,fun y z c h1 h2=>Ck nd h1 h2,fun y hy=>?_,fun y c h _=>(by cases h),fun _=>hd,Mv e0.frames,.inr ⟨rfl,rfl⟩,fun b z=>absurd z (noA b),fun b o e=>⟨(e0.bs b o e).1,drn b (e0.bs b o e).2⟩,e0.bsz,fun b _ _=>noA b,fun b z=>absurd z (noA b),e0.funs,fun b hb=>drn b (e0.frf b hb)⟩,
  rfl,e0.bare,Un.kept hk,⟨_,ns,fun i y v h1 h2 h3=>?_⟩,fun y c h=>?_,drn _ (e0.hok.fresh (Hu _)),fun y c h=>?_,fun p hp=>absurd (show p∈([]:List (Addr×Obj)) from hp) (by simp),hok.kept hk,?_⟩
 ·have hy:scope.names.lookup y=some .cell\/scope.names.lookup y=some .free:=hy
  rcases hy with hy | hy
  ·exact absurd rfl (S.nocell _ (IQ hy))
  ·have:=S.fre y hy
   rw[← hcl] at this;obtain⟨p,hp,e⟩:=HN.mp this;obtain⟨i,hi,e2⟩:=JV hp;obtain⟨a,b⟩:=p;cases e;exact⟨b,nj ndf (by rw[Ic hi,e2])⟩
 ·have h1:(ps++fr++ls)[i]?=some y:=h1
  have hlf:fr.length=cl.length:=by rw[← hcl,HF]
  have hi:i<(vs++xs).length:=by
   refine Nat.lt_of_not_le fun hge=>?_;rw[IJ (by rw[HF];exact hge)] at h2;have:=(Lk.mp (II h2)).2;cases this
  rw[HZ (by rw[HF];exact hi),HW] at h2;rw[HZ (by rw[Hv] at hi ⊢;omega)] at h1;obtain⟨v',h2,e⟩:=HQ.mp h2;cases e
  by_cases hi:i<ps.length
  ·rw[HZ hi] at h1
   rw[HZ (by omega)] at h2;obtain⟨u,hu,rv⟩:=r.get h2;exact⟨u,rv,.inl ⟨S.par y (II h1),qf ndp (by rw[← r.length];exact hv) h1 hu⟩⟩
  ·rw[IJ (by omega)] at h1
   rw[IJ (by omega),hv] at h2;have hf:=S.frk y (II h1);rw[← hcl,HW] at h1;obtain⟨p,g1,e⟩:=HQ.mp h1;obtain⟨a,c⟩:=p;cases e;obtain⟨v2,o,u,e1,e2,e3,e4⟩:=hx _ _ _ g1;rw[h2] at e1;cases e1;exact⟨u,e4,.inr ⟨.inr hf,c,nj ndf g1,o,hk _ _ (e0.hok c _ (hl c o e2)).1,e3⟩⟩
 ·obtain⟨i,v,o,u,_,_,_,e3,_,e5⟩:=N5 y c h
  exact⟨_,o,hk _ _ e5,e3⟩
 ·obtain⟨i,v,o,u,_,_,e2,_,_,_⟩:=N5 y c h
  exact jZ e2
 ·show _=(ps++fr++ls).length
  rw[Hv,HF,Hv,Hv,Hv,hv,hxs,← hcl,HF,Jl]
theorem sZ{v:V}{H1:Hp}{u:HB}{s':HC}{p:PV}{pins:List (Addr×Obj)}{N:List Str}{σ':L2.St}{Q:VK}(e0:Env0 P w K mg base A outer s H)(hl:∀c o,l.lookup c=some o->H c=some (.frz o (.own 0)))
  (J:L2.Inv (cxL P w K mg base N qual scope f cd cl A outer s (drC H l)) pins σ' H1 s') (rv:RelV v u) (sm:Same (drC H l) H1) (rp:Rep K H1 p v) (hQ:∀v H',Same H H'->Rep K H' p v->Q v H'):CE outer P w H s Q u s':=by
 have out:∀{b:Addr}{o:HO},H b=some o->(∀q,o≠.frz q (.own 0))->l.lookup b=none:=fun {b o} e n=>by
  cases q:l.lookup b with
  | none=>rfl
  | some u=>rw[hl b u q] at e;cases e;exact absurd rfl (n u)
 have outn:∀{b:Addr},H b=none->l.lookup b=none:=fun {b} n=>by
  cases q:l.lookup b with
  | none=>rfl
  | some u=>rw[hl b u q] at n;cases n
 have drn:∀{b:Addr},H b=none->drC H l b=none:=fun {b} n=>by rw[aX (outn n)];exact n
 have tok:∀{qs:Array HB},TOk H qs->TOk (drC H l) qs:=fun t=>⟨t.1,fun pos v h=>let ⟨c,f1,f2⟩:=t.2 pos v h;⟨c,f1,by rw[aX (out f2 fun _ h=>by cases h)];exact f2⟩⟩;have un:Un (frs outer) [] (drC H l) H1 s.heap s'.heap:=J.base
 have n1:∀{c:Addr}{o:Obj},l.lookup c=some o->H1 c=none/\s'.heap.get? c=some o:=fun {c o} q=>by
  have g:=(e0.hok c _ (hl c o q)).1;refine⟨un.free c o g (jZ q) (by simp),un.keep c o g (jZ q) (fun z=>?_) (by simp)⟩;have:=e0.frf c z;rw[hl c o q] at this;cases this
 have out1:∀{b:Addr}{o:HO},H1 b=some o->l.lookup b=none:=fun {b o} e=>by
  cases q:l.lookup b with
  | none=>rfl
  | some u=>rw[(n1 q).1] at e;cases e
 refine⟨v,trC H1 l,J.os,J.bare,⟨fun b o e n hb hx=>un.keep b o e (drn n) hb hx,fun b o e n hb hx=>un.slot b o e (drn n) hb hx,fun b o e n hx=>by rw[aS (outn n)];exact un.free b o e (drn n) hx,un.there,fun b ys e=>?_,fun b o u e=>?_,fun b qs e=>?_⟩,fun b o e=>?_,rv,hQ v _ ⟨fun b o e n=>?_,fun b qs e=>?_⟩ (rp.same (.of fun b o e=>by rw[aS (out1 e)];exact e))⟩
 ·have q:=out e fun _ h=>by cases h
  rw[aS q];exact un.tups b ys (by rw[aX q];exact e)
 ·cases q:l.lookup b with
  | some o'=>rw[hl b o' q] at e;cases e;exact jg q
  | none=>rw[aS q];exact un.frzs b o u (by rw[aX q];exact e)
 ·have q:=out e fun _ h=>by cases h
  rw[aS q];exact un.tbls b qs (by rw[aX q];exact e)
 ·cases q:l.lookup b with
  | some o'=>
   rw[jg q] at e;cases e;exact⟨(n1 q).2,o',(n1 q).2⟩
  | none=>
   rw[aS q] at e;exact(J.hok b o e).stay (fun _ _ _ z=>z) (fun c z=>by rw[aS (out1 z)];exact z) fun c xs z=>by rw[aS (out1 z)];exact z
 ·cases q:l.lookup b with
  | some o'=>rw[hl b o' q] at e;cases e;exact jg q
  | none=>rw[aS q];exact sm.at_ b o (by rw[aX q];exact e) n
 ·have q:=out e fun _ h=>by cases h
  obtain⟨p1,e1,k1⟩:=sm.tb b qs (by rw[aX q];exact e);refine⟨p1,by rw[aS q];exact e1,fun t=>?_⟩;have t1:=k1 (tok t);exact⟨t1.1,fun pos v h=>let ⟨c,f1,f2⟩:=t1.2 pos v h;⟨c,f1,by rw[aS (out1 f2)];exact f2⟩⟩
theorem wk{vs xs:List V}{qs cs:List PV}(n:Nat)(hl:∀c o,l.lookup c=some o->H c=some (.frz o (.own 0)))(rq:aE K H qs vs)(rc:aE K H cs xs)(nq:aQ qs=true)(nc:aQ cs=true)(tb:qZ H) :
  View K (drC H l) ((vs++xs).map some++IM n none) ((qs++cs).map .val++IM n .no):=by
 have out:∀{b:Addr}{o:HO},H b=some o->(∀q,o≠.frz q (.own 0))->l.lookup b=none:=fun {b o} e n=>by
  cases q:l.lookup b with
  | none=>rfl
  | some u=>rw[hl b u q] at e;cases e;exact absurd rfl (n u)
 have pl:∀b u,H b=some u->Cf u=true->drC H l b=some u:=fun b u e h=>by rw[aX (out e (m5 h))];exact e
 have tok:∀{qs:Array HB},TOk H qs->TOk (drC H l) qs:=fun t=>⟨t.1,fun pos v h=>let ⟨c,f1,f2⟩:=t.2 pos v h;⟨c,f1,by rw[aX (out f2 fun _ h=>by cases h)];exact f2⟩⟩;have rr:aE K (drC H l) (qs++cs) (vs++xs):=aE.append (aE.pl pl qs nq rq) (aE.pl pl cs nc rc);have hlen:=rr.length;refine⟨fun i z ez=>?_,fun P hP=>?_⟩
 ·by_cases hi:i<(qs++cs).length
  ·rw[HZ (by rw[HF];exact hi),HW] at ez
   obtain⟨q,eq,e2⟩:=HQ.mp ez;cases e2;obtain⟨v,ev,rp⟩:=rr.get eq;exact⟨v,by rw[HZ (by rw[HF,← hlen];exact hi),HW,ev];rfl,rp⟩
  ·rw[IJ (by rw[HF];omega)] at ez
   rw[(Lk.mp (II ez)).2];exact trivial
 ·obtain⟨qs',e1,t⟩:=tb P hP
  exact⟨qs',by rw[aX (out e1 fun _ h=>by cases h)];exact e1,tok t⟩
def oP(n:Nat)(g:PSt->R Fl):PSt->R PV:=fun ρ=>match g (ρ++IM n .no) with
 | .ok (.ret p)=>.ok p
 | .er x=>.er x
 | _=>.no
def lx(C:Cn)(n:Nat)(fe:PSt->R PV):FuncBody->Prop
 | .expr b=>n=0/\EV C b fe
 | .stmts b=>∃g,SVs C b g/\fe=oP n g
theorem sX{k:Nat}{L:Lam}{pm:HB×HB}{ct:HB}{c:Addr}{us:List HB}{vs xs:List V}{qs cs:List PV}{p:PV}{fe:PSt->R PV}{Q:VK}{E:XK}(S:LScope ps fr ls L.scope)(hr:Room (k+1) A)(e0:Env0 P w K mg base A outer s H)
  (hf:H f=some (FnAt f (jE L cl pm c ct))) (hc:H c=some (dO c L.qual)) (hl:∀c o,l.lookup c=some o->H c=some (.frz o (.own 0)))
  (hcl:cl.map (·.1)=fr) (nd:(cl.map (·.2)).Nodup) (hxs:xs.length=cl.length) (hx:∀(i:Nat)(x:Str)(c:Addr),cl[i]?=some (x,c)->∃v o u,xs[i]?=some v/\l.lookup c=some o/\o.data=.cell (some u)/\RelV v u)
  (hb:MO (qJ L cl pm (.ref c) ct) ⟨us,[]⟩=pure (ps.zip us))
  (hbody:lx ⟨cxL P w K mg base (ps++fr++ls) L.qual L.scope f (.ref c) cl A outer s (drC H l),fun _ _=>False⟩ ls.length fe L.body)
  (r:Vals vs us) (hv:vs.length=ps.length) (rq:aE K H qs vs) (rc:aE K H cs xs) (nq:aQ qs=true) (nc:aQ cs=true) (tb:qZ H) (e:fe ((qs++cs).map .val)=.ok p)
  (hQ:∀v H',Same H H'->Rep K H' p v->Q v H') :
  LB (IK P w) A (.call (.ref f) ⟨us,[]⟩) (CR CX0 outer P w H s Q E) s:=by
 have lim:s.heap.NoLimit:=e0.mod.nolimit.keeps fun b o e=>(e0.bs b o e).1;have vw:=wk (H:=H) ls.length hl rq rc nq nc tb;cases hB:L.body with
 | expr body=>
  rw[hB] at hbody;obtain⟨n0,hbody⟩:=hbody;refine PySem.W.kla_callFunE (fd:=qJ L cl pm (.ref c) ct) (body:=body) (by have:=hr.dp;omega) (e0.hok f _ hf).1 rfl S.co S.gen hB (e0.hok c _ hc).1 ?_;rw[hb];refine HK (wpAny_newFunctionEnv S.nocell (fun y hy=>S.par _ (Kg hy).1) (fun h₁ hns hsb=>⟨lim.fresh _ hsb,?_⟩) S.kind);have hk:∀b o,s.heap.get? b=some o->h₁.get? b=some o:=fun b o e=>hsb.extBut b o (IF (HU e)) (HH _ e);have I:=sY (ls:=ls) (qual:=L.qual) (f:=f) (cd:=.ref c) (t':=s.toks+(ps.zip us).length) S hr.hd e0 hl hcl nd hxs hx r hv hns hk;show LB _ _ (.expr body (K7 L.qual L.scope s.heap.objs.size f (.ref c) cl)) _ _;rw[n0] at vw;refine PySem.W.kla_codeExpr (JG (hbody [] _ _ _ (fun v H1=>Same (drC H l) H1/\Rep K H1 p v) I ⟨_,by rw[n0];exact vw,by simp only[List.replicate_zero,Iy];rw[e];exact fun v H' s' r'=>⟨s',r'⟩⟩) (fun u s' hq=>?_) fun _ _ h=>HJ h);obtain⟨v,H1,J,rv,sm,rp⟩:=hq;exact sZ e0 hl J rv sm rp hQ
 | stmts body=>
  rw[hB] at hbody;obtain⟨g,hbody,rfl⟩:=hbody;refine codeAny_call_def (fd:=qJ L cl pm (.ref c) ct) (body:=body) (binds:=ps.zip us) (by have:=hr.dp;omega) (e0.hok f _ hf).1 rfl lim (e0.hok c _ hc).1 hB (.of_eq hb) S.nocell (fun y hy=>S.par _ (Kg hy).1) (fun h₁ hns hk=>?_) S.co S.gen S.kind;have I:=sY (ls:=ls) (qual:=L.qual) (f:=f) (cd:=.ref c) (t':=s.toks+(ps.zip us).length) S hr.hd e0 hl hcl nd hxs hx r hv hns hk;show Hx _ (A.deeper (K7 L.qual L.scope s.heap.objs.size f (.ref c) cl)) (execs body (K7 L.qual L.scope s.heap.objs.size f (.ref c) cl)) _ _ _
  have eg:g ((qs++cs).map .val++IM ls.length .no)=.ok (.ret p):=by
   unfold oP at e;split at e
   ·rename_i q hq;cases e;exact hq
   ·cases e
   ·cases e
  have S0:StOk K (drC H l,drC H l) (drC H l) ((vs++xs).map some++IM ls.length none) ((qs++cs).map .val++IM ls.length .no):=by
   have nown:∀(i:Nat)(z:Sl),((qs++cs).map Sl.val++IM ls.length .no)[i]?=some z->z=.no\/∃q,z=.val q:=fun i z ez=>by
    have:=II ez;rcases IV.mp this with m | m
    ·obtain⟨q,_,rfl⟩:=HN.mp m;exact .inr ⟨q,rfl⟩
    ·exact .inl (Lk.mp m).2
   refine⟨?_,Same.refl _,Kp.refl _,vw,fun i p a e=>?_,fun i j p q a e=>?_,fun i ps a e=>?_⟩
   ·have h1:=rq.length
    have h2:=rc.length;simp only[Hv,HF,Jl];omega
   ·rcases nown _ _ e with z | ⟨q,z⟩ <;> cases z
   ·rcases nown _ _ e with z | ⟨q,z⟩ <;> cases z
   ·rcases nown _ _ e with z | ⟨q,z⟩ <;> cases z
  refine JG (hbody [] _ _ _ { nx:=fun _ _=>False,rt:=fun v H1=>Same (drC H l) H1/\Rep K H1 p v } I ⟨_,_,S0,by rw[eg];exact fun v H' s' r'=>⟨s',r'⟩⟩) (fun fl s' hq=>?_) fun _ _ h=>HJ h;cases fl with
  | ret u=>
   obtain⟨v,σ',H1,J,rv,sm,rp⟩:=hq;exact sZ e0 hl J rv sm rp hQ
  | next=>obtain⟨_,_,_,hq⟩:=hq;exact HJ hq
  | brk=>obtain⟨_,_,_,hq⟩:=hq;exact HJ hq
  | cont=>obtain⟨_,_,_,hq⟩:=hq;exact HJ hq
end
end PU
namespace PU
open PySem PySem.Spec PyProof.Rows L2 PySem.SeqAt
variable[TW]
theorem il{H:Hp}:∀{cl:List (Str×Addr)}{xs:List V},dX H cl xs->xs.length=cl.length/\∃l:List (Addr×Obj),(∀c o,l.lookup c=some o->H c=some (.frz o (.own 0)))/\
  ∀(i:Nat)(x:Str)(c:Addr),cl[i]?=some (x,c)->∃v o u,xs[i]?=some v/\l.lookup c=some o/\o.data=.cell (some u)/\RelV v u
 | [],xs,h=>by cases h;exact⟨rfl,[],fun c o h=>(by cases h),fun i x c h=>(by simp at h)⟩
 | p::cl,_,⟨x,r,o,u,e,h,d,v,t⟩=>by
  subst e;obtain⟨hl,l,h1,h2⟩:=il t
  have look:∀c o',((p.2,o)::l).lookup c=some o'->H c=some (.frz o' (.own 0)):=fun c o' e=>by
   rw[IR] at e;cases hb:(c == p.2) with
   | true=>rw[hb] at e;cases e;rw[K6 hb];exact h
   | false=>rw[hb] at e;exact h1 c o' e
  refine⟨by simp[hl],(p.2,o)::l,look,fun i y c e=>?_⟩;cases i with
  | zero=>
   simp at e;subst e;exact⟨x,o,u,rfl,by simp[NR],d,v⟩
  | succ i=>
   obtain⟨v',o',u',e1,e2,e3,e4⟩:=h2 i y c (by simpa using e);refine⟨v',o',u',by simpa using e1,?_,e3,e4⟩;rw[IR];cases hb:(c == p.2) with
   | false=>exact e2
   | true=>
    have:=h1 c o' e2;rw[K6 hb,h] at this;cases this;rfl
structure LamB(P:HX)(w:IA)(K:HA)(mg:Str->Option HB)(base:Heap)(k:Nat)(L:Lam)(ps ls:List Str)(fe:PSt->R PV):Prop where
 sc:LScope ps L.kept ls L.scope
 bd:∀(cl:List (Str×Addr))(pm:HB×HB)(ct:HB)(c:Addr)(us:List HB),us.length=ps.length->MO (qJ L cl pm (.ref c) ct) ⟨us,[]⟩=pure (ps.zip us)
 ev:∀(f c:Addr)(cl:List (Str×Addr))(A:IL)(outer:List M5)(s:HC)(H:Hp),Room k (A.deeper (K7 L.qual L.scope s.heap.objs.size f (.ref c) cl))->
  lx ⟨cxL P w K mg base (ps++L.kept++ls) L.qual L.scope f (.ref c) cl A outer s H,fun _ _=>False⟩ ls.length fe L.body
def D0(P:HX)(w:IA)(K:HA)(mg:Str->Option HB)(base:Heap)(k:Nat)(app:Lam->List PV->List PV->Option PV):Prop:=
 ∀L qs cs p,app L qs cs=some p->∃ps ls fe,LamB P w K mg base k L ps ls fe/\qs.length=ps.length/\fe ((qs++cs).map .val)=.ok p
def kj(i:Nat)(fs:PSt->R (List PV))(app:Lam->List PV->List PV->Option PV):PSt->R PV:=fun ρ=>match ρ[i]? with
 | some (.val (.fn L cs))=>fs ρ >>= fun qs=>if aQ qs=true/\aQ cs=true then R.ofO (app L qs cs) else .no
 | _=>.no
theorem me{C:Cn}{x:Str}{e:Expr}{es:List Expr}{fs:PSt->R (List PV)}{app:Lam->List PV->List PV->Option PV}{k:Nat}{p pos:JO}(i:Nat)(T:D0 C.X.prog C.X.w C.X.K C.X.mg C.X.base k app){kr:Nat}(hr:Room kr C.X.A)(ha:EA C (e::es) fs)
  (hN:C.X.N[i]?=some x:=by rfl) (hvis:Vis C.X.env.scope x:=by first | exact .inl rfl | exact .inr (.inl rfl) | exact .inr (.inr rfl)) (hdb:(x == ("__debug__":Str))=false:=by decide) (hcd:(x == ("__classdict__":Str))=false:=by decide)
  (he:Hw (e::es) C.X.env=(false,J8 e C.X.env)::Hw es C.X.env:=by exact c6 rfl) (hpl:(KI pos (Hw es C.X.env)).any (·.1)=false:=by exact iT rfl) (hk:k+1<=kr:=by decide) :
  EV C (.Call (.Name x p) (e::es) [] pos) (kj i fs app):=by
 replace hr:=hr.mono hk;intro pins s σ H Q I ⟨ρ,vw,q⟩;unfold kj at q;split at q
 ·rename_i L cs e1
  obtain⟨v,ev,f,c,cl,pm,ct,xs,rfl,hf,hc,hk,nd,ca,rc⟩:=vw i _ e1;refine Jn (thn (fF hN hvis hdb hcd pins s σ H (fun v' H'=>v'=.ref f/\H'=H) I ⟨_,ev,rfl,rfl⟩) fun u s1 ⟨v',H',I1,ru,e2,e3⟩=>?_);subst e2 e3;cases (show u=JA f from ru);have fnAt:∀{H2:Hp}{s2:HC},L2.Inv C.X pins σ H2 s2->Same H' H2->PySem.W.FnAt f s2.heap:=fun {H2 s2} I2 sm=>⟨_,_,_,_,(I2.hok f _ (sm _ _ hf)).1⟩
  refine N7 (fnAt I1 (Same.refl _)) (thn (ha pos pins s1 σ H' (fun vs H2=>∃qs z,aE C.X.K H2 qs vs/\Same H' H2/\aQ qs=true/\aQ cs=true/\app L qs cs=some z/\∀v H3,Same H' H3->Rep C.X.K H3 z v->Q v H3) I1
   ⟨ρ,vw,q.bind.imp fun qs _ k1 vs H2 sm2 r2=>?_⟩) fun us s2 ⟨vs,H2,I2,r,qs,z,r2,sm2,n1,n2,ea,k2⟩=>⟨fnAt I2 sm2,?_⟩) he hpl
  ·split at k1
   ·rename_i hn
    obtain⟨z,ez,k3⟩:=k1.ofO;exact⟨qs,z,r2,sm2,hn.1,hn.2,ez,fun v H3 s3 r3=>k3 v H3 s3 r3⟩
   ·exact HJ k1
  ·obtain⟨ps,ls,fe,B,hl,ef⟩:=T L qs cs z ea
   have ca2:=dX.kp sm2.kp ca;obtain⟨hxl,l,l1,l2⟩:=il ca2;have hus:us.length=ps.length:=by rw[← r.length,← r2.length];exact hl
   refine N3 (Ks (sX (l:=l) (E:=E0) (Q:=Q) B.sc hr I2.env0 (sm2 _ _ hf) (sm2 _ _ hc) l1 hk nd hxl l2 (B.bd cl pm ct c us hus) (B.ev f c cl C.X.A C.X.stack s2 (drC H2 l) (hr.deeper _)) r (by rw[← r2.length];exact hl) r2 (rc.same sm2) n1 n2 (sm2.tabs vw.tb) ef
    fun v H3 s3 r3=>k2 v H3 (sm2.trans s3) r3) fun r' s' hq=>?_)
   cases r' with
   | error e=>exact HJ hq
   | ok fl=>
    cases fl with
    | ret u=>exact I2.after hq
    | next=>exact HJ hq
    | brk=>exact HJ hq
    | cont=>exact HJ hq
 ·exact HJ q
end PU
namespace PU
open PySem PySem.Spec PyProof.Rows L2 PySem.SeqAt
variable[TW]
def lp(l:List (Str×Jc)):List Str:=(l.filter fun y=>y.2 == .free).map (·.1)
theorem mw{cells:List (Str×Addr)}:∀{l:List (Str×Jc)}{acc:List (Str×Addr)},(∀y∈l,y.2=.free->∃c,cells.lookup y.1=some c)->(df cells l acc).map (·.1)=(lp l).reverse++acc.map (·.1)
 | [],acc,_=>rfl
 | (n,k)::r,acc,h=>by
  unfold df;have hr:∀y∈r,y.2=.free->∃c,cells.lookup y.1=some c:=fun y hy=>h y (I9 _ hy)
  by_cases hk:(k == Ie)=true
  ·rw[if_pos hk]
   obtain⟨c,hc⟩:=h (n,k) ID (K6 hk);have hc:cells.lookup n=some c:=hc;rw[hc];dsimp only;rw[mw hr];unfold lp;rw[List.filter_cons,if_pos hk];simp
  ·rw[if_neg hk,mw hr]
   unfold lp;rw[List.filter_cons,if_neg hk]
theorem gS{cells:List (Str×Addr)}{p:Str×Addr}:∀{l:List (Str×Jc)}{acc:List (Str×Addr)},p∈df cells l acc->cells.lookup p.1=some p.2\/p∈acc
 | [],acc,h=>.inr h
 | (n,k)::r,acc,h=>by
  unfold df at h;split at h
  ·split at h
   ·rename_i c hc
    rcases gS h with z | z
    ·exact .inl z
    ·rcases Hr.mp z with z | z
     ·subst z;exact .inl hc
     ·exact .inr z
   ·exact gS h
  ·exact gS h
theorem xo{cells:List (Str×Addr)}(inj:∀x y c,cells.lookup x=some c->cells.lookup y=some c->x=y):∀{l:List (Str×Addr)},(∀p∈l,cells.lookup p.1=some p.2)->(l.map (·.1)).Nodup->(l.map (·.2)).Nodup
 | [],_,_=>List.nodup_nil
 | p::r,h,nd=>by
  rw[HI,IX] at nd ⊢;refine⟨fun m=>nd.1 ?_,xo inj (fun q hq=>h q (I9 _ hq)) nd.2⟩;obtain⟨q,hq,e⟩:=HN.mp m;have h1:=h p ID;have h2:=h q (I9 _ hq);have e:q.2=p.2:=e;rw[e] at h2;exact HN.mpr ⟨q,hq,inj _ _ _ h2 h1⟩
def qW(ρ:PSt):List Nat->R (List PV)
 | []=>.ok []
 | i::r=>match ρ[i]? with
  | some (.val p)=>qW ρ r >>= fun ps=>.ok (p::ps)
  | _=>.no
def yk(X:Cx)(H:Hp)(σ:L2.St):PV->V->Prop
 | .fn L cs,v=>∃f c pm ct xs,v=.ref f/\H f=some (FnAt f (jE L (df X.env.cells L.scope.names []) pm c ct))/\H c=some (dO c L.qual)/\
   (df X.env.cells L.scope.names []).map (·.1)=L.kept/\((df X.env.cells L.scope.names []).map (·.2)).Nodup/\xs.length=L.kept.length/\aE X.K H cs xs/\
   ∀(j:Nat)(y:Str),L.kept[j]?=some y->∃(i:Nat)(v:V),X.N[i]?=some y/\σ[i]?=some (some v)/\xs[j]?=some v/\X.env.scope.names.lookup y=some .cell
 | p,v=>Rep X.K H p v/\noFn p=true
def xa(X:Cx)(H:Hp)(σ:L2.St):List PV->List V->Prop
 | [],xs=>xs=[]
 | p::ps,xs=>∃x r,xs=x::r/\yk X H σ p x/\xa X H σ ps r
theorem yk.same{X:Cx}{H H':Hp}{σ:L2.St}{p:PV}{v:V}(h:yk X H σ p v)(s:Same H H'):yk X H' σ p v:=by
 cases p with
 | fn L cs=>
  obtain⟨f,c,pm,ct,xs,e,h1,h2,h3,h4,h5,h6,h7⟩:=h;exact⟨f,c,pm,ct,xs,e,s _ _ h1,s _ _ h2,h3,h4,h5,h6.same s,h7⟩
 | _=>exact⟨Rep.same h.1 s,h.2⟩
abbrev Ph:=L2.St->Hp->Prop
def Ph.Ok(Φ:Ph):Prop:=∀σ H H',Φ σ H->Same H H'->Φ σ H'
def tru:Ph:=fun _ _=>True
theorem cu:tru.Ok:=fun _ _ _ h _=>h
def tL(C:Cn)(Φ:Ph)(f:PSt->R (List PV)):TA:=fun σ H Q=>∃ρ,View C.X.K H σ ρ/\Φ σ H/\RQ C H (f ρ) fun ps=>∀vs H',Same H H'->xa C.X H' σ ps vs->Q vs H'
def ELF(C:Cn)(Φ:Ph)(es:List Expr)(f:PSt->R (List PV)):Prop:=PA C.X es (tL C Φ f)
def tVF(C:Cn)(Φ:Ph)(f:PSt->R PV):TE:=fun σ H Q=>Φ σ H/\tV C f σ H Q
def EVF(C:Cn)(Φ:Ph)(e:Expr)(f:PSt->R PV):Prop:=PE C.X e (tVF C Φ f)
def tNF(C:Cn)(Φ:Ph)(f:PSt->R PV):TE:=fun σ H Q=>Φ σ H/\tN C f σ H Q
def ENF(C:Cn)(Φ:Ph)(e:Expr)(f:PSt->R PV):Prop:=PE C.X e (tNF C Φ f)
theorem ENF.v{C:Cn}{Φ:Ph}{e:Expr}{f:PSt->R PV}(h:ENF C Φ e f):EVF C Φ e f:=by
 intro pins s σ H Q I ⟨ph,ρ,vw,q⟩;cases hf:f ρ with
 | ok p=>
  rw[hf] at q;refine thn (h pins s σ H (fun v H'=>∃a,v=.ref a/\Same H H'/\H a=none/\bY C.X.K H' a p) I ⟨ph,ρ,vw,by rw[hf];exact fun a H' sm n w=>⟨a,rfl,sm,n,w⟩⟩) fun u s' ⟨v,H',I',rv,a,ev,sm,na,w⟩=>?_;obtain⟨H2,I2,rp,oth⟩:=I'.frz w;subst ev;exact⟨.ref a,H2,I2,rv,q _ H2 (sm.but na (fun u h=>(w.nt u h).1) oth) rp⟩
 | er x=>
  rw[hf] at q;exact h pins s σ H Q I ⟨ph,ρ,vw,by rw[hf];exact q⟩
 | no=>
  rw[hf] at q;exact HJ q
theorem EVF.of{C:Cn}{Φ:Ph}{e:Expr}{f:PSt->R PV}(h:EV C e f):EVF C Φ e f:=fun pins s σ H Q I q=>h pins s σ H Q I q.2
def xN(L:Lam)(idx:List Nat)(fs:PSt->R (List PV)):PSt->R (List PV):=fun ρ=>qW ρ idx >>= fun cs=>fs ρ >>= fun ps=>.ok (.fn L cs::ps)
def AB(f:PSt->R PV)(fs:PSt->R (List PV)):PSt->R (List PV):=fun ρ=>f ρ >>= fun p=>if noFn p=true then fs ρ >>= fun ps=>.ok (p::ps) else .no
theorem nU{K:HA}{H:Hp}{σ:L2.St}{ρ:PSt}(vw:View K H σ ρ):∀{idx:List Nat}{cs:List PV},qW ρ idx=.ok cs->∃xs,aE K H cs xs/\xs.length=idx.length/\∀(j i:Nat),idx[j]?=some i->∃v,σ[i]?=some (some v)/\xs[j]?=some v
 | [],cs,e=>by cases e;exact⟨[],rfl,rfl,fun j i h=>(by simp at h)⟩
 | i::r,cs,e=>by
  unfold qW at e;split at e
  ·rename_i p hp
   cases hc:qW ρ r with
   | ok ps=>
    rw[hc] at e;cases e;obtain⟨xs,h1,h2,h3⟩:=nU vw hc;obtain⟨v,ev,rp⟩:=vw i _ hp;refine⟨v::xs,⟨v,xs,rfl,rp,h1⟩,by simp[h2],fun j k hj=>?_⟩;cases j with
    | zero=>simp at hj;subst hj;exact⟨v,ev,rfl⟩
    | succ j=>simpa using h3 j k (by simpa using hj)
   | er x=>rw[hc] at e;cases e
   | no=>rw[hc] at e;cases e
  ·cases e
theorem mz{ρ:PSt}:∀(idx:List Nat)(x:PX),qW ρ idx≠.er x
 | [],x,e=>by cases e
 | i::r,x,e=>by
  unfold qW at e;split at e
  ·cases hc:qW ρ r with
   | ok ps=>rw[hc] at e;cases e
   | er y=>exact mz r y hc
   | no=>rw[hc] at e;cases e
  ·cases e
theorem si{C:Cn}{L:Lam}{idx:List Nat}{pins:List (Addr×Obj)}{s:HC}{σ:L2.St}{H:Hp}{ρ:PSt}{cs:List PV}{f c:Addr}{pm:HB×HB}{ct:HB}(inj:∀x y c,C.X.env.cells.lookup x=some c->C.X.env.cells.lookup y=some c->x=y)(hasC:∀y,C.X.env.scope.names.lookup y=some .cell->∃c,C.X.env.cells.lookup y=some c)(vw:View C.X.K H σ ρ)(ec:qW ρ idx=.ok cs)
  (free:∀y∈L.scope.names,y.2=.free->C.X.env.scope.names.lookup y.1=some .cell) (kept:(lp L.scope.names).reverse=L.kept) (ndk:L.kept.Nodup) (ix:idx.map (fun i=>C.X.N[i]?)=L.kept.map some)
  (hf:H f=some (FnAt f (jE L (df C.X.env.cells L.scope.names []) pm c ct))) (hc:H c=some (dO c L.qual)):yk C.X H σ (.fn L cs) (.ref f):=by
 have has:∀y∈L.scope.names,y.2=.free->∃c,C.X.env.cells.lookup y.1=some c:=fun y hy hk=>hasC y.1 (free y hy hk);obtain⟨xs,x1,x2,x3⟩:=nU vw ec;have hm:(df C.X.env.cells L.scope.names []).map (·.1)=L.kept:=by rw[mw has,Jv,Iy];exact kept
 have hlen:idx.length=L.kept.length:=by have:=congrArg JQ ix;simpa using this
 refine⟨f,c,pm,ct,xs,rfl,hf,hc,hm,xo inj (fun p hp=>?_) (by rw[hm];exact ndk),by rw[x2];exact hlen,x1,fun j y hy=>?_⟩
 ·rcases gS hp with z | z
  ·exact z
  ·exact nomatch z
 ·have hj:j<idx.length:=by rw[hlen];exact(HM.mp hy).1
  have e1:idx[j]?=some idx[j]:=Ic hj;have e2:=congrArg (fun l=>l[j]?) ix;simp only[HW,e1,hy,L7] at e2;obtain⟨v,ev,xv⟩:=x3 j _ e1;refine⟨idx[j],v,by simpa using e2,ev,xv,?_⟩;have hmem:=II hy;rw[← kept,List.mem_reverse] at hmem;unfold lp at hmem;obtain⟨z,hz,ez⟩:=HN.mp hmem;obtain⟨hz1,hz2⟩:=J3.mp hz;have:=free z hz1 (K6 hz2);rw[ez] at this;exact this
def FnS(X:Cx)(i:Nat)(L:Lam):Ph:=fun σ H=>∃f c pm ct,σ[i]?=some (some (.ref f))/\H f=some (FnAt f (jE L (df X.env.cells L.scope.names []) pm c ct))/\H c=some (dO c L.qual)
theorem FnS.ok{X:Cx}{i:Nat}{L:Lam}:(FnS X i L).Ok:=fun _ _ _ ⟨f,c,pm,ct,e,h1,h2⟩ s=>⟨f,c,pm,ct,e,s _ _ h1,s _ _ h2⟩
structure FnC(C:Cn)(L:Lam)(idx:List Nat):Prop where
 free:∀y∈L.scope.names,y.2=.free->C.X.env.scope.names.lookup y.1=some .cell
 kept:(lp L.scope.names).reverse=L.kept
 nd:L.kept.Nodup
 ix:idx.map (fun i=>C.X.N[i]?)=L.kept.map some
section
variable{C : Cn}{e : Expr}{es : List Expr}{f : PSt → R PV}{fs : PSt → R (List PV)}
theorem CD{Φ:Ph}:ELF C Φ [] aM:=fun pos pins s σ H Q I ⟨_,_,_,q⟩=>gC pos pins s σ H Q I (q [] H (Same.refl H) rfl)
theorem CC{Φ:Ph}(ha:EV C e f)(hr:ELF C Φ es fs)(ok:Φ.Ok:=by first | exact cu | assumption)(hs:Hw (e::es) C.X.env=(false,J8 e C.X.env)::Hw es C.X.env:=by exact c6 rfl):ELF C Φ (e::es) (AB f fs):=by
 intro pos pins s σ H Q I ⟨ρ,vw,ph,q⟩;refine cK ha hr hs pos pins s σ H Q I ⟨ρ,vw,q.bind.imp fun p _ k v H1 s1 r1=>?_⟩;split at k
 ·rename_i hn
  refine⟨ρ,vw.same s1,ok _ _ _ ph s1,(k.bind.same s1).imp fun ps _ k2 vs H2 s2 r2=>k2 (v::vs) H2 (s1.trans s2) ⟨v,vs,rfl,?_,r2⟩⟩;cases p with
  | fn L cs=>cases hn
  | _=>exact⟨r1.same s2,hn⟩
 ·exact HJ k
theorem CF{Φ:Ph}{L:Lam}{idx:List Nat}{x:Str}{p:JO}(i:Nat)(hF:∀σ H,Φ σ H->FnS C.X i L σ H)(h:FnC C L idx)(hr:ELF C Φ es fs)(ok:Φ.Ok:=by first | exact cu | assumption)
  (hN:C.X.N[i]?=some x:=by rfl) (hvis:Vis C.X.env.scope x:=by first | exact .inl rfl | exact .inr (.inl rfl) | exact .inr (.inr rfl)) (hdb:(x == ("__debug__":Str))=false:=by decide) (hcd:(x == ("__classdict__":Str))=false:=by decide)
  (hs:Hw (.Name x p::es) C.X.env=(false,J8 (.Name x p) C.X.env)::Hw es C.X.env:=by exact c6 rfl):ELF C Φ (.Name x p::es) (xN L idx fs):=by
 intro pos pins s σ H Q I ⟨ρ,vw,ph,q⟩;unfold xN at q;cases hc:qW ρ idx with
 | ok cs=>
  rw[hc] at q;have q:RQ C H (fs ρ >>= fun ps=>R.ok (.fn L cs::ps)) _:=q;obtain⟨f,c,pm,ct,ev,h1,h2⟩:=hF σ H ph;have pr:yk C.X H σ (.fn L cs) (.ref f):=si (pins:=pins) (s:=s) I.ok.inj (fun y hy=>I.ok.has y (.inl hy)) vw hc h.free h.kept h.nd h.ix h1 h2;refine cK (fF hN hvis hdb hcd) hr hs pos pins s σ H Q I ⟨_,ev,ρ,vw,ph,q.bind.imp fun ps _ k2 vs H2 s2 r2=>k2 (.ref f::vs) H2 s2 ⟨.ref f,vs,rfl,pr.same s2,r2⟩⟩
 | er x=>
  exact absurd hc (mz idx x)
 | no=>rw[hc] at q;exact HJ q
end
def g8(X:Cx)(h:Heap)(ys:List Str):List (Addr×Obj):=ys.filterMap fun y=>(X.env.cells.lookup y).map fun c=>(c,(h.get? c).getD default)
theorem eD{X:Cx}{h:Heap}{c:Addr}{o:Obj}:∀{ys:List Str},(g8 X h ys).lookup c=some o->o=(h.get? c).getD default/\∃y,X.env.cells.lookup y=some c
 | [],e=>by cases e
 | y::r,e=>by
  unfold g8 at e;rw[K1] at e;cases hy:X.env.cells.lookup y with
  | none=>rw[hy] at e;exact eD (ys:=r) e
  | some d=>
   rw[hy] at e;simp only[L7] at e;rw[IR] at e;cases hb:(c == d) with
   | true=>rw[hb] at e;cases e;have:=K6 hb;subst this;exact⟨rfl,y,hy⟩
   | false=>rw[hb] at e;exact eD (ys:=r) e
theorem mx{X:Cx}{h:Heap}{c:Addr}{y:Str}(hy:X.env.cells.lookup y=some c):∀{ys:List Str},y∈ys->(g8 X h ys).lookup c=some ((h.get? c).getD default)
 | [],m=>nomatch m
 | z::r,m=>by
  unfold g8;rw[K1];cases hz:X.env.cells.lookup z with
  | none=>
   rcases Hr.mp m with e | m
   ·subst e;rw[hy] at hz;cases hz
   ·exact mx hy m
  | some d=>
   simp only[L7];rw[IR];cases hb:(c == d) with
   | true=>have:=K6 hb;subst this;rfl
   | false=>
    rcases Hr.mp m with e | m
    ·subst e;rw[hy] at hz;cases hz;simp at hb
    ·exact mx hy m
section
variable{X : Cx}{pins : List (Addr×Obj)}{σ : L2.St}{H : Hp}{s : HC}
theorem uF(I:L2.Inv X pins σ H s)(hfn:∀y,X.fn y=true)(ys:List Str):Cls X H s (g8 X s.heap ys):=by
 have at_:∀c o,(g8 X s.heap ys).lookup c=some o->s.heap.get? c=some o:=fun c o e=>by
  obtain⟨e1,y,e2⟩:=eD e;obtain⟨v,o',g,_⟩:=I.cell y c e2;rw[e1,g];rfl
 have big:∀c o,(g8 X s.heap ys).lookup c=some o->X.s₀.heap.objs.size<=c:=fun c o e=>by
  obtain⟨_,y,e2⟩:=eD e;exact I.ok.cab y c (hfn y) e2
 refine⟨at_,fun c o e=>?_,fun c o e=>?_,fun c o e hs=>?_⟩
 ·obtain⟨_,y,e2⟩:=eD e
  exact I.freeC y c e2
 ·exact NI (Ig I.ok.bsz (big c o e))
 ·obtain⟨_,y,e2⟩:=eD e
  rcases Hr.mp (I.stkSub c hs) with z | z
  ·obtain⟨v,o',g,d⟩:=I.cell y c e2
   obtain⟨m,⟨o2,es,ep,g2,d2,_⟩,_⟩:=I.loc;rw[← z,g] at g2;cases g2;rw[d] at d2;cases d2
  ·obtain⟨_,o2,g2,_⟩:=I.ok.funs.mem z
   exact absurd (HU g2) (Nat.not_lt_of_le (big c o e))
theorem pd{p:PV}{v:V}(I:L2.Inv X pins σ H s)(hfn:∀y,X.fn y=true)(h:yk X H σ p v):Rep X.K (trC H (g8 X s.heap (X.env.scope.names.map (·.1)))) p v:=by
 have hc:=uF I hfn (X.env.scope.names.map (·.1));have ext:Same H (trC H (g8 X s.heap (X.env.scope.names.map (·.1)))):=.of fun b o e=>by rw[aS (hc.out e)];exact e
 cases p with
 | fn L cs=>
  obtain⟨f,c,pm,ct,xs,e,h1,h2,h3,h4,h5,h6,h7⟩:=h;refine⟨f,c,_,pm,ct,xs,e,ext _ _ h1,ext _ _ h2,h3,h4,?_,h6.same ext⟩
  have gen:∀(cl:List (Str×Addr))(zs:List V),zs.length=cl.length->(∀p∈cl,X.env.cells.lookup p.1=some p.2)->(∀(j:Nat)(y:Str),(cl.map (·.1))[j]?=some y->∃(i:Nat)(v:V),X.N[i]?=some y/\σ[i]?=some (some v)/\zs[j]?=some v/\X.env.scope.names.lookup y=some .cell)->
    dX (trC H (g8 X s.heap (X.env.scope.names.map (·.1)))) cl zs:=by
   intro cl
   induction cl with
   | nil=>intro zs hl _ _;exact Ik hl
   | cons p r ih=>
    intro zs hl hm hj;cases zs with
    | nil=>cases hl
    | cons z zs=>
     obtain⟨i,v,n1,n2,n3,n4⟩:=hj 0 p.1 (by simp);simp at n3;subst n3;obtain⟨m,hn,hloc⟩:=I.loc;obtain⟨u,ru,lk⟩:=hloc i p.1 z n1 n2 (.inr (.inl n4));have hp:=hm p ID;rcases lk with⟨k1,_⟩|⟨_,c',c1,o,c2,c3⟩
     ·have k1:X.env.scope.names.lookup p.1=some .local:=k1
      rw[n4] at k1;cases k1
     ·rw[hp] at c1
      cases c1;refine⟨z,zs,o,u,rfl,jg ?_,c3,ru,ih zs (by simpa using hl) (fun q hq=>hm q (I9 _ hq)) fun j y hy=>?_⟩
      ·rw[mx hp (HN.mpr ⟨_,IQ n4,rfl⟩),c2];rfl
      ·obtain⟨i,v,a1,a2,a3,a4⟩:=hj (j+1) y (by simpa using hy)
       exact⟨i,v,a1,a2,by simpa using a3,a4⟩
  refine gen _ xs (by rw[h5,← h3,HF]) (fun p hp=>?_) fun j y hy=>h7 j y (by rw[← h3];exact hy);rcases gS hp with z | z
  ·exact z
  ·exact nomatch z
 | _=>exact Rep.same h.1 ext
theorem kQ(I:L2.Inv X pins σ H s)(hfn:∀y,X.fn y=true):∀{ps:List PV}{vs:List V},xa X H σ ps vs->aE X.K (trC H (g8 X s.heap (X.env.scope.names.map (·.1)))) ps vs
 | [],_,h=>h
 | p::ps,_,⟨x,r,e,h1,h2⟩=>⟨x,r,e,pd I hfn h1,kQ I hfn h2⟩
end
def q9(fs:PSt->R (List PV))(F:List PV->Option PV):PSt->R PV:=fun ρ=>fs ρ >>= fun qs=>R.ofO (F qs) >>= fun z=>if noFn z=true then .ok z else .no
theorem bY.pl{K:HA}{H H':Hp}{a:Addr}{z:PV}(k:∀b u,H b=some u->(∀q,u≠.frz q (.own 0))->H' b=some u)(n:noFn z=true)(h:bY K H a z):bY K H' a z:=by
 have k2:∀b u,H b=some u->Cf u=true->H' b=some u:=fun b u e h=>k b u e (m5 h);cases z with
 | lst ps=>obtain⟨xs,w,r⟩:=h;exact⟨xs,k _ _ w (fun _ h=>by cases h),aE.pl k2 ps n r⟩
 | dct ks ps=>obtain⟨xs,w,e,r⟩:=h;exact⟨xs,k _ _ w (fun _ h=>by cases h),e,aE.pl k2 ps n r⟩
 | dtt ks ps=>obtain⟨xs,w,e,r⟩:=h;exact⟨xs,k _ _ w (fun _ h=>by cases h),e,aE.pl k2 ps n r⟩
 | _=>exact h
theorem uk{C:Cn}{Φ:Ph}{e:Expr}{es:List Expr}{fs:PSt->R (List PV)}{x:Str}{k:Nat}{F:List PV->Option PV}{p pos:JO}(G:PFN C.X.prog C.X.w C.X.K C.X.mg C.X.base k x F){kr:Nat}(hr:Room kr C.X.A)(ha:ELF C Φ (e::es) fs)
  (hdb:(x == ("__debug__":Str))=false:=by decide) (he:Hw (e::es) C.X.env=(false,J8 e C.X.env)::Hw es C.X.env:=by exact c6 rfl) (hpl:(KI pos (Hw es C.X.env)).any (·.1)=false:=by exact iT rfl) (hk:k<=kr:=by decide) (hg:Gl C.X x:=by exact rfl) (hfn:∀y,C.X.fn y=true:=by exact fun _=>rfl) :
  ENF C Φ (.Call (.Name x p) (e::es) [] pos) (q9 fs F):=by
 replace hr:=hr.mono hk;obtain⟨f,fd,ps,a,b,c,d,l⟩:=G.ex;intro pins s σ H Q I ⟨ph,ρ,vw,q⟩;refine Jn (oE I hg b ?_ hdb)
 refine N6 (h₀:=C.X.base) I.ok.mod.kin c (thn (ha pos pins s σ H (fun vs H1=>∃qs z,xa C.X H1 σ qs vs/\Same H H1/\F qs=some z/\noFn z=true/\∀a H',Same H H'->H a=none->bY C.X.K H' a z->Q (.ref a) H') I
  ⟨ρ,vw,ph,q.bind.imp fun qs _ k1 vs H1 s1 r1=>?_⟩) fun us s1 ⟨vs,H1,I1,r,qs,z,r1,sm,ez,nz,k2⟩=>⟨I1.kIn,?_⟩) he hpl
 ·obtain⟨z,ez,k3⟩:=k1.bind.ofO
  split at k3
  ·rename_i hn
   exact⟨qs,z,r1,s1,ez,hn,fun v H' s' n' r'=>k3 v H' s' n' r'⟩
  ·exact HJ k3
 ·have hc:=uF I1 hfn (C.X.env.scope.names.map (·.1))
  have rr:=kQ I1 hfn r1;have hl:=l qs z ez;have hv:vs.length=ps.length:=by rw[← rr.length];exact hl
  have ext:Same H1 (trC H1 (g8 C.X s1.heap (C.X.env.scope.names.map (·.1)))):=.of fun b o e=>by rw[aS (hc.out e)];exact e
  have hu:(us++[]).length=ps.length:=by rw[Iy,← r.length];exact hv
  have hb:=d s1 us I1.kIn hu;rw[Iy] at hb
  refine N3 (Ks (a.run C.X.A C.X.stack s1 _ ⟨us,[]⟩ us vs (fun v H'=>∃a,v=.ref a/\Same (trC H1 (g8 C.X s1.heap (C.X.env.scope.names.map (·.1)))) H'/\trC H1 (g8 C.X s1.heap (C.X.env.scope.names.map (·.1))) a=none/\bY C.X.K H' a z) E0 hr (CA I1 hc) hb r
   ⟨hv,ext.tabs (sm.tabs vw.tb),qs,z,rr,ez,fun a H' s' n' r'=>⟨a,rfl,s',n',r'⟩⟩) fun r' s' hq=>?_)
  cases r' with
  | error e=>exact HJ hq
  | ok fl=>
   cases fl with
   | ret u=>
    obtain⟨v,H',os,bare,un,hok,rv,a,ea,sm2,na,nw⟩:=hq;subst ea;refine yi I1 hc ⟨.ref a,H',os,bare,un,hok,rv,fun un=>k2 a _ (sm.trans (B6 hc un sm2)) (sm.free (ext.free na)) (bY.pl (fun b u e h=>?_) nz nw)⟩;rw[aX (mW un e h)];exact e
   | next=>exact HJ hq
   | brk=>exact HJ hq
   | cont=>exact HJ hq
end PU
section
namespace L2
open PySem PySem.Spec PyProof.Rows
theorem sW{P:HX}{w:IA}{K:HA}{mg mb:Str->Option HB}{CX:CXT}{k:Nat}{fa a:Addr}{fd:FuncData}{x:Str}{sp:Sp}{s₁:HC}{vs:List HB}{ns:List Int}
  (KX:K.In s₁.heap) (hns:s₁.heap.Ns mainGlobals mg) (hb:s₁.heap.Ns Iv mb) (hbb:∀x:Str,x≠"__name__"->mb x=Jo x) (hlim:s₁.heap.NoLimit) (hg:s₁.gens=#[]) (ts:List Addr) (hts:∀P∈ts,s₁.heap.get? P=some (JS #[])) (htc:∀P∈ts,∃c,ME s₁.heap c P) (htk:∀P∈ts,K.lookup P=none)
  (hbn:∃bm o,mg "__builtins__"=some (.ref bm)/\bm≠Iv/\bm≠mainGlobals/\s₁.heap.get? bm=some o/\o.cls=.type "module"/\o.dict=some Iv/\o.data=.plain)
  (ha:s₁.heap.get? a=some { cls:=.type "list",data:=.seq vs.toArray }) (hi:O4 vs ns) (hl:ns.length<=sizeLine) (hr:Room k MM)
  (F:∀base:Heap,K.In base->base.Ns mainGlobals mg->(∃bm o,mg "__builtins__"=some (.ref bm)/\bm≠Iv/\bm≠mainGlobals/\base.get? bm=some o/\o.cls=.type "module"/\o.dict=some Iv/\o.data=.plain)->FnOk P w K mg base CX k fa fd [x] sp) (hbind:∀(s:HC) (u:HB),Mt s fd ⟨[u],[]⟩ [(x,u)])
  (hsp:∀H:Hp,(∀P∈ts,H P=some (.tbl #[]))->PU.SqF K H a (ns.map V.int)->sp [.ref a] H (fun v _=>v=.bl true) fun _ _ _=>False)
  (hCX:∀H e s',CX [] H s₁ (fun _ _ _=>False) e s'->False) :
  LB (IK P w) MM (.call (.ref fa) ⟨[.ref a],[]⟩) (fun r s'=>r=.ok (.ret (.bool true))/\OldK s₁.heap s'.heap/\s'.os=s₁.os/\LY s'.gens) s₁:=by
 have rv:=mH hi;have lenV:=hi.length
 have core:∀H:Hp,(∀b,H b=none\/(∃ob xs,H b=some (.frz ob (.lst xs)))\/(b∈ts/\H b=some (.tbl #[])))->PU.SqF K H a (ns.map V.int)->HOk P w H s₁.heap->(∀b,H b≠none->b=a\/b∈ts)->(∀P∈ts,H P=some (.tbl #[]))->(H a≠none->K.lookup a=none)->
   LB (IK P w) MM (.call (.ref fa) ⟨[.ref a],[]⟩) (fun r s'=>r=.ok (.ret (.bool true))/\OldK s₁.heap s'.heap/\s'.os=s₁.os/\LY s'.gens) s₁:=by
  intro H hO hS hok hA hT hK;have base_of:∀{b:Addr}{o:Obj},s₁.heap.get? b=some o->H b=none->(wC s₁.heap H).get? b=some o:=fun e n=>wB e n
  have noA:∀{b:Addr}{o:Obj}{es:Array DictEntry}{ep:Nat},s₁.heap.get? b=some o->o.data=.dict es ep->H b=none:=fun {b o es ep} e d=>by
   cases q:H b with
   | none=>rfl
   | some u=>
    rcases hA b (by rw[q];simp) with e' | e'
    ·subst e'
     rw[ha] at e;cases e;have d':Data.seq vs.toArray _=Data.dict es ep:=d;cases d'
    ·rw[hts b e'] at e;cases e
     cases d
  have nsK:∀{b:Addr}{m:Str->Option HB},s₁.heap.Ns b m->(wC s₁.heap H).Ns b m:=fun {b m} ⟨o,es,ep,e,d,r⟩=>⟨o,es,ep,base_of e (noA e d),d,r⟩
  have hKb:K.In (wC s₁.heap H):=fun b o e=>base_of (KX b o e) (by
   cases q:H b with
   | none=>rfl
   | some u=>
    rcases hA b (by rw[q];simp) with e' | e'
    ·subst e'
     rw[hK (by rw[q];simp)] at e;cases e
    ·rw[htk b e'] at e;cases e)
  obtain⟨bm,ob,b1,b2,b3,b4,b5,b6,b7⟩:=hbn
  have hbm:H bm=none:=by
   cases q:H bm with
   | none=>rfl
   | some u=>
    rcases hA bm (by rw[q];simp) with e' | e'
    ·rw[e',ha] at b4;cases b4;cases b7
    ·rw[hts bm e'] at b4;cases b4;cases b5
  have hM:Mod K mg (wC s₁.heap H):=⟨hKb,nsK hns,⟨mb,nsK hb,hbb⟩,let ⟨mc,h1,h2⟩:=hlim;⟨mc,nsK h1,h2⟩⟩;have e0:Env0 P w K mg (wC s₁.heap H) MM [] s₁ H:=⟨rfl,hM,fun b o e=>z6 e,ND (tG _ _),trivial,fun b hb=>absurd (show b∈([]:List Addr) from hb) (by simp),hok,.of_eq hg⟩;refine Ks ((F _ hKb (nsK hns) ⟨bm,ob,b1,b2,b3,base_of b4 hbm,b5,b6,b7⟩).run MM [] s₁ H ⟨[.ref a],[]⟩ [.ref a] [.ref a] _ _ hr e0 (hbind s₁ (.ref a)) (.cons rfl .nil) (hsp H hT hS)) fun r s' h=>?_;cases r with
  | error e=>exact(hCX H e s' h).elim
  | ok fl=>
   cases fl with
   | next=>exact HJ h
   | brk=>exact HJ h
   | cont=>exact HJ h
   | ret u=>
    obtain⟨v,H',os,bare,un,hok',r',q⟩:=h;have q':v=.bl true:=q;subst q';obtain rfl:u=MP true:=r';refine⟨rfl,⟨fun b o e=>?_,fun b o e=>un.there b o e (by simp)⟩,os,bare⟩;cases q:H b with
    | none=>exact .inl (un.keep b o e q (by intro z;exact absurd (show b∈([]:List Addr) from z) (by simp)) (by simp))
    | some u=>
     rcases hO b with z | ⟨ob,xs,z⟩|⟨hb,z⟩
     ·rw[q] at z;cases z
     ·have z2:=un.frzs b ob _ z
      obtain⟨e1,_⟩:=hok b _ z;obtain⟨e2,_⟩:=hok' b _ z2;rw[e] at e1;cases e1;exact .inl e2
     ·obtain⟨more,z2⟩:=un.tbls b _ z
      have e2:s'.heap.get? b=some (JS (#[]++more)):=hok' b _ z2;have e1:=hts b hb;obtain⟨c,hc⟩:=htc b hb;have tc:=(hc.tab e1).isCodeTable;rw[e] at e1;cases e1;exact .inr (.inl ⟨tc,rfl,#[],more,rfl,e2⟩)
 have nta:∀P∈ts,P≠a:=fun P hP z=>by rw[z] at hP;have:=hts a hP;rw[ha] at this;cases this
 cases hk:K.lookup a with
 | some o=>
  have e:=KX a o hk;rw[ha] at e;cases e;refine core (fun b=>if b∈ts then some (.tbl #[]) else none) (fun b=>?_) (.inr ⟨vs,_,hk,by rw[HF];exact hl,rv⟩) (fun b u z=>?_) (fun b z=>?_) (fun P hP=>if_pos hP) fun z=>absurd (if_neg fun h=>nta a h rfl) z
  ·by_cases hb:b∈ts
   ·exact .inr (.inr ⟨hb,if_pos hb⟩)
   ·exact .inl (if_neg hb)
  ·by_cases hb:b∈ts
   ·have z':=(if_pos hb).symm.trans z
    cases z';exact hts b hb
   ·have z':=(if_neg hb).symm.trans z
    cases z'
  ·by_cases hb:b∈ts
   ·exact .inr hb
   ·exact absurd (if_neg hb) z
 | none=>
  refine core (fun b=>if b=a then some (.frz { cls:=.type "list",data:=.seq vs.toArray } (.lst (ns.map V.int))) else if b∈ts then some (.tbl #[]) else none) (fun b=>?_) (.inl ⟨{ cls:=.type "list",data:=.seq vs.toArray },if_pos rfl⟩) (fun b u z=>?_) (fun b z=>?_) (fun P hP=>by
   show (if P=a then _ else if P∈ts then _ else _)=_;rw[if_neg (nta P hP),if_pos hP]) fun _=>hk
  ·by_cases hb:b=a
   ·exact .inr (.inl ⟨_,_,if_pos hb⟩)
   ·by_cases hb2:b∈ts
    ·exact .inr (.inr ⟨hb2,(if_neg hb).trans (if_pos hb2)⟩)
    ·exact .inl ((if_neg hb).trans (if_neg hb2))
  ·by_cases hb:b=a
   ·have z':=(if_pos hb).symm.trans z
    cases z';subst hb;exact⟨ha,by rw[HF];exact hl,vs,_,rv,ha⟩
   ·by_cases hb2:b∈ts
    ·have z':=((if_neg hb).trans (if_pos hb2)).symm.trans z
     cases z';exact hts b hb2
    ·have z':=((if_neg hb).trans (if_neg hb2)).symm.trans z
     cases z'
  ·by_cases hb:b=a
   ·exact .inl hb
   ·by_cases hb2:b∈ts
    ·exact .inr hb2
    ·exact absurd ((if_neg hb).trans (if_neg hb2)) z
theorem walk_ofT{l:Lx}{n k:Nat}{q:HX}{loose:List Str}{XP:(Str->Option HB)->Heap->Prop}{YP:IA->Heap->Prop}{d:DefRec}{K:Params->HA}{CX:IA->CXT}{sp:IA->Sp}{x:Str}
  (hn:l.most=some n) (hn2:n<=sizeLine) (hdf:d.params.defaults=[]) (hr:Room k MM) (ts:List Addr)
  (hY:∀(w:IA)(h:Heap),YP w h->(K w.params).In h) (hT:∀(w:IA)(h:Heap),YP w h->∀P∈ts,h.get? P=some (JS #[])) (hC:∀(w:IA),∀P∈ts,∃c,Kt (K w.params) c P=true) (hL:∀(w:IA),∀P∈ts,(K w.params).lookup P=none)
  (F:∀(w:IA)(mg:Str->Option HB)(fa:Addr)(h:Heap),(K w.params).In h->h.Ns mainGlobals mg->mg d.name=some (.ref fa)->
   ∃fd:FuncData,(∀(s:HC)(u:HB),Mt s fd ⟨[u],[]⟩ [(x,u)])/\
    ∀base:Heap,(K w.params).In base->base.Ns mainGlobals mg->(∃bm o,mg "__builtins__"=some (.ref bm)/\bm≠Iv/\bm≠mainGlobals/\base.get? bm=some o/\o.cls=.type "module"/\o.dict=some Iv/\o.data=.plain)->
     FnOk l.prog w (K w.params) mg base (CX w) k fa fd [x] (sp w))
  (hsp:∀(w:IA)(H:Hp)(a:Addr)(ns:List Int),ns.length<=n->(∀P∈ts,H P=some (.tbl #[]))->PU.SqF (K w.params) H a (ns.map V.int)->sp w [.ref a] H (fun v _=>v=.bl true) fun _ _ _=>False)
  (hCX:∀(w:IA)(H:Hp)(s:HC)(e:HB)(s':HC),CX w [] H s (fun _ _ _=>False) e s'->False) :
  PySem.W.WalkO q loose XP YP l.row.toRowW d [] (fun f vs=>Nb f vs):=by
 refine Att.attach_call hn hdf fun w s₀ s₁ mg mb fa o pm cd doc a vs ns G Y ho hd hcd hmg hobj hints hlen hg=>?_;have KX:=hY w _ Y;obtain⟨fd,hb,hF⟩:=F w mg fa _ KX G.T.g hmg;obtain⟨bm,ob,b1,b2,b3,b4,b5,b6⟩:=G.T.bmain
 have hbG:bm≠mainGlobals:=fun q=>by
  obtain⟨o,es,ep,e,hd,_⟩:=G.T.g;rw[q,e] at b3;cases b3;rw[hd] at b6;cases b6
 exact sW KX G.T.g G.T.b G.T.builtins G.T.nolimit hg ts (hT w _ Y) (fun P hP=>let ⟨c,hc⟩:=hC w P hP;⟨c,LP KX hc⟩) (hL w) ⟨bm,ob,b1,b2,hbG,b3,b4,b5,b6⟩ hobj hints (Ig hlen hn2) hr hF hb (fun H hT hS=>hsp w H a ns hlen hT hS) fun H e s'=>hCX w H s₁ e s'
end L2
namespace PU
theorem DX[TW]{H:L2.Hp}{ts:List PySem.Addr}(e:TW.tabs=ts)(h:∀P∈ts,H P=some (.tbl #[])):qZ H:=fun P hP=>⟨#[],h P (e▸hP),trivial,fun pos v h=>by cases h⟩
end PU
end
namespace PU
section
variable{g g' : PSt → R Fl}{t : PSt → R Bool}{f fk fv : PSt → R PV}{i : Nat}
theorem kY(ρ:PSt)(p:PV):cE ρ≠.ok (.ret p):=fun h=>by cases h
theorem uJ(ρ:PSt)(p:PV):CV ρ≠.ok (.ret p):=fun h=>by cases h
theorem fz(h1:∀ρ p,g ρ≠.ok (.ret p))(h2:∀ρ p,g' ρ≠.ok (.ret p))(ρ:PSt)(p:PV):aT g g' ρ≠.ok (.ret p):=by
 unfold aT;intro e;cases h:g ρ with
 | ok fl=>
  rw[h,R.ok_bind] at e;cases fl with
  | next ρ2=>exact h2 ρ2 p e
  | brk ρ2=>cases e
  | cont ρ2=>cases e
  | ret q=>exact h1 ρ q h
 | er x=>rw[h] at e;cases e
 | no=>rw[h] at e;cases e
theorem pM(h1:∀ρ p,g ρ≠.ok (.ret p))(h2:∀ρ p,g' ρ≠.ok (.ret p))(ρ:PSt)(p:PV):ifF t g g' ρ≠.ok (.ret p):=by
 unfold ifF;intro e;cases h:t ρ with
 | ok b=>
  rw[h,R.ok_bind] at e;cases b with
  | true=>rw[if_pos rfl] at e;exact h1 ρ p e
  | false=>rw[if_neg HP] at e;exact h2 ρ p e
 | er x=>rw[h] at e;cases e
 | no=>rw[h] at e;cases e
theorem vh{n:Nat}(hg:∀ρ p,g ρ≠.ok (.ret p))(ρ:PSt)(p:PV):whS n t g ρ≠.ok (.ret p):=by
 unfold whS
 induction n generalizing ρ with
 | zero=>intro e;cases e
 | succ n ih=>
  intro e;unfold whF at e;cases h:t ρ with
  | ok b=>
   rw[h,R.ok_bind] at e;cases b with
   | true=>
    rw[if_pos rfl] at e;cases h2:g ρ with
    | ok fl=>
     rw[h2,R.ok_bind] at e;cases fl with
     | next ρ2=>exact ih ρ2 e
     | cont ρ2=>exact ih ρ2 e
     | brk ρ2=>cases e
     | ret q=>exact hg ρ q h2
    | er x=>rw[h2] at e;cases e
    | no=>rw[h2] at e;cases e
   | false=>rw[if_neg HP] at e;cases e
  | er x=>rw[h] at e;cases e
  | no=>rw[h] at e;cases e
theorem uM(i:Nat)(f:PSt->R PV)(ρ:PSt)(p:PV):Aw i f ρ≠.ok (.ret p):=by
 unfold Aw;intro h;split at h
 ·cases hf:f ρ with
  | ok q=>
   rw[hf,R.ok_bind] at h;split at h <;> cases h
  | er x=>rw[hf] at h;cases h
  | no=>rw[hf] at h;cases h
 ·cases h
theorem qA(i:Nat)(fk fv:PSt->R PV)(ρ:PSt)(p:PV):mR i fk fv ρ≠.ok (.ret p):=by
 unfold mR;intro h;split at h
 ·cases hf:fv ρ with
  | ok q=>
   rw[hf,R.ok_bind] at h;cases hk:fk ρ with
   | ok kp=>
    rw[hk,R.ok_bind] at h;cases ht:qp kp with
    | some k=>
     rw[ht,R.ofO_some,R.ok_bind] at h;split at h <;> cases h
    | none=>rw[ht] at h;cases h
   | er x=>rw[hk] at h;cases h
   | no=>rw[hk] at h;cases h
  | er x=>rw[hf] at h;cases h
  | no=>rw[hf] at h;cases h
 ·cases h
end
end PU
namespace PU
open PySem PySem.Spec PyProof.Rows L2 PySem.SeqAt
section
variable{P : HX}{w : IA}{K : HA}{mg : Str → Option HB}{base : Heap}
theorem Fun.okC{x qual:Str}{st:Stmt}{f:Addr}{fd:FuncData}{N ps:List Str}{k:Nat}{sp:Sp}(F:Fun K x qual st f fd)(S:FnScope N ps (ah st))(len:∀vs H Q E,sp vs H Q E->vs.length=ps.length)
  (hbody:∀(cdv:HB),cdv=fd.code->∀(A:IL)(outer:List M5)(s:HC)(H:Hp)(vs:List V)(Q:VK)(E:XK),Room k (A.deeper (Kb qual (ah st) s.heap.objs.size f cdv))->sp vs H Q E->
   ∃t,PSs (yf CX0 P w K mg base N qual (ah st) f cdv A outer s H E).nox (bz st) t/\t { nx:=fun _ H'=>Q .non H',rt:=Q } (L2.start N vs) H):FnOk P w K mg base CX0 (k+1) f fd ps sp:=by
 obtain⟨oc,od,kV,doc,pm,an,cdv,ct,osl,rfl,lk,hcd⟩:=F.ex;refine Cr lk hcd S len fun A outer s H vs Q E hr hsp=>?_;obtain⟨t,h,q⟩:=hbody cdv rfl A outer s H vs Q E hr hsp;exact⟨t,h.nox,q⟩
variable[TW]
end
def Aq(n:Nat)(fe:PSt->R PV)(qs cs:List PV):Option PV:=if qs.length=n then (match fe ((qs++cs).map .val) with
 | .ok p=>some p
 | _=>none) else none
theorem t5{n:Nat}{fe:PSt->R PV}{qs cs:List PV}{p:PV}(h:Aq n fe qs cs=some p):qs.length=n/\fe ((qs++cs).map .val)=.ok p:=by
 unfold Aq at h;split at h
 ·rename_i hl
  refine⟨hl,?_⟩;split at h
  ·rename_i q hq;cases h;exact hq
  ·cases h
 ·cases h
def zO(q:Str)(kept:List Str)(sc:Scope):Stmt->Lam
 | .FunctionDef n a b _ _ _ s _ _ _=>⟨q,a,.stmts b,s,kept,n⟩
 | _=>⟨q,⟨[],[],none,[],[],none,[]⟩,.stmts [],sc,kept,q⟩
def pY(p:JO):Stmt->JO
 | .FunctionDef _ _ _ _ _ _ _ _ _ p=>p
 | _=>p
theorem LScope.of{ps fr ls:List Str}{sc:Scope}(kind:sc.kind=.function)(co:sc.isCoroutine=false)(gen:sc.isGenerator=false)(nocell:∀x∈sc.names,x.2≠.cell)(par:∀x∈ps,sc.names.lookup x=some .local)
  (fre:∀y∈sc.names,y.2=.free->y.1∈fr) (frk:∀x∈fr,sc.names.lookup x=some .free) (nd:(ps++fr++ls).Nodup):LScope ps fr ls sc:=
 ⟨kind,co,gen,nocell,par,fun x h=>fre _ (IQ h) rfl,frk,nd⟩
end PU
namespace PU
open PySem PySem.Spec PyProof.Rows L2 PySem.SeqAt
section
variable{P : HX}{w : IA}{K : HA}{mg : Str → Option HB}{base : Heap}
variable[TW]
theorem yT{x qual:Str}{st:Stmt}{f:Addr}{fd:FuncData}{N ps:List Str}{k:Nat}{g:PSt->R Fl}(F:Fun K x qual st f fd)(S:FnScope N ps (ah st))(hm:mg x=some (.ref f))(hb:Binds K fd ps [])
  (hbody:∀(cdv:HB),cdv=fd.code->∀(A:IL)(outer:List M5)(s:HC)(H:Hp)(E:XK),Room k (A.deeper (Kb qual (ah st) s.heap.objs.size f cdv))->SVs (Av P w K mg base N qual (ah st) f cdv A outer s H E) (bz st) g) :
  PF P w K mg base (k+1) x (eI ps.length N.length g):=by
 refine⟨f,fd,ps,Fun.okC F S (fun vs H Q E h=>h.1) (fun cdv hcdv A outer s H vs Q E hr h=>?_),hm,F.kp,hb,fun qs p h=>?_⟩
 ·obtain⟨hl,tb,qs,p,r,e,k⟩:=h
  refine⟨_,hbody cdv hcdv A outer s H E hr,start N.length qs,(H,H),iS tb r,?_⟩;unfold eI at e;rw[if_pos (by rw[r.length];exact hl)] at e;cases hg:g (start N.length qs) with
  | ok fl=>
   rw[hg] at e;cases fl with
   | next ρ=>cases e;exact fun σ H' S'=>k .non H' S'.same rfl
   | ret q=>cases e;exact fun v H' s' r'=>k v H' s' r'
   | brk ρ=>cases e
   | cont ρ=>cases e
  | er x=>rw[hg] at e;cases e
  | no=>rw[hg] at e;cases e
 ·unfold eI at h
  split at h
  ·rename_i hl;exact hl
  ·cases h
end
section
variable[TW]
variable{C : Cn}{elt tg iter : Expr}{ifs : List Expr}{scope : Scope}{pos : JO}{N' : List Str}{nt : Nat}{idx : List Nat}{fi : PSt → R (List PV)}{h : Tgt}{t : PSt → R Bool}{fe : PSt → R PV}
theorem RQ.comp{H:Hp}{ρ:PSt}{m:PV->Prop}(q:RQ C H (fS fi h t fe nt idx ρ) m):RQ C H (fi ρ) fun ps=>∃qs,cq h t fe (bU nt idx ρ) ps=.ok qs/\qs.length<=sizeLine/\m (.lst qs):=by
 unfold fS at q;refine q.bind.imp fun ps _ k=>?_;cases hc:cq h t fe (bU nt idx ρ) ps with
 | ok qs=>
  rw[hc] at k;have k:RQ C H (fh qs >>= fun qs=>R.ok (.lst qs)) m:=k;unfold fh at k
  by_cases hz:qs.length<=16777216
  ·rw[if_pos hz] at k
   exact⟨qs,rfl,by rw[Il];exact hz,k⟩
  ·rw[if_neg hz] at k
   exact HJ k
 | er x=>rw[hc] at k;exact HJ k
 | no=>rw[hc] at k;exact HJ k
theorem yO(i:Nat){x:Str}{px:JO}{spos:JO}(hN:C.X.N.Nodup)(O:CompOk C.X.N C.X.env.scope scope N' nt idx)(hi:EI C tg iter fi)
  (hg:∀cl L s H fp,TCt (d4 C N' scope cl L s H fp) tg h) (he:∀cl L s H fp,EV (d4 C N' scope cl L s H fp) elt fe)
  (hsw:KL (.ListComp elt [⟨tg,iter,ifs,0⟩] scope pos) (some (.Name x px)) spos.line C.X.env=pure true:=by rfl)
  (hs:∀x,KZ iter C.X.env x=pure x:=by intro _;rfl)
  (hf:C.X.fn x=true\/C.X.env.scope.names.lookup x=some .local:=by first | exact .inl rfl | exact .inr rfl | assumption) (hc:C.X.calm=true:=by rfl) (hlow:Ai nt h:=by repeat' (first | exact oD | exact lW (by decide) | apply oC | apply lX)) (ht:∀cl L s H fp,ETs (d4 C N' scope cl L s H fp) ifs t:=by exact fun _ _ _ _ _=>oN) (hi':C.X.N[i]?=some x:=by rfl) (hx:Loc C.X.env.scope x:=by first | exact .inl rfl | exact .inr rfl) :
  PS C.X (.Assign [.Name x px] (.ListComp elt [⟨tg,iter,ifs,0⟩] scope pos) spos) (E5 (tV C (fS fi h t fe nt idx)) (wF i)):=by
 intro pins s σ H D I ⟨ρ,vw,q⟩;rw[exec_Assign_Name_used _ _ _ _ hsw];refine HD (NY (HD ?_));show Hx _ C.X.A (do let _<- comprehension (.ListComp elt [⟨tg,iter,ifs,0⟩] scope pos) scope C.X.env _ (newList []) false (J8 iter C.X.env) (some (Ln (.Name x px) C.X.env))) _ _ s
 refine HD (JG (LG (use:=some (Ln (.Name x px) C.X.env)) (Q:=fun _ s'=>SP C.X pins D .next s') rfl hs (bP fun y hy hk=>I.ok.has y.1 (O.free y hy hk)) O.kind O.names ?_)
  (fun _ s' hq=>HK (HK hq)) fun _ _ e=>e)
 refine thn (hi pins s σ H (fun J H'=>∃ps qs,Same H H'/\ItP C.X.K J H' ps/\cq h t fe (bU nt idx ρ) ps=.ok qs/\qs.length<=sizeLine/\∀v H'',Same H H''->Rep C.X.K H'' (.lst qs) v->D.nx (σ.set i (some v)) H'') I
  ⟨ρ,vw,q.comp.imp fun ps _ k J H' s' ip=>?_⟩) fun v s1 h1=>thn h1 fun itv s2 h2=>?_
 ·obtain⟨qs,e1,z,k⟩:=k
  exact⟨ps,qs,s',ip,e1,z,fun v H'' s'' r=>k v H'' s'' r⟩
 ·obtain⟨it,fp,tn,J,H2,e,I2,T,st2,f2,ps,qs,sm,ip,e1,hz,k⟩:=h2
  subst e;refine kg O hc hg hlow ht he I2 T st2 f2 (vw.same sm) ip e1 hz fun Da L σ' H' s' xs I' sm' nD hD rp hL=>?_;obtain⟨m,⟨o,es,ep,ho,hrest⟩,_⟩:=id I'.loc;have IB:=kh I2 f2 I';have nL:L≠C.X.env.locals:=Jd (HR I2.lt hL)
  have nC:∀x c,C.X.env.cells.lookup x=some c->c≠L:=fun x c ec z=>by
   obtain⟨v,qc⟩:=I2.cell x c ec;have z:c=L:=z;exact Iw _ (HR (z▸qc.lt) hL)
  have nP:∀p∈C.X.pn++pins,p.1≠L:=fun p hp z=>by
   have z:p.1=L:=z;exact Iw _ (HR (z▸HU (I2.pin p hp).1) hL)
  have IP:L2.Inv C.X (pins++[(L,o)]) σ H' s':=IB.pins_of fun p hp=>by
   rcases IV.mp hp with z | z
   ·exact IB.pin p (IS _ z)
   ·have:p=(L,o):=by simpa using z
    subst this;exact⟨ho,I'.free,nL,I2.nofs hL,fun v z=>by rw[hrest.1] at z;cases z⟩
  obtain⟨H3,I3,rp3,oth⟩:=L2.Inv.frz (a:=Da) (p:=.lst qs) IP ⟨xs,hD,rp⟩;refine thn (lP hN hi' hx hf (pins++[(L,o)]) s' σ H3 (.ref Da) (.ref Da) (fun σ4 H4=>σ4=σ.set i (some (.ref Da))/\H4=H3) I3 rfl ⟨rfl,rfl⟩) fun _ s4 ⟨σ4,H4,I4,e4,e5⟩=>?_;have hp:=I4.pin (L,o) (by simp);have IU:L2.Inv C.X pins σ4 H4 s4:=I4.unpinned;refine⟨m,⟨o,es,ep,hp.1,hrest⟩,fun h' sb=>⟨σ4,H4,k8 IU hp.2.1 nL (Ig I2.sz hL) nC nP sb,?_⟩⟩;subst e4 e5;exact k _ _ ((sm.trans sm').but (sm.free nD) (fun u h=>by rw[hD] at h;cases h;rfl) oth) rp3
end
variable[TW]
def tSF(C:Cn)(Φ:Ph)(g:PSt->R Fl):TS:=fun D σ H=>Φ σ H/\tS C g D σ H
def SVF(C:Cn)(Φ:Ph)(st:List Stmt)(g:PSt->R Fl):Prop:=PSs C.X st (tSF C Φ g)
def tBF(C:Cn)(Φ:Ph)(t:PSt->R Bool):TT:=fun σ H Q=>Φ σ H/\tBl C t σ H Q
def ETF(C:Cn)(Φ:Ph)(e:Expr)(t:PSt->R Bool):Prop:=PT C.X e (tBF C Φ t)
def yd(i:Nat)(g:PSt->R Fl):PSt->R Fl:=fun ρ=>match ρ[i]? with
 | some .no=>g ρ
 | _=>.no
def lu(L:Lam)(idx:List Nat)(fs:PSt->R (List PV))(app:Lam->List PV->List PV->Option PV):PSt->R PV:=fun ρ=>qW ρ idx >>= fun cs=>fs ρ >>= fun qs=>
 if aQ qs=true/\aQ cs=true then R.ofO (app L qs cs) >>= fun z=>if noFn z=true then .ok z else .no else .no
theorem SVF.tru{C:Cn}{sts:List Stmt}{g:PSt->R Fl}(h:SVF C tru sts g):SVs C sts g:=fun pins s σ H D I q=>h pins s σ H D I ⟨trivial,q⟩
section
variable{C : Cn}{Φ Ψ : Ph}{e : Expr}{es : List Expr}{f : PSt → R PV}{fs : PSt → R (List PV)}{g : PSt → R Fl}{rest : List Stmt}{pos : JO}
theorem ug(ha:EVF C Φ e f)(he:∀whole,isTrue e C.X.env whole=(do let v<- whole;standAt e.pos;holding [v] (truthy v)):=by intro _;rfl)(hw:C.X.w=TW.w:=by rfl):ETF C Φ e (cY f):=by
 intro pins s σ H Q I ⟨ph,ρ,vw,q⟩;refine isTrue_plain (thn (ha pins s σ H (fun v H'=>∃p b,b8 C.X.K H' p v/\rM p=some b/\Q b H') I ⟨ph,ρ,vw,q.bind.imp fun p _ k v H' s' r=>?_⟩) fun v s1 ⟨x,H1,I1,r1,q1⟩=>rL hw pins s1 σ H1 x v Q I1 r1 q1) (he _);obtain⟨b,eb,k⟩:=k.ofO;exact⟨p,b,r.o,eb,k H' s'⟩
theorem yw(he:EVF C Φ e f):SVF C Φ [.Return (some e) pos] (cJ f):=by
 intro pins s σ H D I ⟨ph,ρ,B,S,h⟩;exact lO (pb he) pins s σ H D I ⟨ph,ρ,S.vw,(h.bind S.same).imp fun p _ k v H' s' r=>k v H' (S.same.trans s') r⟩
theorem lC(i:Nat){x:Str}{pos':JO}(hN:C.X.N.Nodup)(ok:Φ.Ok)(hk:∀σ H v,Φ σ H->Φ (σ.set i v) H)(he:EVF C Φ e f)(hr:SVF C Φ rest g)(hs:KL e (some (.Name x pos')) pos.line C.X.env=pure false:=by rfl)
  (hf:C.X.fn x=true\/C.X.env.scope.names.lookup x=some .local:=by first | exact .inl rfl | exact .inr rfl | assumption) (hi:C.X.N[i]?=some x:=by rfl) (hx:Loc C.X.env.scope x:=by first | exact .inl rfl | exact .inr rfl) :
  SVF C Φ (.Assign [.Name x pos'] e pos::rest) (aT (bZ i f) g):=by
 intro pins s σ H D I ⟨ph,ρ,B,S,h⟩;refine fU (sf hN hi hx he hs hf) hr pins s σ H D I ⟨ph,ρ,S.vw,?_⟩;unfold aT bZ at h;cases hg:f ρ with
 | ok p=>rw[hg] at h;exact fun v H' s' r=>⟨hk _ _ _ (ok _ _ _ ph s'),ρ.set i (.val p),B,(S.grow s').setV r,h⟩
 | er x=>rw[hg] at h;exact fun H' s'=>h H' (S.same.trans s')
 | no=>rw[hg] at h;exact h
theorem rO{c e1:Expr}{t:PSt->R Bool}{f1:PSt->R PV}{p1:JO}(ok:Φ.Ok)(hc:ETF C Φ c t)(h1:EVF C Φ e1 f1)(hr:SVF C Φ rest g):SVF C Φ (.If c [.Return (some e1) p1] [] pos::rest) (aT (ifF t (cJ f1) cE) g):=by
 intro pins s σ H D I ⟨ph,ρ,B,S,h⟩;refine fU (Bi hc (lO (pb h1)) se) hr pins s σ H D I ⟨ph,ρ,S.vw,?_⟩;unfold aT ifF at h;cases hg:t ρ with
 | ok b=>
  rw[hg] at h;intro H' s';cases b with
  | true=>
   refine(if_pos rfl).mpr ⟨ok _ _ _ ph s',ρ,S.vw.same s',?_⟩;have h:RS C B D (cJ f1 ρ >>= fun fl=>_):=h;unfold cJ at h;cases hf:f1 ρ with
   | ok p=>rw[hf] at h;exact fun v H2 s2 r=>h v H2 ((S.same.trans s').trans s2) r
   | er x=>rw[hf] at h;exact fun H2 s2=>h H2 ((S.same.trans s').trans s2)
   | no=>rw[hf] at h;exact h
  | false=>exact(if_neg (by decide)).mpr ⟨ok _ _ _ ph s',ρ,B,S.grow s',h⟩
 | er x=>rw[hg] at h;exact fun H' s'=>h H' (S.same.trans s')
 | no=>rw[hg] at h;exact h
theorem B3{st:Stmt}(i:Nat)(ok:Φ.Ok)(hk:∀σ H v,Φ σ H->Φ (σ.set i v) H)(hp:PS C.X st (E5 (tV C f) (wF i)))(hr:SVF C Φ rest g):SVF C Φ (st::rest) (aT (bZ i f) g):=by
 intro pins s σ H D I ⟨ph,ρ,B,S,h⟩;refine fU hp hr pins s σ H D I ⟨ρ,S.vw,?_⟩;unfold aT bZ at h;cases hg:f ρ with
 | ok p=>rw[hg] at h;exact fun v H' s' r=>⟨hk _ _ _ (ok _ _ _ ph s'),ρ.set i (.val p),B,(S.grow s').setV r,h⟩
 | er x=>rw[hg] at h;exact fun H' s'=>h H' (S.same.trans s')
 | no=>rw[hg] at h;exact h
structure DefC(C:Cn)(L:Lam)(b:List Stmt)(pos:JO)(c P:Addr):Prop where
 bd:L.body=.stmts b
 qual:L.qual=LU C.X.env L.name L.name
 tq:TW.qual pos.line pos.col=L.qual
 code:C.X.env.code=.ref c
 hd:ME C.X.base c P
 tab:P∈TW.tabs
 bn:Bn C.X
 d0:L.args.defaults=[]
 k0:L.args.kw_defaults=[]
 an:annTrees L.args none C.X.env=[]
 free:∀y∈L.scope.names,y.2=.free->C.X.env.scope.names.lookup y.1=some .cell
theorem rQ{L:Lam}{b:List Stmt}{c P:Addr}(i:Nat)(hN:C.X.N.Nodup)(ok:Φ.Ok)(hk:∀σ H v,Φ σ H->Φ (σ.set i v) H)(d:DefC C L b pos c P)(hr:SVF C (fun σ H=>Φ σ H/\FnS C.X i L σ H) rest g)
  (hf:C.X.fn L.name=true\/C.X.env.scope.names.lookup L.name=some .local:=by first | exact .inl rfl | exact .inr rfl | assumption) (hi:C.X.N[i]?=some L.name:=by rfl) (hx:Loc C.X.env.scope L.name:=by first | exact .inl rfl | exact .inr rfl) :
  SVF C Φ (.FunctionDef L.name L.args b [] none [] L.scope none L.name pos::rest) (yd i g):=by
 intro pins s σ H D I ⟨ph,ρ,B,S,h⟩;unfold yd at h;split at h
 ·rename_i e0
  have p1:PS C.X (.FunctionDef L.name L.args b [] none [] L.scope none L.name pos) (fun D σ' H'=>σ'=σ/\H'=H/\∀v H1,Same H H1->FnS C.X i L (σ.set i (some v)) H1->D.nx (σ.set i (some v)) H1):=by
   intro pins' s' σ' H' D' J ⟨e1,e2,q⟩;subst σ' H';obtain⟨ps,eP,tk⟩:=S.vw.tb P d.tab;have has:∀y∈L.scope.names,y.2=.free->∃c,C.X.env.cells.lookup y.1=some c:=fun y hy hk=>J.ok.has y.1 (.inl (d.free y hy hk));refine CN (c:=c) (P:=P) J eP tk d.code d.hd d.bn d.d0 d.k0 d.an (d.tq.trans d.qual) has fun f c' doc pm ct H1 s1 I1 sm hf' hc'=>?_;rw[← d.qual] at hf' hc'
   have hf':H1 f=some (FnAt f (jE L (df C.X.env.cells L.scope.names []) (doc,pm) c' ct)):=by
    rw[hf'];unfold jE qJ;rw[d.bd]
   refine iR I1 hN hi hx (v:=.ref f) rfl (fun s2 I2=>⟨_,H1,I2,q _ H1 sm ⟨f,c',(doc,pm),ct,?_,hf',hc'⟩⟩) hf;rw[LC (by rw[← S.len];exact(HM.mp e0).1)]
  refine fU p1 hr pins s σ H D I ⟨rfl,rfl,fun v H1 sm fn=>⟨⟨hk _ _ _ (ok _ _ _ ph sm),fn⟩,ρ,B,?_,h⟩⟩;have S1:=S.grow sm;have ne:∀(j:Nat)(z:Sl),ρ[j]?=some z->z≠.no->j≠i:=fun j z ez n q=>by subst q;rw[e0] at ez;cases ez;exact n rfl
  have gs:∀j,j≠i->(σ.set i (some v))[j]?=σ[j]?:=fun j n=>Ke (Jg n);refine⟨by rw[List.length_set];exact S1.len,S1.same,S1.kp,⟨fun j z ez=>?_,S1.vw.tb⟩,fun j p a e1 e2=>?_,fun j k p q a e1 e2 e3 e4=>?_,S1.pinned⟩
  ·by_cases n:j=i
   ·subst n
    rw[e0] at ez;cases ez;exact trivial
   ·rw[gs j n]
    exact S1.vw j z ez
  ·rw[gs j (ne j _ e1 (by simp))] at e2
   exact S1.fresh j p a e1 e2
  ·rw[gs j (ne j _ e1 (by simp))] at e3
   rw[gs k (ne k _ e2 (by simp))] at e4;exact S1.apart j k p q a e1 e2 e3 e4
 ·exact HJ h
theorem qP{L:Lam}{idx:List Nat}{app:Lam->List PV->List PV->Option PV}{k:Nat}{x:Str}{p pos:JO}(i:Nat)(T:D0 C.X.prog C.X.w C.X.K C.X.mg C.X.base k app){kr:Nat}(hr:Room kr C.X.A)(hF:∀σ H,Φ σ H->FnS C.X i L σ H)(fc:FnC C L idx)(ha:EA C (e::es) fs)
  (hN:C.X.N[i]?=some x:=by rfl) (hvis:Vis C.X.env.scope x:=by first | exact .inl rfl | exact .inr (.inl rfl) | exact .inr (.inr rfl)) (hdb:(x == ("__debug__":Str))=false:=by decide) (hcd:(x == ("__classdict__":Str))=false:=by decide)
  (he:Hw (e::es) C.X.env=(false,J8 e C.X.env)::Hw es C.X.env:=by exact c6 rfl) (hpl:(KI pos (Hw es C.X.env)).any (·.1)=false:=by exact iT rfl) (hk:k+1<=kr:=by decide) (hfn:∀y,C.X.fn y=true:=by exact fun _=>rfl) :
  EVF C Φ (.Call (.Name x p) (e::es) [] pos) (lu L idx fs app):=by
 replace hr:=hr.mono hk;intro pins s σ H Q I ⟨ph,ρ,vw,q⟩;unfold lu at q;cases hc:qW ρ idx with
 | er x=>exact absurd hc (mz idx x)
 | no=>rw[hc] at q;exact HJ q
 | ok cs=>
  rw[hc] at q;obtain⟨f,c,pm,ct,ev,hf0,hc0⟩:=hF σ H ph;refine Jn (thn (fF hN hvis hdb hcd pins s σ H (fun v' H'=>v'=.ref f/\H'=H) I ⟨_,ev,rfl,rfl⟩) fun u s1 ⟨v',H',I1,ru,e2,e3⟩=>?_);subst e2 e3;cases (show u=JA f from ru);have fnAt:∀{H2:Hp}{s2:HC},L2.Inv C.X pins σ H2 s2->Same H' H2->PySem.W.FnAt f s2.heap:=fun {H2 s2} I2 sm=>⟨_,_,_,_,(I2.hok f _ (sm _ _ hf0)).1⟩;have q:RQ C H' (fs ρ >>= fun qs=>if aQ qs=true/\aQ cs=true then R.ofO (app L qs cs) >>= fun z=>if noFn z=true then .ok z else .no else .no) _:=q
  refine N7 (fnAt I1 (Same.refl _)) (thn (ha pos pins s1 σ H' (fun vs H2=>∃qs z,aE C.X.K H2 qs vs/\Same H' H2/\aQ qs=true/\aQ cs=true/\app L qs cs=some z/\noFn z=true/\∀v H3,Same H' H3->Rep C.X.K H3 z v->Q v H3) I1
   ⟨ρ,vw,q.bind.imp fun qs _ k1 vs H2 sm2 r2=>?_⟩) fun us s2 ⟨vs,H2,I2,r,qs,z,r2,sm2,n1,n2,ea,nz,k2⟩=>⟨fnAt I2 sm2,?_⟩) he hpl
  ·split at k1
   ·rename_i hn
    obtain⟨z,ez,k3⟩:=k1.bind.ofO;split at k3
    ·rename_i nz
     exact⟨qs,z,r2,sm2,hn.1,hn.2,ez,nz,fun v H3 s3 r3=>k3 v H3 s3 r3⟩
    ·exact HJ k3
   ·exact HJ k1
  ·obtain⟨ps,ls,fe,B,hl,ef⟩:=T L qs cs z ea
   have pr:yk C.X H2 σ (.fn L cs) (.ref f):=si (pins:=pins) (s:=s2) I2.ok.inj (fun y hy=>I2.ok.has y (.inl hy)) (vw.same sm2) hc fc.free fc.kept fc.nd fc.ix (sm2 _ _ hf0) (sm2 _ _ hc0);have rep:=pd I2 hfn pr;have cl:=uF I2 hfn (C.X.env.scope.names.map (·.1));have ext:Same H2 (trC H2 (g8 C.X s2.heap (C.X.env.scope.names.map (·.1)))):=.of fun b o e=>by rw[aS (cl.out e)];exact e
   obtain⟨f',c',cl',pm',ct',xs,e1,hf1,hc1,hk1,nd1,ca,rc⟩:=rep;cases e1;obtain⟨hxl,l,l1,l2⟩:=il ca;have hus:us.length=ps.length:=by rw[← r.length,← r2.length];exact hl
   refine N3 (Ks (sX (l:=l) (E:=E0) (Q:=fun v H3=>Same (trC H2 (g8 C.X s2.heap (C.X.env.scope.names.map (·.1)))) H3/\Rep C.X.K H3 z v) B.sc hr (CA I2 cl) hf1 hc1 l1 hk1 nd1 hxl l2 (B.bd cl' pm' ct' c' us hus) (B.ev f c' cl' C.X.A C.X.stack s2 _ (hr.deeper _)) r (by rw[← r2.length];exact hl) (r2.same ext) rc n1 n2 (ext.tabs (sm2.tabs vw.tb)) ef
    fun v H3 s3 r3=>⟨s3,r3⟩) fun r' s' hq=>?_)
   cases r' with
   | error e=>exact HJ hq
   | ok fl=>
    cases fl with
    | ret u=>
     obtain⟨v,H3,os,bare,un,hok,rv,sm3,rp⟩:=hq;refine yi I2 cl ⟨v,H3,os,bare,un,hok,rv,fun un=>k2 v _ (sm2.trans (B6 cl un sm3)) (Rep.pl (fun b u e h=>?_) z nz rp)⟩;rw[aX (mW un e (m5 h))];exact e
    | next=>exact HJ hq
    | brk=>exact HJ hq
    | cont=>exact HJ hq
end
theorem lx.st{C:Cn}{n:Nat}{B:FuncBody}{b:List Stmt}{g:PSt->R Fl}(h:B=.stmts b)(hs:SVs C b g):lx C n (oP n g) B:=by
 subst h;exact⟨g,hs,rfl⟩
structure NdL(l:List Str):Prop where
 nd:l.Nodup
theorem FnS.set{X:Cx}{i j:Nat}{L:Lam}(h:j≠i):∀σ H v,FnS X i L σ H->FnS X i L (σ.set j v) H:=fun σ H v ⟨f,c,pm,ct,e,r⟩=>⟨f,c,pm,ct,by rw[Ke h];exact e,r⟩
theorem Ph.and_ok{Φ Ψ:Ph}(a:Φ.Ok)(b:Ψ.Ok):Ph.Ok (fun σ H=>Φ σ H/\Ψ σ H):=fun σ H H' h s=>⟨a σ H H' h.1 s,b σ H H' h.2 s⟩
end PU
namespace PU
open PySem PySem.Spec PyProof.Rows L2
theorem fsc{N ps:List Str}{sc:Scope}(a:sc.kind=.function:=by rfl)(b:sc.isCoroutine=false:=by rfl)(c:sc.isGenerator=false:=by rfl)(d:N.Nodup:=by decide +kernel)(e:N.take ps.length=ps:=by rfl)
  (f:∀x∈ps,sc.names.lookup x=some .local\/sc.names.lookup x=some .cell:=by decide +kernel) (g:∀y∈sc.names,y.2≠.free:=by decide +kernel):FnScope N ps sc:=⟨a,b,c,d,e,f,g⟩
theorem cok{N ps NX N':List Str}{S scX scope:Scope}{nt:Nat}{idx:List Nat}(_:FnScope N ps S)(e1:NX=N:=by rfl)(e2:scX=S:=by rfl)(a:scope.kind=.function:=by rfl)(b:∀y∈scope.names,y.2≠.cell:=by decide +kernel)
  (c:∀y∈scope.names,y.2=.local->scope.names.lookup y.1=some .local:=by decide +kernel) (d:∀y∈scope.names,y.2=.free->S.names.lookup y.1=some .cell\/S.names.lookup y.1=some .free:=by decide +kernel) (e:N'.length=nt+idx.length:=by rfl)
  (f:(idx.zip (N'.drop nt)).all (fun p=>decide (N[p.1]?=some p.2) && decide (scope.names.lookup p.2=some .free))=true:=by decide +kernel):CompOk NX scX scope N' nt idx:=by
 subst e1 e2;exact⟨a,b,c,d,e,f⟩
def Has(K:HA)(n:Str)(st:Stmt):Prop:=∃(f:Addr)(oc kV dc pm cd ct:HB)(od an:Option Addr)(sl:Array (Option HB)),Iu K mainGlobals n=some (some (.ref f))/\
 K.lookup f=some ⟨oc,od,.func (J0 n n (dC st) (bz st) (ah st) .none kV dc pm an cd ct),sl⟩/\Jp K cd n=true/\JH K (.ref f)=true
theorem Has.of{K:HA}{n:Str}{st:Stmt}{f:Addr}{oc kV dc pm cd ct:HB}{od an:Option Addr}{sl:Array (Option HB)}(a:Iu K mainGlobals n=some (some (.ref f)))
  (l:K.lookup f=some ⟨oc,od,.func (J0 n n (dC st) (bz st) (ah st) .none kV dc pm an cd ct),sl⟩) (c:Jp K cd n=true) (k:JH K (.ref f)=true):Has K n st:=⟨_,_,_,_,_,_,_,_,_,_,a,l,c,k⟩
def Hs(K:HA)(mg:Str->Option HB)(n:Str)(st:Stmt):Prop:=∃f fd,Fun K n n st f fd/\mg n=some (.ref f)
theorem Has.fn{K:HA}{n:Str}{st:Stmt}{h:Heap}{mg:Str->Option HB}(x:Has K n st)(X:K.In h)(G:h.Ns mainGlobals mg):Hs K mg n st:=by
 obtain⟨f,_,_,_,_,_,_,_,_,_,a,l,c,k⟩:=x;exact⟨f,_,tR l c k,Kq X G a⟩
variable[TW]
section
variable{C : Cn}{pos : JO}
theorem av(i:Nat){x:Str}(hN:C.X.N[i]?=some x:=by rfl)(hv:Vis C.X.env.scope x:=by first | exact .inl rfl | exact .inr (.inl rfl) | exact .inr (.inr rfl))
  (hd:(x == ("__debug__":Str))=false:=by decide) (hcd:(x == ("__classdict__":Str))=false:=by decide):EO C (.Name x pos) (af i):=(aC i hN hv hd hcd).o
theorem ae{i j}:EO C (.Constant (.int i) j pos) (kI i):=aN.o
theorem cx{i j}:EO C (.Constant (.str i) j pos) (kS i):=aI.o
theorem vB{C:Cn}{N':List Str}{scope:Scope}{cl}{L}{s}{H}{fp}(i:Nat){x:Str}(hi:N'[i]?=some x:=by rfl)(hx:Loc (d4 C N' scope cl L s H fp).X.env.scope x:=by first | exact .inl rfl | exact .inr rfl)(hN:N'.Nodup:=by decide +kernel)
  (hf:(d4 C N' scope cl L s H fp).X.fn x=true\/(d4 C N' scope cl L s H fp).X.env.scope.names.lookup x=some .local:=by first | exact .inl rfl | exact .inr rfl | assumption):TCt (d4 C N' scope cl L s H fp) (.Name x pos) (ay i):=yu i hN hi hx hf
end
section
variable{P : HX}{w : IA}{K : HA}{mg : Str → Option HB}{base : Heap}{x : Str}{st : Stmt}{N ps : List Str}{k : Nat}{g : PSt → R Fl}
theorem iA(h:Hs K mg x st)(S:FnScope N ps (ah st))
  (hbody:∀(f:Addr)(cdv:HB)(A:IL)(outer:List M5)(s:HC)(H:Hp)(E:XK),Room k (A.deeper (Kb x (ah st) s.heap.objs.size f cdv))->SVs (Av P w K mg base N x (ah st) f cdv A outer s H E) (bz st) g)
  (hb:∀(kV doc pm:HB)(an:Option Addr)(cdv ct:HB)(us:List HB),us.length=ps.length->MO (J0 x x (dC st) (bz st) (ah st) .none kV doc pm an cdv ct) ⟨us,[]⟩=pure (ps.zip us):=by
   intro _ _ _ _ _ _ us hl;repeat' (first | (exfalso;simp only[JQ] at hl;omega) | (rcases us with _ | ⟨_,us⟩) | rfl)) :
  PF P w K mg base (k+1) x (eI ps.length N.length g):=by
 obtain⟨f,fd,F,hm⟩:=h;exact Ef F S hm (F.binds hb) (hbody f)
theorem Bl(h:Hs K mg x st)(S:FnScope N ps (ah st))
  (hbody:∀(f:Addr)(cdv:HB)(A:IL)(outer:List M5)(s:HC)(H:Hp)(E:XK),Room k (A.deeper (Kb x (ah st) s.heap.objs.size f cdv))->SVN (Av P w K mg base N x (ah st) f cdv A outer s H E) (bz st) g)
  (hb:∀(kV doc pm:HB)(an:Option Addr)(cdv ct:HB)(us:List HB),us.length=ps.length->MO (J0 x x (dC st) (bz st) (ah st) .none kV doc pm an cdv ct) ⟨us,[]⟩=pure (ps.zip us):=by
   intro _ _ _ _ _ _ us hl;repeat' (first | (exfalso;simp only[JQ] at hl;omega) | (rcases us with _ | ⟨_,us⟩) | rfl)) :
  PFN P w K mg base (k+1) x (runN ps.length N.length g):=by
 obtain⟨f,fd,F,hm⟩:=h;exact yS F S hm (F.binds hb) (hbody f)
end
end PU
namespace PU
open PySem PySem.Spec PyProof.Rows L2 HT
theorem gk{prog:HX}{w:IA}{A:IL}{E:HB->HC->Prop}{s:HC}{t sl:Addr}{items:Array HB}{vl vu:HB}{lo hi:Option Int}{Q:HB->HC->Prop}(ht:IsTup s.heap t items)(hs:s.heap.IsSliceOf sl vl vu .none)(pl:Lo vl lo)(pu:Lo vu hi)
  (hw:sIx items.size 0 lo=0/\sIx items.size items.size hi=items.size)
  (h:Q (.ref t) s):Hx (IK prog w) A (ML (.ref t) (.ref sl)) Q E s:=by
 obtain⟨os,hos,hcs,hds⟩:=id hs;have hTs:s.TypeIs (.ref sl) "slice":=⟨os,hos,hcs⟩;unfold ML
 try with_reducible refine Js ?_
 first | refine HD (HK ?_) | skip
 refine HD (wpAny_sequenceKey ht.typeIs (by decide) ?_)
 refine HD (Nj (name:=HL "__getitem__") ht.typeIs Ip
  (LO Ip ht.typeIs entry_tuple_getitem ?_ (args_tuple_getitem _ _)))
 show Hx _ _ (KO (.ref t) >>= _) _ _ s;refine HD (tupleItemsOf_ ht ?_);refine HD (KW hTs ?_);rw[if_pos (by decide)];refine HD (f9 hs pl pu ?_)
 have hyes:((((sIx items.size 0 lo:Nat):Int) == 0 && (1:Int) == 1 && (sIx items.size items.size hi-sIx items.size 0 lo) == items.size)=true):=by
  rw[hw.1,hw.2];simp
 show Hx _ _ (if (((sIx items.size 0 lo:Nat):Int) == 0 && (1:Int) == 1 && (sIx items.size items.size hi-sIx items.size 0 lo) == items.size)=true then _ else _) _ _ s;rw[if_pos hyes];unfold Builtin.Tuple.tupleIsExact;refine HD (HD (KW ht.typeIs (HK ?_)));rw[if_pos (by decide)];refine HD (MC ?_)
 first
  | exact HK ⟨_,rfl,HK h⟩
  | exact HD (HK (HK ⟨_,rfl,HK h⟩))
  | exact HK (HK ⟨_,rfl,HK h⟩)
variable[TW]
def DA:PV->Option Int->Option Int->Option PV
 | .tup ps,lo,hi=>some (.tup (iN ps lo hi))
 | _,_,_=>none
def oW(f:PSt->R PV)(l h:PSt->R (Option Int)):PSt->R PV:=fun ρ=>f ρ >>= fun p=>l ρ >>= fun lo=>h ρ >>= fun hi=>R.ofO (DA p lo hi)
def Eb(K:HA):V->Option Int->Option Int->Hp->VK->Prop:=fun v lo hi H Q=>∃p z,b8 K H p v/\DA p lo hi=some z/\∀w H',Same H H'->Rep K H' z w->Q w H'
theorem Gw{X:Cx}:SlR X (Eb X.K):=by
 intro pins s σ H x v vl vu lo hi sl Q I rx hs pl pu ⟨p,z,rp,ez,k⟩;cases p with
 | tup ps=>
  cases ez;obtain⟨a,xs,rfl,g,rr⟩:=b8.tup_inv rp
  by_cases hw:HT.sIx ps.length 0 lo=0/\HT.sIx ps.length ps.length hi=ps.length
  ·cases rx
   obtain⟨its,r,ht,hz⟩:=I.tuple g;have hlen:its.toArray.size=ps.length:=by rw[Hz,rr.length];exact r.length.symm
   refine⟨"tuple",_,Ip.lookup,ht.typeIs,?_⟩;refine gk ht hs pl pu (by rw[hlen];exact hw) ⟨.ref a,H,I,rfl,k _ H (Same.refl H) ?_⟩
   have e:iN ps lo hi=ps:=by
    unfold iN;rw[hw.1,hw.2];simp
   rw[e];exact rp
  ·exact xp pins s σ H _ v vl vu lo hi sl Q I rx hs pl pu ⟨a,xs,rfl,g,by rw[← rr.length];exact hw,fun b hb=>k _ _ (Same.new hb) ⟨b,_,rfl,ax,(mr rr lo hi).same (Same.new hb)⟩⟩
 | _=>cases ez
theorem ue{C:Cn}{e:Expr}{f:PSt->R PV}{lo hi:Option Expr}{l h:PSt->R (Option Int)}{pos p2:JO}(ha:EO C e f)(hl:EOI C lo l)(hh:EOI C hi h):EV C (.Subscript e (.Slice lo hi none p2) pos) (oW f l h):=by
 intro pins s σ H Q I ⟨ρ,vw,q⟩;refine lR Gw ha hl hh pins s σ H Q I ⟨ρ,vw,q.bind.imp fun p _ k v H1 s1 r1=>⟨ρ,vw.same s1,(k.bind.same s1).imp fun o1 _ k2 H2 s2=>⟨ρ,(vw.same s1).same s2,(k2.bind.same (s1.trans s2)).imp fun o2 _ k3 H3 s3=>?_⟩⟩⟩;obtain⟨z,ez,k4⟩:=k3.ofO;exact⟨p,z,(r1.same s2).same s3,ez,fun w H4 s4 r4=>k4 w H4 (((s1.trans s2).trans s3).trans s4) r4⟩
end PU
namespace BF
def lexLt:List Nat->List Nat->Bool
 | x::xs,y::ys=>if x=y then lexLt xs ys else decide (x<y)
 | _,_=>false
def lt(a b:List Nat):Prop:=a.length<b.length\/(a.length=b.length/\lexLt a b=true)
theorem nv:∀{a b c:List Nat},lexLt a b=true->lexLt b c=true->lexLt a c=true
 | [],_,_,h,_=>by simp[lexLt] at h
 | x::xs,[],_,h,_=>by simp[lexLt] at h
 | x::xs,y::ys,[],_,h=>by simp[lexLt] at h
 | x::xs,y::ys,z::zs,h1,h2=>by
  simp only[lexLt] at h1 h2 ⊢
  by_cases e1:x=y
  ·subst e1
   rw[if_pos rfl] at h1
   by_cases e2:x=z
   ·subst e2
    rw[if_pos rfl] at h2 ⊢;exact nv h1 h2
   ·rw[if_neg e2] at h2 ⊢
    exact h2
  ·rw[if_neg e1] at h1
   by_cases e2:y=z
   ·subst e2
    rw[if_neg e1];exact h1
   ·rw[if_neg e2] at h2
    simp at h1 h2;rw[if_neg (by omega)];simp;omega
theorem lt_trans{a b c:List Nat}(h1:lt a b)(h2:lt b c):lt a c:=by
 unfold lt at *;rcases h1 with h1 | ⟨h1,e1⟩ <;> rcases h2 with h2 | ⟨h2,e2⟩
 ·exact .inl (by omega)
 ·exact .inl (by omega)
 ·exact .inl (by omega)
 ·exact .inr ⟨by omega,nv e1 e2⟩
theorem pJ(i j:Nat)(h:i<j):∀r:List Nat,lexLt (r++[i]) (r++[j])=true
 | []=>by simp[lexLt,h];omega
 | x::r=>by
  show (if x=x then _ else _)=true;rw[if_pos rfl];exact pJ i j h r
theorem oB(r:List Nat)(i j:Nat)(h:i<j):lt (r++[i]) (r++[j]):=.inr ⟨by simp,pJ i j h r⟩
theorem pI(i j:Nat):∀a b:List Nat,a.length=b.length->lexLt a b=true->lexLt (a++[i]) (b++[j])=true
 | [],_,_,h=>by simp[lexLt] at h
 | x::xs,[],h,_=>by simp at h
 | x::xs,y::ys,hl,h=>by
  simp only[lexLt,Jw] at h ⊢
  by_cases e:x=y
  ·rw[if_pos e] at h ⊢
   exact pI i j xs ys (by simpa using hl) h
  ·rw[if_neg e] at h ⊢
   exact h
theorem oA{a b:List Nat}(i j:Nat)(h:lt a b):lt (a++[i]) (b++[j]):=by
 rcases h with h | ⟨h,e⟩
 ·exact .inl (by simp;omega)
 ·exact .inr ⟨by simp[h],pI i j a b h e⟩
theorem xH{S:Type}[DecidableEq S]:∀(l U:List S),l.Nodup->(∀x∈l,x∈U)->l.length<=U.length
 | [],_,_,_=>JI _
 | x::l,U,nd,h=>by
  have nd':=IX.mp nd;have hx:x∈U:=h x (by simp)
  have:=xH l (U.erase x) nd'.2 fun y hy=>by
   have hne:y≠x:=fun e=>nd'.1 (e▸hy);exact(List.mem_erase_of_ne hne).mpr (h y (by simp[hy]))
  rw[List.length_erase_of_mem hx] at this;have:=List.length_pos_of_mem hx;simp;omega
section
variable{S : Type}[DecidableEq S](lead : S → Nat → S)
abbrev Row(S:Type):=S×List Nat
def inn(near:Row S)(found:List (Row S))(i:Nat):List (Row S):=if lead near.1 i∈found.map (·.1) then found else found++[(lead near.1 i,near.2++[i])]
def run(s0:S)(row:List Nat):S:=row.foldl lead s0
variable(s0 : S)
structure Inv(found:List (Row S)):Prop where
 h0:∃tl,found=(s0,[])::tl
 nd:(found.map (·.1)).Nodup
 srt:found.Pairwise fun a b=>lt a.2 b.2
 run:∀p∈found,run lead s0 p.2=p.1
 rng:∀p∈found,∀i∈p.2,i<13
 len:∀(j:Nat)(p:Row S),found[j]?=some p->p.2.length<=j
def Cl(found:List (Row S))(p:Row S)(i:Nat):Prop:=∃q∈found,q.1=lead p.1 i/\(q.2=p.2++[i]\/lt q.2 (p.2++[i]))
theorem zy(near:Row S)(found:List (Row S))(i:Nat):∃tl,inn lead near found i=found++tl:=by
 unfold inn
 split
 ·exact⟨[],by simp⟩
 ·exact⟨_,rfl⟩
theorem Cl.mono{found tl:List (Row S)}{p:Row S}{i:Nat}(h:Cl lead found p i):Cl lead (found++tl) p i:=by
 obtain⟨q,hq,h1,h2⟩:=h;exact⟨q,by simp[hq],h1,h2⟩
theorem xV{found:List (Row S)}{d:Nat}{near:Row S}{i:Nat}(hi:i<13)(I:Inv lead s0 found)(hd:found[d]?=some near)(top:∀p∈found,lt p.2 (near.2++[i])) :
  Inv lead s0 (inn lead near found i)/\(inn lead near found i)[d]?=some near/\(∀p∈inn lead near found i,lt p.2 (near.2++[i+1]))/\Cl lead (inn lead near found i) near i:=by
 have hdl:d<found.length:=(HM.mp hd).1;have nm:near∈found:=II hd;have up:∀p∈found,lt p.2 (near.2++[i+1]):=fun p hp=>lt_trans (top p hp) (oB near.2 i (i+1) (by omega));unfold inn
 split
 ·rename_i hm
  obtain⟨q,hq,e⟩:=HN.mp hm;exact⟨I,hd,up,q,hq,e,.inr (top q hq)⟩
 ·rename_i hm
  refine⟨⟨?_,?_,?_,?_,?_,?_⟩,?_,?_,?_⟩
  ·obtain⟨tl,e⟩:=I.h0
   exact⟨tl++[(lead near.1 i,near.2++[i])],by rw[e];rfl⟩
  ·rw[IH,JP]
   refine⟨I.nd,by simp,fun a ha b hb e=>?_⟩;simp at hb;subst hb e;exact hm ha
  ·rw[List.pairwise_append]
   refine⟨I.srt,by simp,fun a ha b hb=>?_⟩;rw[HY.mp hb];exact top a ha
  ·intro p hp
   rcases IV.mp hp with hp | hp
   ·exact I.run p hp
   ·rw[HY.mp hp]
    show BF.run lead s0 (near.2++[i])=lead near.1 i;have:=I.run near nm;unfold BF.run at this ⊢;rw[Lw,this];rfl
  ·intro p hp j hj
   rcases IV.mp hp with hp | hp
   ·exact I.rng p hp j hj
   ·rw[HY.mp hp] at hj
    rcases IV.mp hj with hj | hj
    ·exact I.rng near nm j hj
    ·rw[HY.mp hj];exact hi
  ·intro j p hp
   rw[List.getElem?_append] at hp;split at hp
   ·exact I.len j p hp
   ·rename_i hj
    have e:=HY.mp (II hp);subst e;have:=I.len d near hd;simp;omega
  ·rw[HZ hdl];exact hd
  ·intro p hp
   rcases IV.mp hp with hp | hp
   ·exact up p hp
   ·rw[HY.mp hp]
    exact oB near.2 i (i+1) (by omega)
  ·exact⟨(lead near.1 i,near.2++[i]),by simp,rfl,.inl rfl⟩
theorem inv_len(U:List S)(hU:∀found,Inv lead s0 found->∀p∈found,p.1∈U){found:List (Row S)}(I:Inv lead s0 found):found.length<=U.length:=by
 have:=xH (found.map (·.1)) U I.nd fun x hx=>by
  obtain⟨q,hq,e⟩:=HN.mp hx;exact e▸hU found I q hq
 simpa using this
theorem inv_P(P:S->Prop)(h0:P s0)(hs:∀s,P s->∀i<13,P (lead s i)):∀found,Inv lead s0 found->∀p∈found,P p.1:=by
 have hr:∀(row:List Nat)(s:S),P s->(∀i∈row,i<13)->P (run lead s row):=by
  intro row
  induction row with
  | nil=>intro s h _;exact h
  | cons i row ih=>intro s h hi;exact ih _ (hs s h i (hi i (by simp))) fun j hj=>hi j (by simp[hj])
 intro found I p hp;rw[← I.run p hp];exact hr p.2 s0 h0 (I.rng p hp)
theorem Cj:Inv lead s0 [(s0,[])]:=by
 refine⟨⟨[],rfl⟩,by simp,by simp,by simp[run],by simp,fun j p h=>?_⟩;have:=HY.mp (II h);subst this;simp
theorem DW(near:Row S)(h:[((s0,[]):Row S)][0]?=some near):∀p∈[((s0,[]):Row S)],lt p.2 (near.2++[0]):=fun p hp=>by
 have e1:=HY.mp (II h);have e2:=HY.mp hp;subst e1 e2;exact .inl (by simp)
end
end BF
namespace BF
theorem sS:∀a:List Nat,lexLt a a=false
 | []=>rfl
 | x::a=>by
  show (if x=x then lexLt a a else _)=false;rw[if_pos rfl,sS a]
theorem xK{a:List Nat}(h:lt a a):False:=by
 rcases h with h | ⟨_,h⟩
 ·omega
 ·rw[sS] at h;cases h
theorem sL{a b:List Nat}(h:lt a b)(k:lt b a):False:=xK (lt_trans h k)
theorem sR:∀a b:List Nat,a.length=b.length->lexLt a b=true\/a=b\/lexLt b a=true
 | [],[],_=>.inr (.inl rfl)
 | [],_::_,h=>by simp at h
 | _::_,[],h=>by simp at h
 | x::a,y::b,h=>by
  simp only[lexLt]
  by_cases e:x=y
  ·subst e
   rw[if_pos rfl,if_pos rfl];rcases sR a b (by simpa using h) with z | z | z
   ·exact .inl z
   ·exact .inr (.inl (by rw[z]))
   ·exact .inr (.inr z)
  ·rw[if_neg e,if_neg (Jg e)]
   rcases Je x y with z | z
   ·exact .inl (by simpa using z)
   ·exact .inr (.inr (by simp;omega))
theorem lt_tri(a b:List Nat):lt a b\/a=b\/lt b a:=by
 rcases Nat.lt_trichotomy a.length b.length with h | h | h
 ·exact .inl (.inl h)
 ·rcases sR a b h with z | z | z
  ·exact .inl (.inr ⟨h,z⟩)
  ·exact .inr (.inl z)
  ·exact .inr (.inr (.inr ⟨h.symm,z⟩))
 ·exact .inr (.inr (.inl h))
theorem BQ{q:List Nat}(h:lt q []):False:=by
 rcases h with h | ⟨h,e⟩
 ·simp at h
 ·cases q with
  | nil=>simp[lexLt] at e
  | cons x q=>simp at h
section
variable{S : Type}[DecidableEq S](lead : S → Nat → S)(s0 : S)(last : S → Bool)
def NL(found:List (Row S)):Prop:=∀p∈found,last p.1=false
def Whole(found:List (Row S)):Prop:=NL last found/\∀p∈found,∀i<13,Cl lead found p i
def Stops(init:List (Row S))(fin:Row S):Prop:=last fin.1=true/\NL last init/\∀p∈init,∀i<13,lt (p.2++[i]) fin.2->Cl lead init p i
structure Res(found:List (Row S)):Prop where
 inv:Inv lead s0 found
 res:Whole lead last found\/∃init fin,found=init++[fin]/\Stops lead last init fin
structure Mid(found:List (Row S))(d k:Nat)(near:Row S):Prop where
 inv:Inv lead s0 found
 at_:found[d]?=some near
 nl:NL last found
 top:∀p∈found,lt p.2 (near.2++[k])
 old:∀(j:Nat)(p:Row S),j<d->found[j]?=some p->∀i<13,Cl lead found p i
 cl:∀i<k,Cl lead found near i
structure Out(found:List (Row S))(d:Nat):Prop where
 inv:Inv lead s0 found
 nl:NL last found
 top:∀near,found[d]?=some near->∀p∈found,lt p.2 (near.2++[0])
 old:∀(j:Nat)(p:Row S),j<d->found[j]?=some p->∀i<13,Cl lead found p i
variable{lead s0 last}
theorem Out.mid{found:List (Row S)}{d:Nat}{near:Row S}(h:Out lead s0 last found d)(e:found[d]?=some near):Mid lead s0 last found d 0 near:=⟨h.inv,e,h.nl,h.top near e,h.old,fun i hi=>absurd hi (by omega)⟩
theorem Mid.go{found:List (Row S)}{d k:Nat}{near:Row S}(h:Mid lead s0 last found d k near)(hk:k<13)(hn:last (lead near.1 k)=false):Mid lead s0 last (inn lead near found k) d (k+1) near:=by
 obtain⟨a,b,c,e⟩:=xV lead s0 hk h.inv h.at_ h.top;obtain⟨tl,et⟩:=zy lead near found k;have hdl:d<found.length:=(HM.mp h.at_).1;refine⟨a,b,fun p hp=>?_,c,fun j p hj hp i hi=>?_,fun i hi=>?_⟩
 ·unfold inn at hp
  split at hp
  ·exact h.nl p hp
  ·rcases IV.mp hp with z | z
   ·exact h.nl p z
   ·rw[HY.mp z];exact hn
 ·rw[et] at hp ⊢
  rw[HZ (by omega)] at hp;exact(h.old j p hj hp i hi).mono lead
 ·rcases Je i k with z | z
  ·rw[et];exact(h.cl i z).mono lead
  ·have:i=k:=by omega
   subst this;exact e
theorem Mid.out{found:List (Row S)}{d:Nat}{near:Row S}(h:Mid lead s0 last found d 13 near):Out lead s0 last found (d+1):=by
 refine⟨h.inv,h.nl,fun near' e p hp=>?_,fun j p hj hp i hi=>?_⟩
 ·have h1:lt near.2 near'.2:=by
   have hs:=Me.mp h.inv.srt;obtain⟨q1,q2⟩:=HM.mp e;obtain⟨q3,q4⟩:=HM.mp h.at_;have:=hs d (d+1) q3 q1 (by omega);rw[q2,q4] at this;exact this
  exact lt_trans (h.top p hp) (oA 13 0 h1)
 ·rcases Je j d with z | z
  ·exact h.old j p z hp i hi
  ·have:j=d:=by omega
   subst this;rw[h.at_] at hp;cases hp;exact h.cl i hi
theorem Mid.stop{found:List (Row S)}{d k:Nat}{near:Row S}(h:Mid lead s0 last found d k near)(hk:k<13)(hm:lead near.1 k ∉ found.map (·.1))(hn:last (lead near.1 k)=true):Res lead s0 last (found++[(lead near.1 k,near.2++[k])]):=by
 obtain⟨a,_,_,_⟩:=xV lead s0 hk h.inv h.at_ h.top;unfold inn at a;rw[if_neg hm] at a;refine⟨a,.inr ⟨found,_,rfl,hn,h.nl,fun p hp i hi hl=>?_⟩⟩;obtain⟨j,hj⟩:=NT hp;rcases Nat.lt_trichotomy j d with z | z | z
 ·exact h.old j p z hj i hi
 ·subst z
  rw[h.at_] at hj;cases hj;rcases Je i k with y | y
  ·exact h.cl i y
  ·rcases Nat.eq_or_lt_of_le y with y | y
   ·subst y;exact(xK hl).elim
   ·exact(sL hl (oB near.2 k i y)).elim
 ·have h1:lt near.2 p.2:=by
   have hs:=Me.mp h.inv.srt;obtain⟨q1,q2⟩:=HM.mp hj;obtain⟨q3,q4⟩:=HM.mp h.at_;have:=hs d j q3 q1 z;rw[q2,q4] at this;exact this
  exact(sL hl (oA k i h1)).elim
theorem Out.done{found:List (Row S)}{d:Nat}(h:Out lead s0 last found d)(e:found.length<=d):Res lead s0 last found:=
 ⟨h.inv,.inl ⟨h.nl,fun p hp i hi=>by
  obtain⟨j,hj⟩:=NT hp;exact h.old j p (by have:=(HM.mp hj).1;omega) hj i hi⟩⟩
theorem out_0(h:last s0=false):Out lead s0 last [(s0,[])] 0:=⟨Cj lead s0,fun p hp=>by rw[HY.mp hp];exact h,fun near e=>DW s0 near e,fun j p hj=>absurd hj (by omega)⟩
theorem res_0(h:last s0=true):Res lead s0 last [(s0,[])]:=⟨Cj lead s0,.inr ⟨[],(s0,[]),rfl,h,(fun p hp=>absurd hp (by simp)),fun p hp=>absurd hp (by simp)⟩⟩
theorem p6(q:List Nat)(i:Nat):run lead s0 (q++[i])=lead (run lead s0 q) i:=by
 unfold run;rw[Lw];rfl
theorem whole_rows{found:List (Row S)}(I:Inv lead s0 found)(h:Whole lead last found)(q:List Nat)(hq:∀i∈q,i<13):last (run lead s0 q)=false:=by
 have go:∀n (q:List Nat),q.length=n->(∀i∈q,i<13)->∃p∈found,p.1=run lead s0 q:=by
  intro n
  induction n with
  | zero=>
   intro q hl _;have:q=[]:=Ik hl;subst this;obtain⟨tl,e⟩:=I.h0;exact⟨(s0,[]),by rw[e];simp,rfl⟩
  | succ n ih=>
   intro q hl hi;have hne:q≠[]:=fun z=>by rw[z] at hl;simp at hl
   obtain⟨q',i,rfl⟩:∃q' i,q=q'++[i]:=⟨q.dropLast,q.getLast hne,(Ji hne).symm⟩;obtain⟨p,hp,e⟩:=ih q' (by simpa using hl) fun j hj=>hi j (by simp[hj]);obtain⟨p',hp',e',_⟩:=h.2 p hp i (hi i (by simp));exact⟨p',hp',by rw[p6,← e];exact e'⟩
 obtain⟨p,hp,e⟩:=go _ q rfl hq;rw[← e];exact h.1 p hp
theorem stops_rows{init:List (Row S)}{fin:Row S}(I:Inv lead s0 (init++[fin]))(h:Stops lead last init fin)(q:List Nat)(hq:∀i∈q,i<13)(hl:lt q fin.2):last (run lead s0 q)=false:=by
 have go:∀n (q:List Nat),q.length=n->(∀i∈q,i<13)->lt q fin.2->∃p∈init,p.1=run lead s0 q/\(p.2=q\/lt p.2 q):=by
  intro n
  induction n with
  | zero=>
   intro q hl _ hlt;have:q=[]:=Ik hl;subst this;obtain⟨tl,e⟩:=I.h0;cases init with
   | nil=>
    have e:[fin]=(s0,[])::tl:=e;injection e with e1 e2;rw[e1] at hlt;exact(BQ hlt).elim
   | cons p init=>
    have e:p::(init++[fin])=(s0,[])::tl:=e;injection e with e1 e2;exact⟨p,by simp,by rw[e1];rfl,by rw[e1];exact .inl rfl⟩
  | succ n ih=>
   intro q hl hi hlt;have hne:q≠[]:=fun z=>by rw[z] at hl;simp at hl
   obtain⟨q',i,rfl⟩:∃q' i,q=q'++[i]:=⟨q.dropLast,q.getLast hne,(Ji hne).symm⟩;have l1:lt q' (q'++[i]):=.inl (by simp);obtain⟨p,hp,e,o⟩:=ih q' (by simpa using hl) (fun j hj=>hi j (by simp[hj])) (lt_trans l1 hlt)
   have le:p.2++[i]=q'++[i]\/lt (p.2++[i]) (q'++[i]):=by
    rcases o with o | o
    ·exact .inl (by rw[o])
    ·exact .inr (oA i i o)
   have l2:lt (p.2++[i]) fin.2:=by
    rcases le with z | z
    ·rw[z];exact hlt
    ·exact lt_trans z hlt
   obtain⟨p',hp',e',o'⟩:=h.2.2 p hp i (hi i (by simp)) l2;refine⟨p',hp',by rw[p6,← e];exact e',?_⟩;rcases o' with o' | o' <;> rcases le with z | z
   ·exact .inl (o'.trans z)
   ·exact .inr (by rw[o'];exact z)
   ·exact .inr (by rw[← z];exact o')
   ·exact .inr (lt_trans o' z)
 obtain⟨p,hp,e,_⟩:=go _ q rfl hq hl;rw[← e];exact h.2.1 p hp
end
end BF
section
namespace PU
open PySem L2
theorem aB{m n:Nat}{g:PSt->R Fl}{ps:List PV}{p:PV}(hl:ps.length=m)(h:g (PU.start n ps)=.ok (.ret p)):eI m n g ps=some p:=by
 unfold eI;rw[if_pos hl,h]
theorem x6{α:Type}{xs:List α}{i:Int}(d:α)(h0:0<=i)(h1:i<xs.length):atI xs i=some (xs.getD i.toNat d):=by
 have h2:i.toNat<xs.length:=by omega
 exact bj (n:=i.toNat) (by omega) (by simp[h2])
def mkS(l:List Nat):Str:=⟨l.toArray⟩
theorem jA(a b:List Nat):mkS a++mkS b=mkS (a++b):=by
 show Str.mk (a.toArray++b.toArray)=_;simp[mkS]
@[simp] theorem ck(a:List Nat):(mkS a).length=a.length:=by simp[mkS,Str.length]
@[simp] theorem fH(a:List Nat):(mkS a).cps.toList=a:=by simp[mkS]
theorem ox(c:Nat):(⟨#[c]⟩:Str)=mkS [c]:=rfl
theorem eX:("":Str)=mkS []:=by decide +kernel
theorem wy(l:List Nat)(z:Int)(h0:0<=z)(h1:z<l.length)(hl:l.length<=16777216):gIx (.str (mkS l)) (.int z)=some (.str ⟨#[l.getD z.toNat 0]⟩):=
 vo (by simpa using hl) (by rw[fH];exact x6 0 h0 h1)
theorem g7(x:List Nat)(c:Nat)(hx:x.length<=1000):eo (.str (mkS x)) (.str ⟨#[c]⟩)=some (.str (mkS (x++[c]))):=by
 rw[ox,je (by simp;omega),jA]
theorem qX(xs:List Str):iJ (xs.map .str)=some xs:=by
 induction xs with
 | nil=>rfl
 | cons x r ih=>simp[iJ,ih]
theorem AN{s:Str}{xs:List Str}(h:(xs.map (·.length)).sum+xs.length * s.length<=16777216):oM (.str s) (.lst (xs.map .str))=some (.str (LV s xs)):=by
 show (iJ (xs.map PV.str)).bind (fun ys=>if (ys.map (·.length)).sum+ys.length * s.length<=16777216 then some (PV.str (Txt.join s ys)) else none)=_;rw[qX,Lu,if_pos h,wx]
end PU
namespace MT
open PySem L2 PU
inductive Room where
 | menu (text:Str) (keys:List (Str×Str)) (wrong waits:Int×Str)
 | names (text:Str) (words:List (Str×Str)) (wrong waits:Int×Str)
 | hours (spans:List (Int×Int×Str)) (last:Str)
 | hand (text:Str)
 | fin (text:Str)
structure House where
 first:Str
 letters:List (Str×Str)
 rooms:List (Str×Room)
def pv2(p:Str×Str):PV:=.tup [.str p.1,.str p.2]
def pvI(p:Int×Str):PV:=.tup [.int p.1,.str p.2]
def pv3(p:Int×Int×Str):PV:=.tup [.int p.1,.int p.2.1,.str p.2.2]
def Room.pv:Room->PV
 | .menu t ks wr wa=>.tup [.str "menu",.str t,.tup (ks.map pv2),pvI wr,pvI wa]
 | .names t ks wr wa=>.tup [.str "names",.str t,.tup (ks.map pv2),pvI wr,pvI wa]
 | .hours sp l=>.tup [.str "hours",.tup (sp.map pv3),.str l]
 | .hand t=>.tup [.str "hand",.str t]
 | .fin t=>.tup [.str "end",.str t]
def aA(rs:List (Str×Room)):PV:=.dct (rs.map fun r=>.inr r.1) (rs.map fun r=>r.2.pv)
def House.pv (h:House):PV:=.dct [.inr "first",.inr "letters",.inr "rooms"] [.str h.first,.lst (h.letters.map pv2),aA h.rooms]
def num(i:Int):Str:=toString i
abbrev sp:Str:=" "
def xM(kind name:Str)(wr wa:Int×Str)(t:Str):Str:=kind++(sp++(name++(sp++(num wr.1++(sp++(wr.2++(sp++(num wa.1++(sp++(wa.2++(sp++t)))))))))))
def Al(a b c:Str):Str:=a++(sp++(b++(sp++c)))
def Gx(a b c d:Str):Str:=a++(sp++(b++(sp++(c++(sp++d)))))
def vJ(name:Str):Room->List Str
 | .menu t ks wr wa=>xM "menu" name wr wa t::ks.map fun k=>Al "key" k.1 k.2
 | .names t ks wr wa=>xM "names" name wr wa t::ks.map fun k=>Al "name" k.1 k.2
 | .hours sp l=>Al "hours" name l::sp.map fun s=>Gx "from" (num s.1) (num s.2.1) s.2.2
 | .hand t=>[Al "hand" name t]
 | .fin t=>[Al "end" name t]
def House.rows (h:House):List Str:=("first"++(sp++h.first):Str)::(h.letters.map (fun l=>Al "letters" l.1 l.2)++h.rooms.flatMap fun r=>vJ r.1 r.2)
def House.text (h:House):Str:=LV "\n" h.rows
end MT
end
namespace PU
open PySem L2
def chZ(fc:PSt->R PV)(g':PV->PV->Option PV)(ρ:PSt)(q:PV):PV->R PV
 | .bl true=>gV (opP g' q) (fc ρ)
 | .bl false=>.ok (.bl false)
 | _=>.no
def chQ(fc:PSt->R PV)(g g':PV->PV->Option PV)(ρ:PSt)(p q:PV):R PV:=gV (chZ fc g' ρ q) (R.ofO (g p q))
@[simp] theorem ER(fc:PSt->R PV)(g':PV->PV->Option PV)(ρ:PSt)(q:PV):chZ fc g' ρ q (.bl true)=gV (opP g' q) (fc ρ):=by unfold chZ;exact IE _
@[simp] theorem GQ(fc:PSt->R PV)(g':PV->PV->Option PV)(ρ:PSt)(q:PV):chZ fc g' ρ q (.bl false)=.ok (.bl false):=by unfold chZ;exact IE _
@[simp] theorem ES(fc:PSt->R PV)(g g':PV->PV->Option PV)(ρ:PSt)(p q:PV):chQ fc g g' ρ p q=gV (chZ fc g' ρ q) (R.ofO (g p q)):=by unfold chQ;exact IE _
@[simp] theorem Dg{fa fb fc:PSt->R PV}{g g':PV->PV->Option PV}{ρ:PSt}:q0 fa fb fc g g' ρ=lz (chQ fc g g' ρ) (fa ρ) (fb ρ):=by
 unfold q0;cases fa ρ with
 | ok p=>
  cases fb ρ with
  | ok q=>
   simp only[R.ok_bind,tj,ES];cases g p q with
   | none=>rfl
   | some z=>
    simp only[R.ofO_some,R.ok_bind,jH];cases z with
    | bl b=>
     cases b with
     | true=>
      rw[ER];cases fc ρ <;> rfl
     | false=>rfl
    | _=>rfl
  | _=>rfl
 | _=>cases fb ρ <;> rfl
theorem iH{α:Type}{enc:α->PV}{h:Tgt}{t:PSt->R Bool}{fe:PSt->R PV}{ρ:PSt}(P:α->Bool)(F:α->PV):∀(xs:List α),
  (∀x∈xs,∃ρ1,h (enc x) ρ=some ρ1/\t ρ1=.ok (P x)/\(P x=true->fe ρ1=.ok (F x)))->cq h t fe ρ (xs.map enc)=.ok ((xs.filter P).map F)
 | [],_=>rfl
 | x::xs,hs=>by
  obtain⟨ρ1,e1,e2,e3⟩:=hs x (ID ..);have ih:=iH P F xs fun y hy=>hs y (I9 _ hy);rw[HI];unfold cq;rw[e1];simp only[R.ofO_some,R.ok_bind,e2];cases hp:P x with
  | true=>
   rw[if_pos rfl,e3 hp,L4 hp,HI];simp only[R.ok_bind,ih]
  | false=>
   rw[if_neg HP,L5 (by rw[hp];exact HP)];exact ih
theorem gK{α:Type}{enc:α->PV}{h:Tgt}{g:PSt->R Fl}(P:α->Bool)(F:α->PV)(I:PSt->Prop)
  (hs:∀(x:α)(ρ:PSt),I ρ->∃ρ1,h (enc x) ρ=some ρ1/\(P x=true->g ρ1=.ok (.ret (F x)))/\(P x=false->∃ρ2,g ρ1=.ok (.next ρ2)/\I ρ2)) :
  ∀(xs:List α)(ρ:PSt),I ρ->(∀x,xs.find? P=some x->gq h g (xs.map enc) ρ=.ok (.ret (F x)))/\(xs.find? P=none->∃ρ',gq h g (xs.map enc) ρ=.ok (.next ρ')/\I ρ')
 | [],ρ,h0=>⟨fun x e=>(by cases e),fun _=>⟨ρ,rfl,h0⟩⟩
 | x::xs,ρ,h0=>by
  obtain⟨ρ1,e1,e2,e3⟩:=hs x ρ h0;cases hp:P x with
  | true=>
   rw[Mz hp];refine⟨fun y e=>?_,fun e=>by cases e⟩;cases e;rw[HI];unfold gq;rw[e1];simp only[R.ofO_some,R.ok_bind,e2 hp]
  | false=>
   obtain⟨ρ2,e4,i2⟩:=e3 hp;obtain⟨k1,k2⟩:=gK P F I hs xs ρ2 i2;rw[LD (by rw[hp];exact HP)]
   have e5:gq h g ((x::xs).map enc) ρ=gq h g (xs.map enc) ρ2:=by
    rw[HI]
    conv=>lhs;unfold gq
    rw[e1];simp only[R.ofO_some,R.ok_bind,e4]
   rw[e5];exact⟨k1,k2⟩
@[simp] theorem DF{n:Nat}{t:PSt->R Bool}{g:PSt->R Fl}{ρ:PSt}:whS n t g ρ=whF t g n ρ:=by unfold whS;exact IE _
end PU
namespace WO
open PySem L2 PU MT
def sg(c:Nat):PV:=.str ⟨#[c]⟩
theorem vF(l:List Nat):fw (mkS l)=l.map sg:=by unfold fw sg;rw[fH]
theorem it_mk(l:List Nat):eV (.str (mkS l))=some (l.map sg):=by rw[← vF];unfold eV;exact IE _
theorem in_one(c:Nat)(l:List Nat):gIn (sg c) (.str (mkS l))=some (.bl (decide (c∈l))):=by
 show some (PV.bl (inS ⟨#[c]⟩ (mkS l)))=_;have e:=PySem.StrLaws.found_one (mkS l) c;rw[fH] at e;unfold inS;rw[e]
def keyPv(o:Option Nat):PV:=match o with
 | some k=>sg k
 | none=>.non
def codePv(o:Option (List Nat)):PV:=match o with
 | some c=>.str (mkS c)
 | none=>.non
abbrev Lts:=List (Nat×List Nat)
def ltPv(ls:Lts):PV:=.lst (ls.map fun l=>.tup [sg l.1,.str (mkS l.2)])
def keyL(ls:Lts)(c:Nat):Option Nat:=(ls.find? fun l=>decide (c∈l.2)).map (·.1)
def codeL(ls:Lts)(x:List Nat):Option (List Nat):=if x.all (fun c=>(keyL ls c).isSome)=true then some (x.map fun c=>(keyL ls c).getD 0) else none
theorem tu:∀l:List Nat,LV "" (l.map fun c=>(⟨#[c]⟩:Str))=mkS l
 | []=>by rw[← eX];rfl
 | [a]=>rfl
 | a::b::r=>by
  have ih:=tu (b::r);have e:LV "" (((a::b::r:List Nat)).map fun c=>(⟨#[c]⟩:Str))=(⟨#[a]⟩:Str)++""++LV "" ((b::r).map fun c=>(⟨#[c]⟩:Str)):=rfl;rw[e,ih,ox,eX,jA,jA];rfl
theorem joinV (l:List Nat) (h:l.length<=1000):oM (.str "") (.lst (l.map sg))=some (.str (mkS l)):=by
 have e:l.map sg=(l.map fun c=>(⟨#[c]⟩:Str)).map PV.str:=by rw[I8];rfl
 rw[e,AN,tu];rw[I8];have:(List.map ((fun x=>x.length) ∘ fun c=>({ cps:=#[c] }:Str)) l)=l.map fun _=>1:=rfl;rw[this];have:("":Str).length=0:=by decide +kernel
 have h2:∀l:List Nat,(l.map fun _=>1).sum=l.length:=fun l=>by
  induction l with
  | nil=>rfl
  | cons a r ih=>simp only[HI,List.sum_cons,ih,IG];omega
 rw[h2,this];omega
theorem ko(ls:Lts)(x:List Nat):(x.map fun c=>keyPv (keyL ls c)).all m4=true:=by
 rw[KU];intro p hp;obtain⟨c,_,rfl⟩:=HN.mp hp;cases keyL ls c <;> rfl
theorem none_in(ls:Lts)(x:List Nat):gIn .non (.lst (x.map fun c=>keyPv (keyL ls c)))=some (.bl (!x.all fun c=>(keyL ls c).isSome)):=by
 have e:gIn .non (.lst (x.map fun c=>keyPv (keyL ls c)))=if m4 .non=true/\(x.map fun c=>keyPv (keyL ls c)).all m4=true then some (.bl (inV (scV .non) ((x.map fun c=>keyPv (keyL ls c)).map scV))) else none:=rfl
 rw[e,if_pos ⟨rfl,ko ls x⟩]
 congr 2
 clear e
 induction x with
 | nil=>rfl
 | cons c r ih=>
  simp only[HI,JR,Bool.not_and,inV,J2];rw[← ih];unfold inV;cases keyL ls c <;> simp[keyPv,sg,scV,eqV]
theorem in_list_comp{α:Type}{enc:α->PV}{h:Tgt}{fe:PSt->R PV}{ρ:PSt}(F:α->PV)(xs:List α)
  (hs:∀x∈xs,∃ρ1,h (enc x) ρ=some ρ1/\fe ρ1=.ok (F x)):cq h kC fe ρ (xs.map enc)=.ok (xs.map F):=by
 have e:=iH (t:=kC) (fun _=>true) F xs fun x hx=>by
  obtain⟨ρ1,a,b⟩:=hs x hx;exact⟨ρ1,a,xg,fun _=>b⟩
 rw[List.filter_eq_self.mpr (fun _ _=>rfl)] at e;exact e
end WO
section
namespace PU
open PySem
theorem u9{α β:Type}{f:α->List β}{b:Nat}:∀{l:List α},(∀x∈l,(f x).length<=b)->(l.flatMap f).length<=l.length * b
 | [],_=>by simp
 | a::l,h=>by
  have:=u9 (l:=l) fun x hx=>h x (I9 _ hx);have h1:=h a (ID ..);simp only[Kv,Hv,IG,Nat.succ_mul];omega
end PU
namespace FA
open PySem L2 PU MT
@[simp] theorem vM:(HL "menu"=HL "names")=False:=by decide +kernel
@[simp] theorem vN:(HL "menu"=HL "hours")=False:=by decide +kernel
@[simp] theorem xw:(HL "menu"=HL "hand")=False:=by decide +kernel
@[simp] theorem yG:(HL "menu"=HL "end")=False:=by decide +kernel
@[simp] theorem vK:(HL "names"=HL "menu")=False:=by decide +kernel
@[simp] theorem uX:(HL "names"=HL "hours")=False:=by decide +kernel
@[simp] theorem vL:(HL "names"=HL "hand")=False:=by decide +kernel
@[simp] theorem xu:(HL "names"=HL "end")=False:=by decide +kernel
@[simp] theorem vO:(HL "hours"=HL "menu")=False:=by decide +kernel
@[simp] theorem uY:(HL "hours"=HL "names")=False:=by decide +kernel
@[simp] theorem xx:(HL "hand"=HL "menu")=False:=by decide +kernel
@[simp] theorem vP:(HL "hand"=HL "names")=False:=by decide +kernel
@[simp] theorem vQ:(HL "hand"=HL "hours")=False:=by decide +kernel
@[simp] theorem yH:(HL "hand"=HL "end")=False:=by decide +kernel
@[simp] theorem yI:(HL "end"=HL "menu")=False:=by decide +kernel
@[simp] theorem xy:(HL "end"=HL "names")=False:=by decide +kernel
@[simp] theorem xA:(HL "end"=HL "hours")=False:=by decide +kernel
@[simp] theorem yJ:(HL "end"=HL "hand")=False:=by decide +kernel
@[simp] theorem rd:(HL "first"=HL "letters")=False:=by decide +kernel
@[simp] theorem uZ:(HL "first"=HL "rooms")=False:=by decide +kernel
@[simp] theorem r9:(HL "letters"=HL "rooms")=False:=by decide +kernel
def holds(hour:Int)(s:Int×Int×Str):Bool:=decide (s.1<=hour) && decide (hour<s.2.1)
def handOf(spans:List (Int×Int×Str))(last:Str)(hour:Int):Str:=match spans.find? (holds hour) with
 | some s=>s.2.2
 | none=>last
abbrev Rooms:=List (Str×Room)
def lookR(rs:Rooms)(n:Str):Option Room:=(rs.find? fun r=>decide (r.1=n)).map (·.2)
def names(rs:Rooms):List Str:=rs.map (·.1)
theorem kZ(n:Str):∀rs:Rooms,bO (rs.map fun r=>.inr r.1) (rs.map fun r=>r.2.pv) (.inr n)=(lookR rs n).map Room.pv
 | []=>rfl
 | r::rs=>by
  have ih:=kZ n rs;unfold lookR at ih ⊢
  by_cases h:r.1=n
  ·simp[h]
  ·simp only[HI,kE]
   rw[if_neg (by simpa using h),LD (by simpa using h)];exact ih
theorem ix_rooms(rs:Rooms)(n:Str):gIx (aA rs) (.str n)=(lookR rs n).map Room.pv:=kZ n rs
theorem look_some(rs:Rooms)(n:Str)(h:n∈names rs):∃r,lookR rs n=some r:=by
 unfold lookR;cases e:rs.find? fun r=>decide (r.1=n) with
 | some r=>exact⟨_,rfl⟩
 | none=>
  obtain⟨r,hr,e2⟩:=HN.mp h;exact absurd (Nu.mp e r hr) (by simpa using e2)
theorem keys_rooms(rs:Rooms):eV (aA rs)=some ((names rs).map .str):=by
 have e:eV (aA rs)=some ((rs.map fun r=>(JF r.1:Key)).map wu):=rfl;rw[e,I8];unfold names;rw[I8];rfl
end FA
end
namespace FA
open PySem L2 PU MT
theorem cut_from{α:Type}(xs:List α)(i:Nat)(h:i<xs.length):iN xs (some ((i:Int)+1)) none=xs.drop (i+1):=by
 unfold iN HT.sIx;simp;have e1:¬ ((i:Int)+1<0):=by omega
 have e2:((i:Int)+1).toNat=i+1:=by omega
 try simp[e1,e2]
 try rw[Nat.min_eq_left (by omega)]
 try exact Mx (by simp)
end FA
namespace MT
open PySem L2 PU
mutual
def flat:PV->Bool
 | .tup ps=>u7 ps
 | .lst ps=>u7 ps
 | .dct _ _=>false
 | .dtt _ _=>false
 | .fn _ _=>false
 | _=>true
def u7:List PV->Bool
 | []=>true
 | p::ps=>flat p && u7 ps
end
mutual
theorem vX:∀(p:PV),flat p=true->bE p p=some true
 | .non,_=>by simp[bE]
 | .bl _,_=>by simp[bE]
 | .int _,_=>by simp[bE]
 | .str _,_=>by simp[bE]
 | .tup ps,h=>by
  simp only[bE];exact jy ps (by simpa [flat] using h)
 | .lst ps,h=>by
  simp only[bE];exact jy ps (by simpa [flat] using h)
 | .dct _ _,h=>by simp[flat] at h
 | .dtt _ _,h=>by simp[flat] at h
 | .fn _ _,h=>by simp[flat] at h
theorem jy:∀(ps:List PV),u7 ps=true->c8 ps ps=some true
 | [],_=>by simp[c8]
 | p::ps,h=>by
  simp only[u7,Ii] at h;simp only[c8,vX p h.1,jy ps h.2,Lu,Bool.and_self]
end
def o3(rs:List (Str×Room))(k:Str)(r:Room):List (Str×Room):=if k∈rs.map (·.1) then rs.map (fun x=>if x.1=k then (x.1,r) else x) else rs++[(k,r)]
theorem oq(rs:List (Str×Room))(k:Str)(r:Room):kq (rs.map fun r=>.inr r.1) (rs.map fun r=>r.2.pv) (.inr k) r.pv=aA (o3 rs k r):=by
 unfold kq o3
 by_cases h:k∈rs.map (·.1)
 ·rw[if_pos h,if_pos (by
   obtain⟨x,hx,e⟩:=HN.mp h;rw[MB];exact⟨.inr x.1,HN.mpr ⟨x,hx,rfl⟩,by simp[e]⟩)]
  have e1:(rs.map fun x=>if x.1=k then (x.1,r) else x).map (fun r=>(JF r.1:Key))=rs.map fun r=>.inr r.1:=by
   rw[I8];apply JU;intro x _;simp only[Ja]
   split <;> rfl
  have e2:iM (rs.map fun r=>.inr r.1) (rs.map fun r=>r.2.pv) (.inr k) r.pv=(rs.map fun x=>if x.1=k then (x.1,r) else x).map fun r=>r.2.pv:=by
   unfold iM;clear h e1
   induction rs with
   | nil=>rfl
   | cons x rs ih=>
    simp only[HI,Jb,ih,MK]
    congr 1
    split <;> rfl
  unfold aA;rw[e1,e2]
 ·rw[if_neg h,if_neg (by
   rw[MB];rintro⟨j,hj,e⟩;obtain⟨x,hx,rfl⟩:=HN.mp hj;exact h (HN.mpr ⟨x,hx,by simpa using e⟩))]
  unfold aA;simp
theorem yL{rs:List (Str×Room)}{k:Str}{r:Room}(P:Str×Room->Prop)(h:∀x∈rs,P x)(hk:∀x:Str×Room,x.1=k->x.2=r->P x)(nd:(rs.map (·.1)).Nodup) :
  (∀x∈o3 rs k r,P x)/\((o3 rs k r).map (·.1)).Nodup/\(o3 rs k r).length<=rs.length+1:=by
 unfold o3
 by_cases hm:k∈rs.map (·.1)
 ·rw[if_pos hm]
  refine⟨fun x hx=>?_,?_,by simp⟩
  ·obtain⟨y,hy,e⟩:=HN.mp hx
   by_cases hyk:y.1=k
   ·rw[if_pos hyk] at e
    subst e;exact hk _ hyk rfl
   ·rw[if_neg hyk] at e
    subst e;exact h _ hy
  ·rw[I8]
   have:(rs.map ((fun x=>x.1) ∘ fun x=>if x.1=k then (x.1,r) else x))=rs.map (·.1):=by
    apply JU;intro x _;simp only[Ja]
    split <;> rfl
   rw[this];exact nd
 ·rw[if_neg hm]
  refine⟨fun x hx=>?_,?_,by simp⟩
  ·rcases IV.mp hx with hx | hx
   ·exact h x hx
   ·have:x=(k,r):=by simpa using hx
    subst this;exact hk _ rfl rfl
  ·rw[IH,JP]
   refine⟨nd,by simp,fun a ha b hb e=>?_⟩;have:b=k:=by simpa using hb
   subst this;subst e;exact hm ha
end MT
namespace NM
open PySem L2 PU MT
def c24:List Nat:=[97,99,100,101,102,103,104,105,106,108,109,110,111,112,113,114,115,116,117,118,119,120,121,122]
def BD(n:Int):Nat:=(1+n % 8).toNat
def GH(n:Int):Int:=n / 8 % (1+n % 8)
def BE(n:Int)(t k:Nat):Nat:=c24.getD ((n / ((k:Int)+2)+(t:Int) * (if (k:Int)=GH n then 1 else 0)) % 24).toNat 0
def zb(n:Int)(t i:Nat):List Nat:=(Hy i).map (BE n t)
def nm(n:Int)(t:Nat):Str:=mkS (zb n t (BD n))
theorem CY(nms:List Str)(z:Int)(h:0<nms.length):∃x∈nms,atI (nms.map PV.str) (z % (nms.length:Int))=some (.str x):=by
 have h0:0<=z % (nms.length:Int):=MU _ (by omega);have h1:z % (nms.length:Int)<nms.length:=Lr _ (by omega);have h2:(z % (nms.length:Int)).toNat<nms.length:=by omega
 refine⟨nms[(z % (nms.length:Int)).toNat],JY h2,bj (n:=(z % (nms.length:Int)).toNat) (by omega) ?_⟩;rw[HW,Ic h2];rfl
theorem GX(ss:List Str)(i:Nat)(hi:i<ss.length):atI (ss.map PV.str) (i:Int)=some (.str ss[i]):=bj rfl (by
 rw[HW,Ic hi];rfl)
theorem jD(rs:FA.Rooms)(k:Str)(r:Room)(x:Str):x∈FA.names (o3 rs k r) ↔ x∈FA.names rs\/x=k:=by
 unfold FA.names o3
 by_cases h:k∈rs.map (·.1)
 ·rw[if_pos h,I8]
  have:(rs.map ((fun x=>x.1) ∘ fun x=>if x.1=k then (x.1,r) else x))=rs.map (·.1):=by
   apply JU;intro x _;simp only[Ja]
   split <;> rfl
  rw[this];exact⟨.inl,fun z=>z.elim id fun e=>e▸h⟩
 ·rw[if_neg h]
  simp
def comeGo(rs:FA.Rooms)(hour:Int):Nat->Str->Option Str
 | 0,_=>none
 | n+1,x=>match FA.lookR rs x with
  | some (.hours sp l)=>comeGo rs hour n (FA.handOf sp l hour)
  | some _=>some x
  | none=>none
theorem sO(rs:FA.Rooms)(n:Str)(r:Room)(h:FA.lookR rs n=some r):(n,r)∈rs:=by
 unfold FA.lookR at h;cases e:rs.find? fun r=>decide (r.1=n) with
 | none=>rw[e] at h;cases h
 | some q=>
  rw[e] at h;cases h;have h1:=MI e;have h1:q.1=n:=by simpa using h1
  subst h1;exact JM e
end NM
section
namespace PU
open PySem L2
def E7(p:PV)(lh:Option Int×Option Int):R PV:=R.ofO (vc p lh.1 lh.2)
@[simp] theorem GL(p:PV)(a b:Option Int):E7 p (a,b)=R.ofO (vc p a b):=by unfold E7;exact IE _
@[simp] theorem D8{f:PSt->R PV}{l h:PSt->R (Option Int)}{ρ:PSt}:gy f l h ρ=lz E7 (f ρ) (lz ot (l ρ) (h ρ)):=by unfold gy;cases f ρ <;> cases l ρ <;> cases h ρ <;> rfl
theorem vm{x:Str}(lo hi:Option Int)(h:x.length<=16777216):vc (.str x) lo hi=some (.str (J1 x lo hi)):=if_pos h
@[simp] theorem AI(ps:List PV)(lo hi:Option Int):vc (.lst ps) lo hi=some (.lst (iN ps lo hi)):=rfl
end PU
namespace NM
open PySem L2 PU MT
theorem dW(ls:List Int)(k:Nat)(hk:k<ls.length):atI (ls.map PV.int) (k:Int)=some (.int ls[k]):=bj rfl (by rw[HW,Ic hk];rfl)
theorem cut_1{α:Type}(xs:List α)(h:0<xs.length):iN xs (some 1) none=xs.drop 1:=FA.cut_from xs 0 h
end NM
end
section
namespace PU
open PySem L2 MT
def DE:PV->PV->R (List PV)
 | .lst ps,.lst qs=>if (ps.all gr || qs.all gr)=true then .ok ((vg ps qs).map .tup) else .no
 | _,_=>.no
@[simp] theorem BZ(ps qs:List PV)(h:(ps.all gr || qs.all gr)=true):DE (.lst ps) (.lst qs)=.ok ((vg ps qs).map .tup):=by unfold DE;exact if_pos h
@[simp] theorem nM{α:Type}(f:α->Str)(l:List α):(l.map fun x=>PV.str (f x)).all gr=true:=by induction l <;> simp_all [gr]
@[simp] theorem Fk{f g:PSt->R PV}{ρ:PSt}:D5 f g ρ=lz DE (f ρ) (g ρ):=by
 unfold D5;cases f ρ with
 | ok p=>
  cases g ρ with
  | ok q=>rw[R.ok_bind,R.ok_bind,tj];cases p <;> cases q <;> rfl
  | er x=>rfl
  | no=>rfl
 | er x=>rfl
 | no=>rfl
def Dz(fe fd:PSt->R PV)(g:PV->PV->PV->Option PV)(ρ:PSt)(p:PV):R PV:=if zu p=true then lz (fun q y=>R.ofO (g p q y)) (fe ρ) (fd ρ) else .no
@[simp] theorem FQ(fe fd:PSt->R PV)(g:PV->PV->PV->Option PV)(ρ:PSt)(ks:List Key)(ps:List PV):Dz fe fd g ρ (.dct ks ps)=lz (fun q y=>R.ofO (g (.dct ks ps) q y)) (fe ρ) (fd ρ):=by unfold Dz;exact if_pos rfl
@[simp] theorem Dd{fo fe fd:PSt->R PV}{g:PV->PV->PV->Option PV}{ρ:PSt}:pD fo fe fd g ρ=gV (Dz fe fd g ρ) (fo ρ):=by
 unfold pD;cases fo ρ with
 | ok p=>
  rw[R.ok_bind,jH];unfold Dz
  split
  ·cases fe ρ with
   | ok q=>cases fd ρ <;> rfl
   | er x=>rfl
   | no=>rfl
  ·rfl
 | er x=>rfl
 | no=>rfl
theorem iU(l:List Nat)(n:Nat):J1 (mkS l) none (some (n:Int))=mkS (l.take n):=by
 have main:∀m:Nat,m<=l.length->J1 (mkS l) none (some (m:Int))=mkS (l.take m):=fun m hm=>by
  have e:=PySem.StrLaws.sliceText_to (x:=mkS l) (j:=m) ⟨by omega,by rw[fH];omega⟩;have e2:J1 (mkS l) none (some (m:Int))=PySem.StrLaws.sliceText (mkS l) none (some (m:Int)):=rfl;rw[e2,e,fH];have:((m:Int)-0).toNat=m:=by omega
  rw[this];rfl
 by_cases h:n<=l.length
 ·exact main n h
 ·have e:J1 (mkS l) none (some (n:Int))=J1 (mkS l) none (some (l.length:Int)):=by
   have e1:KQ none (some (n:Int)) 1 (mkS l).length=KQ none (some (l.length:Int)) 1 (mkS l).length:=by
    rw[ck];unfold KQ;have a:¬ ((n:Int)<0):=by omega
    have b:¬ ((l.length:Int)<0):=by omega
    have c:max (0:Int) (O5 (n:Int) (l.length:Int))=max 0 (O5 (l.length:Int) (l.length:Int)):=by omega
    simp only[a,b,if_false,c,show (1:Int) > 0 from by decide,if_true]
   unfold J1;rw[e1]
  rw[e,main l.length (Hu _),List.take_length,Mx (by omega)]
end PU
namespace BG
open PySem L2 PU MT
abbrev W:=List Nat
def pre(p c:W):Bool:=p.isPrefixOf c
theorem i4{p c:W}:pre p c=true ↔ p <+: c:=List.isPrefixOf_iff_prefix
def many(cs:List W)(p:W):Nat:=(cs.filter (pre p)).length
def own(cs:List W)(c:W):W:=match (Hy (c.length-1)).find? (fun i=>decide (many cs (c.take (i+1))=1)) with
 | some i=>c.take (i+1)
 | none=>c
def Code(c:W):Prop:=∃x:W,c=x++[35]/\35 ∉ x
theorem wW{c d:W}(hc:Code c)(hd:Code d)(h:c <+: d):c=d:=by
 obtain⟨x,rfl,hx⟩:=hc;obtain⟨y,rfl,hy⟩:=hd;obtain⟨t,e⟩:=h;cases ht:t.reverse with
 | nil=>
  have:t=[]:=by simpa using ht
  rw[this,Iy] at e;exact e
 | cons a r=>
  exfalso
  have e1:t=r.reverse++[a]:=by
   have:=congrArg List.reverse ht;simpa using this
  rw[e1,← Kw] at e;have e2:=List.append_inj' e rfl;exact hy (by rw[← e2.1];simp)
theorem lT(cs:List W)(c:W):own cs c <+: c:=by
 unfold own
 split
 ·exact Jt _ _
 ·exact L1 _
theorem xD(cs:List W)(c:W)(h:c≠[]):own cs c≠[]:=by
 unfold own
 split
 ·intro e
  cases c with
  | nil=>exact h rfl
  | cons a r=>simp at e
 ·exact h
theorem sx{cs:List W}(hcs:∀c∈cs,Code c){c d:W}(hc:c∈cs)(hd:d∈cs)(h:own cs c <+: d):c=d:=by
 unfold own at h;split at h
 ·rename_i i e
  have h1:many cs (c.take (i+1))=1:=by simpa using MI e
  unfold many at h1;have m1:c∈cs.filter (pre (c.take (i+1))):=J3.mpr ⟨hc,i4.mpr (Jt _ _)⟩;have m2:d∈cs.filter (pre (c.take (i+1))):=J3.mpr ⟨hd,i4.mpr h⟩;generalize cs.filter (pre (c.take (i+1)))=l at h1 m1 m2
  match l,h1,m1,m2 with
  | [a],_,m1,m2=>rw[HY.mp m1,HY.mp m2]
 ·exact wW (hcs c hc) (hcs d hd) h
theorem yP{p q r:W}(hp:p <+: r)(hq:q <+: r):p <+: q\/q <+: p:=by
 rcases Nat.le_total p.length q.length with h | h
 ·exact .inl (M1 hp hq h)
 ·exact .inr (M1 hq hp h)
theorem sy{cs:List W}(hcs:∀c∈cs,Code c){c d r:W}(hc:c∈cs)(hd:d∈cs)(h1:own cs c <+: r)(h2:own cs d <+: r):c=d:=by
 rcases yP h1 h2 with h | h
 ·exact sx hcs hc hd (Kz h (lT cs d))
 ·exact(sx hcs hd hc (Kz h (lT cs c))).symm
def rh(c:W):List W:=(Hy c.length).map fun i=>c.take (i+1)
theorem uy{l:List W}{p:W}(nd:l.Nodup)(h:p∈l):l.count p=1:=by
 induction l with
 | nil=>cases h
 | cons a r ih=>
  rw[IX] at nd
  by_cases e:a=p
  ·subst e
   rw[List.count_cons_self,Lm.mpr nd.1]
  ·rw[List.count_cons_of_ne e]
   exact ih nd.2 ((Hr.mp h).resolve_left fun z=>e z.symm)
theorem qS(c p:W):(rh c).count p=if p≠[]/\p <+: c then 1 else 0:=by
 have nd:(rh c).Nodup:=by
  unfold rh List.Nodup;rw[O6];refine Lq (R:=fun a b=>a<b) (fun {a b} ha hb hab e=>?_) My;rw[JX] at ha hb;have:=congrArg JQ e;rw[JJ,JJ] at this;omega
 by_cases h:p≠[]/\p <+: c
 ·rw[if_pos h]
  refine uy nd ?_;unfold rh;refine HN.mpr ⟨p.length-1,JX.mpr ?_,?_⟩
  ·have:=h.2.length_le
   have:p.length≠0:=fun e=>h.1 (L3.mp e);omega
  ·have:p.length≠0:=fun e=>h.1 (L3.mp e)
   rw[show p.length-1+1=p.length by omega];exact(K9.mp h.2).symm
 ·rw[if_neg h]
  refine Lm.mpr fun hm=>h ?_;unfold rh at hm;obtain⟨i,hi,rfl⟩:=HN.mp hm;rw[JX] at hi;refine⟨fun e=>?_,Jt _ _⟩;have:=congrArg JQ e;rw[JJ,Jh] at this;omega
theorem uz(cs:List W)(p:W)(hp:p≠[]):(cs.flatMap rh).count p=many cs p:=by
 induction cs with
 | nil=>rfl
 | cons c r ih=>
  rw[Kv,O7,ih,qS];unfold many
  by_cases h:p <+: c
  ·rw[if_pos ⟨hp,h⟩,L4 (i4.mpr h),IG]
   omega
  ·rw[if_neg fun z=>h z.2,L5 fun z=>h (i4.mp z)]
   omega
structure Cnt(L:List W)(ks:List Key)(ps:List PV):Prop where
 len:ks.length=ps.length
 le:ks.length<=L.length
 at_:∀p:W,bO ks ps (.inr (mkS p))=if L.count p=0 then none else some (.int (L.count p))
theorem mkS_inj{a b:W}(h:mkS a=mkS b):a=b:=by
 have:=congrArg (fun s:Str=>s.cps.toList) h;simpa using this
theorem look_put(ks:List Key)(ps:List PV)(k:Key)(v:PV)(hl:ks.length=ps.length):∃ks' ps',kq ks ps k v=.dct ks' ps'/\ks'.length=ps'.length/\ks'.length<=ks.length+1/\∀j,bO ks' ps' j=if k=j then some v else bO ks ps j:=by
 unfold kq
 by_cases hk:(ks.any fun j=>decide (j=k))=true
 ·rw[if_pos hk]
  refine⟨ks,iM ks ps k v,rfl,by simp[iM,hl],by omega,fun j=>?_⟩
  induction ks generalizing ps with
  | nil=>simp at hk
  | cons a ks ih=>
   cases ps with
   | nil=>simp at hl
   | cons b ps=>
    have hl':ks.length=ps.length:=by simpa using hl
    have e:iM (a::ks) (b::ps) k v=(if a=k then v else b)::iM ks ps k v:=rfl;rw[e];simp only[kE]
    by_cases haj:a=j
    ·rw[if_pos haj,if_pos haj]
     by_cases hkj:k=j
     ·rw[if_pos (haj.trans hkj.symm),if_pos hkj]
     ·rw[if_neg fun z=>hkj (z.symm.trans haj),if_neg hkj]
    ·rw[if_neg haj,if_neg haj]
     by_cases hk2:(ks.any fun j=>decide (j=k))=true
     ·exact ih ps hl' hk2
     ·have hak:a=k:=by
       rw[J2] at hk;simp only[MJ,decide_eq_true_eq] at hk;exact hk.resolve_right hk2
      have hkj:¬ k=j:=fun z=>haj (hak.trans z);rw[if_neg hkj]
      have:iM ks ps k v=ps:=by
       clear ih hk e hl
       induction ks generalizing ps with
       | nil=>cases ps with
        | nil=>rfl
        | cons=>simp at hl'
       | cons c ks ih=>
        cases ps with
        | nil=>simp at hl'
        | cons d ps=>
         have e:iM (c::ks) (d::ps) k v=(if c=k then v else d)::iM ks ps k v:=rfl;rw[J2] at hk2;simp only[MJ,decide_eq_true_eq,not_or] at hk2;rw[e,if_neg hk2.1,ih ps (by simpa using hl') hk2.2]
      rw[this]
 ·rw[if_neg hk]
  refine⟨ks++[k],ps++[v],rfl,by simp[hl],by simp,fun j=>?_⟩
  induction ks generalizing ps with
  | nil=>
   cases ps with
   | nil=>simp[bO]
   | cons=>simp at hl
  | cons a ks ih=>
   cases ps with
   | nil=>simp at hl
   | cons b ps=>
    rw[J2] at hk;simp only[MJ,decide_eq_true_eq,not_or] at hk;simp only[Jw,kE]
    by_cases haj:a=j
    ·rw[if_pos haj,if_pos haj,if_neg fun z=>hk.1 (haj.trans z.symm)]
    ·rw[if_neg haj,if_neg haj]
     exact ih ps (by simpa using hl) hk.2
theorem zW{L:List W}{ks:List Key}{ps:List PV}(c:Cnt L ks ps)(p:W):∃ks' ps',kq ks ps (.inr (mkS p)) (.int ((L.count p:Int)+1))=.dct ks' ps'/\Cnt (L++[p]) ks' ps':=by
 obtain⟨ks',ps',e,h1,h2,h3⟩:=look_put ks ps (.inr (mkS p)) (.int ((L.count p:Int)+1)) c.len;refine⟨ks',ps',e,h1,by rw[Hv,J5];have:=c.le;omega,fun q=>?_⟩;rw[h3,O7]
 by_cases hq:p=q
 ·subst hq
  rw[if_pos rfl,List.count_singleton_self,if_neg (by omega)]
  congr 2
 ·rw[if_neg fun z=>hq (mkS_inj (K4 z)),c.at_ q]
  have:List.count q [p]=0:=Lm.mpr (by simp;exact fun z=>hq z.symm);rw[this,Nat.add_zero]
theorem zX{L:List W}{ks:List Key}{ps:List PV}(c:Cnt L ks ps)(p:W):qO (.dct ks ps) (.str (mkS p)) (.int 0)=some (.int (L.count p)):=by
 show some ((bO ks ps (.inr (mkS p))).getD (.int 0))=_;rw[c.at_ p]
 split
 ·rename_i h
  rw[h];rfl
 ·rfl
end BG
end
namespace NW
open PySem L2 PU MT BG
def iK(p:W)(o:Option PV)(x:W×Str):Option PV:=if x.1=p then some (.str x.2) else if p≠[]/\p <+: x.1 then some .non else o
def yj(bs:List (W×Str))(p:W):Option PV:=bs.foldl (iK p) none
def va(p:W)(x:W×Str):Bool:=decide (p≠[]) && pre p x.1
theorem fY{p:W}{x:W×Str}:va p x=true ↔ p≠[]/\p <+: x.1:=by simp[va,i4]
theorem gw(p:W)(hp:p≠[]):∀(bs:List (W×Str))(o:Option PV),bs.foldl (iK p) o=match (bs.filter (va p)).getLast? with
  | none=>o
  | some x=>if x.1=p then some (.str x.2) else some .non
 | [],o=>rfl
 | x::bs,o=>by
  rw[LI,gw p hp bs]
  by_cases h:va p x=true
  ·rw[L4 h]
   have h':=(fY.mp h)
   have e:iK p o x=if x.1=p then some (.str x.2) else some .non:=by
    unfold iK;rw[if_pos h']
   cases hl:bs.filter (va p) with
   | nil=>simp only[List.getLast?_nil,List.getLast?_singleton];exact e
   | cons a r=>
    rw[List.getLast?_cons_cons];cases hg:(a::r).getLast? with
    | none=>simp at hg
    | some y=>rfl
  ·rw[L5 h]
   have h':¬ (p≠[]/\p <+: x.1):=fun z=>h (fY.mpr z)
   have e:iK p o x=o:=by
    unfold iK;rw[if_neg h',if_neg fun e=>h' ⟨hp,by rw[e];exact L1 _⟩]
   rw[e]
section
variable{bs : List (W×Str)}(hne : ∀x ∈ bs, x.1 ≠ [])(hpf : ∀x ∈ bs, ∀y ∈ bs, x.1 <+: y.1 → x = y)
include hne hpf
theorem vj{x:W×Str}(hx:x∈bs):yj bs x.1=some (.str x.2):=by
 unfold yj;rw[gw x.1 (hne x hx)];have m:x∈bs.filter (va x.1):=J3.mpr ⟨hx,fY.mpr ⟨hne x hx,L1 _⟩⟩;cases e:(bs.filter (va x.1)).getLast? with
 | none=>rw[Mf.mp e] at m;cases m
 | some y=>
  have my:=J3.mp (NQ e);have:=hpf x hx y my.1 (fY.mp my.2).2;subst this;simp
theorem vi{x:W×Str}(hx:x∈bs){p:W}(hp:p≠[])(h1:p <+: x.1)(h2:p≠x.1):yj bs p=some .non:=by
 unfold yj;rw[gw p hp];have m:x∈bs.filter (va p):=J3.mpr ⟨hx,fY.mpr ⟨hp,h1⟩⟩;cases e:(bs.filter (va p)).getLast? with
 | none=>rw[Mf.mp e] at m;cases m
 | some y=>
  have my:=J3.mp (NQ e)
  have h3:¬ y.1=p:=fun z=>by
   have:y=x:=hpf y my.1 x hx (by rw[z];exact h1);exact h2 (by rw[← z,this])
  simp only[if_neg h3]
omit hpf in
theorem rB{p:W}(h:∀x∈bs,p≠[]->¬ p <+: x.1):yj bs p=none:=by
 unfold yj
 by_cases hp:p=[]
 ·subst hp
  have:∀(l:List (W×Str)),(∀x∈l,x.1≠[])->l.foldl (iK []) none=none:=by
   intro l
   induction l with
   | nil=>intro _;rfl
   | cons x l ih=>
    intro hl;rw[LI]
    have e:iK [] none x=none:=by
     unfold iK;rw[if_neg (hl x ID),if_neg (by simp)]
    rw[e];exact ih fun y hy=>hl y (I9 _ hy)
  exact this bs hne
 ·rw[gw p hp]
  have:bs.filter (va p)=[]:=List.filter_eq_nil_iff.mpr fun x hx z=>h x hx hp (fY.mp z).2;rw[this];rfl
end
structure Tells(ks:List Key)(ps:List PV)(F:W->Option PV):Prop where
 len:ks.length=ps.length
 at_:∀p,bO ks ps (.inr (mkS p))=F p
 nf:∀x∈ps,noFn x=true
theorem fG:∀ps:List PV,aQ ps=true ↔ ∀p∈ps,noFn p=true
 | []=>by simp[aQ]
 | p::ps=>by
  have e:aQ (p::ps)=(noFn p && aQ ps):=by simp[aQ]
  rw[e,Ii,fG ps];constructor
  ·rintro⟨h1,h2⟩ q hq
   rcases Hr.mp hq with rfl | hq
   ·exact h1
   ·exact h2 q hq
  ·intro h
   exact⟨h p (by simp),fun q hq=>h q (by simp[hq])⟩
theorem rm{k:Key}{v x:PV}:∀(ks:List Key)(ps:List PV),x∈ks.zipWith (fun j q=>if j=k then v else q) ps->x∈ps\/x=v
 | [],_,h=>by simp at h
 | _::_,[],h=>by simp at h
 | j::ks,p::ps,h=>by
  rw[Jb] at h;rcases Hr.mp h with h | h
  ·by_cases e:j=k
   ·rw[if_pos e] at h;exact .inr h
   ·rw[if_neg e] at h;exact .inl (by simp[h])
  ·rcases rm ks ps h with h | h
   ·exact .inl (by simp[h])
   ·exact .inr h
theorem s9{ks ks':List Key}{ps ps':List PV}{k:Key}{v:PV}(e:kq ks ps k v=.dct ks' ps'){x:PV}(hx:x∈ps'):x∈ps\/x=v:=by
 unfold kq at e;split at e
 ·injection e with e1 e2
  subst e2;exact rm ks ps hx
 ·injection e with e1 e2
  subst e2;simpa using hx
theorem Tells.put{ks:List Key}{ps:List PV}{F:W->Option PV}(h:Tells ks ps F)(p0:W)(v:PV)(hv:noFn v=true):∃ks' ps',kq ks ps (.inr (mkS p0)) v=.dct ks' ps'/\ks'.length<=ks.length+1/\Tells ks' ps' (fun p=>if p0=p then some v else F p):=by
 obtain⟨ks',ps',e,h1,h2,h3⟩:=look_put ks ps (.inr (mkS p0)) v h.len;refine⟨ks',ps',e,h2,h1,fun p=>?_,fun x hx=>(s9 e hx).elim (h.nf x) fun z=>z▸hv⟩;rw[h3,h.at_]
 by_cases hp:p0=p
 ·rw[if_pos hp,if_pos (by rw[hp])]
 ·rw[if_neg hp,if_neg fun z=>hp (mkS_inj (K4 z))]
theorem pH{k:Key}:∀(ks:List Key)(ps:List PV),ks.length=ps.length->(ks.any fun j=>decide (j=k))=(bO ks ps k).isSome
 | [],[],_=>rfl
 | [],_::_,h=>by simp at h
 | _::_,[],h=>by simp at h
 | j::ks,p::ps,h=>by
  rw[kE,J2]
  by_cases e:j=k
  ·simp[e]
  ·rw[if_neg e,pH ks ps (by simpa using h)]
   simp[e]
theorem Tells.notIn{ks:List Key}{ps:List PV}{F:W->Option PV}(h:Tells ks ps F)(p:W):gc (.str (mkS p)) (.dct ks ps)=some (.bl (!(F p).isSome)):=by
 have e:gc (.str (mkS p)) (.dct ks ps)=some (.bl (!(ks.any fun j=>decide (j=.inr (mkS p))))):=rfl;rw[e,pH ks ps h.len,h.at_]
theorem Tells.ix{ks:List Key}{ps:List PV}{F:W->Option PV}(h:Tells ks ps F)(p:W):gIx (.dct ks ps) (.str (mkS p))=F p:=h.at_ p
def xl(wt:List (W×Str)):PV:=.tup (wt.map fun p=>.tup [.str (mkS p.1),.str p.2])
def wtD(wt:List (W×Str)):PV:=.dct (wt.map fun p=>.inr (mkS p.1)) (wt.map fun p=>.str p.2)
theorem mU:∀wt:List (W×Str),iB (wt.map fun p=>PV.tup [.str (mkS p.1),.str p.2])=some (wt.map fun p=>(.inr (mkS p.1),.str p.2))
 | []=>rfl
 | p::wt=>by
  rw[HI,HI];unfold iB;rw[mU wt];rfl
theorem oo{ks:List Key}{ps:List PV}{k:Key}{v:PV}(h:k ∉ ks):kq ks ps k v=.dct (ks++[k]) (ps++[v]):=by
 unfold kq;rw[if_neg]
 ·simpa using h
theorem tZ:∀(wt:List (W×Str))(ks:List Key)(ps:List PV),((wt.map (·.1)).Nodup)->(∀p∈wt,(.inr (mkS p.1):Key) ∉ ks)->(wt.map fun p=>((.inr (mkS p.1):Key),PV.str p.2)).foldl x9 (.dct ks ps)=.dct (ks++wt.map fun p=>.inr (mkS p.1)) (ps++wt.map fun p=>.str p.2)
 | [],ks,ps,_,_=>by simp
 | p::wt,ks,ps,nd,hk=>by
  rw[HI,LI];have e:x9 (.dct ks ps) (.inr (mkS p.1),.str p.2)=.dct (ks++[.inr (mkS p.1)]) (ps++[.str p.2]):=oo (hk p ID);rw[e,tZ wt _ _ (IX.mp nd).2]
  ·simp
  ·intro q hq z
   rcases IV.mp z with z | z
   ·exact hk q (I9 _ hq) z
   ·have z:=K4 (HY.mp z)
    have z:=mkS_inj z;exact(IX.mp nd).1 (HN.mpr ⟨q,hq,z⟩)
theorem uq(wt:List (W×Str))(hl:wt.length<=1000)(nd:(wt.map (·.1)).Nodup):nJ (xl wt)=some (wtD wt):=by
 have e:nJ (xl wt)=if (wt.map fun p=>PV.tup [.str (mkS p.1),.str p.2]).length<=1000 then (iB (wt.map fun p=>PV.tup [.str (mkS p.1),.str p.2])).map fg else none:=rfl
 rw[e,if_pos (by simpa using hl),mU];show some (fg _)=_;have m:∀l,fg l=l.foldl x9 (.dct [] []):=fun l=>rfl;rw[m,tZ wt [] [] nd (by simp)];simp[wtD]
theorem zh(wt:List (W×Str)):tQ (wtD wt)=some (.lst (wt.map fun p=>.str (mkS p.1))):=by
 show some (PV.lst ((wt.map fun p=>(.inr (mkS p.1):Key)).map wu))=_;rw[I8];rfl
theorem vA(wt:List (W×Str))(nd:(wt.map (·.1)).Nodup){p:W×Str}(hp:p∈wt):bO (wt.map fun p=>.inr (mkS p.1)) (wt.map fun p=>.str p.2) (.inr (mkS p.1))=some (.str p.2):=by
 induction wt with
 | nil=>cases hp
 | cons q wt ih=>
  rw[HI,HI,kE];rcases Hr.mp hp with rfl | h
  ·rw[if_pos rfl]
  ·have nd':=IX.mp nd
   rw[if_neg fun z=>nd'.1 (HN.mpr ⟨p,h,(mkS_inj (K4 z)).symm⟩)];exact ih nd'.2 h
theorem nF{α β:Type}(f:α->β):∀(l:List α),(l.map f).Nodup->∀x∈l,∀y∈l,f x=f y->x=y
 | [],_,x,hx,_,_,_=>by cases hx
 | a::l,nd,x,hx,y,hy,e=>by
  rw[HI,IX] at nd;rcases Hr.mp hx with h1 | h1
  ·rcases Hr.mp hy with h2 | h2
   ·rw[h1,h2]
   ·exact absurd (HN.mpr ⟨y,h2,by rw[← e,h1]⟩) nd.1
  ·rcases Hr.mp hy with h2 | h2
   ·exact absurd (HN.mpr ⟨x,h1,by rw[e,h2]⟩) nd.1
   ·exact nF f l nd.2 x h1 y h2 e
end NW
namespace PU
open PySem L2
theorem vH{m n:Nat}{g:PSt->R Fl}{ps:List PV}{p:PV}(hl:ps.length=m)(h:g (PU.start n ps)=.ok (.ret p)):runN m n g ps=some p:=by
 unfold runN;rw[if_pos hl,h]
@[simp] theorem DH(p:PV)(ρ:PSt):xt 0 (.own p::ρ)=.ok (.ret p):=by unfold xt;exact IE _
@[simp] theorem DG(i:Nat)(l:Sl)(ρ:PSt):xt (i+1) (l::ρ)=xt i ρ:=by unfold xt;rw[Ht]
end PU
namespace K40
open PySem L2 PU
noncomputable section
abbrev dm:Addr:=165
def fR:Stmt:=(bz (IW.main.body.getD 31 (.Pass ⟨0,0,0,0⟩))).getD 2 (.Pass ⟨0,0,0,0⟩)
def fQ:Stmt:=(bz (IW.main.body.getD 31 (.Pass ⟨0,0,0,0⟩))).getD 3 (.Pass ⟨0,0,0,0⟩)
abbrev PTS:List Addr:=[dm]
abbrev tw (w:IA):TW:={ w:=w,tabs:=PTS,qual:=fun l _=>if l=(pY ⟨0,0,0,0⟩ fQ).line then "compare.<locals>.is_apart" else if l=(pY ⟨0,0,0,0⟩ fR).line then "compare.<locals>.lead" else "x" }
theorem kJ{w:IA}:dm∈@TW.tabs (tw w):=.head _
def c_CODE_END:PV:=(.str "#")
def c_HEARD:PV:=(.dct [(.inr "menu"),(.inr "names"),(.inr "hand"),(.inr "end")] [(.str "asked"),(.str "asked"),(.str "hand"),(.str "end")])
def c_SIGNS:PV:=(.str "0123456789*#w")
def c_WAIT:PV:=(.str "w")
def d9:PSt->R Fl:=(aT (ifF (cY (ak (af 1) (un1 (af 0) iZ) gLt)) (cJ (ak (af 0) (af 1) gIx)) cE) (cJ (kI 0)))
def aw:List PV->Option PV:=eI 2 2 d9
def dE:PSt->R Fl:=(aT (qb 2 (ak (af 3) (kI 5040) cU)) (bZ 3 (ak (af 3) (kI 5040) rj)))
def dD:PSt->R Fl:=(aT (bZ 3 (ak (ak (ak (ak (af 3) (af 4) eo) (kI 1) eo) (kI 48271) qN) (kI 2147483647) cU)) (qb 2 (ak (ak (af 3) (kI 69621) qN) (kI 2147483629) cU)))
def d8:PSt->R Fl:=(aT (o4 2 (o5 aM)) (aT (bZ 3 (ak (af 0) (kI 2) rj)) (aT (ifF (cY (ak (ak (af 0) (kI 2) cU) (kI 1) gEq)) (aT (ky (xr (af 1)) (ay 4) dE) (vd 2 (cJ (af 2)))) cE) (aT (bZ 3 (ak (af 3) (kI 2147483647) cU)) (aT (ky (xr (ak (af 1) (kI 1) eo)) (ay 4) dD) (cJ (jh (lj 2) (gv (kI 1)) e8)))))))
def aW:List PV->Option PV:=eI 2 5 d8
def aD:PSt->R Fl:=(ifF (x8 (cY (ak (ak (ak (af 4) (af 7) gIx) (kI 3) cU) (kI 0) gEq)) (orB (cY (ak (ak (af 3) (kI 6) cU) (kI 1) gNe)) (cY (ak (ak (ak (af 3) (kI 6) rj) (kI 12) cU) (af 7) gNe)))) (aT (bZ 9 (ak (af 4) (ak (af 7) (kI 12) eo) gIx)) (aT (ifF (x8 (cY (ak (ak (af 3) (kI 6) cU) (kI 2) gEq)) (cY (ak (ak (ak (af 3) (kI 6) rj) (kI 12) cU) (af 7) gEq))) (bZ 9 (ak (af 9) (kI 1) eo)) cE) (qb 6 (dF (aa (af 8) (aa (ak (ak (af 0) (o5 (aa (kS "back") aM)) eo) (ak (af 9) (kI 6) cU) gIx) aM)))))) cE)
def gn:PSt->R Fl:=(aT (bZ 4 (aL (aa (af 1) (aa (kI 30) aM)) aW)) (aT (bZ 5 (aL (aa (af 2) (aa (kI 16) aM)) aW)) (aT (o4 6 (o5 aM)) (aT (ky (wM (kS "0123456789*#")) (kG 2 (bG (ay 7) (bG (ay 8) kX))) aD) (aT (bZ 10 (dF (aa (ak (kI 1) (ak (ak (ak (af 4) (kI 26) gIx) (un1 (ak (ak (af 3) (kI 6) cU) (kI 3) gEq) zC) eo) (kI 2) cU) eo) (aa (ak (af 0) (ak (ak (af 4) (kI 27) gIx) (kI 5) cU) gIx) aM)))) (aT (bZ 11 (dF (aa (kS "menu") (aa (kS "Hello") (aa (un1 (lj 6) pQ) (aa (dF (aa (ak (kI 1) (ak (ak (af 4) (kI 24) gIx) (kI 2) cU) eo) (aa (ak (af 0) (ak (ak (af 4) (kI 25) gIx) (kI 5) cU) gIx) aM))) (aa (af 10) aM))))))) (aT (bZ 12 (oW (dF (aa (dF (aa (kS "bo") (aa (ak (af 0) (ak (ak (ak (af 5) (kI 0) gIx) (un1 (ak (ak (af 3) (kI 6) cU) (kI 4) gEq) zC) eo) (kI 5) cU) gIx) aM))) (aa (dF (aa (kS "lee") (aa (ak (af 0) (ak (ak (af 5) (kI 1) gIx) (kI 5) cU) gIx) aM))) aM))) e8 (gv (ak (kI 1) (ak (ak (af 5) (kI 2) gIx) (kI 2) cU) eo)))) (aT (bZ 13 (dF (aa (kS "names") (aa (ak (o5 (aa (kS "Spell") (aa (kS "Hello") aM))) (ak (ak (af 5) (kI 3) gIx) (kI 2) cU) gIx) (aa (af 12) (aa (dF (aa (kI 1) (aa (ak (af 0) (ak (ak (af 5) (kI 4) gIx) (kI 5) cU) gIx) aM))) (aa (dF (aa (kI 1) (aa (ak (af 0) (ak (ak (af 5) (kI 8) gIx) (kI 5) cU) gIx) aM))) aM))))))) (aT (bZ 14 (dF (aa (ak (ak (af 5) (kI 5) gIx) (kI 24) cU) (aa (kI 24) (aa (ak (af 0) (ak (o5 (aa (kI 0) (aa (kI 1) (aa (kI 3) aM)))) (ak (ak (af 5) (kI 6) gIx) (kI 3) cU) gIx) gIx) aM))))) (aT (o4 15 (ur (mv (ak (af 0) (kI 0) gIx) (af 11) (mv (ak (af 0) (kI 1) gIx) (af 13) (mv (ak (af 0) (kI 2) gIx) (dF (aa (kS "hours") (aa (dF (aa (af 14) aM)) (aa (ak (af 0) (ak (o5 (aa (kI 0) (aa (kI 1) (aa (kI 4) aM)))) (ak (ak (af 5) (kI 9) gIx) (kI 3) cU) gIx) gIx) aM)))) BH))))) (aT (rf 15 (ak (af 0) (kI 3) gIx) (dF (aa (kS "hand") (aa (ak (o5 (aa (kS "Ann") (aa (kS "Anna") aM))) (un1 (ak (ak (af 3) (kI 6) cU) (kI 5) gEq) zC) gIx) aM)))) (aT (rf 15 (ak (af 0) (kI 4) gIx) (dF (aa (kS "end") (aa (ak (o5 (aa (kS "Bye") (aa (kS "Ann") (aa (kS "Hello") aM)))) (ak (ak (af 5) (kI 7) gIx) (kI 3) cU) gIx) aM)))) (aT (bZ 16 (o5 (aa (dF (aa (kS "3") (aa (kS "def") aM))) (aa (dF (aa (kS "4") (aa (kS "abc") aM))) (aa (dF (aa (kS "5") (aa (kS "jkl") aM))) (aa (dF (aa (kS "6") (aa (kS "mno") aM))) aM)))))) (aT (ifF (x8 (cY (ak (ak (af 3) (kI 6) cU) (kI 0) gEq)) (cY (ak (ak (ak (af 3) (kI 6) rj) (kI 2) cU) (kI 1) gEq))) (bZ 16 (o5 (aa (dF (aa (kS "3") (aa (kS "jkl") aM))) (aa (dF (aa (kS "4") (aa (kS "mno") aM))) (aa (dF (aa (kS "5") (aa (kS "def") aM))) (aa (dF (aa (kS "6") (aa (kS "abc") aM))) aM)))))) cE) (vd 15 (cJ (ur (mv (kS "first") (ak (af 0) (ak (ak (af 5) (kI 10) gIx) (kI 5) cU) gIx) (mv (kS "letters") (af 16) (mv (kS "rooms") (af 15) BH))))))))))))))))))))
def dA:List PV->Option PV:=eI 4 17 gn
def eE:PSt->R Fl:=(ifF (cY (q0 (af 2) (af 1) (af 3) gLe gLt)) (cJ (af 4)) cE)
def iY:PSt->R Fl:=(aT (ky (itF (ak (af 0) (kI 1) gIx)) (kG 3 (bG (ay 2) (bG (ay 3) (bG (ay 4) kX)))) eE) (cJ (ak (af 0) (kI 2) gIx)))
def jb:List PV->Option PV:=eI 2 5 iY
def f7:PSt->R Fl:=(bZ 3 (aL (aa (ak (ak (af 0) (kS "rooms") gIx) (af 3) gIx) (aa (af 1) aM)) jb))
def jP:PSt->R Fl:=(aT (bZ 3 (af 2)) (aT (whS 300 (cY (ak (ak (ak (ak (af 0) (kS "rooms") gIx) (af 3) gIx) (kI 0) gIx) (kS "hours") gEq)) f7) (cJ (af 3))))
def gO:List PV->Option PV:=eI 3 4 jP
def jR:PSt->R Fl:=(cJ (dF (aa (aL (aa (af 0) (aa (af 1) (aa (af 2) aM))) gO) (aa (af 3) (aa (kI 0) (aa (kI 0) (aa (kS "") aM)))))))
def bI:List PV->Option PV:=eI 4 4 jR
def cO:PSt->R Fl:=(aT (bZ 3 (ak (ak (ak (af 0) (kS "rooms") gIx) (ak (af 2) (kI 0) gIx) gIx) (kI 3) gIx)) (aT (bZ 4 (ak (ak (af 2) (kI 2) gIx) (kI 1) eo)) (aT (ifF (cY (ak (af 4) (ak (af 3) (kI 0) gIx) gEq)) (cJ (aL (aa (af 0) (aa (af 1) (aa (ak (af 3) (kI 1) gIx) (aa (ak (af 2) (kI 0) gIx) aM)))) bI)) cE) (cJ (dF (aa (ak (af 2) (kI 0) gIx) (aa (ak (af 2) (kI 1) gIx) (aa (af 4) (aa (ak (af 2) (kI 3) gIx) (aa (kS "") aM))))))))))
def bx:List PV->Option PV:=eI 3 5 cO
def eW:PSt->R Fl:=(aT (bZ 5 (ak (ak (af 3) (kI 4) gIx) (af 4) eo)) (aT (ifF (cY (ak (af 5) (af 2) gc)) (cJ (aL (aa (af 0) (aa (af 1) (aa (af 3) aM))) bx)) cE) (aT (bZ 6 (ifV (cY (ak (ak (af 2) (af 5) gIx) (kS "back") gEq)) (ak (af 3) (kI 1) gIx) (ak (af 2) (af 5) gIx))) (aT (ifF (cY (ak (af 6) kN wG)) (cJ (dF (aa (ak (af 3) (kI 0) gIx) (aa (ak (af 3) (kI 1) gIx) (aa (ak (af 3) (kI 2) gIx) (aa (ak (af 3) (kI 3) gIx) (aa (af 5) aM))))))) cE) (aT (ifF (cY (ak (af 6) (kS "") gEq)) (cJ (aL (aa (af 0) (aa (af 1) (aa (af 3) aM))) bx)) cE) (cJ (aL (aa (af 0) (aa (af 1) (aa (af 6) (aa (ak (af 3) (kI 0) gIx) aM)))) bI)))))))
def da:List PV->Option PV:=eI 5 7 eW
def gH:PSt->R Fl:=(aT (bZ 3 (ak (ak (ak (af 0) (kS "rooms") gIx) (ak (af 2) (kI 0) gIx) gIx) (kI 4) gIx)) (aT (bZ 4 (ak (ak (af 2) (kI 3) gIx) (kI 1) eo)) (aT (ifF (cY (ak (af 4) (ak (af 3) (kI 0) gIx) gEq)) (cJ (aL (aa (af 0) (aa (af 1) (aa (ak (af 3) (kI 1) gIx) (aa (ak (af 2) (kI 0) gIx) aM)))) bI)) cE) (cJ (dF (aa (ak (af 2) (kI 0) gIx) (aa (ak (af 2) (kI 1) gIx) (aa (ak (af 2) (kI 2) gIx) (aa (af 4) (aa (kS "") aM))))))))))
def gQ:List PV->Option PV:=eI 3 5 gH
def dM:PSt->R Fl:=(aT (bZ 5 (ak (ak (ak (af 0) (kS "rooms") gIx) (ak (af 3) (kI 0) gIx) gIx) (kI 0) gIx)) (aT (ifF (orB (cY (ak (af 5) (kS "hand") gEq)) (cY (ak (af 5) (kS "end") gEq))) (cJ (af 3)) cE) (aT (ifF (cY (ak (af 4) (kP c_WAIT) gEq)) (cJ (aL (aa (af 0) (aa (af 1) (aa (af 3) aM))) gQ)) cE) (cJ (aL (aa (af 0) (aa (af 1) (aa (af 2) (aa (af 3) (aa (af 4) aM))))) da)))))
def bN:List PV->Option PV:=eI 5 6 dM
def ig:PSt->R Fl:=(aT (bZ 2 (ak (ak (af 0) (kS "rooms") gIx) (ak (af 1) (kI 0) gIx) gIx)) (cJ (dF (aa (ak (kP c_HEARD) (ak (af 2) (kI 0) gIx) gIx) (aa (ak (af 2) (kI 1) gIx) aM)))))
def bX:List PV->Option PV:=eI 2 3 ig
def aO:Lam:=zO "compare.<locals>.lead" ["ways","others","hour","H","G"] (ah (IW.main.body.getD 31 (.Pass ⟨0,0,0,0⟩))) fR
def fM:PSt->R Fl:=(aT (bZ 7 (aL (aa (af 5) (aa (af 4) (aa (ak (af 2) (ak (ak (af 0) (kI 0) gIx) (kI 0) gIx) gIx) (aa (ak (af 0) (kI 0) gIx) (aa (af 1) aM))))) bN)) (cJ (dF (aa (af 7) (aa (aL (aa (af 6) (aa (af 4) (aa (ak (af 3) (ak (ak (af 0) (kI 1) gIx) (kI 0) gIx) gIx) (aa (ak (af 0) (kI 1) gIx) (aa (af 1) aM))))) bN) aM)))))
def iG:PSt->R PV:=oP 1 fM
def aG:Lam:=zO "compare.<locals>.is_apart" ["H","G"] (ah (IW.main.body.getD 31 (.Pass ⟨0,0,0,0⟩))) fQ
def fL:PSt->R Fl:=(cJ (ak (aL (aa (af 1) (aa (ak (af 0) (kI 0) gIx) aM)) bX) (aL (aa (af 2) (aa (ak (af 0) (kI 1) gIx) aM)) bX) gNe))
def iF:PSt->R PV:=oP 0 fL
open Classical in
noncomputable def appL(L:Lam)(qs cs:List PV):Option PV:=if L=aO then Aq 2 iG qs cs else if L=aG then Aq 1 iF qs cs else none
def bC:PSt->R Fl:=(rf 1 (gy (af 2) e8 (gv (af 3))) (ak (pD (lj 1) (gy (af 2) e8 (gv (af 3))) (kI 0) qO) (kI 1) eo))
def bB:PSt->R Fl:=(ky (An (kI 1) (ak (un1 (af 2) iZ) (kI 1) eo)) (ay 3) bC)
def cG:PSt->R Fl:=(aT (o4 1 newD) (aT (ky (itF (af 0)) (ay 2) bB) (vd 1 (cJ (af 1)))))
def bt:List PV->Option PV:=eI 1 4 cG
def fZ:PSt->R Fl:=(ifF (cY (ak (af 1) (af 3) gIn)) (cJ (af 2)) cE)
def iX:PSt->R Fl:=(aT (ky (itF (af 0)) (kG 2 (bG (ay 2) (bG (ay 3) kX))) fZ) (cJ kN))
def ja:List PV->Option PV:=eI 2 4 iX
def gu:PSt->R PV:=(aL (aa (af 1) (aa (af 0) aM)) ja)
def jQ:PSt->R Fl:=(aT (bZ 2 (fS (itF (af 1)) (ay 0) kC gu 1 [0])) (cJ (ifV (cY (ak kN (af 2) gIn)) kN (oz (kS "") (af 2) oM))))
def fO:List PV->Option PV:=eI 2 3 jQ
def bV:PSt->R Fl:=(ifF (cY (ak (ak (af 1) (gy (af 0) e8 (gv (af 2))) gIx) (kI 1) gEq)) (cJ (gy (af 0) e8 (gv (af 2)))) cE)
def cF:PSt->R Fl:=(aT (ky (An (kI 1) (un1 (af 0) iZ)) (ay 2) bV) (cJ (af 0)))
def cH:List PV->Option PV:=eI 2 3 cF
def dS:PSt->R PV:=(ak (aL (aa (af 1) (aa (af 0) aM)) fO) (kP c_CODE_END) eo)
def dR:PSt->R PV:=(dF (aa (af 0) (aa (aL (aa (af 1) (aa (af 2) aM)) cH) aM)))
def fN:PSt->R Fl:=(aT (bZ 2 (fS (itF (af 1)) (ay 0) kC dS 1 [0])) (aT (bZ 3 (aL (aa (af 2) aM) bt)) (cJ (fS (D5 (af 1) (af 2)) (kG 2 (bG (ay 0) (bG (ay 1) kX))) kC dR 2 [3]))))
def cT:List PV->Option PV:=eI 2 4 fN
def cb:PSt->R Fl:=(rf 2 (gy (af 4) e8 (gv (af 5))) kN)
def c9:PSt->R Fl:=(aT (ky (An (kI 1) (un1 (af 4) iZ)) (ay 5) cb) (rf 2 (af 4) (ak (af 1) (af 3) gIx)))
def fI:PSt->R Fl:=(aT (o4 2 newD) (aT (ky (itF (aL (aa (af 0) (aa (un1 (af 1) tQ) aM)) cT)) (kG 2 (bG (ay 3) (bG (ay 4) kX))) c9) (vd 2 (cJ (af 2)))))
def dN:List PV->Option PV:=eI 2 6 fI
def cM:PSt->R Fl:=(aT (bZ 2 (ak (ak (af 0) (kS "rooms") gIx) (af 1) gIx)) (aT (ifF (cY (ak (ak (af 2) (kI 0) gIx) (kS "menu") gEq)) (cJ (un1 (ak (af 2) (kI 2) gIx) nJ)) cE) (aT (ifF (cY (ak (ak (af 2) (kI 0) gIx) (kS "names") gEq)) (cJ (aL (aa (ak (af 0) (kS "letters") gIx) (aa (un1 (ak (af 2) (kI 2) gIx) nJ) aM)) dN)) cE) (cJ newD))))
def aK:List PV->Option PV:=eI 2 3 cM
def dU:PSt->R Fl:=(rf 1 (af 2) (aL (aa (af 0) (aa (af 2) aM)) aK))
def fJ:PSt->R Fl:=(aT (o4 1 newD) (aT (ky (itF (ak (af 0) (kS "rooms") gIx)) (ay 2) dU) (vd 1 (cJ (af 1)))))
def bc:List PV->Option PV:=eI 1 3 fJ
def bf:PSt->R Fl:=(aT (bZ 8 (kj 1 (aa (ak (af 6) (kI 0) gIx) (aa (af 7) aM)) appL)) (ifF (cY (ak (af 8) (lj 3) ij)) (aT (mR 3 (af 8) (kB true)) (aT (qb 4 (dF (aa (af 8) (aa (ak (ak (af 6) (kI 1) gIx) (af 7) eo) aM)))) (ifF (cY (kj 2 (aa (af 8) aM) appL)) CV cE))) cE))
def bA:PSt->R Fl:=(aT (bZ 6 (ak (lj 4) (af 5) gIx)) (aT (Aw 5 (kI 1)) (ky (itF (kP c_SIGNS)) (ay 7) bf)))
def fK:PSt->R Fl:=(aT (o4 3 (wQ (af 0) (kB true))) (aT (o4 4 (o5 (aa (dF (aa (af 0) (aa (kS "") aM))) aM))) (aT (bZ 5 (kI 0)) (aT (whS 10500000 (x8 (cY (ak (af 5) (un1 (lj 4) iZ) gLt)) (BB (cY (kj 2 (aa (ak (ak (lj 4) (un1 (kI 1) pR) gIx) (kI 0) gIx) aM) appL)))) bA) (xt 4)))))
def cS:List PV->Option PV:=runN 3 9 fK
def oK:PSt->R Fl:=(cJ (aL (aa (af 0) (aa (af 1) (aa (ak (af 0) (kS "first") gIx) (aa (kS "") aM)))) bI))
def cn:List PV->Option PV:=eI 2 2 oK
def eY:PSt->R PV:=(dF (aa (ak (af 0) (kI 0) gIx) (aa (ak (af 0) (kI 1) gIx) (aa (af 1) aM))))
def gG:PSt->R Fl:=(aT (bZ 3 (aL (aa (af 0) aM) bc)) (aT (bZ 4 (aL (aa (af 1) aM) bc)) (yd 5 (yd 6 (aT (bZ 7 (q9 (AB (dF (aa (aL (aa (af 0) (aa (af 2) aM)) cn) (aa (aL (aa (af 1) (aa (af 2) aM)) cn) aM))) (xN aO [3,4,2,0,1] (xN aG [0,1] aM))) cS)) (aT (bZ 8 (fS (itF (af 7)) (kG 2 (bG (ay 0) (bG (ay 1) kX))) kC eY 2 [])) (aT (bZ 9 (ak (af 7) (un1 (kI 1) pR) gIx)) (aT (ifF (cY (lu aG [0,1] (aa (ak (af 9) (kI 0) gIx) aM) appL)) (cJ (dF (aa (kS "apart") (aa (ak (af 9) (kI 1) gIx) (aa (jh (af 8) e8 (gv (un1 (kI 1) pR))) aM))))) cE) (cJ (dF (aa (kS "alike") (aa (af 8) aM))))))))))))
def bH:List PV->Option PV:=eI 3 10 gG
def de:PSt->R PV:=(aL (aa (af 1) (aa (af 0) aM)) bX)
def gp:PSt->R Fl:=(cJ (fS (itF (af 1)) (ay 0) kC de 1 [0]))
def dB:List PV->Option PV:=eI 2 2 gp
def di:PSt->R Fl:=(bZ 7 (ak (af 7) (ak (af 1) (ak (ak (ak (af 2) (af 8) gIx) (ak (ak (kI 3) (af 6) qN) (un1 (ak (af 8) (af 4) gEq) zC) qN) eo) (kI 20) cU) gIx) eo))
def dh:PSt->R Fl:=(aT (bZ 7 (kS "")) (aT (ky (xr (af 3)) (ay 8) di) (qb 5 (af 7))))
def gm:PSt->R Fl:=(aT (bZ 1 (kS "bcdfghjlmnpqrstvwxyz")) (aT (bZ 2 (aL (aa (af 0) (aa (kI 10) aM)) aW)) (aT (bZ 3 (ak (kI 1) (ak (ak (af 2) (kI 8) gIx) (kI 8) cU) eo)) (aT (bZ 4 (ak (ak (af 2) (kI 9) gIx) (af 3) cU)) (aT (o4 5 (o5 aM)) (aT (ky (xr (kI 5)) (ay 6) dh) (vd 5 (cJ (af 5)))))))))
def dz:List PV->Option PV:=eI 1 9 gm
def eZ:PSt->R Fl:=(qb 5 (aL (aa (af 0) (aa (af 1) (aa (ak (af 4) (ak (ak (lj 5) (un1 (kI 1) pR) gIx) (kI 0) gIx) gIx) (aa (ak (lj 5) (un1 (kI 1) pR) gIx) (aa (af 6) aM))))) bN))
def jN:PSt->R Fl:=(aT (bZ 4 (aL (aa (af 0) aM) bc)) (aT (o4 5 (o5 (aa (af 2) aM))) (aT (ky (itF (af 3)) (ay 6) eZ) (vd 5 (cJ (af 5))))))
def gM:List PV->Option PV:=eI 4 7 jN
def tK:PSt->R Fl:=(cJ (aL (aa (af 0) (aa (af 1) (aa (aL (aa (af 0) (aa (af 1) aM)) cn) (aa (af 2) aM)))) gM))
def iE:List PV->Option PV:=eI 3 3 tK
def mj:PSt->R PV:=(oz (kP c_SIGNS) (af 0) ll)
def tM:PSt->R Fl:=(cJ (dF (aa (un1 (af 0) iZ) (aa (fS (itF (af 0)) (ay 0) kC mj 1 []) aM))))
def nN:List PV->Option PV:=eI 1 1 tM
def jO:PSt->R Fl:=(cJ (ak (aL (aa (af 0) aM) nN) (aL (aa (af 1) aM) nN) Co))
def gN:List PV->Option PV:=eI 2 2 jO
def ml:PSt->R PV:=(ak (kS "0123456789*#w") (ak (af 0) (kI 13) cU) gIx)
def km:PSt->R Fl:=(ifF (x8 (cY (aL (aa (gy (af 7) e8 (gv (af 12))) (aa (af 11) aM)) gN)) (cY (ak (ak (af 9) (af 12) gIx) (ak (af 10) (af 12) gIx) gNe))) (cJ (kB false)) cE)
def tP:PSt->R Fl:=(aT (bZ 1 (aL (aa (af 0) (aa (kI 1) aM)) aw)) (aT (bZ 2 (aL (aa (af 0) (aa (kI 2) aM)) aw)) (aT (bZ 3 (ak (ak (aL (aa (af 0) (aa (kI 5) aM)) aw) (kI 2) rj) (ak (aL (aa (af 0) (aa (kI 5) aM)) aw) (kI 2) cU) qN)) (aT (bZ 4 (aL (aa (aL (aa (aL (aa (af 0) (aa (kI 0) aM)) aw) aM) dz) (aa (af 1) (aa (af 2) (aa (kI 0) aM)))) dA)) (aT (bZ 5 (aL (aa (aL (aa (aL (aa (af 0) (aa (kI 3) aM)) aw) aM) dz) (aa (af 1) (aa (af 2) (aa (af 3) aM)))) dA)) (aT (bZ 6 (ak (aL (aa (af 0) (aa (kI 4) aM)) aw) (kI 24) cU)) (aT (bZ 7 (oz (kS "") (fS (itF (jh (af 0) (gv (kI 7)) (gv (kI 207)))) (ay 0) kC ml 1 []) oM)) (aT (bZ 8 (aL (aa (af 4) (aa (af 5) (aa (af 6) aM))) bH)) (aT (bZ 9 (aL (aa (af 4) (aa (aL (aa (af 4) (aa (af 6) (aa (af 7) aM))) iE) aM)) dB)) (aT (bZ 10 (aL (aa (af 5) (aa (aL (aa (af 5) (aa (af 6) (aa (af 7) aM))) iE) aM)) dB)) (aT (ifF (orB (cY (ak (un1 (af 9) iZ) (ak (un1 (af 7) iZ) (kI 1) eo) gNe)) (cY (ak (un1 (af 10) iZ) (ak (un1 (af 7) iZ) (kI 1) eo) gNe))) (cJ (kB false)) cE) (aT (ifF (cY (ak (ak (af 8) (kI 0) gIx) (kS "alike") gEq)) (cJ (DC (ak (af 9) (af 10) gEq) (ak (ak (aL (aa (af 5) (aa (af 4) (aa (af 6) aM))) bH) (kI 0) gIx) (kS "alike") gEq))) cE) (aT (bZ 11 (ak (af 8) (kI 1) gIx)) (aT (ky (xr (un1 (af 9) iZ)) (ay 12) km) (aT (ifF (cY (ak (aL (aa (af 4) (aa (ak (aL (aa (af 4) (aa (af 6) (aa (af 11) aM))) iE) (un1 (kI 1) pR) gIx) aM)) bX) (aL (aa (af 5) (aa (ak (aL (aa (af 5) (aa (af 6) (aa (af 11) aM))) iE) (un1 (kI 1) pR) gIx) aM)) bX) gEq)) (cJ (kB false)) cE) (cJ (ak (jh (aL (aa (af 5) (aa (af 4) (aa (af 6) aM))) bH) e8 (gv (kI 2))) (dF (aa (kS "apart") (aa (af 11) aM))) gEq)))))))))))))))))
def ub:List PV->Option PV:=eI 1 13 tP
end
end K40
namespace K40
open PySem L2 PU MT
theorem AA(ls:WO.Lts)(c:Nat):ja [WO.ltPv ls,WO.sg c]=some (WO.keyPv (WO.keyL ls c)):=by
 refine aB rfl ?_
 obtain⟨k1,k2⟩:=gK (enc:=fun l:Nat×List Nat=>PV.tup [WO.sg l.1,.str (mkS l.2)]) (h:=kG 2 (bG (ay 2) (bG (ay 3) kX))) (g:=fZ) (fun l=>decide (c∈l.2)) (fun l=>WO.sg l.1)
  (I:=fun ρ=>∃a b,ρ=[.val (WO.ltPv ls),.val (WO.sg c),a,b]) (by
   rintro l ρ ⟨a,b,rfl⟩;have e:=WO.in_one c l.2;refine⟨_,rfl,fun hp=>?_,fun hp=>⟨_,?_,.val (WO.sg l.1),.val (.str (mkS l.2)),rfl⟩⟩
   ·rw[hp] at e
    simp[fZ,e]
   ·rw[hp] at e
    simp[fZ,e]) ls [.val (WO.ltPv ls),.val (WO.sg c),.no,.no] ⟨_,_,rfl⟩
 have ei:eV (WO.ltPv ls)=some (ls.map fun l=>PV.tup [WO.sg l.1,.str (mkS l.2)]):=rfl;cases e:ls.find? (fun l=>decide (c∈l.2)) with
 | some l=>
  have k:=k1 l e;simp[iX,PU.start,ei];rw[k];simp[WO.keyPv,WO.keyL,e]
 | none=>
  obtain⟨ρ',k,a,b,rfl⟩:=k2 e;simp[iX,PU.start,ei];rw[k];simp[WO.keyPv,WO.keyL,e]
theorem yp(ls:WO.Lts)(x:List Nat)(hx:x.length<=1000):fO [WO.ltPv ls,.str (mkS x)]=some (WO.codePv (WO.codeL ls x)):=by
 refine aB rfl ?_
 have c1:cq (ay 0) kC gu [.no,.val (WO.ltPv ls)] (x.map WO.sg)=.ok (x.map fun c=>WO.keyPv (WO.keyL ls c)):=
  WO.in_list_comp (fun c=>WO.keyPv (WO.keyL ls c)) x fun c _=>⟨_,o6 _,by simp[gu,AA]⟩
 have c2:=WO.none_in ls x;have hl:x.length<=16777216:=by omega
 simp[jQ,PU.start,WO.it_mk,rA,IM,c1,hl,c2];cases h:x.all fun c=>(WO.keyL ls c).isSome with
 | false=>simp[WO.codeL,h,WO.codePv]
 | true=>
  have e:(x.map fun c=>WO.keyPv (WO.keyL ls c))=(x.map fun c=>(WO.keyL ls c).getD 0).map WO.sg:=by
   rw[I8];apply JU;intro c hc;have:=KU.mp h c hc;cases h2:WO.keyL ls c with
   | none=>rw[h2] at this;cases this
   | some k=>simp[WO.keyPv,h2]
  have j:=WO.joinV (x.map fun c=>(WO.keyL ls c).getD 0) (by simpa using hx);rw[e];simp[-I8,j,WO.codeL,h,WO.codePv]
open BG
abbrev bst(codes:PV)(ks:List Key)(ps:List PV)(a b:Sl):PSt:=[.val codes,.own (.dct ks ps),a,b]
theorem Fh(codes:PV)(L:List W)(ks:List Key)(ps:List PV)(h:Cnt L ks ps)(c:W)(n:Nat)(hc:c.length<=100)(hL:L.length<=10000):∃ks' ps',Cnt (L++[c.take n]) ks' ps'/\
  bC (bst codes ks ps (.val (.str (mkS c))) (.val (.int n)))=.ok (.next (bst codes ks' ps' (.val (.str (mkS c))) (.val (.int n)))):=by
 obtain⟨ks',ps',e,h'⟩:=zW h (c.take n);have e1:=vm (x:=mkS c) none (some (n:Int)) (by rw[ck];omega);rw[iU] at e1;have e2:=zX h (c.take n);have z:ks.length<16777216:=by have:=h.le;omega
 refine⟨ks',ps',h',?_⟩;simp[bC,bst,e1,e2,z,e]
theorem Fg(codes:PV)(L:List W)(ks:List Key)(ps:List PV)(h:Cnt L ks ps)(c:W)(b:Sl)(hc:c.length<=100)(hL:L.length<=9000):∃ks' ps' b',Cnt (L++rh c) ks' ps'/\
  bB (bst codes ks ps (.val (.str (mkS c))) b)=.ok (.next (bst codes ks' ps' (.val (.str (mkS c))) b')):=by
 obtain⟨ρ',f1,ks',ps',b',rfl,h'⟩:=forR (n:=c.length) (lo:=1) (h:=ay 3) (g:=bC) (ρ:=bst codes ks ps (.val (.str (mkS c))) b)
  (I:=fun i ρ=>∃ks ps b,ρ=bst codes ks ps (.val (.str (mkS c))) b/\Cnt (L++(Hy i).map fun j=>c.take (j+1)) ks ps) ⟨ks,ps,b,rfl,by simpa using h⟩ (by
   rintro i ρ hi ⟨ks,ps,b,rfl,h⟩;obtain⟨ks',ps',h',e⟩:=Fh codes _ ks ps h c (i+1) hc (by simp;omega);have ei:(1:Int)+(i:Int)=((i+1:Nat):Int):=by omega
   rw[ei];refine⟨_,_,rfl,.inl e,ks',ps',_,rfl,?_⟩;rw[LH,IH,← Kw];exact h')
 refine⟨ks',ps',b',h',?_⟩;have e1:iZ (.str (mkS c))=some (.int c.length):=by rw[fu (by rw[ck];omega),ck]
 have e2:Am (.int 1) (.int ((c.length:Int)+1))=.ok (bM 1 c.length):=by rw[rD (by omega) (by omega) (by omega) (by omega)];congr 2;omega
 simp[bB,e1,e2];exact f1
theorem uL(cs:List W)(hn:cs.length<=12)(hc:∀c∈cs,c.length<=20):∃ks ps,Cnt (cs.flatMap rh) ks ps/\bt [.lst (cs.map fun c=>.str (mkS c))]=some (.dct ks ps):=by
 obtain⟨ρ',f1,ks,ps,a,b,rfl,h⟩:=forM (enc:=fun c:W=>PV.str (mkS c)) (xs:=cs) (h:=ay 2) (g:=bB) (ρ:=bst (.lst (cs.map fun c=>.str (mkS c))) [] [] .no .no)
  (I:=fun pre ρ=>∃ks ps a b,ρ=bst (.lst (cs.map fun c=>.str (mkS c))) ks ps a b/\Cnt (pre.flatMap rh) ks ps) ⟨[],[],_,_,rfl,⟨rfl,by simp,fun p=>by simp[bO]⟩⟩ (by
   rintro pre c post ρ hx ⟨ks,ps,a,b,rfl,h⟩;have hcm:c∈cs:=by rw[hx];simp
   have hpl:pre.length<=12:=by
    have:=congrArg JQ hx;rw[Hv] at this;omega
   have hfl:=u9 (l:=pre) (f:=rh) (b:=20) fun x hxm=>by
    unfold rh;rw[HF,List.length_range];exact hc x (by rw[hx];exact Kd _ hxm)
   obtain⟨ks',ps',b',h',e⟩:=Fg (.lst (cs.map fun c=>.str (mkS c))) _ ks ps h c b (by have:=hc c hcm;omega) (by omega);refine⟨_,_,rfl,.inl e,ks',ps',_,_,rfl,?_⟩;rw[List.flatMap_append];simpa using h')
 refine⟨ks,ps,h,aB rfl ?_⟩;simp[cG,PU.start];rw[f1];simp
theorem CW(cs:List W)(ks:List Key)(ps:List PV)(h:Cnt (cs.flatMap rh) ks ps)(c:W)(hc:c∈cs)(hne:c≠[])(hl:c.length<=100):cH [.str (mkS c),.dct ks ps]=some (.str (mkS (own cs c))):=by
 refine aB rfl ?_
 have key:∀i:Nat,gIx (.dct ks ps) (.str (mkS (c.take (i+1))))=some (.int (many cs (c.take (i+1)))):=fun i=>by
  have hp:c.take (i+1)≠[]:=fun e=>by
   cases c with
   | nil=>exact hne rfl
   | cons a r=>simp at e
  show bO ks ps (.inr (mkS (c.take (i+1))))=_;rw[h.at_,uz cs _ hp,if_neg];intro e;unfold many at e;have:c∈cs.filter (pre (c.take (i+1))):=J3.mpr ⟨hc,i4.mpr (Jt _ _)⟩;rw[L3.mp e] at this;cases this
 obtain⟨k1,k2⟩:=gK (enc:=fun i:Nat=>PV.int (1+(i:Nat))) (h:=ay 2) (g:=bV) (fun i=>decide (many cs (c.take (i+1))=1)) (fun i=>PV.str (mkS (c.take (i+1))))
  (I:=fun ρ=>∃a,ρ=[.val (.str (mkS c)),.val (.dct ks ps),a]) (by
   rintro i ρ ⟨a,rfl⟩;have e1:=vm (x:=mkS c) none (some ((i+1:Nat):Int)) (by rw[ck];omega);rw[iU] at e1;have ei:(1:Int)+(i:Int)=((i+1:Nat):Int):=by omega
   have e2:=key i;have e2:((eK (.str (mkS (c.take (i+1))))).bind fun k=>bO ks ps k)=some (.int (many cs (c.take (i+1)))):=e2;rw[ei];refine⟨_,rfl,fun hp=>?_,fun hp=>⟨_,?_,.val (.int ((i+1:Nat):Int)),rfl⟩⟩
   ·have hp:many cs (c.take (i+1))=1:=by simpa using hp
    rw[hp] at e2;have e2:bO ks ps (.inr (mkS (c.take (i+1))))=some (.int 1):=e2;have e1:vc (.str (mkS c)) none (some ((i:Int)+1))=some (.str (mkS (c.take (i+1)))):=e1;simp[bV,e1,e2]
   ·have hp:¬ many cs (c.take (i+1))=1:=by simpa using hp
    have hp2:¬ ((many cs (c.take (i+1)):Nat):Int)=1:=by omega
    have e2:bO ks ps (.inr (mkS (c.take (i+1))))=some (.int (many cs (c.take (i+1)))):=e2;have e1:vc (.str (mkS c)) none (some ((i:Int)+1))=some (.str (mkS (c.take (i+1)))):=e1;simp[bV,e1,e2,hp2]) (Hy (c.length-1)) [.val (.str (mkS c)),.val (.dct ks ps),.no] ⟨_,rfl⟩
 have e1:iZ (.str (mkS c))=some (.int c.length):=by rw[fu (by rw[ck];omega),ck]
 have e2:Am (.int 1) (.int (c.length:Int))=.ok ((Hy (c.length-1)).map fun i:Nat=>PV.int (1+(i:Nat))):=by rw[rD (by omega) (by omega) (by omega) (by omega),show ((c.length:Int)-1).toNat=c.length-1 by omega];rfl
 unfold own;cases e:(Hy (c.length-1)).find? (fun i=>decide (many cs (c.take (i+1))=1)) with
 | some i=>
  have k:=k1 i e;simp only[cF,PU.start,HI,Jv,IG,Jh,IM,Jw,Kh,rz,xj,xh,Fx,Ay,o7,jH,C2,e1,R.ofO_some,tj,e2,C5,k,tm]
 | none=>
  obtain⟨ρ',k,a,rfl⟩:=k2 e;simp only[cF,PU.start,HI,Jv,IG,Jh,IM,Jw,Kh,rz,xj,xh,Fx,Ay,o7,jH,C2,e1,R.ofO_some,tj,e2,C5,k,l7,xi,C3]
def cdW(ls:WO.Lts)(w:W):W:=w.map (fun c=>(WO.keyL ls c).getD 0)
def cdH(ls:WO.Lts)(w:W):W:=cdW ls w++[35]
def yt(ls:WO.Lts)(ws:List W)(w:W):PV:=.tup [.str (mkS w),.str (mkS (own (ws.map (cdH ls)) (cdH ls w)))]
theorem x5(ls:WO.Lts)(ws:List W)(hn:ws.length<=12)(hw:∀w∈ws,w.length<=12/\∀c∈w,(WO.keyL ls c).isSome=true):cT [WO.ltPv ls,.lst (ws.map fun w=>.str (mkS w))]=some (.lst (ws.map (yt ls ws))):=by
 refine aB rfl ?_;have hash:("#":Str)=mkS [35]:=by decide +kernel
 have c1:cq (ay 0) kC dS [.no,.val (WO.ltPv ls)] (ws.map fun w=>.str (mkS w))=.ok (ws.map fun w=>.str (mkS (cdH ls w))):=
  WO.in_list_comp (enc:=fun w:W=>PV.str (mkS w)) (fun w=>.str (mkS (cdH ls w))) ws fun w hwm=>by
   have h:=hw w hwm;have e:=yp ls w (by omega)
   have e2:WO.codeL ls w=some (cdW ls w):=by
    unfold WO.codeL;rw[if_pos (KU.mpr fun c hc=>h.2 c hc)];rfl
   rw[e2] at e;have e:fO [WO.ltPv ls,.str (mkS w)]=some (.str (mkS (cdW ls w))):=e
   have e3:eo (.str (mkS (cdW ls w))) c_CODE_END=some (.str (mkS (cdH ls w))):=by
    show eo (.str (mkS (cdW ls w))) (.str "#")=_;rw[hash,je (by simp[cdW];omega),jA];rfl
   exact⟨_,o6 _,by simp[dS,e,e3]⟩
 obtain⟨ks,ps,h,e2⟩:=uL (ws.map (cdH ls)) (by simpa using hn) (fun c hc=>by
  obtain⟨w,hwm,rfl⟩:=HN.mp hc;have:=(hw w hwm).1;simp[cdH,cdW];omega)
 have e2:bt [.lst (ws.map fun w=>.str (mkS (cdH ls w)))]=some (.dct ks ps):=by rw[← e2,I8];rfl
 have ez:∀l:List W,(vg (l.map fun w=>PV.str (mkS w)) (l.map fun w=>PV.str (mkS (cdH ls w)))).map PV.tup=l.map fun w=>PV.tup [.str (mkS w),.str (mkS (cdH ls w))]:=by
  intro l;unfold vg
  induction l with
  | nil=>rfl
  | cons a r ih=>simp only[HI,Jb];rw[ih]
 have c2:cq (kG 2 (bG (ay 0) (bG (ay 1) kX))) kC dR [.no,.no,.val (.dct ks ps)] (ws.map fun w=>PV.tup [.str (mkS w),.str (mkS (cdH ls w))])=.ok (ws.map (yt ls ws)):=
  WO.in_list_comp (enc:=fun w:W=>PV.tup [.str (mkS w),.str (mkS (cdH ls w))]) (yt ls ws) ws fun w hwm=>by
   have:=(hw w hwm).1;have e:=CW (ws.map (cdH ls)) ks ps h (cdH ls w) (HN.mpr ⟨w,hwm,rfl⟩) (by simp[cdH]) (by simp[cdH,cdW];omega);exact⟨[.val (.str (mkS w)),.val (.str (mkS (cdH ls w))),.val (.dct ks ps)],rfl,by simp[dR,e,yt]⟩
 have z:ws.length<=16777216:=by omega
 have ei:eV (.lst (ws.map fun w=>PV.str (mkS w)))=some (ws.map fun w=>PV.str (mkS w)):=rfl;have zq:=BZ (ws.map fun w=>PV.str (mkS w)) (ws.map fun w=>PV.str (mkS (cdH ls w))) (by rw[nM];rfl);simp[fN,PU.start,rA,IM,c1,z,e2,zq];rw[ez,c2];simp[z]
open NW
abbrev v8(L D:PV)(ks:List Key)(ps:List PV)(a b c:Sl):PSt:=[.val L,.val D,.own (.dct ks ps),a,b,c]
theorem Ex(L D:PV)(ks:List Key)(ps:List PV)(F:W->Option PV)(h:Tells ks ps F)(a:Sl)(b:W)(n:Nat)(hb:b.length<=100)(hk:ks.length<=100000):∃ks' ps',Tells ks' ps' (fun p=>if b.take n=p then some .non else F p)/\ks'.length<=ks.length+1/\
  cb (v8 L D ks ps a (.val (.str (mkS b))) (.val (.int n)))=.ok (.next (v8 L D ks' ps' a (.val (.str (mkS b))) (.val (.int n)))):=by
 obtain⟨ks',ps',e,h1,h2⟩:=h.put (b.take n) .non (by simp[noFn]);have e1:=vm (x:=mkS b) none (some (n:Int)) (by rw[ck];omega);rw[iU] at e1;have z:ks.length<16777216:=by omega
 refine⟨ks',ps',h2,h1,?_⟩;simp[cb,v8,e1,z,e]
theorem Ew(L D:PV)(ks:List Key)(ps:List PV)(F:W->Option PV)(h:Tells ks ps F)(w b:W)(t:Str)(hne:b≠[])(hD:gIx D (.str (mkS w))=some (.str t))(x:Sl)(hb:b.length<=100)(hk:ks.length<=10000):∃ks' ps' x',Tells ks' ps' (fun p=>iK p (F p) (b,t))/\ks'.length<=ks.length+100/\
  c9 (v8 L D ks ps (.val (.str (mkS w))) (.val (.str (mkS b))) x)=.ok (.next (v8 L D ks' ps' (.val (.str (mkS w))) (.val (.str (mkS b))) x')):=by
 have hbl:1<=b.length:=by cases b with | nil=>exact absurd rfl hne | cons _ _=>simp
 obtain⟨ρ',f1,ks1,ps1,x1,rfl,h1,l1⟩:=forR (n:=b.length-1) (lo:=1) (h:=ay 5) (g:=cb) (ρ:=v8 L D ks ps (.val (.str (mkS w))) (.val (.str (mkS b))) x)
  (I:=fun i ρ=>∃ks1 ps1 x1,ρ=v8 L D ks1 ps1 (.val (.str (mkS w))) (.val (.str (mkS b))) x1/\Tells ks1 ps1 (fun p=>if p∈(Hy i).map (fun j=>b.take (j+1)) then some .non else F p)/\ks1.length<=ks.length+i)
  ⟨ks,ps,x,rfl,⟨h.len,fun p=>by rw[h.at_,if_neg (by simp)],h.nf⟩,by omega⟩ (by
   rintro i ρ hi ⟨ks1,ps1,x1,rfl,h1,l1⟩;obtain⟨ks2,ps2,h2,l2,e⟩:=Ex L D ks1 ps1 _ h1 (.val (.str (mkS w))) b (i+1) hb (by omega);have ei:(1:Int)+(i:Int)=((i+1:Nat):Int):=by omega
   rw[ei];refine⟨_,_,rfl,.inl e,ks2,ps2,_,rfl,⟨h2.len,fun p=>?_,h2.nf⟩,by omega⟩;rw[h2.at_,LH,IH]
   by_cases hp:b.take (i+1)=p
   ·rw[if_pos hp,if_pos (IS _ (by simp[hp]))]
   ·rw[if_neg hp]
    by_cases hq:p∈(Hy i).map (fun j=>b.take (j+1))
    ·rw[if_pos hq,if_pos (Kd _ hq)]
    ·rw[if_neg hq,if_neg]
     intro z;rcases IV.mp z with z | z
     ·exact hq z
     ·rw[Nt,HY] at z
      exact hp z.symm)
 obtain⟨ks2,ps2,e2,l2,h2⟩:=h1.put b (.str t) (by simp[noFn]);refine⟨ks2,ps2,x1,⟨h2.len,fun p=>?_,h2.nf⟩,by omega,?_⟩
 ·rw[h2.at_]
  unfold iK
  by_cases hp:b=p
  ·simp only[if_pos hp]
  ·simp only[if_neg hp]
   by_cases hq:p≠[]/\p <+: b
   ·rw[if_pos hq,if_pos]
    have hl:=JL hq.2
    have h0:1<=p.length:=by
     cases p with
     | nil=>exact absurd rfl hq.1
     | cons _ _=>simp
    have ht:=K9.mp hq.2;have hlt:p.length≠b.length:=fun z=>hp (by rw[z,List.take_length] at ht;exact ht.symm);exact HN.mpr ⟨p.length-1,JX.mpr (by omega),by rw[show p.length-1+1=p.length by omega];exact ht.symm⟩
   ·rw[if_neg hq,if_neg]
    intro z;obtain⟨j,q2,rfl⟩:=HN.mp z;have q2:=JX.mp q2;refine hq ⟨fun z=>?_,Jt _ _⟩;cases b with
    | nil=>exact hne rfl
    | cons a r=>simp at z
 ·have e1:iZ (.str (mkS b))=some (.int b.length):=by rw[fu (by rw[ck];omega),ck]
  have e3:Am (.int 1) (.int (b.length:Int))=.ok (bM 1 (b.length-1)):=by rw[rD (by omega) (by omega) (by omega) (by omega)];congr 2;omega
  have z:ks1.length<16777216:=by omega
  have f1:gq (ay 5) cb (bM 1 (b.length-1)) [.val L,.val D,.own (.dct ks ps),.val (.str (mkS w)),.val (.str (mkS b)),x]=.ok (.next [.val L,.val D,.own (.dct ks1 ps1),.val (.str (mkS w)),.val (.str (mkS b)),x1]):=f1;simp only[v8];simp[c9,e1,e3,f1,hD,z,e2]
def ve(ls:WO.Lts)(wt:List (W×Str)):List (W×Str):=wt.map fun p=>(own ((wt.map (·.1)).map (cdH ls)) (cdH ls p.1),p.2)
theorem wb(ls:WO.Lts)(wt:List (W×Str))(hn:wt.length<=12)(hw:∀p∈wt,p.1.length<=12/\∀c∈p.1,(WO.keyL ls c).isSome=true)(nd:(wt.map (·.1)).Nodup):∃ks ps,Tells ks ps (yj (ve ls wt))/\dN [WO.ltPv ls,wtD wt]=some (.dct ks ps):=by
 have eb:=x5 ls (wt.map (·.1)) (by simpa using hn) (fun w hwm=>by obtain⟨p,hp,rfl⟩:=HN.mp hwm;exact hw p hp);have el:=zh wt;rw[I8] at eb;have eb:cT [WO.ltPv ls,.lst (wt.map fun p=>.str (mkS p.1))]=some (.lst ((wt.map (·.1)).map (yt ls (wt.map (·.1))))):=eb;rw[I8] at eb
 let B:W×Str->W:=fun p=>own ((wt.map (·.1)).map (cdH ls)) (cdH ls p.1)
 have hB:∀p∈wt,B p≠[]/\(B p).length<=100:=fun p hp=>⟨xD _ _ (by simp[cdH]),by
  have h1:=JL (lT ((wt.map (·.1)).map (cdH ls)) (cdH ls p.1));have h2:=(hw p hp).1;have h3:(cdH ls p.1).length=p.1.length+1:=by simp[cdH,cdW]
  show (own _ _).length<=100;omega⟩
 obtain⟨ρ',f1,ks,ps,a,b,c,rfl,h,l⟩:=forM (enc:=fun p:W×Str=>PV.tup [.str (mkS p.1),.str (mkS (B p))]) (xs:=wt) (h:=kG 2 (bG (ay 3) (bG (ay 4) kX))) (g:=c9) (ρ:=v8 (WO.ltPv ls) (wtD wt) [] [] .no .no .no)
  (I:=fun pre ρ=>∃ks ps a b c,ρ=v8 (WO.ltPv ls) (wtD wt) ks ps a b c/\Tells ks ps (fun p=>(pre.map fun q=>(B q,q.2)).foldl (iK p) none)/\ks.length<=pre.length * 100) ⟨[],[],.no,.no,.no,rfl,⟨rfl,fun p=>rfl,by simp⟩,by simp⟩ (by
   rintro pre p post ρ hx ⟨ks,ps,a,b,c,rfl,h,l⟩;have hp:p∈wt:=by rw[hx];simp
   have hpl:pre.length<=12:=by
    have:=congrArg JQ hx;rw[Hv] at this;omega
   have hD:gIx (wtD wt) (.str (mkS p.1))=some (.str p.2):=vA wt nd hp;obtain⟨ks',ps',x',h',l',e⟩:=Ew (WO.ltPv ls) (wtD wt) ks ps _ h p.1 (B p) p.2 (hB p hp).1 hD c (hB p hp).2 (by omega);refine⟨_,_,rfl,.inl e,ks',ps',_,_,_,rfl,⟨h'.len,fun q=>?_,h'.nf⟩,by simp;omega⟩;rw[h'.at_,IH,Lw];rfl)
 refine⟨ks,ps,h,aB rfl ?_⟩;have ei:eV (.lst (wt.map (yt ls (wt.map (·.1)) ∘ fun x=>x.1)))=some (wt.map fun p:W×Str=>PV.tup [.str (mkS p.1),.str (mkS (B p))]):=rfl;have f1:gq (kG 2 (bG (ay 3) (bG (ay 4) kX))) c9 (wt.map fun p:W×Str=>PV.tup [.str (mkS p.1),.str (mkS (B p))]) [.val (WO.ltPv ls),.val (wtD wt),.own (.dct [] []),.no,.no,.no]=.ok (.next [.val (WO.ltPv ls),.val (wtD wt),.own (.dct ks ps),a,b,c]):=f1;generalize (wt.map fun p:W×Str=>PV.tup [.str (mkS p.1),.str (mkS (B p))])=TL at *;generalize PV.lst (wt.map (yt ls (wt.map (·.1)) ∘ fun x=>x.1))=TQ at *;generalize PV.lst (wt.map fun p=>.str (mkS p.1))=WL at *;generalize wtD wt=DD at *;generalize WO.ltPv ls=LL at *;simp[fI,PU.start,el,eb,ei,f1]
theorem zm{ls:WO.Lts}{c:Nat}(h:(WO.keyL ls c).isSome=true):∃l∈ls,(WO.keyL ls c).getD 0=l.1:=by
 unfold WO.keyL at h ⊢;cases e:ls.find? fun l=>decide (c∈l.2) with
 | none=>rw[e] at h;cases h
 | some l=>exact⟨l,JM e,rfl⟩
theorem CP{ls:WO.Lts}(hk:∀l∈ls,l.1≠35){w:W}(hw:∀c∈w,(WO.keyL ls c).isSome=true):Code (cdH ls w):=by
 refine⟨cdW ls w,rfl,fun z=>?_⟩;obtain⟨c,hc,e⟩:=HN.mp z;obtain⟨l,hl,e2⟩:=zm (hw c hc);exact hk l hl (by rw[← e2,e])
section
variable{ls : WO.Lts}{wt : List (W×Str)}(hk : ∀l ∈ ls, l.1 ≠ 35)(hw : ∀p ∈ wt, ∀c ∈ p.1, (WO.keyL ls c).isSome = true)(nc : (wt.map fun p => cdH ls p.1).Nodup)
omit hk hw nc in
theorem Fd:∀x∈ve ls wt,x.1≠[]:=fun x hx=>by
 obtain⟨p,_,rfl⟩:=HN.mp hx;exact xD _ _ (by simp[cdH])
include hk hw nc
theorem zR:∀c∈(wt.map (·.1)).map (cdH ls),Code c:=fun c hc=>by
 obtain⟨w,hwm,rfl⟩:=HN.mp hc;obtain⟨p,hp,rfl⟩:=HN.mp hwm;exact CP hk (hw p hp)
omit hk hw in
theorem CQ{p q:W×Str}(hp:p∈wt)(hq:q∈wt)(e:cdH ls p.1=cdH ls q.1):p=q:=
 nF (fun p:W×Str=>cdH ls p.1) wt nc p hp q hq e
theorem Fc:∀x∈ve ls wt,∀y∈ve ls wt,x.1 <+: y.1->x=y:=fun x hx y hy h=>by
 obtain⟨p,hp,rfl⟩:=HN.mp hx;obtain⟨q,hq,rfl⟩:=HN.mp hy;have m:∀{p:W×Str},p∈wt->cdH ls p.1∈(wt.map (·.1)).map (cdH ls):=fun hp=>HN.mpr ⟨_,HN.mpr ⟨_,hp,rfl⟩,rfl⟩;have:=sy (zR hk hw nc) (m hp) (m hq) h (L1 _);rw[CQ nc hp hq this]
end
theorem zA (H:PV) (rs:FA.Rooms) (hR:gIx H (.str "rooms")=some (aA rs)) (hl:rs.length<=1000) (Dn:Str->PV) (hD:∀n∈FA.names rs,aK [H,.str n]=some (Dn n)) (hF:∀n∈FA.names rs,noFn (Dn n)=true):∃ks ps,bc [H]=some (.dct ks ps)/\(∀n∈FA.names rs,gIx (.dct ks ps) (.str n)=some (Dn n))/\noFn (.dct ks ps)=true:=by
 have hnl:(FA.names rs).length=rs.length:=by simp[FA.names]
 obtain⟨ρ',f1,ks,ps,a,rfl,h1,h2,h3,h4⟩:=forM (enc:=PV.str) (xs:=FA.names rs) (h:=ay 2) (g:=dU) (ρ:=[.val H,.own (.dct [] []),.no])
  (I:=fun pre ρ=>∃ks ps a,ρ=[.val H,.own (.dct ks ps),a]/\ks.length=ps.length/\ks.length<=pre.length/\(∀n∈pre,bO ks ps (.inr n)=some (Dn n))/\∀x∈ps,noFn x=true) ⟨[],[],.no,rfl,rfl,by simp,by simp,by simp⟩ (by
   rintro pre n post ρ hx ⟨ks,ps,a,rfl,h1,h2,h3,h4⟩;have hn:n∈FA.names rs:=by rw[hx];simp
   have hpl:pre.length<=1000:=by
    have:=congrArg JQ hx;rw[Hv] at this;omega
   obtain⟨ks',ps',e,g1,g2,g3⟩:=BG.look_put ks ps (.inr n) (Dn n) h1;have z:ks.length<16777216:=by omega
   have ed:=hD n hn;refine⟨_,[.val H,.own (.dct ks' ps'),.val (.str n)],o6 _,.inl ?_,ks',ps',_,rfl,g1,by simp;omega,fun m hm=>?_,fun x hx=>(s9 e hx).elim (h4 x) fun z=>z▸hF n hn⟩
   ·simp[dU,ed,z,e]
   ·rw[g3]
    by_cases hmn:n=m
    ·rw[if_pos (by rw[hmn]),hmn]
    ·rw[if_neg fun z=>hmn (K4 z)]
     rcases IV.mp hm with hm | hm
     ·exact h3 m hm
     ·exact absurd (HY.mp hm).symm hmn)
 refine⟨ks,ps,aB rfl ?_,h3,by have:=(fG ps).mpr h4;simpa [noFn] using this⟩;have ei:=FA.keys_rooms rs;generalize (FA.names rs).map PV.str=NL at *;generalize aA rs=RM at *;simp[fJ,PU.start,hR,ei,f1]
theorem ua(spans:List (Int×Int×Str))(last:Str)(hour:Int):jb [(Room.hours spans last).pv,.int hour]=some (.str (FA.handOf spans last hour)):=by
 refine aB rfl ?_
 obtain⟨k1,k2⟩:=gK (enc:=pv3) (h:=kG 3 (bG (ay 2) (bG (ay 3) (bG (ay 4) kX)))) (g:=eE) (FA.holds hour) (fun s=>PV.str s.2.2)
  (I:=fun ρ=>∃a b c,ρ=[.val (Room.hours spans last).pv,.val (.int hour),a,b,c]) (by
   rintro s ρ ⟨a,b,c,rfl⟩;refine⟨_,rfl,fun hp=>?_,fun hp=>⟨_,?_,.val (.int s.1),.val (.int s.2.1),.val (.str s.2.2),rfl⟩⟩
   ·unfold FA.holds at hp
    simp only[Ii,decide_eq_true_eq] at hp;simp[eE,hp.1,hp.2]
   ·unfold FA.holds at hp
    by_cases h1:s.1<=hour
    ·have h2:¬ hour<s.2.1:=by simpa [h1] using hp
     simp[eE,h1,h2]
    ·simp[eE,h1]) spans [.val (Room.hours spans last).pv,.val (.int hour),.no,.no,.no] ⟨_,_,_,rfl⟩
 unfold FA.handOf;cases e:spans.find? (FA.holds hour) with
 | some s=>
  have k:=k1 s e;simp only[Room.pv] at k ⊢;simp[iY,PU.start];rw[k];rfl
 | none=>
  obtain⟨ρ',k,a,b,c,rfl⟩:=k2 e;simp only[Room.pv] at k ⊢;simp[iY,PU.start];rw[k];simp
theorem uE (H:PV) (rs:FA.Rooms) (hR:gIx H (.str "rooms")=some (aA rs)) (hour:Int) (a:Sl):∀(n N:Nat) (x y:Str),n<=N->NM.comeGo rs hour n x=some y->
  whF (cY (ak (ak (ak (ak (af 0) (kS "rooms") gIx) (af 3) gIx) (kI 0) gIx) (kS "hours") gEq)) f7 N [.val H,.val (.int hour),a,.val (.str x)]=.ok (.next [.val H,.val (.int hour),a,.val (.str y)])
 | 0,N,x,y,h,e=>by cases e
 | n+1,0,x,y,h,e=>by omega
 | n+1,N+1,x,y,h,e=>by
  have n2:=FA.ix_rooms rs x;unfold NM.comeGo at e;unfold whF;cases hr:FA.lookR rs x with
  | none=>rw[hr] at e;cases e
  | some r=>
   rw[hr] at e n2;have n2:gIx (aA rs) (.str x)=some r.pv:=n2;cases r with
   | hours sp l=>
    have n3:gIx (Room.hours sp l).pv (.int 0)=some (.str "hours"):=rfl;have n4:=ua sp l hour;have ih:=uE H rs hR hour a n N (FA.handOf sp l hour) y (by omega) e;have t:cY (ak (ak (ak (ak (af 0) (kS "rooms") gIx) (af 3) gIx) (kI 0) gIx) (kS "hours") gEq) [.val H,.val (.int hour),a,.val (.str x)]=.ok true:=by simp[hR,n2,n3]
    have b:f7 [.val H,.val (.int hour),a,.val (.str x)]=.ok (.next [.val H,.val (.int hour),a,.val (.str (FA.handOf sp l hour))]):=by simp[f7,hR,n2,n4]
    simp only[t,R.ok_bind,if_true,b];exact ih
   | menu t ks wr wa=>
    have n3:gIx (Room.menu t ks wr wa).pv (.int 0)=some (.str "menu"):=rfl;have t:cY (ak (ak (ak (ak (af 0) (kS "rooms") gIx) (af 3) gIx) (kI 0) gIx) (kS "hours") gEq) [.val H,.val (.int hour),a,.val (.str x)]=.ok false:=by simp[hR,n2,n3]
    cases e;simp only[t,R.ok_bind,IY,if_false]
   | names t ks wr wa=>
    have n3:gIx (Room.names t ks wr wa).pv (.int 0)=some (.str "names"):=rfl;have t:cY (ak (ak (ak (ak (af 0) (kS "rooms") gIx) (af 3) gIx) (kI 0) gIx) (kS "hours") gEq) [.val H,.val (.int hour),a,.val (.str x)]=.ok false:=by simp[hR,n2,n3]
    cases e;simp only[t,R.ok_bind,IY,if_false]
   | hand t=>
    have n3:gIx (Room.hand t).pv (.int 0)=some (.str "hand"):=rfl;have t:cY (ak (ak (ak (ak (af 0) (kS "rooms") gIx) (af 3) gIx) (kI 0) gIx) (kS "hours") gEq) [.val H,.val (.int hour),a,.val (.str x)]=.ok false:=by simp[hR,n2,n3]
    cases e;simp only[t,R.ok_bind,IY,if_false]
   | fin t=>
    have n3:gIx (Room.fin t).pv (.int 0)=some (.str "end"):=rfl;have t:cY (ak (ak (ak (ak (af 0) (kS "rooms") gIx) (af 3) gIx) (kI 0) gIx) (kS "hours") gEq) [.val H,.val (.int hour),a,.val (.str x)]=.ok false:=by simp[hR,n2,n3]
    cases e;simp only[t,R.ok_bind,IY,if_false]
theorem zV (H:PV) (rs:FA.Rooms) (hR:gIx H (.str "rooms")=some (aA rs)) (hour:Int) (n:Nat) (x y:Str) (hn:n<=300) (e:NM.comeGo rs hour n x=some y):gO [H,.int hour,.str x]=some (.str y):=by
 refine aB rfl ?_;have k:=uE H rs hR hour (.val (.str x)) n 300 x y hn e;simp only[jP,PU.start,HI,Jv,IG,Jh,IM,Jw,Kh,rz,Az,yo,o7,C3,EG,l7,List.set_cons_succ,List.set_cons_zero,DF,k,xi]
theorem zY(ns:List Int)(k:Nat):aw [.lst (ns.map .int),.int k]=some (.int (ns.getD k 0)):=by
 refine aB rfl ?_
 by_cases hk:k<ns.length
 ·have h2:(k:Int)<ns.length:=by omega
  have h3:atI (ns.map PV.int) (k:Int)=some (.int ns[k]):=bj rfl (by simp[hk]);simp[d9,PU.start,h2,h3,hk]
 ·have h2:¬ (k:Int)<ns.length:=by omega
  simp[d9,PU.start,h2,hk]
theorem ou(cell:Int)(many:Nat)(hm:many<=100):∃ls:List Int,ls.length=many/\(∀x∈ls,0<=x)/\aW [.int cell,.int many]=some (.lst (ls.map .int)):=by
 by_cases h2:cell % 2=1
 ·obtain⟨ρ',f1,ls,n,a,rfl,h1,h3⟩:=forR (n:=many) (lo:=0) (h:=ay 4) (g:=dE) (ρ:=[.val (.int cell),.val (.int many),.own (.lst []),.val (.int (cell / 2)),.no])
   (I:=fun i ρ=>∃(ls:List Int)(n:Int)(a:Sl),ρ=[.val (.int cell),.val (.int many),.own (.lst (ls.map .int)),.val (.int n),a]/\ls.length=i/\∀x∈ls,0<=x) ⟨[],_,_,rfl,rfl,by simp⟩ (by
    rintro i ρ hi ⟨ls,n,a,rfl,h1,h3⟩;have hq:ls.length<16777216:=by omega
    refine⟨_,[.val (.int cell),.val (.int many),.own (.lst ((ls++[n % 5040]).map .int)),.val (.int (n / 5040)),.val (.int (0+(i:Int)))],rfl,.inl ?_,ls++[n % 5040],n / 5040,_,rfl,by simp[h1],fun x hx=>?_⟩
    ·simp (disch:=omega) [dE,ft,qg,hq]
    ·rcases IV.mp hx with hx | hx
     ·exact h3 x hx
     ·rw[HY.mp hx];omega)
  refine⟨ls,h1,h3,aB rfl ?_⟩;simp (disch:=omega) [d8,PU.start,ft,qg,h2,rE];rw[f1];simp
 ·obtain⟨ρ',f1,ls,n,a,rfl,h1,h3⟩:=forR (n:=many+1) (lo:=0) (h:=ay 4) (g:=dD) (ρ:=[.val (.int cell),.val (.int many),.own (.lst []),.val (.int (cell / 2 % 2147483647)),.no])
   (I:=fun i ρ=>∃(ls:List Int)(n:Int)(a:Sl),ρ=[.val (.int cell),.val (.int many),.own (.lst (ls.map .int)),.val (.int n),a]/\ls.length=i/\∀x∈ls,0<=x) ⟨[],_,_,rfl,rfl,by simp⟩ (by
    rintro i ρ hi ⟨ls,n,a,rfl,h1,h3⟩;have hq:ls.length<16777216:=by omega
    rw[M3];have m1:qN (.int (n+(i:Int)+1)) (.int 48271)=some (.int ((n+(i:Int)+1) * 48271)):=vn (.inr (by decide));have m2:∀z:Int,qN (.int z) (.int 69621)=some (.int (z * 69621)):=fun z=>vn (.inr (by decide));refine⟨_,[.val (.int cell),.val (.int many),.own (.lst ((ls++[(n+(i:Int)+1) * 48271 % 2147483647 * 69621 % 2147483629]).map .int)),.val (.int ((n+(i:Int)+1) * 48271 % 2147483647)),.val (.int (i:Int))],rfl,.inl ?_,_,_,_,rfl,by simp[h1],fun x hx=>?_⟩
    ·simp (disch:=omega) [dD,ft,m1,m2,hq]
    ·rcases IV.mp hx with hx | hx
     ·exact h3 x hx
     ·rw[HY.mp hx];omega)
  refine⟨ls.drop 1,by simp[h1],fun x hx=>h3 x (List.mem_of_mem_drop hx),aB rfl ?_⟩;have e1:(((many:Int)+1)).toNat=many+1:=by omega
  have e2:=NM.cut_1 (ls.map PV.int) (by rw[HF];omega);simp (disch:=omega) [d8,PU.start,ft,qg,h2,rE,e1];rw[f1];simp[e2]
end K40
namespace K40
open PySem L2 PU MT NM BG NW
def c20:List Nat:=[98,99,100,102,103,104,106,108,109,110,112,113,114,115,116,118,119,120,121,122]
theorem CU:("bcdfghjlmnpqrstvwxyz":Str)=mkS c20:=by decide +kernel
theorem wY:∀i:Fin 20,∀j:Fin 20,c20.getD i.1 0=c20.getD j.1 0->i.1=j.1:=by decide +kernel
theorem Aa(i j:Nat)(hi:i<20)(hj:j<20)(e:c20.getD i 0=c20.getD j 0):i=j:=wY ⟨i,hi⟩ ⟨j,hj⟩ e
def sgn(ls:List Int)(at_:Int)(t k:Nat):Nat:=c20.getD ((ls.getD k 0+3 * (t:Int) * (if (k:Int)=at_ then 1 else 0)) % 20).toNat 0
def cds(ls:List Int)(at_:Int)(t i:Nat):List Nat:=(Hy i).map (sgn ls at_ t)
abbrev nst(c:Int)(ls:List Int)(size at_:Int)(done:List PV)(a b d:Sl):PSt:=
 [.val (.int c),.val (.str (mkS c20)),.val (.lst (ls.map .int)),.val (.int size),.val (.int at_),.own (.lst done),a,b,d]
theorem we(c:Int)(ls:List Int)(size at_:Int)(done:List PV)(t k:Nat)(x:List Nat)(hl:ls.length=10)(hk:k<8)(hx:x.length<=100) :
  di (nst c ls size at_ done (.val (.int t)) (.val (.str (mkS x))) (.val (.int k)))=.ok (.next (nst c ls size at_ done (.val (.int t)) (.val (.str (mkS (x++[sgn ls at_ t k])))) (.val (.int k)))):=by
 have i1:atI (ls.map PV.int) (k:Int)=some (.int (ls.getD k 0)):=by
  rw[dW ls k (by omega),MW,Ic (by omega)];rfl
 have m1:qN (.int 3) (.int t)=some (.int (3 * t)):=vn (.inl (by decide));have hq:(if (k:Int)=at_ then (1:Int) else 0).natAbs<18446744073709551616:=by split <;> decide
 have m2:qN (.int (3 * (t:Int))) (.int (if (k:Int)=at_ then 1 else 0))=some (.int (3 * (t:Int) * (if (k:Int)=at_ then 1 else 0))):=vn (.inr hq);have h3:∀z:Int,gIx (.str (mkS c20)) (.int (z % 20))=some (.str ⟨#[c20.getD (z % 20).toNat 0]⟩):=fun z=>wy c20 (z % 20) (by omega) (by show _<(20:Int);omega) (by decide);have h4:=g7 x (sgn ls at_ t k) (by omega);unfold sgn at h4 ⊢;simp (disch:=omega) [-MW,di,nst,i1,m1,m2,ft,h3,h4]
theorem wd(c:Int)(ls:List Int)(size:Nat)(at_:Int)(done:List PV)(t:Nat)(b d:Sl)(hl:ls.length=10)(hs:size<=8)(hd:done.length<=100):∃d',
  dh (nst c ls size at_ done (.val (.int t)) b d)=.ok (.next (nst c ls size at_ (done++[.str (mkS (cds ls at_ t size))]) (.val (.int t)) (.val (.str (mkS (cds ls at_ t size)))) d')):=by
 obtain⟨ρ',f1,d',rfl⟩:=forR (n:=size) (lo:=0) (h:=ay 8) (g:=di) (ρ:=nst c ls size at_ done (.val (.int t)) (.val (.str (mkS []))) d)
  (I:=fun i ρ=>∃d,ρ=nst c ls size at_ done (.val (.int t)) (.val (.str (mkS (cds ls at_ t i)))) d) ⟨d,rfl⟩ (by
   rintro i ρ hi ⟨d,rfl⟩;have e:=we c ls size at_ done t i (cds ls at_ t i) hl (by omega) (by simp[cds];omega);have:cds ls at_ t (i+1)=cds ls at_ t i++[sgn ls at_ t i]:=by simp[cds,LH]
   rw[M3,this];exact⟨_,_,rfl,.inl e,_,rfl⟩)
 refine⟨d',?_⟩;have hq:done.length<16777216:=by omega
 simp (disch:=omega) [dh,eX,rE];rw[f1];simp[hq]
theorem names (c:Int):∃nms:List Str,nms.length=5/\nms.Nodup/\(∀x∈nms,x≠"back"/\x≠"")/\dz [.int c]=some (.lst (nms.map .str)):=by
 obtain⟨ls,l1,l2,el⟩:=ou c 10 (by omega);have el:aW [.int c,.int 10]=some (.lst (ls.map .int)):=el;have i8:atI (ls.map PV.int) 8=some (.int ls[8]):=dW ls 8 (by omega);have i9:atI (ls.map PV.int) 9=some (.int ls[9]):=dW ls 9 (by omega);generalize ls[8]=z8 at i8;generalize ls[9]=z9 at i9;obtain⟨size,hsz,h1,h8⟩:∃size:Nat,(1+z8 % 8)=(size:Int)/\1<=size/\size<=8:=⟨(1+z8 % 8).toNat,by omega,by omega,by omega⟩;obtain⟨at_,hat,ha0,ha1⟩:∃at_:Int,z9 % (size:Int)=at_/\0<=at_/\at_<size:=⟨z9 % (size:Int),rfl,MU _ (by omega),Lr _ (by omega)⟩
 obtain⟨ρ',f1,a,b,d,rfl⟩:=forR (n:=5) (lo:=0) (h:=ay 6) (g:=dh) (ρ:=nst c ls size at_ [] .no .no .no)
  (I:=fun i ρ=>∃a b d,ρ=nst c ls size at_ ((Hy i).map fun t=>.str (mkS (cds ls at_ t size))) a b d) ⟨_,_,_,rfl⟩ (by
   rintro i ρ hi ⟨a,b,d,rfl⟩;obtain⟨d',e⟩:=wd c ls size at_ ((Hy i).map fun t=>.str (mkS (cds ls at_ t size))) i b d l1 h8 (by simp;omega);rw[M3,LH,IH];exact⟨_,_,rfl,.inl e,_,_,_,rfl⟩)
 refine⟨(Hy 5).map fun t=>mkS (cds ls at_ t size),by simp,?_,?_,aB rfl ?_⟩
 ·unfold List.Nodup
  rw[O6];refine Lq (R:=fun a b=>a<b) (fun {i j} hi hj hij e=>?_) My;rw[JX] at hi hj;have e:=BG.mkS_inj e;have hs:at_.toNat<size:=by omega
  have e2:=congrArg (fun l:List Nat=>l[at_.toNat]?) e;simp only[cds,HW,Ki hs,L7] at e2;have e3:sgn ls at_ i at_.toNat=sgn ls at_ j at_.toNat:=Ib e2;unfold sgn at e3;rw[if_pos (by omega)] at e3;have e4:=Aa _ _ (by omega) (by omega) e3;omega
 ·intro x hx
  obtain⟨t,_,rfl⟩:=HN.mp hx;have hb:("back":Str)=mkS [98,97,99,107]:=by decide +kernel
  refine⟨fun e=>?_,fun e=>?_⟩
  ·rw[hb] at e
   have e:=BG.mkS_inj e;have m:97∈cds ls at_ t size:=by rw[e];simp
   obtain⟨k,_,ek⟩:=HN.mp m;have:∀z:Nat,z<20->c20.getD z 0≠97:=by decide +kernel
   exact this _ (by omega) ek
  ·rw[eX] at e
   have e:=BG.mkS_inj e;have:=congrArg JQ e;simp[cds] at this;omega
 ·simp only[nst] at f1
  have hsz0:(0:Int)<size:=by omega
  simp (disch:=omega) [-I8,gm,PU.start,CU,el,i8,i9,ft,hsz,hat,rE];rw[f1];simp
def enc(w:W):PV:=.str (mkS w)
def W8:List W:=[[98,111],[108,101,101]]
def LSa:WO.Lts:=[(51,[100,101,102]),(52,[97,98,99]),(53,[106,107,108]),(54,[109,110,111])]
def LSb:WO.Lts:=[(51,[106,107,108]),(52,[109,110,111]),(53,[100,101,102]),(54,[97,98,99])]
class LX where
 ls:WO.Lts
 two:ls=LSa\/ls=LSb
def LS5[LX]:WO.Lts:=LX.ls
theorem pG[LX]:LS5=LSa\/LS5=LSb:=LX.two
theorem BS[LX]:∀w∈W8,∀c∈w,(WO.keyL LS5 c).isSome=true:=by rcases pG with h | h <;> rw[h] <;> decide +kernel
theorem EB[LX]:(W8.map (cdH LS5)).Nodup:=by rcases pG with h | h <;> rw[h] <;> decide +kernel
theorem Ez[LX]:∀l∈LS5,l.1≠35:=by rcases pG with h | h <;> rw[h] <;> decide +kernel
theorem DT:W8.Nodup:=by decide +kernel
theorem xm:∀w∈W8,w.length<=4:=by decide +kernel
theorem lpa:PV.lst [.tup [.str "3",.str "def"],.tup [.str "4",.str "abc"],.tup [.str "5",.str "jkl"],.tup [.str "6",.str "mno"]]=WO.ltPv LSa:=by kernel_rfl
theorem lpb:PV.lst [.tup [.str "3",.str "jkl"],.tup [.str "4",.str "mno"],.tup [.str "5",.str "def"],.tup [.str "6",.str "abc"]]=WO.ltPv LSb:=by kernel_rfl
def K12:List Nat:=[48,49,50,51,52,53,54,55,56,57,42,35]
def E12:List (Nat×Nat):=[(0,48),(1,49),(2,50),(3,51),(4,52),(5,53),(6,54),(7,55),(8,56),(9,57),(10,42),(11,35)]
def e12(p:Nat×Nat):PV:=.tup [.int p.1,WO.sg p.2]
theorem CJ:qQ (.str "0123456789*#")=some (E12.map e12):=by kernel_rfl
theorem F9:E12.map (·.2)=K12:=by decide
theorem CI:∀p∈E12,p.1<12:=by decide
theorem C9:K12.Nodup:=by decide
def pvk(p:Nat×Str):PV:=.tup [WO.sg p.1,.str p.2]
def mk2(p:Nat×Str):Str×Str:=(⟨#[p.1]⟩,p.2)
theorem xI(ks:List (Nat×Str)):(ks.map mk2).map pv2=ks.map pvk:=by rw[I8];rfl
def mw2(p:W×Str):Str×Str:=(mkS p.1,p.2)
theorem BK(wt:List (W×Str)):PV.tup ((wt.map mw2).map pv2)=xl wt:=by rw[I8];rfl
def RW(nms:List Str):Room->Prop
 | .menu _ ks wr wa=>(∃kt:List (Nat×Str),ks=kt.map mk2/\JE (kt.map (·.1)) K12/\∀k∈kt,k.2="back"\/k.2∈nms)/\wr.2∈nms/\wa.2∈nms/\(1<=wr.1/\wr.1<=3)/\(1<=wa.1/\wa.1<=3)
 | .names _ ws wr wa=>(∃wt:List (W×Str),ws=wt.map mw2/\JE (wt.map (·.1)) W8/\wt≠[]/\∀p∈wt,p.2∈nms)/\wr.2∈nms/\wa.2∈nms/\(1<=wr.1/\wr.1<=3)/\(1<=wa.1/\wa.1<=3)
 | _=>True
structure Low(nms:List Str)(low:Nat)(lw:List Str):Prop where
 cut:iN (nms.map PV.str) none (some (low:Int))=lw.map PV.str
 ln:lw.length=low
 sub:∀x∈lw,x∈nms
 le:low<=nms.length
 pos:0<low
 sm:low<=100
theorem Low.at_{nms lw:List Str}{low:Nat}(L:Low nms low lw)(z:Int):∃x∈nms,atI (nms.map PV.str) (z % (low:Int))=some (.str x):=by
 have:=L.pos;have h0:=MU z (b:=(low:Int)) (by omega);have h1:=Lr z (b:=(low:Int)) (by omega);obtain⟨k,hk⟩:∃k:Nat,z % (low:Int)=(k:Int):=⟨(z % (low:Int)).toNat,by omega⟩;have hl:=L.le;rw[hk];exact⟨_,JY (by omega),GX nms k (by omega)⟩
theorem Low.bk {nms lw:List Str} {low:Nat} (L:Low nms low lw) (z:Int):∃x:Str,(x="back"\/x∈nms)/\atI (lw.map PV.str++[.str "back"]) (z % ((low:Int)+1))=some (.str x):=by
 have hl:(lw++[HL "back"]).length=low+1:=by simp[L.ln]
 obtain⟨x,hx,e⟩:=CY (lw++[HL "back"]) z (by omega);rw[hl,IH] at e;refine⟨x,?_,e⟩;rcases IV.mp hx with h | h
 ·exact .inr (L.sub x h)
 ·simp only[Hr,JW,or_false] at h
  exact .inl h
def Fit(nms ord:List Str)(r:Str×Room):Prop:=∃(k:Nat)(hk:k<ord.length),ord[k]=r.1/\(∀sp l,r.2=.hours sp l->l∈ord.drop (k+1)/\∀s∈sp,s.2.2∈ord.drop (k+1))/\RW nms r.2
structure Good(nms ord:List Str)(rs:FA.Rooms):Prop where
 ok:∀r∈rs,Fit nms ord r
 nd:(rs.map (·.1)).Nodup
theorem mQ(nms:List Str)(rs:FA.Rooms)(k:Str)(r:Room)(ord:List Str)(g:Good nms ord rs)(hr:Fit nms ord (k,r)):Good nms ord (o3 rs k r)/\(o3 rs k r).length<=rs.length+1:=by
 obtain⟨a,b,c⟩:=yL (rs:=rs) (k:=k) (r:=r) (Fit nms ord) g.ok (fun x e1 e2=>by have:x=(k,r):=Ls e1 e2;rw[this];exact hr) g.nd;exact⟨⟨a,b⟩,c⟩
theorem oa(rs:FA.Rooms):aA rs=.dct (rs.map fun r=>.inr r.1) (rs.map fun r=>r.2.pv):=rfl
theorem uD(nms ord:List Str)(rs:FA.Rooms)(nd:ord.Nodup)(g:Good nms ord rs)(hall:∀x∈ord,x∈FA.names rs)(hour:Int):∀(n k:Nat)(hk:k<ord.length),ord.length-k<=n->∃y r,comeGo rs hour n ord[k]=some y/\FA.lookR rs y=some r/\y∈ord/\∀sp l,r≠.hours sp l
 | 0,k,hk,h=>by omega
 | n+1,k,hk,h=>by
  obtain⟨r,hr⟩:=FA.look_some rs ord[k] (hall _ (JY hk));obtain⟨k',hk',e,ht,_⟩:=g.ok _ (sO rs _ r hr);have ek:k'=k:=(List.getElem_inj nd).mp e;subst ek;unfold comeGo;rw[hr]
  by_cases hh:∃sp l,r=.hours sp l
  ·obtain⟨sp,l,rfl⟩:=hh
   obtain⟨h1,h2⟩:=ht sp l rfl
   have hin:FA.handOf sp l hour∈ord.drop (k'+1):=by
    unfold FA.handOf;cases e:sp.find? (FA.holds hour) with
    | none=>exact h1
    | some s=>exact h2 s (JM e)
   obtain⟨j,hj,e2⟩:=JV hin;rw[MA] at hj;rw[List.getElem_drop] at e2;dsimp only;rw[← e2];exact uD nms ord rs nd g hall hour n (k'+1+j) (by omega) (by omega)
  ·refine⟨ord[k'],r,?_,hr,JY _,fun sp l e=>hh ⟨sp,l,e⟩⟩
   cases r with
   | hours sp l=>exact absurd ⟨sp,l,rfl⟩ hh
   | _=>rfl
structure HG[LX](h:House)(nms ord:List Str):Prop where
 nd:ord.Nodup
 ol:ord.length<=20
 g:Good nms ord h.rooms
 all:∀x∈ord,x∈FA.names h.rooms
 nm:∀x∈nms,x∈ord
 mn:∀x∈ord,x∈nms
 nb:∀x∈nms,x≠"back"/\x≠""
 fst:h.first∈nms
 lets:gIx h.pv (.str "letters")=some (WO.ltPv LS5)
 rl:h.rooms.length<=20
 nl:nms.length<=5
def ltS(ls:WO.Lts):List (Str×Str):=ls.map fun l=>(⟨#[l.1]⟩,mkS l.2)
theorem BR(ls:WO.Lts):PV.lst ((ltS ls).map pv2)=WO.ltPv ls:=by
 unfold ltS WO.ltPv;rw[I8];rfl
abbrev hst(nms:List Str)(A B:PV)(od:Int)(ls:List Int)(M:PV)(kt:List PV)(a b c:Sl):PSt:=[.val (.lst (nms.map .str)),.val A,.val B,.val (.int od),.val (.lst (ls.map .int)),.val M,.own (.lst kt),a,b,c,.no,.no,.no,.no,.no,.no,.no]
theorem sH(x y:Int):gNe (.int x) (.int y)=some (.bl (!decide (x=y))):=by
 show (if m4 (.int x)=true/\m4 (.int y)=true/\xq (scV (.int x)) (scV (.int y))=true then some (PV.bl (!decide (scV (.int x)=scV (.int y)))) else none)=_;rw[if_pos ⟨rfl,rfl,rfl⟩]
 congr 3
 exact decide_eq_decide.mpr ⟨fun e=>by injection e,fun e=>by rw[e]⟩
theorem keys {nms:List Str} (L:Low nms 5 nms) (A B M:PV) (od:Int) (ls:List Int) (l1:ls.length=30):∃(kt:List (Nat×Str)) (a b c:Sl),JE (kt.map (·.1)) K12/\(∀k∈kt,k.2="back"\/k.2∈nms)/\
  gq (kG 2 (bG (ay 7) (bG (ay 8) kX))) aD (E12.map e12) (hst nms A B od ls M [] .no .no .no)=.ok (.next (hst nms A B od ls M (kt.map pvk) a b c)):=by
 have ad:eo (.lst (nms.map .str)) (.lst [.str "back"])=some (.lst (nms.map .str++[.str "back"])):=rF (by simp[L.ln]);have m6:cU (.int od) (.int 6)=some (.int (od % 6)):=ft (by decide);have q6:rj (.int od) (.int 6)=some (.int (od / 6)):=qg (by decide);have m12:cU (.int (od / 6)) (.int 12)=some (.int (od / 6 % 12)):=ft (by decide);generalize od / 6 % 12=e12' at m12
 obtain⟨ρ',f1,kt,a,b,c,rfl,h1,h2⟩:=forM (enc:=e12) (xs:=E12) (h:=kG 2 (bG (ay 7) (bG (ay 8) kX))) (g:=aD) (ρ:=hst nms A B od ls M [] .no .no .no)
  (I:=fun pre ρ=>∃(kt:List (Nat×Str)) (a b c:Sl),ρ=hst nms A B od ls M (kt.map pvk) a b c/\JE (kt.map (·.1)) (pre.map (·.2))/\∀k∈kt,k.2="back"\/k.2∈nms) ⟨[],.no,.no,.no,rfl,Mh _,by simp⟩ (by
   rintro pre p post ρ hx ⟨kt,a,b,c,rfl,h1,h2⟩;have hp:p.1<12:=CI p (by rw[hx];simp);have hE:E12.length=12:=rfl
   have hkl:kt.length<=12:=by
    have e1:=h1.length_le;have e2:=congrArg JQ hx;rw[Hv] at e2;simp at e1;omega
   have i1:=dW ls p.1 (by omega);have i2:=dW ls (p.1+12) (by omega);have n2:((p.1+12:Nat):Int)=(p.1:Int)+12:=by omega
   rw[n2] at i2;generalize ls[p.1]=x at i1;generalize ls[p.1+12]=y at i2;obtain⟨tg,ht,et⟩:=L.bk y;have et:atI (nms.map PV.str++[.str "back"]) (y % 6)=some (.str tg):=et;obtain⟨th,hh,eh⟩:=L.bk (y+1);have eh:atI (nms.map PV.str++[.str "back"]) ((y+1) % 6)=some (.str th):=eh;have m3:cU (.int x) (.int 3)=some (.int (x % 3)):=ft (by decide);have m7:∀y:Int,cU (.int y) (.int 6)=some (.int (y % 6)):=fun y=>ft (by decide);have z:(kt.map pvk).length<16777216:=by simp;omega
   have n1:=sH (od % 6) 1;have n3:=sH e12' p.1
   have skip:∀c',aD (hst nms A B od ls M (kt.map pvk) (.val (.int p.1)) (.val (WO.sg p.2)) c)=.ok (.next (hst nms A B od ls M (kt.map pvk) (.val (.int p.1)) (.val (WO.sg p.2)) c'))->∃ρ1 ρ2,kG 2 (bG (ay 7) (bG (ay 8) kX)) (e12 p) (hst nms A B od ls M (kt.map pvk) a b c)=some ρ1/\(aD ρ1=.ok (.next ρ2)\/aD ρ1=.ok (.cont ρ2))/\∃(kt:List (Nat×Str)) (a b c:Sl),ρ2=hst nms A B od ls M (kt.map pvk) a b c/\JE (kt.map (·.1)) ((pre++[p]).map (·.2))/\∀k∈kt,k.2="back"\/k.2∈nms:=fun c' e=>by
    refine⟨_,_,rfl,.inl e,kt,_,_,_,rfl,?_,h2⟩;rw[IH];exact List.Sublist.trans h1 (List.sublist_append_left _ _)
   have add:∀tg,(tg=HL "back"\/tg∈nms)->∀c',aD (hst nms A B od ls M (kt.map pvk) (.val (.int p.1)) (.val (WO.sg p.2)) c)=.ok (.next (hst nms A B od ls M ((kt++[(p.2,tg)]).map pvk) (.val (.int p.1)) (.val (WO.sg p.2)) c'))->∃ρ1 ρ2,kG 2 (bG (ay 7) (bG (ay 8) kX)) (e12 p) (hst nms A B od ls M (kt.map pvk) a b c)=some ρ1/\(aD ρ1=.ok (.next ρ2)\/aD ρ1=.ok (.cont ρ2))/\∃(kt:List (Nat×Str)) (a b c:Sl),ρ2=hst nms A B od ls M (kt.map pvk) a b c/\JE (kt.map (·.1)) ((pre++[p]).map (·.2))/\∀k∈kt,k.2="back"\/k.2∈nms:=fun tg ht c' e=>by
    refine⟨_,_,rfl,.inl e,kt++[(p.2,tg)],_,_,_,rfl,?_,?_⟩
    ·rw[IH,IH]
     exact List.Sublist.append h1 (Mh _)
    ·intro k hk
     rcases IV.mp hk with hk | hk
     ·exact h2 k hk
     ·rw[HY.mp hk];exact ht
   have pk:∀tg,(kt++[(p.2,tg)]).map pvk=kt.map pvk++[.tup [WO.sg p.2,.str tg]]:=fun tg=>by rw[IH];rfl
   by_cases g1:x % 3=0
   ·by_cases g2:od % 6=1
    ·by_cases g3:e12'=(p.1:Int)
     ·refine skip c ?_
      rw[decide_eq_true g2] at n1;rw[decide_eq_true g3] at n3;simp only[hst];generalize kt.map pvk=KT at *;generalize nms.map PV.str=NN at *;simp[aD,i1,m3,g1,m6,n1,q6,m12,n3]
     ·refine add tg ht (.val (.int y)) ?_
      rw[decide_eq_true g2] at n1;rw[decide_eq_false g3] at n3;rw[pk];simp only[hst];generalize kt.map pvk=KT at *;generalize nms.map PV.str=NN at *;simp[aD,i1,i2,m3,m7,g1,g2,m6,n1,q6,m12,n3,ad,et,z]
    ·rw[decide_eq_false g2] at n1
     by_cases g4:od % 6=2/\e12'=(p.1:Int)
     ·refine add th hh (.val (.int (y+1))) ?_
      rw[pk];simp only[hst];generalize kt.map pvk=KT at *;generalize nms.map PV.str=NN at *;simp[aD,i1,i2,m3,m7,g1,g4.1,g4.2,m6,n1,q6,m12,ad,eh,z]
     ·refine add tg ht (.val (.int y)) ?_
      rw[pk];simp only[hst];generalize kt.map pvk=KT at *;generalize nms.map PV.str=NN at *
      by_cases g5:od % 6=2
      ·have g6:¬ e12'=(p.1:Int):=fun z=>g4 ⟨g5,z⟩
       simp[aD,i1,i2,m3,m7,g1,g5,g6,m6,n1,q6,m12,ad,et,z]
      ·simp[aD,i1,i2,m3,m7,g1,g5,m6,n1,q6,m12,ad,et,z]
   ·refine skip c ?_
    simp only[hst];generalize kt.map pvk=KT at *;generalize nms.map PV.str=NN at *;simp[aD,i1,m3,g1])
 rw[F9] at h1;exact⟨kt,a,b,c,h1,h2,f1⟩
def FI(p:PV)(q:Option Int×Option Int):R PV:=R.ofO (DA p q.1 q.2)
@[simp] theorem D6{f:PSt->R PV}{ρ:PSt}{l h:PSt->R (Option Int)}:oW f l h ρ=lz FI (f ρ) (lz ot (l ρ) (h ρ)):=by unfold oW;cases f ρ <;> cases l ρ <;> cases h ρ <;> rfl
theorem Af(rs:FA.Rooms)(k:Str)(r:Room):x9 (aA rs) (.inr k,r.pv)=aA (o3 rs k r):=by
 rw[oa];exact oq rs k r
theorem DR(nms:List Str)(a b:W)(hs:JE [a,b] W8)(hs1:JE [a] W8)(t0 t1:Str)(h0:t0∈nms)(h1:t1∈nms)(y:Int):∃wt:List (W×Str),JE (wt.map (·.1)) W8/\wt≠[]/\(∀p∈wt,p.2∈nms)/\DA (.tup [.tup [.str (mkS a),.str t0],.tup [.str (mkS b),.str t1]]) none (some (1+y % 2))=some (.tup ((wt.map mw2).map pv2)):=by
 obtain⟨k,hk,hk9⟩:∃k:Nat,y % 2=(k:Int)/\k<2:=⟨(y % 2).toNat,by omega,by omega⟩;rw[hk]
 match k,hk9 with
 | 0,_=>exact⟨[(a,t0)],hs1,by simp,fun p hp=>by rw[HY.mp hp];exact h0,rfl⟩
 | 1,_=>exact⟨[(a,t0),(b,t1)],hs,by simp,(fun p hp=>by rcases Hr.mp hp with rfl | hp;exact h0;rw[HY.mp hp];exact h1),rfl⟩
theorem AX(a b:Str)(z:Int):∃t:Str,atI [PV.str a,.str b] (z % 2)=some (.str t):=by
 obtain⟨k,hk,hk9⟩:∃k:Nat,z % 2=(k:Int)/\k<2:=⟨(z % 2).toNat,by omega,by omega⟩;rw[hk]
 match k,hk9 with
 | 0,_=>exact⟨a,bj (n:=0) rfl rfl⟩
 | 1,_=>exact⟨b,bj (n:=1) rfl rfl⟩
theorem vz(a b c:Str)(z:Int):∃t:Str,atI [PV.str a,.str b,.str c] (z % 3)=some (.str t):=by
 obtain⟨k,hk,hk9⟩:∃k:Nat,z % 3=(k:Int)/\k<3:=⟨(z % 3).toNat,by omega,by omega⟩;rw[hk]
 match k,hk9 with
 | 0,_=>exact⟨a,bj (n:=0) rfl rfl⟩
 | 1,_=>exact⟨b,bj (n:=1) rfl rfl⟩
 | 2,_=>exact⟨c,bj (n:=2) rfl rfl⟩
theorem Cm (nms:List Str) (hnl:nms.length=5) (hnd:nms.Nodup) (hnb:∀x∈nms,x≠"back"/\x≠"") (z1 z2 od:Int):∃(X:LX) (h:House) (ord:List Str),@HG X h nms ord/\dA [.lst (nms.map .str),.int z1,.int z2,.int od]=some h.pv:=by
 obtain⟨n0,n1,n2,n3,n4,rfl⟩:∃n0 n1 n2 n3 n4,nms=[n0,n1,n2,n3,n4]:=by
  match nms,hnl with
  | [a,b,c,d,e],_=>exact⟨a,b,c,d,e,rfl⟩
 have L:Low [n0,n1,n2,n3,n4] 5 [n0,n1,n2,n3,n4]:=⟨rfl,rfl,fun x h=>h,by simp,by omega,by omega⟩;obtain⟨ls,l1,_,el⟩:=ou z1 30 (by omega);have el:aW [.int z1,.int 30]=some (.lst (ls.map .int)):=el;obtain⟨ms,m1,_,em⟩:=ou z2 16 (by omega);have em:aW [.int z2,.int 16]=some (.lst (ms.map .int)):=em;obtain⟨kt,ka,kb,kc,hk1,hk2,f1⟩:=keys L (.int z1) (.int z2) (.lst (ms.map .int)) od ls l1;have at5:∀z:Int,∃x∈[n0,n1,n2,n3,n4],atI ([n0,n1,n2,n3,n4].map PV.str) (z % 5)=some (.str x):=fun z=>L.at_ z;have i24:atI (ls.map PV.int) 24=some (.int ls[24]):=dW ls 24 (l1▸by decide);have i25:atI (ls.map PV.int) 25=some (.int ls[25]):=dW ls 25 (l1▸by decide);have i26:atI (ls.map PV.int) 26=some (.int ls[26]):=dW ls 26 (l1▸by decide);have i27:atI (ls.map PV.int) 27=some (.int ls[27]):=dW ls 27 (l1▸by decide);have j:∀(k:Nat)(hk:k<16),atI (ms.map PV.int) (k:Int)=some (.int (ms[k]'(by rw[m1];exact hk))):=fun k hk=>dW ms k (by rw[m1];exact hk);have j0:atI (ms.map PV.int) 0=_:=j 0 (by decide);have j1:atI (ms.map PV.int) 1=_:=j 1 (by decide);have j2:atI (ms.map PV.int) 2=_:=j 2 (by decide);have j3:atI (ms.map PV.int) 3=_:=j 3 (by decide);have j4:atI (ms.map PV.int) 4=_:=j 4 (by decide);have j5:atI (ms.map PV.int) 5=_:=j 5 (by decide);have j6:atI (ms.map PV.int) 6=_:=j 6 (by decide);have j7:atI (ms.map PV.int) 7=_:=j 7 (by decide);have j8:atI (ms.map PV.int) 8=_:=j 8 (by decide);have j9:atI (ms.map PV.int) 9=_:=j 9 (by decide);have j10:atI (ms.map PV.int) 10=_:=j 10 (by decide);generalize ls[24]=x24 at i24;generalize ls[25]=x25 at i25;generalize ls[26]=x26 at i26;generalize ls[27]=x27 at i27;generalize ms[0]=y0 at j0;generalize ms[1]=y1 at j1;generalize ms[2]=y2 at j2;generalize ms[3]=y3 at j3;generalize ms[4]=y4 at j4;generalize ms[5]=y5 at j5;generalize ms[6]=y6 at j6;generalize ms[7]=y7 at j7;generalize ms[8]=y8 at j8;generalize ms[9]=y9 at j9;generalize ms[10]=y10 at j10;clear j;have d2:∀z:Int,cU (.int z) (.int 2)=some (.int (z % 2)):=fun z=>ft (by decide);have d3:∀z:Int,cU (.int z) (.int 3)=some (.int (z % 3)):=fun z=>ft (by decide);have d5:∀z:Int,cU (.int z) (.int 5)=some (.int (z % 5)):=fun z=>ft (by decide);have d6:∀z:Int,cU (.int z) (.int 6)=some (.int (z % 6)):=fun z=>ft (by decide);have q6:∀z:Int,rj (.int z) (.int 6)=some (.int (z / 6)):=fun z=>qg (by decide);have d24:∀z:Int,cU (.int z) (.int 24)=some (.int (z % 24)):=fun z=>ft (by decide);obtain⟨u3,eu3,_⟩:∃u:Int,(if od % 6=3 then (1:Int) else 0)=u/\(u=0\/u=1):=⟨_,rfl,by split <;> simp⟩
 obtain⟨u4,eu4,_⟩:∃u:Int,(if od % 6=4 then (1:Int) else 0)=u/\(u=0\/u=1):=⟨_,rfl,by split <;> simp⟩
 obtain⟨u5,eu5,hu5⟩:∃u:Int,(if od % 6=5 then (1:Int) else 0)=u/\(u=0\/u=1):=⟨_,rfl,by split <;> simp⟩
 obtain⟨nms,hnms⟩:∃nms,nms=[n0,n1,n2,n3,n4]:=⟨_,rfl⟩;have nin:∀x∈[n0,n1,n2,n3,n4],x∈nms:=fun x h=>by rw[hnms];exact h
 obtain⟨w1,hw1,ew1⟩:=at5 x25;obtain⟨w2,hw2,ew2⟩:=at5 x27;obtain⟨t0,ht0,et0⟩:=at5 (y0+u4);obtain⟨t1,ht1,et1⟩:=at5 y1;obtain⟨w3,hw3,ew3⟩:=at5 y4;obtain⟨w4,hw4,ew4⟩:=at5 y8;obtain⟨fst,hfst,ef⟩:=at5 y10;obtain⟨tb,etb⟩:=AX "Spell" "Hello" y3;obtain⟨tc,etc⟩:=vz "Bye" "Ann" "Hello" y7
 obtain⟨td,etd⟩:∃t:Str,atI [PV.str "Ann",.str "Anna"] u5=some (.str t):=by
  rcases hu5 with h | h <;> rw[h]
  ·exact⟨_,bj (n:=0) rfl rfl⟩
  ·exact⟨_,bj (n:=1) rfl rfl⟩
 have eb:(HL "bo")=mkS [98,111]:=by decide +kernel
 have ee:(HL "lee")=mkS [108,101,101]:=by decide +kernel
 obtain⟨wt,hws,hwn,hwm,esl⟩:=DR nms [98,111] [108,101,101] (by decide +kernel) (by decide +kernel) t0 t1 (nin _ ht0) (nin _ ht1) y2;rw[← eb,← ee] at esl;obtain⟨ord,hord⟩:∃ord,ord=[n2,n0,n1,n3,n4]:=⟨_,rfl⟩
 have hperm:∀x,x∈nms ↔ x∈ord:=fun x=>by
  rw[hord,hnms];simp only[Hr,JW,or_false];constructor
  ·rintro (h | h | h | h | h) <;> simp[h]
  ·rintro (h | h | h | h | h) <;> simp[h]
 have hond:ord.Nodup:=by
  rw[hord]
  have pm:List.Perm [n0,n1,n2,n3,n4] [n2,n0,n1,n3,n4]:=by
   show List.Perm ([n0,n1]++([n2]++[n3,n4])) ([n2]++([n0,n1]++[n3,n4]));rw[← Kw,← Kw];exact List.Perm.append_right _ List.perm_append_comm
  exact pm.nodup_iff.mp hnd
 have plain:∀(x:Str)(r:Room),x∈nms->(∀sp l,r≠.hours sp l)->RW nms r->Fit nms ord (x,r):=fun x r hx hr hw=>by
  obtain⟨k,hk,e⟩:=JV ((hperm x).mp hx);exact⟨k,hk,e,fun sp l e=>absurd e (hr sp l),hw⟩
 have ol:ord.length=5:=by rw[hord];rfl
 have dr:∀x∈[n0,n1,n3,n4],x∈ord.drop 1:=fun x hx=>by
  rw[hord];simp only[Hr,JW,or_false] at hx;rcases hx with h | h | h | h <;> simp[h]
 have three:∀(c:Nat)(nc:Str),nc∈ord.drop 1->atI ([n0,n1,n2,n3,n4].map PV.str) (c:Int)=some (.str nc)->∀z:Int,∃(kk:Int)(t:Str),t∈ord.drop 1/\atI [PV.int 0,.int 1,.int c] (z % 3)=some (.int kk)/\atI ([n0,n1,n2,n3,n4].map PV.str) kk=some (.str t):=fun c nc hc ec z=>by
  obtain⟨k,hk,hk9⟩:∃k:Nat,z % 3=(k:Int)/\k<3:=⟨(z % 3).toNat,by omega,by omega⟩;rw[hk]
  match k,hk9 with
  | 0,_=>exact⟨0,n0,dr _ (by simp),bj (n:=0) rfl rfl,bj (n:=0) rfl rfl⟩
  | 1,_=>exact⟨1,n1,dr _ (by simp),bj (n:=1) rfl rfl,bj (n:=1) rfl rfl⟩
  | 2,_=>exact⟨c,nc,hc,bj (n:=2) rfl rfl,ec⟩
 obtain⟨k6,ts,hts,ek6,ets⟩:=three 3 n3 (dr _ (by simp)) (bj (n:=3) rfl rfl) y6;obtain⟨k9,tl,htl,ek9,etl⟩:=three 4 n4 (dr _ (by simp)) (bj (n:=4) rfl rfl) y9;have ek6:atI [PV.int 0,.int 1,.int 3] (y6 % 3)=some (.int k6):=ek6;have ek9:atI [PV.int 0,.int 1,.int 4] (y9 % 3)=some (.int k9):=ek9;obtain⟨R0,eR0⟩:∃R0:Room,R0=.menu "Hello" (kt.map mk2) (1+x24 % 2,w1) (1+(x26+u3) % 2,w2):=⟨_,rfl⟩;have hR:RW nms R0:=by rw[eR0];exact⟨⟨kt,rfl,hk1,fun k hk=>(hk2 k hk).imp id (nin _)⟩,nin _ hw1,nin _ hw2,⟨by show 1<=1+x24 % 2;omega,by show 1+x24 % 2<=3;omega⟩,⟨by show 1<=1+(x26+u3) % 2;omega,by show 1+(x26+u3) % 2<=3;omega⟩⟩
 have nh:∀sp l,R0≠.hours sp l:=by rw[eR0];exact fun _ _ e=>by cases e
 have pv0:R0.pv=.tup [.str "menu",.str "Hello",.tup (kt.map pvk),.tup [.int (1+x24 % 2),.str w1],.tup [.int (1+(x26+u3) % 2),.str w2]]:=by rw[eR0,← xI];rfl
 clear eR0;have rwn:RW nms (.names tb (wt.map mw2) (1,w3) (1,w4)):=⟨⟨wt,rfl,hws,hwn,hwm⟩,nin _ hw3,nin _ hw4,⟨by show (1:Int)<=1;omega,by show (1:Int)<=3;omega⟩,⟨by show (1:Int)<=1;omega,by show (1:Int)<=3;omega⟩⟩;have fit2:Fit nms ord (n2,.hours [(y5 % 24,24,ts)] tl):=⟨0,by omega,by simp[hord],fun sp l e=>by cases e;exact⟨htl,by simpa using hts⟩,trivial⟩;obtain⟨g1,e1⟩:=mQ nms [] n0 R0 ord ⟨by simp,by simp⟩ (plain n0 _ (nin _ (by simp)) nh hR);have p1:=Af [] n0 R0;have q1:=fun x=>jD [] n0 R0 x;generalize o3 [] n0 R0=rs1 at g1 e1 p1 q1;obtain⟨g2,e2⟩:=mQ nms rs1 n1 _ ord g1 (plain n1 _ (nin _ (by simp)) (fun _ _ e=>by cases e) rwn);have p2:=Af rs1 n1 (.names tb (wt.map mw2) (1,w3) (1,w4));have q2:=fun x=>jD rs1 n1 (.names tb (wt.map mw2) (1,w3) (1,w4)) x;generalize o3 rs1 n1 (.names tb (wt.map mw2) (1,w3) (1,w4))=rs2 at g2 e2 p2 q2;obtain⟨g3,e3⟩:=mQ nms rs2 n2 _ ord g2 fit2;have p3:=Af rs2 n2 (.hours [(y5 % 24,24,ts)] tl);have q3:=fun x=>jD rs2 n2 (.hours [(y5 % 24,24,ts)] tl) x;generalize o3 rs2 n2 (.hours [(y5 % 24,24,ts)] tl)=rs3 at g3 e3 p3 q3;obtain⟨g4,e4⟩:=mQ nms rs3 n3 (.hand td) ord g3 (plain n3 _ (nin _ (by simp)) (fun _ _ e=>by cases e) trivial);have p4:=oq rs3 n3 (.hand td);have q4:=fun x=>jD rs3 n3 (.hand td) x;generalize o3 rs3 n3 (.hand td)=rs4 at g4 e4 p4 q4;obtain⟨g5,e5⟩:=mQ nms rs4 n4 (.fin tc) ord g4 (plain n4 _ (nin _ (by simp)) (fun _ _ e=>by cases e) trivial);have p5:=oq rs4 n4 (.fin tc);have q5:=fun x=>jD rs4 n4 (.fin tc) x;generalize o3 rs4 n4 (.fin tc)=rs5 at g5 e5 p5 q5
 have hall:∀x∈ord,x∈FA.names rs5:=fun x hx=>by
  rw[q5,q4,q3,q2,q1];rw[hord] at hx;simp only[Hr,JW,or_false] at hx;rcases hx with h | h | h | h | h <;> simp[h]
 obtain⟨X,hX⟩:∃X:LX,X.ls=if od % 6=0/\od / 6 % 2=1 then LSb else LSa:=by
  by_cases c:od % 6=0/\od / 6 % 2=1
  ·exact⟨⟨LSb,.inr rfl⟩,(if_pos c).symm⟩
  ·exact⟨⟨LSa,.inl rfl⟩,(if_neg c).symm⟩
 have hX:@LS5 X=if od % 6=0/\od / 6 % 2=1 then LSb else LSa:=hX
 have uH:House.pv ⟨fst,ltS LS5,rs5⟩=.dct [.inr "first",.inr "letters",.inr "rooms"] [.str fst,WO.ltPv LS5,aA rs5]:=by rw[← BR];rfl
 have e1:rs1.length<=0+1:=e1
 have z:(kt.map pvk).length<=16777216:=by
  have:=hk1.length_le;simp[K12] at this;simp;omega
 refine⟨X,⟨fst,ltS LS5,rs5⟩,ord,?_,?_⟩
 ·rw[← hnms]
  exact⟨hond,by omega,g5,hall,fun x hx=>(hperm x).mp hx,fun x hx=>(hperm x).mpr hx,by rw[hnms];exact hnb,nin _ hfst,by rw[uH];simp,by show rs5.length<=20;omega,by rw[hnms];simp⟩
 refine aB rfl ?_;rw[uH,hX];have b0:atI ([n0,n1,n2,n3,n4].map PV.str) 0=some (.str n0):=bj (n:=0) rfl rfl;have b1:atI ([n0,n1,n2,n3,n4].map PV.str) 1=some (.str n1):=bj (n:=1) rfl rfl;have b2:atI ([n0,n1,n2,n3,n4].map PV.str) 2=some (.str n2):=bj (n:=2) rfl rfl;have b3:atI ([n0,n1,n2,n3,n4].map PV.str) 3=some (.str n3):=bj (n:=3) rfl rfl;have b4:atI ([n0,n1,n2,n3,n4].map PV.str) 4=some (.str n4):=bj (n:=4) rfl rfl;have k4:(Room.hand td).pv=.tup [.str "hand",.str td]:=rfl;have k5:(Room.fin tc).pv=.tup [.str "end",.str tc]:=rfl;have pvn:(Room.names tb (wt.map mw2) (1,w3) (1,w4)).pv=.tup [.str "names",.str tb,.tup ((wt.map mw2).map pv2),.tup [.int 1,.str w3],.tup [.int 1,.str w4]]:=rfl;have pvh:(Room.hours [(y5 % 24,24,ts)] tl).pv=.tup [.str "hours",.tup [.tup [.int (y5 % 24),.int 24,.str ts]],.str tl]:=rfl;have p0:aA []=.dct [] []:=rfl;rw[k4] at p4;rw[k5] at p5;rw[p0,pv0] at p1;rw[pvn] at p2;rw[pvh] at p3;have z3:rs3.length<16777216:=by omega
 have z4:rs4.length<16777216:=by omega
 have la:=lpa;have lb:=lpb;have hif:WO.ltPv (if od % 6=0/\od / 6 % 2=1 then LSb else LSa)=if od % 6=0/\od / 6 % 2=1 then WO.ltPv LSb else WO.ltPv LSa:=by split <;> rfl
 rw[hif];clear hif uH hX hall plain hperm hnb hnd fit2 dr three nin q1 q2 q3 q4 q5 rwn hR at5;have ee':=CJ;simp only[hst] at f1;generalize E12.map e12=EE at *;generalize kt.map pvk=KT at *;generalize (wt.map mw2).map pv2=WT at *;generalize ([n0,n1,n2,n3,n4].map PV.str)=N at *;generalize ls.map PV.int=LN at *;generalize ms.map PV.int=MN at *;simp[gn,PU.start,el,em,ee'];rw[f1];simp[i24,i25,i26,i27,d2,d5,d6,eu3,ew1,ew2];simp[j0,j1,j2,j3,j4,j5,j6,j7,j8,j9,d2,d3,d5,d6,d24,eu4,et0,et1,ot,FI,esl,ew3,ew4,etb,ek6,ets,ek9,etl,b0,b1,b2,lV,p1,p2,p3];simp[oa rs3,z3,b3,d6,eu5,etd,p4];simp[oa rs4,z4,b4,j7,d3,etc,p5]
 by_cases c0:od % 6=0
 ·by_cases c1:od / 6 % 2=1
  ·simp[c0,c1,d2,d6,q6,j10,d5,ef,lb,fg,kq]
  ·simp[c0,c1,d2,d6,q6,j10,d5,ef,la,fg,kq]
 ·simp[c0,d2,d6,q6,j10,d5,ef,la,fg,kq]
def sT(r b:Str)(w v:Int)(t:W):PV:=.tup [.str r,.str b,.int w,.int v,.str (mkS t)]
section
variable[LX]
def beg(wt:List (W×Str))(w:W):W:=own ((wt.map (·.1)).map (cdH LS5)) (cdH LS5 w)
def TY:Room->W->Prop
 | .menu ..,t=>t=[]
 | .names _ ws _ _,t=>∀wt:List (W×Str),ws=wt.map mw2->(t=[]\/∃p∈wt,t <+: beg wt p.1/\t≠beg wt p.1)
 | _,t=>t=[]
theorem rG(r:Room):TY r []:=by
 cases r with
 | names=>exact fun _ _=>.inl rfl
 | _=>exact rfl
def wrB:Room->Int
 | .menu _ _ wr _=>wr.1
 | .names _ _ wr _=>wr.1
 | _=>2
def waB:Room->Int
 | .menu _ _ _ wa=>wa.1
 | .names _ _ _ wa=>wa.1
 | _=>2
theorem RW.b{nms:List Str}{room:Room}(h:RW nms room):(1<=wrB room/\wrB room<=3)/\1<=waB room/\waB room<=3:=by
 cases room with
 | menu t ks wr wa=>exact⟨h.2.2.2.1,h.2.2.2.2⟩
 | names t ks wr wa=>exact⟨h.2.2.2.1,h.2.2.2.2⟩
 | _=>exact⟨⟨show (1:Int)<=2 by decide,show (2:Int)<=3 by decide⟩,show (1:Int)<=2 by decide,show (2:Int)<=3 by decide⟩
structure OK(h:House)(nms:List Str)(r b:Str)(room:Room)(w v:Int)(t:W):Prop where
 lk:FA.lookR h.rooms r=some room
 nh:∀sp l,room≠.hours sp l
 rn:r∈nms
 bn:b=""\/b∈nms
 tl:t.length<=50
 ty:TY room t
 hw:0<=w/\w<wrB room
 hv:0<=v/\v<waB room
section
variable{h : House}{nms ord : List Str}(hg : HG h nms ord)(hour : Int)
include hg
theorem hRo:gIx h.pv (.str "rooms")=some (aA h.rooms):=by simp[House.pv]
theorem qI(r:Str)(room:Room)(lk:FA.lookR h.rooms r=some room):RW nms room:=by
 obtain⟨_,_,_,_,hw⟩:=hg.g.ok _ (sO h.rooms r room lk);exact hw
theorem cm (x:Str) (hx:x∈nms):∃y room,comeGo h.rooms hour 20 x=some y/\∀b:Str,(b=""\/b∈nms)->OK h nms y b room 0 0 []:=by
 obtain⟨k,hk,ek⟩:=JV (hg.nm x hx);obtain⟨y,r,ey,hr,hy,hh⟩:=uD nms ord h.rooms hg.nd hg.g hg.all hour 20 k hk (by have:=hg.ol;omega);rw[ek] at ey;have bb:=(qI hg y r hr).b;exact⟨y,r,ey,fun b hb=>⟨hr,hh,hg.mn y hy,hb,by simp,rG r,⟨by omega,by omega⟩,⟨by omega,by omega⟩⟩⟩
theorem arr (x:Str) (hx:x∈nms) (b:Str) (hb:b=""\/b∈nms):∃y room,OK h nms y b room 0 0 []/\bI [h.pv,.int hour,.str x,.str b]=some (sT y b 0 0 []):=by
 obtain⟨y,room,e,ok⟩:=cm hg hour x hx;refine⟨y,room,ok b hb,?_⟩;have k:=zV h.pv h.rooms (hRo hg) hour 20 x y (by omega) e;refine aB rfl ?_;have em:=eX;have u:sT y b 0 0 []=.tup [.str y,.str b,.int 0,.int 0,.str ""]:=by unfold sT;rw[← em]
 rw[u];simp[jR,PU.start,k]
theorem wrong(r b:Str)(w v:Int)(t:W)(room:Room)(ok:OK h nms r b room w v t)(m:Int)(x:Str)(h3:gIx room.pv (.int 3)=some (.tup [.int m,.str x]))(hm:wrB room=m)(hx:x∈nms) :
  ∃r' b' w' v' room',OK h nms r' b' room' w' v' []/\bx [h.pv,.int hour,sT r b w v t]=some (sT r' b' w' v' []):=by
 have n2:=FA.ix_rooms h.rooms r;rw[ok.lk] at n2;have n2:gIx (aA h.rooms) (.str r)=some room.pv:=n2;have hR:=hRo hg;have em:=eX;have u:∀r b w v,sT r b w v []=.tup [.str r,.str b,.int w,.int v,.str ""]:=fun r b w v=>by unfold sT;rw[← em]
 by_cases hw:w+1=m
 ·obtain⟨y,room',ok',e1⟩:=arr hg hour x hx r (.inr ok.rn)
  refine⟨y,r,0,0,room',ok',aB rfl ?_⟩;unfold sT at e1 ⊢;generalize mkS t=T at *;generalize room.pv=RP at *;generalize aA h.rooms=RM at *;generalize h.pv=H at *;simp[cO,PU.start,hR,n2,h3,hw,e1]
 ·have hw1:=ok.hw
  refine⟨r,b,w+1,v,room,⟨ok.lk,ok.nh,ok.rn,ok.bn,by simp,rG room,⟨by omega,by omega⟩,ok.hv⟩,aB rfl ?_⟩;rw[u];unfold sT;generalize mkS t=T at *;generalize room.pv=RP at *;generalize aA h.rooms=RM at *;generalize h.pv=H at *;simp[cO,PU.start,hR,n2,h3,hw]
theorem wait(r b:Str)(w v:Int)(t:W)(room:Room)(ok:OK h nms r b room w v t)(m:Int)(x:Str)(h3:gIx room.pv (.int 4)=some (.tup [.int m,.str x]))(hm:waB room=m)(hx:x∈nms) :
  ∃r' b' w' v' room',OK h nms r' b' room' w' v' []/\gQ [h.pv,.int hour,sT r b w v t]=some (sT r' b' w' v' []):=by
 have n2:=FA.ix_rooms h.rooms r;rw[ok.lk] at n2;have n2:gIx (aA h.rooms) (.str r)=some room.pv:=n2;have hR:=hRo hg;have em:=eX;have u:∀r b w v,sT r b w v []=.tup [.str r,.str b,.int w,.int v,.str ""]:=fun r b w v=>by unfold sT;rw[← em]
 by_cases hw:v+1=m
 ·obtain⟨y,room',ok',e1⟩:=arr hg hour x hx r (.inr ok.rn)
  refine⟨y,r,0,0,room',ok',aB rfl ?_⟩;unfold sT at e1 ⊢;generalize mkS t=T at *;generalize room.pv=RP at *;generalize aA h.rooms=RM at *;generalize h.pv=H at *;simp[gH,PU.start,hR,n2,h3,hw,e1]
 ·have hw1:=ok.hv
  refine⟨r,b,w,v+1,room,⟨ok.lk,ok.nh,ok.rn,ok.bn,by simp,rG room,ok.hw,⟨by omega,by omega⟩⟩,aB rfl ?_⟩;rw[u];unfold sT;generalize mkS t=T at *;generalize room.pv=RP at *;generalize aA h.rooms=RM at *;generalize h.pv=H at *;simp[gH,PU.start,hR,n2,h3,hw]
end
theorem E8(a b:Nat):gEq (WO.sg a) (WO.sg b)=some (.bl (decide (a=b))):=by
 unfold WO.sg;rw[ly]
 congr 2
 exact decide_eq_decide.mpr ⟨fun e=>by injection e with e;injection e with e;injection e,fun e=>by rw[e]⟩
theorem Gc:PV.str "w"=WO.sg 119:=by kernel_rfl
theorem FJ (c:Nat):gEq (WO.sg c) (.str "w")=some (.bl (decide (c=119))):=by rw[Gc,E8]
section
variable{h : House}{nms ord : List Str}(hg : HG h nms ord)(hour : Int)
include hg
structure Goes(h:House)(nms:List Str)(hour:Int)(D:PV)(st:PV)(c:Nat)(r' b':Str)(w' v':Int)(t':W)(room':Room):Prop where
 ok:OK h nms r' b' room' w' v' t'
 fo:bN [h.pv,.int hour,D,st,WO.sg c]=some (sT r' b' w' v' t')
theorem pP (r b:Str) (w v:Int) (t:W) (room:Room) (ok:OK h nms r b room w v t) (c:Nat) (k:Str) (h0:gIx room.pv (.int 0)=some (.str k)) (hk:k="hand"\/k="end") (D:PV):Goes h nms hour D (sT r b w v t) c r b w v t room:=by
 have n2:=FA.ix_rooms h.rooms r;rw[ok.lk] at n2;have n2:gIx (aA h.rooms) (.str r)=some room.pv:=n2;have hR:=hRo hg;have s0:gIx (sT r b w v t) (.int 0)=some (.str r):=rfl;refine⟨ok,aB rfl ?_⟩;generalize sT r b w v t=S at *;generalize room.pv=RP at *;generalize aA h.rooms=RM at *;generalize h.pv=H at *;rcases hk with rfl | rfl
 ·simp[dM,PU.start,s0,hR,n2,h0]
 ·simp[dM,PU.start,s0,hR,n2,h0]
theorem xW (r b:Str) (w v:Int) (t:W) (room:Room) (ok:OK h nms r b room w v t) (k:Str) (h0:gIx room.pv (.int 0)=some (.str k)) (hk:k="menu"\/k="names") (m:Int) (x:Str) (h4:gIx room.pv (.int 4)=some (.tup [.int m,.str x])) (hm:waB room=m) (hx:x∈nms) (D:PV):∃r' b' w' v' t' room',Goes h nms hour D (sT r b w v t) 119 r' b' w' v' t' room':=by
 obtain⟨r',b',w',v',room',ok',e1⟩:=wait hg hour r b w v t room ok m x h4 hm hx;have n2:=FA.ix_rooms h.rooms r;rw[ok.lk] at n2;have n2:gIx (aA h.rooms) (.str r)=some room.pv:=n2;have hR:=hRo hg;have s0:gIx (sT r b w v t) (.int 0)=some (.str r):=rfl;have q:=FJ 119;have cw:c_WAIT=.str "w":=rfl;refine⟨r',b',w',v',[],room',ok',aB rfl ?_⟩;generalize sT r b w v t=S at *;generalize sT r' b' w' v' []=S' at *;generalize room.pv=RP at *;generalize aA h.rooms=RM at *;generalize h.pv=H at *;generalize WO.sg 119=G at *;rcases hk with rfl | rfl
 ·simp[dM,PU.start,s0,hR,n2,h0,cw,q,e1]
 ·simp[dM,PU.start,s0,hR,n2,h0,cw,q,e1]
theorem jT (r b:Str) (w v:Int) (t:W) (room:Room) (ok:OK h nms r b room w v t) (k:Str) (h0:gIx room.pv (.int 0)=some (.str k)) (hk:k="menu"\/k="names") (D X:PV) (c:Nat) (hc:c≠119) (e:da [h.pv,.int hour,D,sT r b w v t,WO.sg c]=some X):bN [h.pv,.int hour,D,sT r b w v t,WO.sg c]=some X:=by
 have n2:=FA.ix_rooms h.rooms r;rw[ok.lk] at n2;have n2:gIx (aA h.rooms) (.str r)=some room.pv:=n2;have hR:=hRo hg;have s0:gIx (sT r b w v t) (.int 0)=some (.str r):=rfl;have q:=FJ c;rw[decide_eq_false hc] at q;have cw:c_WAIT=.str "w":=rfl;generalize sT r b w v t=S at *;generalize room.pv=RP at *;generalize aA h.rooms=RM at *;generalize h.pv=H at *;generalize WO.sg c=G at *;refine aB rfl ?_;rcases hk with rfl | rfl
 ·simp[dM,PU.start,s0,hR,n2,h0,cw,q,e]
 ·simp[dM,PU.start,s0,hR,n2,h0,cw,q,e]
end
section
variable{h : House}{nms ord : List Str}(hg : HG h nms ord)(hour : Int)
theorem xQ(r b:Str)(w v:Int)(t:W)(c:Nat)(ht:t.length<=100)(ks:List Key)(ps:List PV)(F:W->Option PV)(T:Tells ks ps F)(hF:F (t++[c])=none)(X:PV)(e:bx [h.pv,.int hour,sT r b w v t]=some X):da [h.pv,.int hour,.dct ks ps,sT r b w v t,WO.sg c]=some X:=by
 have ad:eo (.str (mkS t)) (WO.sg c)=some (.str (mkS (t++[c]))):=g7 t c (by omega);have ni:=T.notIn (t++[c]);rw[hF] at ni;have ni:gc (.str (mkS (t++[c]))) (.dct ks ps)=some (.bl true):=ni;have s4:gIx (sT r b w v t) (.int 4)=some (.str (mkS t)):=rfl;generalize sT r b w v t=S at *;generalize PV.dct ks ps=D at *;generalize WO.sg c=G at *;generalize mkS (t++[c])=TT at *;generalize h.pv=H at *;refine aB rfl ?_;simp[eW,PU.start,s4,ad,ni,e]
theorem zk(r b:Str)(w v:Int)(t:W)(c:Nat)(ht:t.length<=100)(ks:List Key)(ps:List PV)(F:W->Option PV)(T:Tells ks ps F)(hF:F (t++[c])=some .non):da [h.pv,.int hour,.dct ks ps,sT r b w v t,WO.sg c]=some (sT r b w v (t++[c])):=by
 have ad:eo (.str (mkS t)) (WO.sg c)=some (.str (mkS (t++[c]))):=g7 t c (by omega);have ni:=T.notIn (t++[c]);have ix:=T.ix (t++[c]);rw[hF] at ni ix;have ni:gc (.str (mkS (t++[c]))) (.dct ks ps)=some (.bl false):=ni;have s0:gIx (sT r b w v t) (.int 0)=some (.str r):=rfl;have s1:gIx (sT r b w v t) (.int 1)=some (.str b):=rfl;have s2:gIx (sT r b w v t) (.int 2)=some (.int w):=rfl;have s3:gIx (sT r b w v t) (.int 3)=some (.int v):=rfl;have s4:gIx (sT r b w v t) (.int 4)=some (.str (mkS t)):=rfl;have q:gEq .non (.str "back")=some (.bl false):=rfl;have n:wG .non .non=some (.bl true):=rfl;generalize sT r b w v t=S at *;generalize PV.dct ks ps=D at *;generalize WO.sg c=G at *;unfold sT;generalize mkS (t++[c])=TT at *;generalize h.pv=H at *;refine aB rfl ?_;simp[eW,PU.start,s0,s1,s2,s3,s4,ad,ni,ix,q,n]
theorem xR (r b:Str) (w v:Int) (t:W) (c:Nat) (ht:t.length<=100) (ks:List Key) (ps:List PV) (F:W->Option PV) (T:Tells ks ps F) (x:Str) (hF:F (t++[c])=some (.str x)) (h1:x≠"back") (h2:x≠"") (X:PV) (e:bI [h.pv,.int hour,.str x,.str r]=some X):da [h.pv,.int hour,.dct ks ps,sT r b w v t,WO.sg c]=some X:=by
 have ad:eo (.str (mkS t)) (WO.sg c)=some (.str (mkS (t++[c]))):=g7 t c (by omega);have ni:=T.notIn (t++[c]);have ix:=T.ix (t++[c]);rw[hF] at ni ix;have ni:gc (.str (mkS (t++[c]))) (.dct ks ps)=some (.bl false):=ni;have s0:gIx (sT r b w v t) (.int 0)=some (.str r):=rfl;have s1:gIx (sT r b w v t) (.int 1)=some (.str b):=rfl;have s4:gIx (sT r b w v t) (.int 4)=some (.str (mkS t)):=rfl;have n:wG (.str x) .non=some (.bl false):=rfl;generalize sT r b w v t=S at *;generalize PV.dct ks ps=D at *;generalize WO.sg c=G at *;generalize mkS (t++[c])=TT at *;generalize h.pv=H at *;refine aB rfl ?_;simp[eW,PU.start,s0,s1,s4,ad,ni,ix,h1,h2,n,e]
theorem wm (r b:Str) (w v:Int) (t:W) (c:Nat) (ht:t.length<=100) (ks:List Key) (ps:List PV) (F:W->Option PV) (T:Tells ks ps F) (hF:F (t++[c])=some (.str "back")) (h2:b≠"") (X:PV) (e:bI [h.pv,.int hour,.str b,.str r]=some X):da [h.pv,.int hour,.dct ks ps,sT r b w v t,WO.sg c]=some X:=by
 have ad:eo (.str (mkS t)) (WO.sg c)=some (.str (mkS (t++[c]))):=g7 t c (by omega);have ni:=T.notIn (t++[c]);have ix:=T.ix (t++[c]);rw[hF] at ni ix;have ni:gc (.str (mkS (t++[c]))) (.dct ks ps)=some (.bl false):=ni;have s0:gIx (sT r b w v t) (.int 0)=some (.str r):=rfl;have s1:gIx (sT r b w v t) (.int 1)=some (.str b):=rfl;have s4:gIx (sT r b w v t) (.int 4)=some (.str (mkS t)):=rfl;have n:wG (.str b) .non=some (.bl false):=rfl;generalize sT r b w v t=S at *;generalize PV.dct ks ps=D at *;generalize WO.sg c=G at *;generalize mkS (t++[c])=TT at *;generalize h.pv=H at *;refine aB rfl ?_;simp[eW,PU.start,s0,s1,s4,ad,ni,ix,h2,n,e]
theorem oF (r:Str) (w v:Int) (t:W) (c:Nat) (ht:t.length<=100) (ks:List Key) (ps:List PV) (F:W->Option PV) (T:Tells ks ps F) (hF:F (t++[c])=some (.str "back")) (X:PV) (e:bx [h.pv,.int hour,sT r "" w v t]=some X):da [h.pv,.int hour,.dct ks ps,sT r "" w v t,WO.sg c]=some X:=by
 have ad:eo (.str (mkS t)) (WO.sg c)=some (.str (mkS (t++[c]))):=g7 t c (by omega);have ni:=T.notIn (t++[c]);have ix:=T.ix (t++[c]);rw[hF] at ni ix;have ni:gc (.str (mkS (t++[c]))) (.dct ks ps)=some (.bl false):=ni;have s0:gIx (sT r "" w v t) (.int 0)=some (.str r):=rfl;have s1:gIx (sT r "" w v t) (.int 1)=some (.str ""):=rfl;have s4:gIx (sT r "" w v t) (.int 4)=some (.str (mkS t)):=rfl;have n:wG (.str "") .non=some (.bl false):=rfl;generalize sT r "" w v t=S at *;generalize PV.dct ks ps=D at *;generalize WO.sg c=G at *;generalize mkS (t++[c])=TT at *;generalize h.pv=H at *;refine aB rfl ?_;simp[eW,PU.start,s0,s1,s4,ad,ni,ix,n,e]
def kw(kt:List (Nat×Str)):List (W×Str):=kt.map fun p=>([p.1],p.2)
def kF(kt:List (Nat×Str))(p:W):Option PV:=((kw kt).find? fun q=>decide (q.1=p)).map fun q=>.str q.2
theorem gY:∀(wt:List (W×Str)),Tells (wt.map fun p=>.inr (mkS p.1)) (wt.map fun p=>.str p.2) fun p=>(wt.find? fun q=>decide (q.1=p)).map fun q=>.str q.2
 | []=>⟨rfl,fun p=>rfl,by simp⟩
 | q::wt=>⟨by simp,fun p=>by
   rw[HI,HI,kE]
   by_cases h:q.1=p
   ·rw[if_pos (by rw[h]),Mz (by simpa using h)]
    rfl
   ·rw[if_neg fun z=>h (mkS_inj (K4 z)),LD (by simpa using h)]
    exact(gY wt).at_ p,fun x hx=>by
   obtain⟨p,_,rfl⟩:=HN.mp hx;simp[noFn]⟩
theorem zi(kt:List (Nat×Str))(c:Nat):kF kt [c]=(kt.find? fun q=>decide (q.1=c)).map fun q=>.str q.2:=by
 unfold kF kw;rw[List.find?_map,Option.map_map]
 have:((fun q:W×Str=>decide (q.1=[c])) ∘ fun p:Nat×Str=>([p.1],p.2))=fun q:Nat×Str=>decide (q.1=c):=by
  funext q
  simp
 rw[this];rfl
include hg in
theorem jC(r:Str)(room:Room)(lk:FA.lookR h.rooms r=some room)(t:Str)(kt:List (Nat×Str))(wr wa:Int×Str)(hr:room=.menu t (kt.map mk2) wr wa)(hs:JE (kt.map (·.1)) K12):aK [h.pv,.str r]=some (wtD (kw kt)):=by
 have n2:=FA.ix_rooms h.rooms r;rw[lk,hr] at n2;have n2:gIx (aA h.rooms) (.str r)=some (.tup [.str "menu",.str t,.tup ((kt.map mk2).map pv2),.tup [.int wr.1,.str wr.2],.tup [.int wa.1,.str wa.2]]):=n2;have hR:=hRo hg
 have e:PV.tup ((kt.map mk2).map pv2)=xl (kw kt):=by
  rw[xI];unfold xl kw;rw[I8];rfl
 have kl:kt.length<=12:=by
  have h1:=hs.length_le;have h2:K12.length=12:=rfl;rw[HF] at h1;omega
 have d:=uq (kw kt) (by simp[kw];omega) (by
  unfold kw;rw[I8];have nd:=hs.nodup C9;have:(List.map ((fun x:W×Str=>x.1) ∘ fun p:Nat×Str=>([p.1],p.2)) kt)=(kt.map (·.1)).map (fun c=>[c]):=by rw[I8];rfl
  rw[this]
  have inj:∀l:List Nat,l.Nodup->(l.map fun c=>[c]).Nodup:=by
   intro l
   induction l with
   | nil=>intro _;simp
   | cons a l ih=>
    intro h1;rw[IX] at h1;rw[HI,IX];refine⟨fun z=>?_,ih h1.2⟩;obtain⟨b,hb,e⟩:=HN.mp z;have:b=a:=by simpa using e
    subst this;exact h1.1 hb
  exact inj _ nd)
 rw[e] at n2;generalize xl (kw kt)=KP at *;generalize wtD (kw kt)=KD at *;generalize aA h.rooms=RM at *;generalize h.pv=H at *;refine aB rfl ?_;simp[cM,PU.start,hR,n2,d]
include hg in
theorem tH(r b:Str)(w v:Int)(room:Room)(tt:W)(ok:OK h nms r b room w v tt)(t:Str)(ks:List (Str×Str))(wr wa:Int×Str)(hr:room=.menu t ks wr wa)(c:Nat)(hc:c≠119):∃D r' b' w' v' t' room',aK [h.pv,.str r]=some D/\Goes h nms hour D (sT r b w v tt) c r' b' w' v' t' room':=by
 have hw:=qI hg r room ok.lk;rw[hr] at hw;obtain⟨⟨kt,rfl,hs,ht⟩,hwr,hwa,_,_⟩:=hw;have tt0:tt=[]:=by have:=ok.ty;rw[hr] at this;exact this
 subst tt0;have ew:=jC hg r room ok.lk t kt wr wa hr hs;have TL:=gY (kw kt);have TLf:∀c,((kw kt).find? fun q=>decide (q.1=[c])).map (fun q=>PV.str q.2)=(kt.find? fun q=>decide (q.1=c)).map fun q=>.str q.2:=zi kt;have h0:gIx room.pv (.int 0)=some (.str "menu"):=by rw[hr];rfl
 have h3:gIx room.pv (.int 3)=some (.tup [.int wr.1,.str wr.2]):=by rw[hr];rfl
 obtain⟨r1,b1,w1,v1,room1,ok1,e1⟩:=wrong hg hour r b w v [] room ok wr.1 wr.2 h3 (by rw[hr];rfl) hwr;cases hf:kt.find? fun q=>decide (q.1=c) with
 | none=>
  refine⟨_,r1,b1,w1,v1,[],room1,ew,ok1,jT hg hour r b w v [] room ok "menu" h0 (.inl rfl) _ _ c hc ?_⟩;exact xQ hour r b w v [] c (by simp) _ _ _ TL (by show ((kw kt).find? fun q=>decide (q.1=[c])).map (fun q=>PV.str q.2)=none;rw[TLf,hf];rfl) _ e1
 | some p=>
  have pm:=JM hf
  have hF:((kw kt).find? fun q=>decide (q.1=[]++[c])).map (fun q=>PV.str q.2)=some (.str p.2):=by
   show ((kw kt).find? fun q=>decide (q.1=[c])).map (fun q=>PV.str q.2)=_;rw[TLf,hf];rfl
  by_cases hb:p.2=HL "back"
  ·by_cases hbb:b=HL ""
   ·subst hbb
    rw[hb] at hF;refine⟨_,r1,b1,w1,v1,[],room1,ew,ok1,jT hg hour r "" w v [] room ok "menu" h0 (.inl rfl) _ _ c hc ?_⟩;exact oF hour r w v [] c (by simp) _ _ _ TL hF _ e1
   ·have hbn:b∈nms:=ok.bn.resolve_left hbb
    obtain⟨y,room2,ok2,a1⟩:=arr hg hour b hbn r (.inr ok.rn);rw[hb] at hF;refine⟨_,y,r,0,0,[],room2,ew,ok2,jT hg hour r b w v [] room ok "menu" h0 (.inl rfl) _ _ c hc ?_⟩;exact wm hour r b w v [] c (by simp) _ _ _ TL hF hbb _ a1
  ·have hpn:p.2∈nms:=(ht p pm).resolve_left hb
   obtain⟨y,room2,ok2,a1⟩:=arr hg hour p.2 hpn r (.inr ok.rn);refine⟨_,y,r,0,0,[],room2,ew,ok2,jT hg hour r b w v [] room ok "menu" h0 (.inl rfl) _ _ c hc ?_⟩;exact xR hour r b w v [] c (by simp) _ _ _ TL p.2 hF hb (hg.nb p.2 hpn).2 _ a1
end
theorem zZ{a:W}(ha:a∈W8):(cdH LS5 a).length<=5/\1<=(cdH LS5 a).length:=by
 have:=xm a ha;simp[cdH,cdW];omega
structure WT(wt:List (W×Str))(nms:List Str):Prop where
 sb:JE (wt.map (·.1)) W8
 ne:wt≠[]
 tn:∀p∈wt,p.2∈nms
section
variable{wt : List (W×Str)}{nms : List Str}(k : WT wt nms)
include k
theorem WT.w8:∀p∈wt,p.1∈W8:=fun p hp=>k.sb.subset (HN.mpr ⟨p,hp,rfl⟩)
theorem WT.nd:(wt.map (·.1)).Nodup:=k.sb.nodup DT
theorem WT.len:wt.length<=8:=by
 have h1:=k.sb.length_le;have h2:W8.length<=8:=by decide
 rw[HF] at h1;omega
theorem WT.ok:∀p∈wt,p.1.length<=12/\∀c∈p.1,(WO.keyL LS5 c).isSome=true:=fun p hp=>⟨by have:=xm p.1 (k.w8 p hp);omega,BS p.1 (k.w8 p hp)⟩
theorem WT.nc:(wt.map fun p=>cdH LS5 p.1).Nodup:=by
 have:((wt.map (·.1)).map (cdH LS5)).Nodup:=(k.sb.map (cdH LS5)).nodup EB;rw[I8] at this;exact this
theorem WT.bs:(∀x∈ve LS5 wt,x.1≠[])/\∀x∈ve LS5 wt,∀y∈ve LS5 wt,x.1 <+: y.1->x=y:=⟨Fd,Fc Ez (fun p hp=>(k.ok p hp).2) k.nc⟩
theorem WT.mem{p:W×Str}(hp:p∈wt):(beg wt p.1,p.2)∈ve LS5 wt:=HN.mpr ⟨p,hp,rfl⟩
theorem WT.inv{x:W×Str}(hx:x∈ve LS5 wt):∃p∈wt,x=(beg wt p.1,p.2):=by
 obtain⟨p,hp,rfl⟩:=HN.mp hx;exact⟨p,hp,rfl⟩
theorem WT.pre{p:W×Str}(hp:p∈wt):beg wt p.1 <+: cdH LS5 p.1:=by unfold beg;exact lT _ _
theorem WT.bl{p:W×Str}(hp:p∈wt):(beg wt p.1).length<=5:=by
 have h1:=JL (k.pre hp);have h2:=(zZ (k.w8 p hp)).1;omega
end
theorem oT(b ty:W):b.take ty.length=ty ↔ ty <+: b:=⟨fun e=>by rw[← e];exact Jt _ _,fun e=>(K9.mp e).symm⟩
def fits(wt:List (W×Str))(ty:W)(q:W×Str):Bool:=decide ((beg wt q.1).take ty.length=ty)
theorem zg:∀(a b:List (W×Str)),a.map mw2=b.map mw2->a=b:=by
 intro a
 induction a with
 | nil=>intro b e;cases b with | nil=>rfl | cons _ _=>cases e
 | cons x a ih=>
  intro b e;cases b with
  | nil=>cases e
  | cons y b=>
   rw[HI,HI] at e;injection e with e1 e2;have e3:x.1=y.1:=mkS_inj (show (mw2 x).1=(mw2 y).1 by rw[e1]);have e4:x.2=y.2:=(show (mw2 x).2=(mw2 y).2 by rw[e1]);rw[ih b e2,Ls e3 e4]
section
variable{h : House}{nms ord : List Str}(hg : HG h nms ord)(hour : Int)
include hg
theorem Bd (r:Str) (room:Room) (lk:FA.lookR h.rooms r=some room) (t:Str) (wt:List (W×Str)) (wr wa:Int×Str) (hr:room=.names t (wt.map mw2) wr wa):gIx (aA h.rooms) (.str r)=some (.tup [.str "names",.str t,xl wt,.tup [.int wr.1,.str wr.2],.tup [.int wa.1,.str wa.2]]):=by
 have n2:=FA.ix_rooms h.rooms r;rw[lk,hr] at n2;rw[← BK];exact n2
theorem iW(r:Str)(room:Room)(lk:FA.lookR h.rooms r=some room)(t:Str)(ks:List (Str×Str))(wr wa:Int×Str)(hr:room=.names t ks wr wa):∃wt,ks=wt.map mw2/\WT wt nms/\wr.2∈nms/\wa.2∈nms:=by
 have hw:=qI hg r room lk;rw[hr] at hw;obtain⟨⟨wt,e,hs,hne,ht⟩,hwr,hwa,_,_⟩:=hw;exact⟨wt,e,⟨hs,hne,ht⟩,hwr,hwa⟩
theorem eS(r:Str)(room:Room)(lk:FA.lookR h.rooms r=some room)(t:Str)(wt:List (W×Str))(wr wa:Int×Str)(hr:room=.names t (wt.map mw2) wr wa)(k:WT wt nms):∃ks ps,Tells ks ps (yj (ve LS5 wt))/\aK [h.pv,.str r]=some (.dct ks ps):=by
 obtain⟨ks,ps,tl,e⟩:=wb LS5 wt (by have:=k.len;omega) k.ok k.nd;have d:=uq wt (by have:=k.len;omega) k.nd;have n2:=Bd hg r room lk t wt wr wa hr;have hR:=hRo hg;have hL:=hg.lets;refine⟨ks,ps,tl,aB rfl ?_⟩;generalize xl wt=WP at *;generalize wtD wt=WD at *;generalize WO.ltPv LS5=LL at *;generalize aA h.rooms=RM at *;generalize h.pv=H at *;simp[cM,PU.start,hR,n2,hL,d,e]
theorem qM(r b:Str)(w v:Int)(room:Room)(tt:W)(ok:OK h nms r b room w v tt)(t:Str)(ks:List (Str×Str))(wr wa:Int×Str)(hr:room=.names t ks wr wa)(c:Nat)(hc:c≠119):∃D r' b' w' v' t' room',aK [h.pv,.str r]=some D/\Goes h nms hour D (sT r b w v tt) c r' b' w' v' t' room':=by
 obtain⟨wt,rfl,k,hwr,hwa⟩:=iW hg r room ok.lk t ks wr wa hr;obtain⟨dk,dp,TL,ew⟩:=eS hg r room ok.lk t wt wr wa hr k;have h0:gIx room.pv (.int 0)=some (.str "names"):=by rw[hr];rfl
 have h3:gIx room.pv (.int 3)=some (.tup [.int wr.1,.str wr.2]):=by rw[hr];rfl
 have tl:=ok.tl;obtain⟨b1,b2⟩:=k.bs;cases hf:wt.find? (fits wt (tt++[c])) with
 | none=>
  obtain⟨r1,bb1,w1,v1,room1,ok1,e1⟩:=wrong hg hour r b w v tt room ok wr.1 wr.2 h3 (by rw[hr];rfl) hwr;refine⟨_,r1,bb1,w1,v1,[],room1,ew,ok1,jT hg hour r b w v tt room ok "names" h0 (.inr rfl) _ _ c hc ?_⟩;refine xQ hour r b w v tt c (by omega) _ _ _ TL ?_ _ e1;refine rB b1 fun x hx _ hp=>?_;obtain⟨p,hp2,rfl⟩:=k.inv hx;have:=Nu.mp hf p hp2;exact this (decide_eq_true ((oT _ _).mpr hp))
 | some p=>
  have pm:=JM hf;have pf:fits wt (tt++[c]) p=true:=MI hf;have pp:(tt++[c]) <+: beg wt p.1:=(oT _ _).mp (of_decide_eq_true pf)
  by_cases hb:beg wt p.1=tt++[c]
  ·have hpn:=k.tn p pm
   obtain⟨y,room2,ok2,a1⟩:=arr hg hour p.2 hpn r (.inr ok.rn);refine⟨_,y,r,0,0,[],room2,ew,ok2,jT hg hour r b w v tt room ok "names" h0 (.inr rfl) _ _ c hc ?_⟩;refine xR hour r b w v tt c (by omega) _ _ _ TL p.2 ?_ (hg.nb p.2 hpn).1 (hg.nb p.2 hpn).2 _ a1;rw[← hb];exact vj b1 b2 (k.mem pm)
  ·have bl:=k.bl pm
   have ttl:=JL pp;refine⟨_,r,b,w,v,tt++[c],room,ew,⟨ok.lk,ok.nh,ok.rn,ok.bn,by omega,?_,ok.hw,ok.hv⟩,jT hg hour r b w v tt room ok "names" h0 (.inr rfl) _ _ c hc ?_⟩
   ·rw[hr]
    intro wt' e';have:=zg wt wt' e';subst this;exact .inr ⟨p,pm,pp,fun z=>hb z.symm⟩
   ·refine zk hour r b w v tt c (by omega) _ _ _ TL ?_
    exact vi b1 b2 (k.mem pm) (by simp) pp (fun z=>hb z.symm)
theorem GT(r b:Str)(w v:Int)(room:Room)(tt:W)(ok:OK h nms r b room w v tt)(c:Nat):∃D r' b' w' v' t' room',aK [h.pv,.str r]=some D/\Goes h nms hour D (sT r b w v tt) c r' b' w' v' t' room':=by
 have n2:=FA.ix_rooms h.rooms r;rw[ok.lk] at n2;have n2:gIx (aA h.rooms) (.str r)=some room.pv:=n2;have hR:=hRo hg
 have plain:∀k:Str,gIx room.pv (.int 0)=some (.str k)->¬ k="menu"->¬ k="names"->aK [h.pv,.str r]=some (.dct [] []):=fun k h0 h1 h2=>by
  refine aB rfl ?_;generalize room.pv=RP at *;generalize aA h.rooms=RM at *;generalize h.pv=H at *;simp[cM,PU.start,hR,n2,h0,h1,h2]
 cases hroom:room with
 | hours sp l=>exact absurd hroom (ok.nh sp l)
 | menu t ks wr wa=>
  by_cases hc:c=119
  ·subst hc
   have hw:=qI hg r room ok.lk;rw[hroom] at hw;obtain⟨⟨kt,rfl,hs,ht⟩,hwr,hwa,_,_⟩:=hw;have ew:=jC hg r room ok.lk t kt wr wa hroom hs;obtain⟨r',b',w',v',t',room',B⟩:=xW hg hour r b w v tt room ok "menu" (by rw[hroom];rfl) (.inl rfl) wa.1 wa.2 (by rw[hroom];rfl) (by rw[hroom];rfl) hwa (wtD (kw kt));exact⟨_,r',b',w',v',t',room',ew,B⟩
  ·exact tH hg hour r b w v room tt ok t ks wr wa hroom c hc
 | names t ks wr wa=>
  by_cases hc:c=119
  ·subst hc
   obtain⟨wt,rfl,k,hwr,hwa⟩:=iW hg r room ok.lk t ks wr wa hroom;obtain⟨dk,dp,TL,ew⟩:=eS hg r room ok.lk t wt wr wa hroom k;obtain⟨r',b',w',v',t',room',B⟩:=xW hg hour r b w v tt room ok "names" (by rw[hroom];rfl) (.inr rfl) wa.1 wa.2 (by rw[hroom];rfl) (by rw[hroom];rfl) hwa (.dct dk dp);exact⟨_,r',b',w',v',t',room',ew,B⟩
  ·exact qM hg hour r b w v room tt ok t ks wr wa hroom c hc
 | hand t=>exact⟨_,r,b,w,v,tt,room,plain "hand" (by rw[hroom];rfl) (by simp) (by simp),pP hg hour r b w v tt room ok c "hand" (by rw[hroom];rfl) (.inl rfl) _⟩
 | fin t=>exact⟨_,r,b,w,v,tt,room,plain "end" (by rw[hroom];rfl) (by simp) (by simp),pP hg hour r b w v tt room ok c "end" (by rw[hroom];rfl) (.inr rfl) _⟩
theorem yC(n:Str)(room:Room)(lk:FA.lookR h.rooms n=some room):∃D,aK [h.pv,.str n]=some D/\noFn D=true:=by
 have n2:=FA.ix_rooms h.rooms n;rw[lk] at n2;have n2:gIx (aA h.rooms) (.str n)=some room.pv:=n2;have hR:=hRo hg
 have plain:∀k:Str,gIx room.pv (.int 0)=some (.str k)->¬ k="menu"->¬ k="names"->aK [h.pv,.str n]=some (.dct [] []):=fun k h0 h1 h2=>by
  refine aB rfl ?_;generalize room.pv=RP at *;generalize aA h.rooms=RM at *;generalize h.pv=H at *;simp[cM,PU.start,hR,n2,h0,h1,h2]
 have z:noFn (.dct [] [])=true:=by simp[noFn,aQ]
 cases hroom:room with
 | hours sp l=>exact⟨_,plain "hours" (by rw[hroom];rfl) (by simp) (by simp),z⟩
 | hand t=>exact⟨_,plain "hand" (by rw[hroom];rfl) (by simp) (by simp),z⟩
 | fin t=>exact⟨_,plain "end" (by rw[hroom];rfl) (by simp) (by simp),z⟩
 | menu t ks wr wa=>
  have hw:=qI hg n room lk;rw[hroom] at hw;obtain⟨⟨kt,rfl,hs,ht⟩,hwr,hwa,_,_⟩:=hw;refine⟨_,jC hg n room lk t kt wr wa hroom hs,?_⟩;have:=(fG _).mpr (gY (kw kt)).nf;simpa [wtD,noFn] using this
 | names t ks wr wa=>
  obtain⟨wt,rfl,k,hwr,hwa⟩:=iW hg n room lk t ks wr wa hroom;obtain⟨dk,dp,TL,ew⟩:=eS hg n room lk t wt wr wa hroom k;refine⟨_,ew,?_⟩;have:=(fG _).mpr TL.nf;simpa [noFn] using this
theorem yq:∃WD,bc [h.pv]=some WD/\noFn WD=true/\∀r b room w v tt,OK h nms r b room w v tt->∀D,aK [h.pv,.str r]=some D->gIx WD (.str r)=some D:=by
 have rx:∀n∈FA.names h.rooms,∃D,aK [h.pv,.str n]=some D/\noFn D=true:=fun n hn=>by
  obtain⟨room,hr⟩:=FA.look_some h.rooms n hn;exact yC hg n room hr
 obtain⟨ks,ps,e,g,nf⟩:=zA h.pv h.rooms (hRo hg) (by have:=hg.rl;omega) (fun n=>(aK [h.pv,.str n]).getD .non) (fun n hn=>by
  obtain⟨D,e,_⟩:=rx n hn;rw[e];rfl) (fun n hn=>by
  obtain⟨D,e,f⟩:=rx n hn;rw[e];exact f)
 refine⟨_,e,nf,fun r b room w v tt ok D hD=>?_⟩;rw[g r (hg.all r (hg.nm r ok.rn)),hD];rfl
theorem x4:∃y room,OK h nms y "" room 0 0 []/\cn [h.pv,.int hour]=some (sT y "" 0 0 []):=by
 obtain⟨y,room,ok,e1⟩:=arr hg hour h.first hg.fst "" (.inl rfl);refine⟨y,room,ok,aB rfl ?_⟩;have hF:gIx h.pv (.str "first")=some (.str h.first):=by simp[House.pv]
 generalize h.pv=H at *;simp[oK,PU.start,hF,e1]
end
end
structure St where
 r:Str
 b:Str
 w:Int
 v:Int
 t:W
deriving DecidableEq
def St.pv(s:St):PV:=sT s.r s.b s.w s.v s.t
def St.key(s:St):cI:=[.inl (.inr s.r),.inl (.inr s.b),.inl (.inl s.w),.inl (.inl s.v),.inl (.inr (mkS s.t))]
theorem St.tk(s:St):qp s.pv=some s.key:=rfl
theorem St.nf(s:St):noFn s.pv=true:=by simp[St.pv,sT,noFn,aQ]
def S13:List Nat:=[48,49,50,51,52,53,54,55,56,57,42,35,119]
def cd(i:Nat):Nat:=S13.getD i 0
theorem Ba:eV (.str "0123456789*#w")=some ((Hy 13).map fun i=>WO.sg (cd i)):=by kernel_rfl
theorem mC(L:List PV)(st:PV):gIx (.lst (L++[st])) (.int (-1))=some st:=by
 show atI (L++[st]) (-1)=some st
 have e:ixN (L++[st]).length (-1)=some L.length:=by
  rw[Hv,J5];unfold ixN;rw[if_neg (by omega)]
  first
   | (rw[if_pos (by omega)];congr 1;omega)
   | (simp;omega)
   | simp
 unfold atI;rw[e];simp
theorem t6{n:Nat}{fe:PSt->R PV}{qs cs:List PV}{p:PV}(hl:qs.length=n)(h:fe ((qs++cs).map .val)=.ok p):Aq n fe qs cs=some p:=by
 unfold Aq;rw[if_pos hl,h]
theorem o9{i:Nat}{fs:PSt->R (List PV)}{app:Lam->List PV->List PV->Option PV}{ρ:PSt}{L:Lam}{cs qs:List PV}{p:PV}(h:ρ[i]?=some (.val (.fn L cs)))(hq:fs ρ=.ok qs)(n1:aQ qs=true)(n2:aQ cs=true)(e:app L qs cs=some p):kj i fs app ρ=.ok p:=by
 unfold kj;rw[h];show (fs ρ >>= fun qs=>if aQ qs=true/\aQ cs=true then R.ofO (app L qs cs) else .no)=_;rw[hq];show (if aQ qs=true/\aQ cs=true then R.ofO (app L qs cs) else .no)=_;rw[if_pos ⟨n1,n2⟩,e];rfl
theorem e6{α:Type}(f:α->PV)(l:List α)(h:∀x∈l,noFn (f x)=true):aQ (l.map f)=true:=(fG _).mpr fun p hp=>by
 obtain⟨x,hx,rfl⟩:=HN.mp hp;exact h x hx
theorem sG(p:Str×Str):noFn (pv2 p)=true:=by simp[pv2,noFn,aQ]
theorem BI(p:Int×Int×Str):noFn (pv3 p)=true:=by simp[pv3,noFn,aQ]
theorem zc(r:Room):noFn r.pv=true:=by
 cases r with
 | menu t ks wr wa=>simp[Room.pv,pvI,noFn,aQ,e6 pv2 ks fun x _=>sG x]
 | names t ks wr wa=>simp[Room.pv,pvI,noFn,aQ,e6 pv2 ks fun x _=>sG x]
 | hours sp l=>simp[Room.pv,noFn,aQ,e6 pv3 sp fun x _=>BI x]
 | hand t=>simp[Room.pv,noFn,aQ]
 | fin t=>simp[Room.pv,noFn,aQ]
theorem wc(h:House):noFn h.pv=true:=by
 have h1:=e6 pv2 h.letters fun x _=>sG x;have h2:=e6 (fun r:Str×Room=>r.2.pv) h.rooms fun x _=>zc x.2;simp[House.pv,aA,noFn,aQ,h1,h2]
theorem vR{ks:List cI}{ps:List PV}{k:cI}{v:PV}(h:(ks.any fun j=>decide (j=k))=false):v3 ks ps k v=.dtt (ks++[k]) (ps++[v]):=by
 unfold v3;rw[h];rfl
theorem yr{i:Nat}{fk fv:PSt->R PV}{ρ:PSt}{ks:List cI}{ps:List PV}{p kp:PV}{k:cI}(h:ρ[i]?=some (.own (.dtt ks ps)))(hv:fv ρ=.ok p)(hk:fk ρ=.ok kp)(ht:qp kp=some k)(hl:ks.length<16777216):mR i fk fv ρ=.ok (.next (ρ.set i (.own (v3 ks ps k p)))):=by
 unfold mR;rw[h];show (fv ρ >>= fun p=>fk ρ >>= fun kp=>R.ofO (qp kp) >>= fun k=>if ks.length<16777216 then R.ok (Fl.next (ρ.set i (.own (v3 ks ps k p)))) else R.no)=_;rw[hv];show (fk ρ >>= fun kp=>R.ofO (qp kp) >>= fun k=>if ks.length<16777216 then R.ok (Fl.next (ρ.set i (.own (v3 ks ps k p)))) else R.no)=_;rw[hk];show (R.ofO (qp kp) >>= fun k=>if ks.length<16777216 then R.ok (Fl.next (ρ.set i (.own (v3 ks ps k p)))) else R.no)=_;rw[ht];exact if_pos hl
section
variable[LX]
def Ok(h:House)(nms:List Str)(s:St):Prop:=∃room,OK h nms s.r s.b room s.w s.v s.t
def Nx(h:House)(nms:List Str)(hour:Int)(s:St)(i:Nat)(s':St):Prop:=Ok h nms s'/\∃D,aK [h.pv,.str s.r]=some D/\bN [h.pv,.int hour,D,s.pv,WO.sg (cd i)]=some s'.pv
open Classical in
noncomputable def lead(h:House)(nms:List Str)(hour:Int)(s:St)(i:Nat):St:=if e:∃s',Nx h nms hour s i s' then e.choose else s
def TL:List W:=W8.flatMap fun w=>(Hy 6).map fun n=>(cdH LS5 w).take n
def univ (nms:List Str):List St:=nms.flatMap fun r=>(HL ""::nms).flatMap fun b=>[(0:Int),1,2].flatMap fun w=>[(0:Int),1,2].flatMap fun v=>TL.map fun t=>⟨r,b,w,v,t⟩
theorem ny{α β:Type}(f:α->List β)(n:Nat):∀l:List α,(∀x∈l,(f x).length=n)->(l.flatMap f).length=l.length * n
 | [],_=>by simp
 | x::l,h=>by
  rw[Kv,Hv,h x (by simp),ny f n l fun y hy=>h y (by simp[hy]),IG,Nat.add_mul];omega
theorem vt(nms:List Str)(h:nms.length<=5):(univ nms).length<=3240:=by
 have hT:TL.length=12:=rfl
 have e:(univ nms).length=nms.length * ((nms.length+1) * (3 * (3 * 12))):=by
  unfold univ;refine ny _ _ _ fun r _=>?_;refine(ny _ (3 * (3 * 12)) _ fun b _=>?_);refine(ny _ (3 * 12) _ fun w _=>?_);refine(ny _ 12 _ fun v _=>?_);rw[HF,hT]
 rw[e];have h2:nms.length * ((nms.length+1) * (3 * (3 * 12)))<=5 * ((5+1) * (3 * (3 * 12))):=Md h (Md (by omega) (Hu _));omega
section
variable{h : House}{nms ord : List Str}(hg : HG h nms ord)(hour : Int)
include hg
theorem vq(s:St)(hs:Ok h nms s):s∈univ nms:=by
 obtain⟨room,ok⟩:=hs;have bb:=(qI hg s.r room ok.lk).b;have h1:=ok.hw;have h2:=ok.hv
 have ht:s.t∈TL:=by
  have z:([]:W)∈TL:=by unfold TL;rcases pG with q | q <;> rw[q] <;> decide +kernel
  have ty:=ok.ty;cases hroom:room with
  | names t ks wr wa=>
   obtain⟨wt,rfl,k,_,_⟩:=iW hg s.r room ok.lk t ks wr wa hroom;rw[hroom] at ty;rcases ty wt rfl with e | ⟨p,hp,h1,h2⟩
   ·rw[e];exact z
   ·have pre:=Kz h1 (k.pre hp)
    have l1:=JL h1;have l2:=k.bl hp;refine Ju.mpr ⟨p.1,k.w8 p hp,HN.mpr ⟨s.t.length,JX.mpr (by omega),?_⟩⟩;exact(K9.mp pre).symm
  | _=>
   rw[hroom] at ty;have ty:s.t=[]:=ty;rw[ty];exact z
 have hw:s.w=0\/s.w=1\/s.w=2:=by omega
 have hv:s.v=0\/s.v=1\/s.v=2:=by omega
 refine Ju.mpr ⟨s.r,ok.rn,Ju.mpr ⟨s.b,?_,Ju.mpr ⟨s.w,?_,Ju.mpr ⟨s.v,?_,HN.mpr ⟨s.t,ht,rfl⟩⟩⟩⟩⟩
 ·rcases ok.bn with e | e
  ·rw[e];exact ID
  ·exact I9 _ e
 ·rcases hw with e | e | e <;> simp[e]
 ·rcases hv with e | e | e <;> simp[e]
theorem sV(s:St)(hs:Ok h nms s)(i:Nat):Nx h nms hour s i (lead h nms hour s i):=by
 have ex:∃s',Nx h nms hour s i s':=by
  obtain⟨room,ok⟩:=hs;obtain⟨D,r',b',w',v',t',room',e,g⟩:=GT hg hour s.r s.b s.w s.v room s.t ok (cd i);exact⟨⟨r',b',w',v',t'⟩,⟨room',g.ok⟩,D,e,g.fo⟩
 unfold lead;rw[dif_pos ex];exact ex.choose_spec
end
structure WD(h:House)(nms:List Str)(D:PV):Prop where
 eq:bc [h.pv]=some D
 nf:noFn D=true
 ix:∀s:St,Ok h nms s->∀X,aK [h.pv,.str s.r]=some X->gIx D (.str s.r)=some X
theorem DS{h:House}{nms ord:List Str}(hg:HG h nms ord):∃D,WD h nms D:=by
 obtain⟨D,h1,h2,h3⟩:=yq hg;exact⟨D,h1,h2,fun s ⟨room,ok⟩ X hX=>h3 s.r s.b room s.w s.v s.t ok X hX⟩
section
variable{h : House}{nms ord : List Str}(hg : HG h nms ord)(hour : Int){D : PV}(hD : WD h nms D)
include hg hD
theorem GW(s:St)(hs:Ok h nms s)(i:Nat):∃X,gIx D (.str s.r)=some X/\bN [h.pv,.int hour,X,s.pv,WO.sg (cd i)]=some (lead h nms hour s i).pv:=by
 obtain⟨_,X,e1,e2⟩:=sV hg hour s hs i;exact⟨X,hD.ix s hs X e1,e2⟩
end
end
def kindOf:Room->Str
 | .hand _=>"hand"
 | .fin _=>"end"
 | _=>"asked"
def kH:Room->Str
 | .menu t ..=>t
 | .names t ..=>t
 | .hand t=>t
 | .fin t=>t
 | .hours ..=>""
def hP(h:House)(s:St):Str×Str:=match FA.lookR h.rooms s.r with
 | some room=>(kindOf room,kH room)
 | none=>("","")
def hE(x:Str×Str):PV:=.tup [.str x.1,.str x.2]
structure Mach(H:PV)(hour:Int) where
 ok:St->Prop
 lead:St->Nat->St
 hp:St->Str×Str
 univ:List St
 ways:PV
 s0:St
 nfH:noFn H=true
 nfW:noFn ways=true
 ok0:ok s0
 okl:∀s,ok s->∀i,ok (lead s i)
 eb:cn [H,.int hour]=some s0.pv
 ew:bc [H]=some ways
 fol:∀s,ok s->∀i,∃X,gIx ways (.str s.r)=some X/\bN [H,.int hour,X,s.pv,WO.sg (cd i)]=some (lead s i).pv
 hrd:∀s,ok s->bX [H,s.pv]=some (hE (hp s))
 mem:∀s,ok s->s∈univ
 ul:univ.length<=3240
section
variable[LX]
section
variable{h : House}{nms ord : List Str}(hg : HG h nms ord)
include hg
theorem heard(r b:Str)(w v:Int)(room:Room)(tt:W)(ok:OK h nms r b room w v tt):bX [h.pv,sT r b w v tt]=some (.tup [.str (kindOf room),.str (kH room)]):=by
 refine aB rfl ?_;have n2:=FA.ix_rooms h.rooms r;rw[ok.lk] at n2;have n2:gIx (aA h.rooms) (.str r)=some room.pv:=n2;have hR:=hRo hg;have g0:gIx (sT r b w v tt) (.int 0)=some (.str r):=rfl;have c:c_HEARD=.dct [.inr "menu",.inr "names",.inr "hand",.inr "end"] [.str "asked",.str "asked",.str "hand",.str "end"]:=rfl;have nh:=ok.nh;generalize sT r b w v tt=S at *;generalize aA h.rooms=RM at *;generalize h.pv=H at *;cases room with
 | hours sp l=>exact absurd rfl (nh sp l)
 | menu t ks wr wa=>
  have n2:gIx RM (.str r)=some (.tup [.str "menu",.str t,.tup (ks.map pv2),.tup [.int wr.1,.str wr.2],.tup [.int wa.1,.str wa.2]]):=n2;simp[ig,PU.start,hR,g0,n2,c,kindOf,kH]
 | names t ks wr wa=>
  have n2:gIx RM (.str r)=some (.tup [.str "names",.str t,.tup (ks.map pv2),.tup [.int wr.1,.str wr.2],.tup [.int wa.1,.str wa.2]]):=n2;simp[ig,PU.start,hR,g0,n2,c,kindOf,kH]
 | hand t=>
  have n2:gIx RM (.str r)=some (.tup [.str "hand",.str t]):=n2;simp[ig,PU.start,hR,g0,n2,c,kindOf,kH]
 | fin t=>
  have n2:gIx RM (.str r)=some (.tup [.str "end",.str t]):=n2;simp[ig,PU.start,hR,g0,n2,c,kindOf,kH]
end
section
variable{h : House}{nms ord : List Str}(hg : HG h nms ord)(hour : Int)
include hg
theorem wZ:∃s0:St,Ok h nms s0/\cn [h.pv,.int hour]=some s0.pv:=by
 obtain⟨y,room,ok,e⟩:=x4 hg hour;exact⟨⟨y,"",0,0,[]⟩,⟨room,ok⟩,e⟩
end
theorem wD{h:House}{nms ord:List Str}(hg:HG h nms ord)(s:St)(hs:Ok h nms s):bX [h.pv,s.pv]=some (hE (hP h s)):=by
 obtain⟨room,ok⟩:=hs;have:=heard hg s.r s.b s.w s.v room s.t ok;unfold hP;rw[ok.lk];exact this
theorem sI{h:House}{nms ord:List Str}(hg:HG h nms ord)(hour:Int):Nonempty (Mach h.pv hour):=by
 obtain⟨D,hD⟩:=DS hg;obtain⟨s0,h0,hb⟩:=wZ hg hour;exact⟨⟨Ok h nms,lead h nms hour,hP h,univ nms,D,s0,wc h,hD.nf,h0,fun s hs i=>(sV hg hour s hs i).1,hb,hD.eq,fun s hs i=>GW hg hour hD s hs i,fun s hs=>wD hg s hs,fun s hs=>vq hg s hs,vt nms hg.nl⟩⟩
end
theorem uR(x:List Nat)(c:Nat)(hx:x.length<=16000000):eo (.str (mkS x)) (.str ⟨#[c]⟩)=some (.str (mkS (x++[c]))):=by
 rw[ox,je (by simp;omega),jA]
def cy(l:List Nat):Str:=mkS (l.map cd)
theorem yB(r:List Nat)(i:Nat)(h:r.length<=16000000):eo (.str (cy r)) (WO.sg (cd i))=some (.str (cy (r++[i]))):=by
 unfold cy;rw[IH];exact uR (r.map cd) (cd i) (by simp;omega)
theorem sU{α β:Type}(f:α->List β)(n:Nat):∀l:List α,(∀x∈l,(f x).length=n)->(l.flatMap f).length=l.length * n
 | [],_=>by simp
 | x::l,h=>by
  rw[Kv,Hv,h x (by simp),sU f n l fun y hy=>h y (by simp[hy]),IG,Nat.add_mul];omega
abbrev P2:=St×St
def p2(s:P2):PV:=.tup [s.1.pv,s.2.pv]
def kf(s:St):List Key:=[.inr s.r,.inr s.b,.inl s.w,.inl s.v,.inr (mkS s.t)]
theorem xP{a b:St}(e:kf a=kf b):a=b:=by
 cases a;cases b;simp only[kf,JZ,MK,Sum.inl.injEq,and_true] at e;obtain⟨h1,h2,h3,h4,h5⟩:=e;have h5:=mkS_inj h5;subst h1 h2 h3 h4 h5;rfl
def v9(s:P2):cI:=[.inr (kf s.1),.inr (kf s.2)]
theorem tk2(s:P2):qp (p2 s)=some (v9 s):=rfl
theorem EX{a b:P2}(e:v9 a=v9 b):a=b:=by
 unfold v9 at e;simp only[JZ,MK,and_true] at e;exact Ls (xP e.1) (xP e.2)
theorem qD(s:P2):noFn (p2 s)=true:=by simp[p2,noFn,aQ,St.nf]
def aU(p:BF.Row P2):PV:=.tup [p2 p.1,.str (cy p.2)]
def kL(found:List (BF.Row P2)):List cI:=found.map fun p=>v9 p.1
def tL(found:List (BF.Row P2)):List PV:=found.map fun _=>PV.bl true
theorem Ad(found:List (BF.Row P2))(s:P2):((kL found).any fun j=>decide (j=v9 s))=decide (s∈found.map (·.1)):=by
 rw[Jj];simp only[kL,Jx,MB,Ja,decide_eq_true_eq,HN];constructor
 ·rintro⟨p,hp,e⟩
  exact⟨p,hp,EX e⟩
 ·rintro⟨p,hp,e⟩
  exact⟨p,hp,by rw[e]⟩
theorem Dy(a b:Str×Str):gNe (hE a) (hE b)=some (.bl (!decide (a=b)))/\gEq (hE a) (hE b)=some (.bl (decide (a=b))):=by
 have e:c8 [PV.str a.1,.str a.2] [PV.str b.1,.str b.2]=some (decide (a=b)):=by
  have:decide (a=b)=(decide (a.1=b.1) && decide (a.2=b.2)):=by
   rw[← Bool.decide_and];exact decide_eq_decide.mpr Prod.ext_iff
  rw[this]
  have qq:∀x y:Str,bE (PV.str x) (.str y)=some (decide (x=y)):=fun x y=>by
   show some (x == y)=_;rw[show (x == y)=decide (x=y) by rw[Jj,beq_iff_eq,decide_eq_true_iff]]
  simp only[c8,qq,Lu,Lh]
 have z:cR [PV.str a.1,.str a.2]<=60:=by simp[v7,cR]
 constructor
 ·have q:gNe (hE a) (hE b)=if cR [PV.str a.1,.str a.2]<=60 then (c8 [PV.str a.1,.str a.2] [PV.str b.1,.str b.2]).map fun b=>.bl (!b) else none:=rfl
  rw[q,if_pos z,e];rfl
 ·have q:gEq (hE a) (hE b)=if cR [PV.str a.1,.str a.2]<=60 then (c8 [PV.str a.1,.str a.2] [PV.str b.1,.str b.2]).map .bl else none:=rfl
  rw[q,if_pos z,e];rfl
theorem pX(q:Str)(k:List Str)(sc:Scope)(e:Stmt):(zO q k sc e).kept=k:=by
 cases e <;> rfl
theorem uK{n:Nat}{g:PSt->R Fl}{ρ:PSt}{p:PV}(h:g (ρ++IM n .no)=.ok (.ret p)):oP n g ρ=.ok p:=by
 unfold oP;rw[h]
theorem Ha(S1 S2 G W1 W2 T1 T2 X1 X2 H1 H2:PV)(hour:Int)(r1 r2:Str)(h0:gIx S1 (.int 0)=some (.str r1))(h0':gIx S2 (.int 0)=some (.str r2))(h1:gIx W1 (.str r1)=some X1)(h1':gIx W2 (.str r2)=some X2)(h2:bN [H1,.int hour,X1,S1,G]=some T1)(h2':bN [H2,.int hour,X2,S2,G]=some T2) :
  appL aO [.tup [S1,S2],G] [W1,W2,.int hour,H1,H2]=some (.tup [T1,T2]):=by
 unfold appL;rw[if_pos rfl];refine t6 rfl (uK ?_);show fM [.val (.tup [S1,S2]),.val G,.val W1,.val W2,.val (.int hour),.val H1,.val H2,.no]=_;have i0:gIx (.tup [S1,S2]) (.int 0)=some S1:=rfl;have i1:gIx (.tup [S1,S2]) (.int 1)=some S2:=rfl;generalize PV.tup [S1,S2]=SS at *;simp[fM,i0,i1,h0,h0',h1,h1',h2,h2']
theorem H9(S1 S2 H1 H2:PV)(a b:Str×Str)(h1:bX [H1,S1]=some (hE a))(h2:bX [H2,S2]=some (hE b)):appL aG [.tup [S1,S2]] [H1,H2]=some (.bl (!decide (a=b))):=by
 unfold appL;rw[if_neg,if_pos rfl]
 ·refine t6 rfl (uK ?_)
  show fL [.val (.tup [S1,S2]),.val H1,.val H2]=_;have i0:gIx (.tup [S1,S2]) (.int 0)=some S1:=rfl;have i1:gIx (.tup [S1,S2]) (.int 1)=some S2:=rfl;have e:=(Dy a b).1;generalize PV.tup [S1,S2]=SS at *;generalize hE a=A at *;generalize hE b=B at *;simp[fL,i0,i1,h1,h2,e]
 ·intro e
  have:=congrArg Lam.kept e;unfold aO aG at this;rw[pX,pX] at this;cases this
theorem F4(S0 F1 F2:PV)(KS:List cI)(PS FS:List PV)(d:Int)(NP SG T:PV)(c:Sl)(x x':Str)(k:cI)(lb:Bool)
  (h1:kj 1 (aa (ak (af 6) (kI 0) gIx) (aa (af 7) aM)) appL [.val S0,.val F1,.val F2,.own (.dtt KS PS),.own (.lst FS),.val (.int d),.val NP,.val SG,c]=.ok T)
  (h2:∀KS PS FS,kj 2 (aa (af 8) aM) appL [.val S0,.val F1,.val F2,.own (.dtt KS PS),.own (.lst FS),.val (.int d),.val NP,.val SG,.val T]=.ok (.bl lb))
  (hk:qp T=some k) (hx:gIx NP (.int 1)=some (.str x)) (ha:eo (.str x) SG=some (.str x')) (hl:KS.length<16777216) (hf:FS.length<16777216) :
  bf [.val S0,.val F1,.val F2,.own (.dtt KS PS),.own (.lst FS),.val (.int d),.val NP,.val SG,c]=.ok (if (KS.any fun j=>decide (j=k))=true then .next [.val S0,.val F1,.val F2,.own (.dtt KS PS),.own (.lst FS),.val (.int d),.val NP,.val SG,.val T] else if lb=true then .brk [.val S0,.val F1,.val F2,.own (.dtt (KS++[k]) (PS++[.bl true])),.own (.lst (FS++[.tup [T,.str x']])),.val (.int d),.val NP,.val SG,.val T] else .next [.val S0,.val F1,.val F2,.own (.dtt (KS++[k]) (PS++[.bl true])),.own (.lst (FS++[.tup [T,.str x']])),.val (.int d),.val NP,.val SG,.val T]):=by
 have ni:ij T (.dtt KS PS)=some (.bl (!(KS.any fun j=>decide (j=k)))):=by
  show (qp T).map _=_;rw[hk];rfl
 by_cases hh:(KS.any fun j=>decide (j=k))=true
 ·rw[if_pos hh]
  rw[hh] at ni;simp[bf,h1,ni]
 ·have hh':(KS.any fun j=>decide (j=k))=false:=(Jy _).mp hh
  rw[if_neg hh];rw[hh'] at ni
  have pt:mR 3 (af 8) (kB true) [.val S0,.val F1,.val F2,.own (.dtt KS PS),.own (.lst FS),.val (.int d),.val NP,.val SG,.val T]=.ok (.next [.val S0,.val F1,.val F2,.own (.dtt (KS++[k]) (PS++[.bl true])),.own (.lst FS),.val (.int d),.val NP,.val SG,.val T]):=by
   rw[yr (ks:=KS) (ps:=PS) (p:=.bl true) (kp:=T) (k:=k) rfl rfl rfl hk hl,vR hh'];rfl
  have h3:=h2 (KS++[k]) (PS++[.bl true]) (FS++[.tup [T,.str x']]);cases lb with
  | false=>simp[bf,h1,ni,pt,hx,ha,hf,h3]
  | true=>simp[bf,h1,ni,pt,hx,ha,hf,h3]
abbrev jS(S0 F1 F2:PV)(found:List (BF.Row P2))(d:Nat)(a b c:Sl):PSt:=[.val S0,.val F1,.val F2,.own (.dtt (kL found) (tL found)),.own (.lst (found.map aU)),.val (.int d),a,b,c]
section
variable{H G : PV}{hour : Int}(M : Mach H hour)(N : Mach G hour)
abbrev F1:PV:=.fn aO [M.ways,N.ways,.int hour,H,G]
abbrev F2(H G:PV):PV:=.fn aG [H,G]
def bL(s:P2)(i:Nat):P2:=(M.lead s.1 i,N.lead s.2 i)
def cL(s:P2):Bool:=!decide (M.hp s.1=N.hp s.2)
def ok2(s:P2):Prop:=M.ok s.1/\N.ok s.2
def u2:List P2:=M.univ.flatMap fun a=>N.univ.map fun b=>(a,b)
theorem AV:(u2 M N).length<=10497600:=by
 have:(u2 M N).length=M.univ.length * N.univ.length:=by
  unfold u2;exact sU _ _ _ fun a _=>by rw[HF]
 rw[this];exact Ig (Md M.ul N.ul) (by decide)
theorem AU(s:P2)(h:ok2 M N s):s∈u2 M N:=by
 unfold u2;exact Ju.mpr ⟨s.1,M.mem _ h.1,HN.mpr ⟨s.2,N.mem _ h.2,rfl⟩⟩
theorem BA(s:P2)(h:ok2 M N s)(i:Nat):ok2 M N (bL M N s i):=⟨M.okl _ h.1 i,N.okl _ h.2 i⟩
theorem lg(s0:P2)(h0:ok2 M N s0){found:List (BF.Row P2)}(I:BF.Inv (bL M N) s0 found):(∀p∈found,ok2 M N p.1)/\found.length<=10497600:=by
 have a:=BF.inv_P (bL M N) s0 (ok2 M N) h0 fun s hs i _=>BA M N s hs i;refine⟨a found I,?_⟩;have:=BF.inv_len (bL M N) s0 (u2 M N) (fun f J p hp=>AU M N p.1 (a f J p hp)) I;have:=AV M N;omega
theorem Fb(s:P2)(h:ok2 M N s)(i:Nat):appL aO [p2 s,WO.sg (cd i)] [M.ways,N.ways,.int hour,H,G]=some (p2 (bL M N s i)):=by
 obtain⟨X1,a1,b1⟩:=M.fol s.1 h.1 i;obtain⟨X2,a2,b2⟩:=N.fol s.2 h.2 i;exact Ha s.1.pv s.2.pv _ _ _ _ _ X1 X2 H G hour s.1.r s.2.r rfl rfl a1 a2 b1 b2
theorem A9(s:P2)(h:ok2 M N s):appL aG [p2 s] [H,G]=some (.bl (cL M N s)):=H9 _ _ _ _ _ _ (M.hrd _ h.1) (N.hrd _ h.2)
theorem Cq(S0:PV)(found:List (BF.Row P2))(near:BF.Row P2)(hn:ok2 M N near.1)(i d:Nat)(c:Sl)(hl:found.length<16000000)(hr:near.2.length<=16000000) :
  bf (jS S0 (F1 M N) (F2 H G) found d (.val (aU near)) (.val (WO.sg (cd i))) c)=.ok (if bL M N near.1 i∈found.map (·.1) then .next (jS S0 (F1 M N) (F2 H G) found d (.val (aU near)) (.val (WO.sg (cd i))) (.val (p2 (bL M N near.1 i))))
   else if cL M N (bL M N near.1 i)=true then .brk (jS S0 (F1 M N) (F2 H G) (found++[(bL M N near.1 i,near.2++[i])]) d (.val (aU near)) (.val (WO.sg (cd i))) (.val (p2 (bL M N near.1 i))))
   else .next (jS S0 (F1 M N) (F2 H G) (found++[(bL M N near.1 i,near.2++[i])]) d (.val (aU near)) (.val (WO.sg (cd i))) (.val (p2 (bL M N near.1 i))))):=by
 have n1:aQ [p2 near.1,WO.sg (cd i)]=true:=by simp[aQ,qD,WO.sg,noFn]
 have n2:aQ [M.ways,N.ways,.int hour,H,G]=true:=by simp[aQ,M.nfW,N.nfW,M.nfH,N.nfH,noFn]
 have n3:aQ [p2 (bL M N near.1 i)]=true:=by simp[aQ,qD]
 have n4:aQ [H,G]=true:=by simp[aQ,M.nfH,N.nfH]
 have B:=F4 S0 (F1 M N) (F2 H G) (kL found) (tL found) (found.map aU) d (aU near) (WO.sg (cd i)) (p2 (bL M N near.1 i)) c (cy near.2) (cy (near.2++[i])) (v9 (bL M N near.1 i)) (cL M N (bL M N near.1 i))
  (o9 (L:=aO) (cs:=[M.ways,N.ways,.int hour,H,G]) (qs:=[p2 near.1,WO.sg (cd i)]) rfl rfl n1 n2 (Fb M N near.1 hn i))
  (fun KS PS FS=>o9 (L:=aG) (cs:=[H,G]) (qs:=[p2 (bL M N near.1 i)]) rfl rfl n3 n4 (A9 M N _ (BA M N _ hn i)))
  (tk2 _) rfl (yB near.2 i hr) (by simp[kL];omega) (by simp;omega)
 rw[Ad] at B;refine B.trans ?_
 by_cases hm:bL M N near.1 i∈found.map (·.1)
 ·rw[if_pos hm,if_pos (decide_eq_true hm)]
 ·rw[if_neg hm,if_neg (by simpa using hm)]
  simp only[jS,kL,tL,IH];rfl
theorem ma(S0:PV)(s0:P2)(h0:ok2 M N s0)(near:BF.Row P2)(d:Nat):∀(m k:Nat)(found:List (BF.Row P2))(b c:Sl),k+m=13->BF.Mid (bL M N) s0 (cL M N) found d k near->∃found' b' c',
  gq (ay 7) bf ((NK k m).map fun i=>WO.sg (cd i)) (jS S0 (F1 M N) (F2 H G) found (d+1) (.val (aU near)) b c)=.ok (.next (jS S0 (F1 M N) (F2 H G) found' (d+1) (.val (aU near)) b' c'))/\
   (BF.Mid (bL M N) s0 (cL M N) found' d 13 near\/∃init fin,found'=init++[fin]/\cL M N fin.1=true/\BF.Res (bL M N) s0 (cL M N) found')
 | 0,k,found,b,c,hk,I=>⟨found,b,c,rfl,.inl ((show k=13 by omega)▸I)⟩
 | m+1,k,found,b,c,hk,I=>by
  have hn:ok2 M N near.1:=(lg M N s0 h0 I.inv).1 near (II I.at_);have hl:=(lg M N s0 h0 I.inv).2;have hd:=(HM.mp I.at_).1;have hr:=I.inv.len d near I.at_;have e1:=Cq M N S0 found near hn k (d+1) c (by omega) (by omega);have e0:ay 7 (WO.sg (cd k)) (jS S0 (F1 M N) (F2 H G) found (d+1) (.val (aU near)) b c)=some (jS S0 (F1 M N) (F2 H G) found (d+1) (.val (aU near)) (.val (WO.sg (cd k))) c):=rfl;rw[M9,HI];unfold gq;rw[e0];simp only[R.ofO_some,R.ok_bind,e1]
  by_cases hm:bL M N near.1 k∈found.map (·.1)
  ·rw[if_pos hm]
   have lf:cL M N (bL M N near.1 k)=false:=by
    obtain⟨q,hq,e⟩:=HN.mp hm;rw[← e];exact I.nl q hq
   have I2:=I.go (by omega) lf;unfold BF.inn at I2;rw[if_pos hm] at I2;exact ma S0 s0 h0 near d m (k+1) found _ _ (by omega) I2
  ·rw[if_neg hm]
   by_cases hb:cL M N (bL M N near.1 k)=true
   ·rw[if_pos hb]
    exact⟨_,_,_,rfl,.inr ⟨found,_,rfl,hb,I.stop (by omega) hm hb⟩⟩
   ·rw[if_neg hb]
    have I2:=I.go (by omega) ((Jy _).mp hb);unfold BF.inn at I2;rw[if_neg hm] at I2;exact ma S0 s0 h0 near d m (k+1) _ _ _ (by omega) I2
theorem F3(S0:PV)(s0:P2)(h0:ok2 M N s0)(found:List (BF.Row P2))(near:BF.Row P2)(d:Nat)(hd:found[d]?=some near)(O:BF.Out (bL M N) s0 (cL M N) found d)(a b c:Sl):∃found' b' c',
  bA (jS S0 (F1 M N) (F2 H G) found d a b c)=.ok (.next (jS S0 (F1 M N) (F2 H G) found' (d+1) (.val (aU near)) b' c'))/\
   ((BF.Out (bL M N) s0 (cL M N) found' (d+1)/\d<found'.length)\/∃init fin,found'=init++[fin]/\cL M N fin.1=true/\BF.Res (bL M N) s0 (cL M N) found'):=by
 obtain⟨found',b',c',e,r⟩:=ma M N S0 s0 h0 near d 13 0 found b c rfl (O.mid hd);refine⟨found',b',c',?_,r.imp (fun r=>⟨r.out,(HM.mp r.at_).1⟩) id⟩;have i0:atI (found.map aU) (d:Int)=some (aU near):=bj rfl (by rw[HW,hd];rfl);have es:c_SIGNS=.str "0123456789*#w":=rfl;have it:=Ba;have er:NK 0 13=Hy 13:=rfl;rw[er] at e;have ag:∀(A1 A2 A3 A4 A5 A6 A7 A8:Sl),Aw 5 (kI 1) [A1,A2,A3,A4,A5,.val (.int d),A6,A7,A8]=.ok (.next [A1,A2,A3,A4,A5,.val (.int ((d+1:Nat):Int)),A6,A7,A8]):=fun _ _ _ _ _ _ _ _=>rfl;have e:gq (ay 7) bf ((Hy 13).map fun i=>WO.sg (cd i)) [.val S0,.val (F1 M N),.val (F2 H G),.own (.dtt (kL found) (tL found)),.own (.lst (found.map aU)),.val (.int ((d+1:Nat):Int)),.val (aU near),b,c]=_:=e;rw[← e];simp only[jS];generalize F1 M N=G1 at *;generalize F2 H G=G2 at *;generalize found.map aU=FS at *;generalize PV.dtt (kL found) (tL found)=KD at *;generalize aU near=NP at *;generalize (Hy 13).map (fun i=>WO.sg (cd i))=SS at *;simp[bA,i0,ag,es,it]
noncomputable def tst:PSt->R Bool:=(x8 (cY (ak (af 5) (un1 (lj 4) iZ) gLt)) (BB (cY (kj 2 (aa (ak (ak (lj 4) (un1 (kI 1) pR) gIx) (kI 0) gIx) aM) appL))))
theorem xX(S0 G1:PV)(f':List (BF.Row P2))(p:BF.Row P2)(hp:ok2 M N p.1)(d:Nat)(a b c:Sl):tst (jS S0 G1 (F2 H G) (f'++[p]) d a b c)=.ok (decide (d<(f'++[p]).length) && !cL M N p.1):=by
 by_cases hd:d<(f'++[p]).length
 ·have l:gIx (.lst ((f'++[p]).map aU)) (.int (-1))=some (aU p):=by
   rw[IH];exact mC (f'.map aU) (aU p)
  have ng:pR (.int 1)=some (.int (-1)):=rfl;have g0:gIx (aU p) (.int 0)=some (p2 p.1):=rfl
  have cv:kj 2 (aa (ak (ak (lj 4) (un1 (kI 1) pR) gIx) (kI 0) gIx) aM) appL (jS S0 G1 (F2 H G) (f'++[p]) d a b c)=.ok (.bl (cL M N p.1)):=by
   refine o9 (L:=aG) (cs:=[H,G]) (qs:=[p2 p.1]) rfl ?_ (by simp[aQ,qD]) (by simp[aQ,M.nfH,N.nfH]) (A9 M N _ hp);simp only[jS];generalize (f'++[p]).map aU=FS at *;generalize aU p=NP at *;simp[ng,l,g0]
  have hd':(d:Int)<((f'++[p]).map aU).length:=by rw[HF];omega
  rw[decide_eq_true hd];simp only[jS] at cv ⊢;generalize (f'++[p]).map aU=FS at *;generalize PV.dtt (kL (f'++[p])) (tL (f'++[p]))=KD at *;simp[tst,hd',cv]
 ·rw[decide_eq_false hd]
  have hd':¬ (d:Int)<(((f'++[p]).map aU).length:Nat):=by rw[HF];omega
  simp only[jS];generalize (f'++[p]).map aU=FS at *;simp[tst,hd']
theorem xY(S0 G1:PV)(f':List (BF.Row P2))(p:BF.Row P2)(hp:ok2 M N p.1)(hl:cL M N p.1=true)(n d:Nat)(a b c:Sl):whF tst bA (n+1) (jS S0 G1 (F2 H G) (f'++[p]) d a b c)=.ok (.next (jS S0 G1 (F2 H G) (f'++[p]) d a b c)):=by
 unfold whF;rw[xX M N S0 G1 f' p hp d a b c,hl,R.ok_bind];simp
theorem pS(S0:PV)(s0:P2)(h0:ok2 M N s0):∀(n d:Nat)(found:List (BF.Row P2))(a b c:Sl),BF.Out (bL M N) s0 (cL M N) found d->d<=found.length->10497600<d+n->∃found' d' a' b' c',
  whF tst bA (n+1) (jS S0 (F1 M N) (F2 H G) found d a b c)=.ok (.next (jS S0 (F1 M N) (F2 H G) found' d' a' b' c'))/\BF.Res (bL M N) s0 (cL M N) found'
 | n,d,found,a,b,c,O,hd,hn=>by
  obtain⟨k1,k2⟩:=lg M N s0 h0 O.inv;have hne:found≠[]:=by obtain⟨tl,e⟩:=O.inv.h0;rw[e];simp
  obtain⟨f',p,hf⟩:∃f' p,found=f'++[p]:=⟨found.dropLast,found.getLast hne,(Ji hne).symm⟩;have pm:p∈found:=by rw[hf];simp
  have ht:=xX M N S0 (F1 M N) f' p (k1 p pm) d a b c;rw[← hf,O.nl p pm] at ht;cases e:found[d]? with
  | none=>
   have hge:¬ d<found.length:=by have:=List.getElem?_eq_none_iff.mp e;omega
   rw[decide_eq_false hge] at ht;refine⟨found,d,a,b,c,?_,O.done (by omega)⟩;unfold whF;rw[ht,R.ok_bind];simp
  | some near=>
   have hdl:d<found.length:=(HM.mp e).1;rw[decide_eq_true hdl] at ht;obtain⟨found1,b',c',eb,r⟩:=F3 M N S0 s0 h0 found near d e O a b c;cases n with
   | zero=>omega
   | succ n=>
    unfold whF;rw[ht,R.ok_bind];simp only[Bool.not_false,Bool.and_self,if_true];rw[eb,R.ok_bind];rcases r with⟨r,hge⟩|⟨init,fin,rfl,hb,r⟩
    ·exact pS S0 s0 h0 n (d+1) found1 _ b' c' r hge (by omega)
    ·exact⟨_,_,_,_,_,xY M N S0 (F1 M N) init fin ((lg M N s0 h0 r.inv).1 fin (by simp)) hb n (d+1) _ b' c',r⟩
termination_by n=>n
end
def qo(p:BF.Row P2):PV:=.tup [p.1.1.pv,p.1.2.pv,.str (cy p.2)]
theorem wR{α:Type}(l:List α)(x:α):iN (l++[x]) none (some (-1))=l:=by
 have e0:HT.sIx (l++[x]).length 0 none=0:=rfl
 have e1:HT.sIx (l++[x]).length (l++[x]).length (some (-1))=l.length:=by
  rw[Hv,J5];unfold HT.sIx
  first
   | (simp;omega)
   | simp
   | (split <;> omega)
 unfold iN;rw[e0,e1];simp
theorem vp{L:Lam}{idx:List Nat}{fs:PSt->R (List PV)}{app:Lam->List PV->List PV->Option PV}{ρ:PSt}{cs qs:List PV}{p:PV}(hc:qW ρ idx=.ok cs)(hq:fs ρ=.ok qs)(n1:aQ qs=true)(n2:aQ cs=true)(e:app L qs cs=some p)(n3:noFn p=true):lu L idx fs app ρ=.ok p:=by
 unfold lu;rw[hc];show (fs ρ >>= _)=_;rw[hq];show (if aQ qs=true/\aQ cs=true then _ else _)=_;rw[if_pos ⟨n1,n2⟩,e];show (if noFn p=true then _ else _)=_;rw[if_pos n3]
theorem xk{i:Nat}{g:PSt->R Fl}{ρ:PSt}(h:ρ[i]?=some .no):yd i g ρ=g ρ:=by
 unfold yd;rw[h]
theorem Bc(p:BF.Row P2):noFn (aU p)=true:=by simp[aU,noFn,aQ,qD]
section
variable{H G : PV}{hour : Int}(M : Mach H hour)(N : Mach G hour)
theorem wJ:∃found,BF.Res (bL M N) (M.s0,N.s0) (cL M N) found/\cS [p2 (M.s0,N.s0),F1 M N,F2 H G]=some (.lst (found.map aU)):=by
 have h0:ok2 M N (M.s0,N.s0):=⟨M.ok0,N.ok0⟩
 have r0:aU ((M.s0,N.s0),[])=.tup [p2 (M.s0,N.s0),.str ""]:=by
  unfold aU cy;rfl
 obtain⟨found,d',a',b',c',ew,RR0⟩:∃found d' a' b' c',whF tst bA 10500000 (jS (p2 (M.s0,N.s0)) (F1 M N) (F2 H G) [((M.s0,N.s0),[])] 0 .no .no .no)=.ok (.next (jS (p2 (M.s0,N.s0)) (F1 M N) (F2 H G) found d' a' b' c'))/\BF.Res (bL M N) (M.s0,N.s0) (cL M N) found:=by
  cases hl:cL M N (M.s0,N.s0) with
  | true=>exact⟨_,_,_,_,_,xY M N (p2 (M.s0,N.s0)) (F1 M N) [] ((M.s0,N.s0),[]) h0 hl 10499999 0 .no .no .no,BF.res_0 hl⟩
  | false=>exact pS M N (p2 (M.s0,N.s0)) (M.s0,N.s0) h0 10499999 0 [((M.s0,N.s0),[])] .no .no .no (BF.out_0 hl) (by simp) (by decide)
 refine⟨found,RR0,vH rfl ?_⟩;have tk:=tk2 (M.s0,N.s0);have ew:whF tst bA 10500000 [.val (p2 (M.s0,N.s0)),.val (F1 M N),.val (F2 H G),.own (.dtt [v9 (M.s0,N.s0)] [.bl true]),.own (.lst [aU ((M.s0,N.s0),[])]),.val (.int 0),.no,.no,.no]=.ok (.next [.val (p2 (M.s0,N.s0)),.val (F1 M N),.val (F2 H G),.own (.dtt (kL found) (tL found)),.own (.lst (found.map aU)),.val (.int d'),a',b',c']):=ew;rw[r0] at ew
 have dt:wQ (af 0) (kB true) [.val (p2 (M.s0,N.s0)),.val (F1 M N),.val (F2 H G),.no,.no,.no,.no,.no,.no]=.ok (.dtt [v9 (M.s0,N.s0)] [.bl true]):=by
  unfold wQ;rw[show af 0 [.val (p2 (M.s0,N.s0)),.val (F1 M N),.val (F2 H G),.no,.no,.no,.no,.no,.no]=.ok (p2 (M.s0,N.s0)) from rfl];simp only[R.ok_bind,G8,tk,R.ofO_some]
 unfold tst at ew;generalize F1 M N=G1 at *;generalize F2 H G=G2 at *;generalize PV.dtt (kL found) (tL found)=KD at *;generalize PV.dtt [v9 (M.s0,N.s0)] [.bl true]=K0 at *;generalize found.map aU=FS at *;generalize p2 (M.s0,N.s0)=S at *;simp[fK,PU.start,dt];rw[ew];simp
theorem qT:∃found,BF.Inv (bL M N) (M.s0,N.s0) found/\((BF.Whole (bL M N) (cL M N) found/\bH [H,G,.int hour]=some (.tup [.str "alike",.lst (found.map qo)])) ∨
  ∃init fin,found=init++[fin]/\BF.Stops (bL M N) (cL M N) init fin/\bH [H,G,.int hour]=some (.tup [.str "apart",.str (cy fin.2),.lst (init.map qo)])):=by
 obtain⟨found,RR0,ef⟩:=wJ M N;have h0:ok2 M N (M.s0,N.s0):=⟨M.ok0,N.ok0⟩;obtain⟨k1,k2⟩:=lg M N _ h0 RR0.inv;refine⟨found,RR0.inv,?_⟩;have hne:found≠[]:=by obtain⟨tl,e⟩:=RR0.inv.h0;rw[e];simp
 obtain⟨f',p,hf⟩:∃f' p,found=f'++[p]:=⟨found.dropLast,found.getLast hne,(Ji hne).symm⟩;have pm:p∈found:=by rw[hf];simp
 have ew1:=M.ew;have ew2:=N.ew;have eb1:=M.eb;have eb2:=N.eb
 have nfl:noFn (.lst (found.map aU))=true:=by
  have:=e6 aU found fun p _=>Bc p;simpa [noFn] using this
 have n0:noFn (p2 (M.s0,N.s0))=true:=qD _
 have fa:∀a5 a6 a7 a8 a9:Sl,q9 (AB (dF (aa (aL (aa (af 0) (aa (af 2) aM)) cn) (aa (aL (aa (af 1) (aa (af 2) aM)) cn) aM))) (xN aO [3,4,2,0,1] (xN aG [0,1] aM))) cS [.val H,.val G,.val (.int hour),.val M.ways,.val N.ways,a5,a6,a7,a8,a9]=.ok (.lst (found.map aU)):=fun a5 a6 a7 a8 a9=>by
  have e1:(AB (dF (aa (aL (aa (af 0) (aa (af 2) aM)) cn) (aa (aL (aa (af 1) (aa (af 2) aM)) cn) aM))) (xN aO [3,4,2,0,1] (xN aG [0,1] aM))) [.val H,.val G,.val (.int hour),.val M.ways,.val N.ways,a5,a6,a7,a8,a9]=.ok [p2 (M.s0,N.s0),F1 M N,F2 H G]:=by
   unfold AB;rw[show dF (aa (aL (aa (af 0) (aa (af 2) aM)) cn) (aa (aL (aa (af 1) (aa (af 2) aM)) cn) aM)) [.val H,.val G,.val (.int hour),.val M.ways,.val N.ways,a5,a6,a7,a8,a9]=.ok (p2 (M.s0,N.s0)) by simp[eb1,eb2,p2]];simp only[R.ok_bind,n0,if_true];rfl
  unfold q9;rw[e1];simp only[R.ok_bind,ef,R.ofO_some,nfl,if_true]
 have it:eV (.lst (found.map aU))=some (found.map aU):=rfl
 have cc:cq (kG 2 (bG (ay 0) (bG (ay 1) kX))) kC eY [.no,.no] (found.map aU)=.ok (found.map qo):=by
  exact WO.in_list_comp (enc:=aU) (h:=kG 2 (bG (ay 0) (bG (ay 1) kX))) (fe:=eY) (ρ:=[.no,.no]) qo found fun p _=>⟨[.val (p2 p.1),.val (.str (cy p.2))],rfl,by
   have i0:gIx (p2 p.1) (.int 0)=some p.1.1.pv:=rfl;have i1:gIx (p2 p.1) (.int 1)=some p.1.2.pv:=rfl;unfold qo;generalize p2 p.1=Q at *;generalize cy p.2=RR at *;generalize p.1.1.pv=A at *;generalize p.1.2.pv=B at *;simp[eY,i0,i1]⟩
 have z1:(found.map qo).length<=16777216:=by rw[HF];omega
 have la:gIx (.lst (found.map aU)) (.int (-1))=some (aU p):=by
  rw[hf,IH];exact mC (f'.map aU) (aU p)
 have ng:pR (.int 1)=some (.int (-1)):=rfl;have g0:gIx (aU p) (.int 0)=some (p2 p.1):=rfl;have g1:gIx (aU p) (.int 1)=some (.str (cy p.2)):=rfl
 have cf:∀a2 a3 a4 a5 a6 a7 a8:Sl,lu aG [0,1] (aa (ak (af 9) (kI 0) gIx) aM) appL [.val H,.val G,a2,a3,a4,a5,a6,a7,a8,.val (aU p)]=.ok (.bl (cL M N p.1)):=fun _ _ _ _ _ _ _=>by
  refine vp (cs:=[H,G]) (qs:=[p2 p.1]) rfl ?_ (by simp[aQ,qD]) (by simp[aQ,M.nfH,N.nfH]) (A9 M N _ (k1 p pm)) rfl;generalize aU p=NP at *;simp[g0]
 have sl:gSl (.lst (found.map qo)) none (some (-1))=some (.lst (f'.map qo)):=by
  show some (PV.lst (iN (found.map qo) none (some (-1))))=_;rw[hf,IH,Nt,wR]
 have d5:∀(g:PSt->R Fl)(A B C D E a7 a8 a9:Sl),yd 5 g [A,B,C,D,E,.no,.no,a7,a8,a9]=g [A,B,C,D,E,.no,.no,a7,a8,a9]:=fun g A B C D E a7 a8 a9=>xk rfl;have d6:∀(g:PSt->R Fl)(A B C D E a7 a8 a9:Sl),yd 6 g [A,B,C,D,E,.no,.no,a7,a8,a9]=g [A,B,C,D,E,.no,.no,a7,a8,a9]:=fun g A B C D E a7 a8 a9=>xk rfl
 have main:bH [H,G,.int hour]=some (if cL M N p.1=true then .tup [.str "apart",.str (cy p.2),.lst (f'.map qo)] else .tup [.str "alike",.lst (found.map qo)]):=by
  refine aB rfl ?_;generalize F1 M N=G1 at *;generalize found.map aU=FS at *;generalize found.map qo=FT at *;generalize f'.map qo=IT at *;generalize aU p=RP at *;generalize cy p.2=RR at *;generalize M.ways=W1 at *;generalize N.ways=W2 at *;cases hb:cL M N p.1 with
  | true=>
   rw[hb] at cf;simp[gG,PU.start,ew1,ew2,d5,d6,fa,it,bU,cc,z1,ng,la,cf,g1,sl]
  | false=>
   rw[hb] at cf;simp[gG,PU.start,ew1,ew2,d5,d6,fa,it,bU,cc,z1,ng,la,cf]
 rcases RR0.res with W | ⟨init,fin,e,S⟩
 ·refine .inl ⟨W,?_⟩
  rw[main,W.1 p pm];rfl
 ·have e2:=hf.symm.trans e
  obtain⟨e3,e4⟩:=List.append_inj' e2 rfl;injection e4 with e4 _;refine .inr ⟨init,fin,e,S,?_⟩;rw[main,e4,S.1,e3];rfl
end
theorem tE:∀js:List Int,nE (js.map PV.int)=some js
 | []=>rfl
 | j::js=>by
  show (nE (js.map PV.int)).map (j::·)=_;rw[tE js];rfl
def kR(r:List Nat):PV:=.tup [.int r.length,.lst (r.map fun i:Nat=>PV.int (i:Int))]
theorem GR (i:Nat) (hi:i<13):ll (.str "0123456789*#w") (WO.sg (cd i))=some (.int i):=by
 match i,hi with
 | 0,_=>kernel_rfl
 | 1,_=>kernel_rfl
 | 2,_=>kernel_rfl
 | 3,_=>kernel_rfl
 | 4,_=>kernel_rfl
 | 5,_=>kernel_rfl
 | 6,_=>kernel_rfl
 | 7,_=>kernel_rfl
 | 8,_=>kernel_rfl
 | 9,_=>kernel_rfl
 | 10,_=>kernel_rfl
 | 11,_=>kernel_rfl
 | 12,_=>kernel_rfl
theorem pK(ρ:PSt)(hρ:ρ=[.no]):∀(r:List Nat),(∀i∈r,i<13)->cq (ay 0) kC mj ρ (r.map fun i=>WO.sg (cd i))=.ok (r.map fun i:Nat=>PV.int (i:Int))
 | [],_=>rfl
 | i::r,h=>by
  have ih:=pK ρ hρ r fun j hj=>h j (by simp[hj]);have e:=GR i (h i (by simp))
  have e1:mj [.val (WO.sg (cd i))]=.ok (.int i):=by
   generalize WO.sg (cd i)=G at *;show oz (kS "0123456789*#w") (af 0) ll _=_;simp[e]
  rw[HI];unfold cq;rw[show ay 0 (WO.sg (cd i)) ρ=some [.val (WO.sg (cd i))] by rw[hρ];rfl];simp only[R.ofO_some,R.ok_bind,xg,if_true,e1,ih];rfl
theorem rZ(r:List Nat)(h:∀i∈r,i<13)(hl:r.length<=16000000):nN [.str (cy r)]=some (kR r):=by
 have ei:eV (.str (cy r))=some (r.map fun i=>WO.sg (cd i)):=by
  unfold cy;rw[WO.it_mk,I8];rfl
 have gl:iZ (.str (cy r))=some (.int r.length):=by
  unfold cy;rw[fu (by rw[ck,HF];omega),ck,HF]
 have ec:=pK [.no] rfl r h;have z:(r.map fun i:Nat=>PV.int (i:Int)).length<=16777216:=by simp;omega
 unfold kR;generalize cy r=RR at *;generalize (r.map fun i=>WO.sg (cd i))=RS at *;generalize (r.map fun i:Nat=>PV.int (i:Int))=RI at *;refine aB rfl ?_;simp[tM,PU.start,gl,ei,bU,ec,z]
def iL(r:List Nat):List Int:=r.map fun i:Nat=>(i:Int)
theorem zf(r:List Nat):nE (r.map fun i:Nat=>PV.int (i:Int))=some (iL r):=by
 have:=tE (iL r);unfold iL at this;rw[I8] at this;exact this
theorem pE:∀a b:List Nat,ltL (iL a) (iL b)=true->BF.lexLt a b=true
 | [],[],h=>by simp[iL,ltL] at h
 | [],_::_,h=>by simp[iL,ltL] at h
 | _::_,[],h=>by simp[iL,ltL] at h
 | x::xs,y::ys,h=>by
  have h:(if (x:Int)=(y:Int) then ltL (iL xs) (iL ys) else decide ((x:Int)<(y:Int)))=true:=h;simp only[BF.lexLt]
  by_cases e:x=y
  ·rw[if_pos (by omega)] at h
   rw[if_pos e];exact pE xs ys h
  ·rw[if_neg (by omega)] at h
   rw[if_neg e];simp at h ⊢;omega
theorem F8(a b:List Nat)(ha:∀i∈a,i<13)(hb:∀i∈b,i<13)(la:a.length<=16000000)(lb:b.length<=16000000):∃z:Bool,gN [.str (cy a),.str (cy b)]=some (.bl z)/\(z=true->BF.lt a b):=by
 have e1:=rZ a ha la;have e2:=rZ b hb lb;have l1:(iL a).length=a.length:=by simp[iL]
 have l2:(iL b).length=b.length:=by simp[iL]
 obtain⟨z,e3,hz⟩:∃z:Bool,Co (kR a) (kR b)=some (.bl z)/\(z=true->BF.lt a b):=by
  unfold kR;simp only[Co,zf];rw[if_neg (by omega)];refine⟨_,rfl,fun h=>?_⟩
  by_cases e:(a.length:Int)=(b.length:Int)
  ·rw[if_pos e] at h
   exact .inr ⟨by omega,pE a b h⟩
  ·rw[if_neg e] at h
   exact .inl (by simpa using h)
 refine⟨z,?_,hz⟩;generalize cy a=A at *;generalize cy b=B at *;generalize kR a=KA at *;generalize kR b=KB at *;refine aB rfl ?_;simp[jO,PU.start,e1,e2,e3]
def scan(f:St->Nat->St):St->List Nat->List St
 | s,[]=>[s]
 | s,i::r=>s::scan f (f s i) r
theorem lF(f:St->Nat->St):∀(r:List Nat)(s:St),(scan f s r).length=r.length+1
 | [],_=>rfl
 | i::r,s=>by simp[scan,lF f r]
theorem oY(f:St->Nat->St):∀(r:List Nat)(s:St)(k:Nat),k<=r.length->(scan f s r)[k]?=some ((r.take k).foldl f s)
 | [],s,k,h=>by
  have:k=0:=by simpa using h
  subst this;rfl
 | i::r,s,0,_=>rfl
 | i::r,s,k+1,h=>by
  show (scan f (f s i) r)[k]?=_;rw[oY f r (f s i) k (by simpa using h)];rfl
theorem mM(f:St->Nat->St):∀(r:List Nat)(s:St),∃L,scan f s r=L++[r.foldl f s]
 | [],s=>⟨[],rfl⟩
 | i::r,s=>by
  obtain⟨L,e⟩:=mM f r (f s i);exact⟨s::L,by rw[scan,e];rfl⟩
theorem Cd(r:List Nat):eV (.str (cy r))=some (r.map fun i=>WO.sg (cd i)):=by unfold cy;rw[WO.it_mk,I8];rfl
section
variable{H : PV}{hour : Int}(M : Mach H hour)
theorem rV:∀(r:List Nat)(s:St),M.ok s->∀x∈scan M.lead s r,M.ok x
 | [],s,h,x,hx=>by rw[HY.mp hx];exact h
 | i::r,s,h,x,hx=>by
  rcases Hr.mp hx with e | hx
  ·rw[e];exact h
  ·exact rV r _ (M.okl s h i) x hx
theorem u0:∀(r:List Nat)(s:St),M.ok s->M.ok (r.foldl M.lead s)
 | [],_,h=>h
 | i::r,s,h=>u0 r _ (M.okl s h i)
theorem mG(z row:PV):∀(r:List Nat)(s:St)(L:List PV)(a:Sl),M.ok s->L.length+r.length<=16000000->∃a',gq (ay 6) eZ (r.map fun i=>WO.sg (cd i)) [.val H,.val (.int hour),.val z,.val row,.val M.ways,.own (.lst (L++[s.pv])),a]=.ok (.next [.val H,.val (.int hour),.val z,.val row,.val M.ways,.own (.lst (L++(scan M.lead s r).map St.pv)),a'])
 | [],s,L,a,_,_=>⟨a,rfl⟩
 | i::r,s,L,a,hs,hl=>by
  rw[IG] at hl;obtain⟨X,e1,e2⟩:=M.fol s hs i;have hs':=M.okl s hs i;have g0:gIx s.pv (.int 0)=some (.str s.r):=rfl;have e0:ay 6 (WO.sg (cd i)) [.val H,.val (.int hour),.val z,.val row,.val M.ways,.own (.lst (L++[s.pv])),a]=some [.val H,.val (.int hour),.val z,.val row,.val M.ways,.own (.lst (L++[s.pv])),.val (WO.sg (cd i))]:=rfl;have hz:(L++[s.pv]).length<16777216:=by rw[Hv,J5];omega
  have b1:eZ [.val H,.val (.int hour),.val z,.val row,.val M.ways,.own (.lst (L++[s.pv])),.val (WO.sg (cd i))]=.ok (.next [.val H,.val (.int hour),.val z,.val row,.val M.ways,.own (.lst ((L++[s.pv])++[(M.lead s i).pv])),.val (WO.sg (cd i))]):=by
   have l:=mC L s.pv;have ng:pR (.int 1)=some (.int (-1)):=rfl;generalize L++[s.pv]=LS at *;generalize WO.sg (cd i)=G at *;generalize (M.lead s i).pv=S' at *;generalize s.pv=S at *;generalize M.ways=W1 at *;simp[eZ,ng,l,g0,e1,e2,hz]
  obtain⟨a',f⟩:=mG z row r (M.lead s i) (L++[s.pv]) (.val (WO.sg (cd i))) hs' (by rw[Hv,J5];omega);refine⟨a',?_⟩;rw[HI];unfold gq;rw[e0];simp only[R.ofO_some,R.ok_bind,b1];rw[show L++(scan M.lead s (i::r)).map St.pv=(L++[s.pv])++(scan M.lead (M.lead s i) r).map St.pv by simp[scan]];exact f
theorem o8(r:List Nat)(hl:r.length<=15000000):iE [H,.int hour,.str (cy r)]=some (.lst ((scan M.lead M.s0 r).map St.pv)):=by
 obtain⟨a,f⟩:=mG M M.s0.pv (.str (cy r)) r M.s0 [] .no M.ok0 (by simpa using by omega);have ei:=Cd r;have hW:=M.ew;have hb:=M.eb;simp only[Kh] at f;generalize (scan M.lead M.s0 r).map St.pv=T at *;generalize (r.map fun i=>WO.sg (cd i))=RS at *;generalize cy r=MR at *;generalize M.s0.pv=S0 at *;generalize M.ways=W1 at *
 have wo:gM [H,.int hour,S0,.str MR]=some (.lst T):=by
  refine aB rfl ?_;simp[jN,PU.start,hW,ei];rw[f];simp
 refine aB rfl ?_;simp[tK,PU.start,hb,wo]
theorem ya(r:List Nat)(hl:r.length<=15000000):∃W S,iE [H,.int hour,.str (cy r)]=some W/\gIx W (.int (-1))=some S/\bX [H,S]=some (hE (M.hp (r.foldl M.lead M.s0))):=by
 obtain⟨L,e⟩:=mM M.lead r M.s0;refine⟨_,(r.foldl M.lead M.s0).pv,o8 M r hl,?_,M.hrd _ (u0 M r _ M.ok0)⟩;rw[e,IH];exact mC _ _
def hs(r:List Nat):List (Str×Str):=(scan M.lead M.s0 r).map M.hp
theorem nH(r:List Nat)(hl:r.length<=15000000):dB [H,.lst ((scan M.lead M.s0 r).map St.pv)]=some (.lst ((hs M r).map hE)):=by
 have cc:cq (ay 0) kC de [.no,.val H] ((scan M.lead M.s0 r).map St.pv)=.ok ((scan M.lead M.s0 r).map fun s=>hE (M.hp s)):=
  WO.in_list_comp (enc:=St.pv) (h:=ay 0) (fe:=de) (ρ:=[.no,.val H]) (fun s=>hE (M.hp s)) (scan M.lead M.s0 r) fun s hs=>⟨[.val s.pv,.val H],rfl,by
   have e:=M.hrd s (rV M r M.s0 M.ok0 s hs);generalize hE (M.hp s)=HE at *;generalize s.pv=S at *;simp[de,e]⟩
 have z:((scan M.lead M.s0 r).map fun s=>hE (M.hp s)).length<=16777216:=by rw[HF,lF];omega
 have it:eV (.lst ((scan M.lead M.s0 r).map St.pv))=some ((scan M.lead M.s0 r).map St.pv):=rfl;have e:(hs M r).map hE=(scan M.lead M.s0 r).map fun s=>hE (M.hp s):=by unfold hs;rw[I8];rfl
 rw[e];generalize (scan M.lead M.s0 r).map (fun s=>hE (M.hp s))=HS at *;generalize (scan M.lead M.s0 r).map St.pv=SS at *;refine aB rfl ?_;simp[gp,PU.start,it,bU,roS,cc,z]
theorem pO(r:List Nat)(k:Nat)(hk:k<=r.length):(hs M r)[k]?=some (M.hp ((r.take k).foldl M.lead M.s0)):=by
 unfold hs;rw[HW,oY _ r _ k hk];rfl
theorem pN(r:List Nat):(hs M r).length=r.length+1:=by unfold hs;rw[HF,lF]
end
theorem FK{H G:PV}{hour:Int}(M:Mach H hour)(N:Mach G hour):∀(r:List Nat)(s:P2),BF.run (bL M N) s r=(r.foldl M.lead s.1,r.foldl N.lead s.2)
 | [],_=>rfl
 | i::r,s=>FK M N r (bL M N s i)
abbrev uT{H G:PV}{hour:Int}(M:Mach H hour)(N:Mach G hour)(q:List Nat):Prop:=M.hp (q.foldl M.lead M.s0)=N.hp (q.foldl N.lead N.s0)
theorem lY{H G:PV}{hour:Int}(M:Mach H hour)(N:Mach G hour)(q:List Nat):cL M N (BF.run (bL M N) (M.s0,N.s0) q)=!decide (uT M N q):=by rw[FK];rfl
theorem oe {H G:PV} {hour:Int} (M:Mach H hour) (N:Mach G hour):(∃L,bH [H,G,.int hour]=some (.tup [.str "alike",L])/\∀q:List Nat,(∀i∈q,i<13)->uT M N q) ∨
  ∃t L,bH [H,G,.int hour]=some (.tup [.str "apart",.str (cy t),L])/\(∀i∈t,i<13)/\t.length<=10497600/\¬ uT M N t/\∀q:List Nat,(∀i∈q,i<13)->BF.lt q t->uT M N q:=by
 obtain⟨found,I,h⟩:=qT M N;rcases h with⟨W,e⟩|⟨init,fin,rfl,S,e⟩
 ·refine .inl ⟨_,e,fun q hq=>?_⟩
  have:=BF.whole_rows I W q hq;rw[lY] at this;simpa using this
 ·have fm:fin∈init++[fin]:=by simp
  refine .inr ⟨fin.2,_,e,I.rng fin fm,?_,?_,fun q hq hl=>?_⟩
  ·have h1:=I.len init.length fin (by simp)
   have h2:=(lg M N _ ⟨M.ok0,N.ok0⟩ I).2;rw[Hv,J5] at h2;omega
  ·have:=S.1
   rw[← I.run fin fm,lY] at this;simpa using this
  ·have:=BF.stops_rows I S q hq hl
   rw[lY] at this;simpa using this
theorem pq:∀l:List (Str×Str),cR (l.map hE)<=3
 | []=>by simp[cR]
 | x::l=>by
  have:=pq l;simp[cR,v7,hE] at this ⊢;omega
theorem su:∀l:List (Str×Str),c8 (l.map hE) (l.map hE)=some true
 | []=>rfl
 | x::l=>by
  have e1:bE (hE x) (hE x)=some true:=by
   show c8 [PV.str x.1,.str x.2] [PV.str x.1,.str x.2]=_;simp[c8,bE]
  simp[c8,e1,su l]
theorem F7(l:List (Str×Str)):gEq (.lst (l.map hE)) (.lst (l.map hE))=some (.bl true):=by
 have z:=pq l;have q:gEq (.lst (l.map hE)) (.lst (l.map hE))=if cR (l.map hE)<=60 then (c8 (l.map hE) (l.map hE)).map .bl else none:=rfl
 rw[q,if_pos (by omega),su];rfl
theorem zQ{α β:Type}(f:α->β)(l:List α)(a b:Option Int):iN (l.map f) a b=(iN l a b).map f:=by
 unfold iN;rw[HF,← List.map_drop,← List.map_take]
theorem ixs:∀i:Nat,i<13->gIx (.str "0123456789*#w") (.int i)=some (WO.sg (cd i))
 | 0,_=>by kernel_rfl
 | 1,_=>by kernel_rfl
 | 2,_=>by kernel_rfl
 | 3,_=>by kernel_rfl
 | 4,_=>by kernel_rfl
 | 5,_=>by kernel_rfl
 | 6,_=>by kernel_rfl
 | 7,_=>by kernel_rfl
 | 8,_=>by kernel_rfl
 | 9,_=>by kernel_rfl
 | 10,_=>by kernel_rfl
 | 11,_=>by kernel_rfl
 | 12,_=>by kernel_rfl
 | n+13,h=>by omega
theorem vI(zs:List Int):cq (ay 0) kC ml [.no] (zs.map PV.int)=.ok ((zs.map fun z=>(z % 13).toNat).map fun i=>WO.sg (cd i)):=by
 have:=WO.in_list_comp (enc:=PV.int) (h:=ay 0) (fe:=ml) (ρ:=[.no]) (fun z:Int=>WO.sg (cd (z % 13).toNat)) zs fun z _=>⟨[.val (.int z)],rfl,by
  have m:cU (.int z) (.int 13)=some (.int (z % 13)):=ft (by decide);have e:=ixs (z % 13).toNat (by omega);rw[show (((z % 13).toNat:Nat):Int)=z % 13 by omega] at e;generalize WO.sg (cd (z % 13).toNat)=G at *;simp[ml,m,e]⟩
 rw[I8];exact this
abbrev wg(S A B C H G:PV)(hour:Int)(r t:List Nat)(T X Y:PV)(a:Sl):PSt:=[.val S,.val A,.val B,.val C,.val H,.val G,.val (.int hour),.val (.str (cy r)),.val T,.val X,.val Y,.val (.str (cy t)),a]
theorem EC{H G:PV}{hour:Int}(M:Mach H hour)(N:Mach G hour)(S A B C T:PV)(r t:List Nat)(hr:∀i∈r,i<13)(rl:r.length<=1000)(ht:∀i∈t,i<13)(tl:t.length<=10497600)(hs':∀q:List Nat,(∀i∈q,i<13)->BF.lt q t->uT M N q) :
  ∃a,gq (ay 12) km (bM 0 (r.length+1)) (wg S A B C H G hour r t T (.lst ((hs M r).map hE)) (.lst ((hs N r).map hE)) .no)=.ok (.next (wg S A B C H G hour r t T (.lst ((hs M r).map hE)) (.lst ((hs N r).map hE)) a)):=by
 obtain⟨ρ',f1,a,rfl⟩:=forR (n:=r.length+1) (lo:=0) (h:=ay 12) (g:=km) (ρ:=wg S A B C H G hour r t T (.lst ((hs M r).map hE)) (.lst ((hs N r).map hE)) .no)
  (I:=fun k ρ=>∃a,ρ=wg S A B C H G hour r t T (.lst ((hs M r).map hE)) (.lst ((hs N r).map hE)) a) ⟨_,rfl⟩ (by
   rintro k ρ hk ⟨a,rfl⟩;rw[M3];have hq:∀i∈r.take k,i<13:=fun i hi=>hr i (NO hi)
   have sl:vc (.str (cy r)) none (some (k:Int))=some (.str (cy (r.take k))):=by
    unfold cy;rw[vm _ _ (by rw[ck,HF];omega),iU,List.map_take]
   obtain⟨z,ez,hz⟩:=F8 (r.take k) t hq ht (by rw[JJ];omega) (by omega);have i1:gIx (.lst ((hs M r).map hE)) (.int (k:Nat))=some (hE (M.hp ((r.take k).foldl M.lead M.s0))):=bj (n:=k) rfl (by rw[HW,pO M r k (by omega)];rfl);have i2:gIx (.lst ((hs N r).map hE)) (.int (k:Nat))=some (hE (N.hp ((r.take k).foldl N.lead N.s0))):=bj (n:=k) rfl (by rw[HW,pO N r k (by omega)];rfl);have e3:=(Dy (M.hp ((r.take k).foldl M.lead M.s0)) (N.hp ((r.take k).foldl N.lead N.s0))).1;refine⟨wg S A B C H G hour r t T (.lst ((hs M r).map hE)) (.lst ((hs N r).map hE)) (.val (.int (k:Nat))),wg S A B C H G hour r t T (.lst ((hs M r).map hE)) (.lst ((hs N r).map hE)) (.val (.int (k:Nat))),rfl,.inl ?_,_,rfl⟩;cases z with
   | false=>
    simp only[wg];generalize (hs M r).map hE=X1 at *;generalize (hs N r).map hE=X2 at *;generalize cy (r.take k)=RK at *;generalize cy r=RR at *;generalize cy t=RT at *;simp[km,sl,ez]
   | true=>
    rw[decide_eq_true (hs' (r.take k) hq (hz rfl))] at e3;simp only[wg];generalize hE (M.hp ((r.take k).foldl M.lead M.s0))=A1 at *;generalize hE (N.hp ((r.take k).foldl N.lead N.s0))=A2 at *;generalize (hs M r).map hE=X1 at *;generalize (hs N r).map hE=X2 at *;generalize cy (r.take k)=RK at *;generalize cy r=RR at *;generalize cy t=RT at *;simp[km,sl,ez,i1,i2,e3])
 exact⟨a,f1⟩
theorem wj(ns:List Int):ub [.lst (ns.map .int)]=some (.bl true):=by
 refine aB rfl ?_;have cc:∀k:Nat,aw [PV.lst (ns.map PV.int),PV.int k]=some (PV.int (ns.getD k 0)):=zY ns;have c0:aw [PV.lst (ns.map PV.int),PV.int 0]=_:=cc 0;have c1:aw [PV.lst (ns.map PV.int),PV.int 1]=_:=cc 1;have c2:aw [PV.lst (ns.map PV.int),PV.int 2]=_:=cc 2;have c3:aw [PV.lst (ns.map PV.int),PV.int 3]=_:=cc 3;have c4:aw [PV.lst (ns.map PV.int),PV.int 4]=_:=cc 4;have c5:aw [PV.lst (ns.map PV.int),PV.int 5]=_:=cc 5;generalize ns.getD 0 0=z0 at c0;generalize ns.getD 1 0=z1 at c1;generalize ns.getD 2 0=z2 at c2;generalize ns.getD 3 0=z3 at c3;generalize ns.getD 4 0=z4 at c4;generalize ns.getD 5 0=z5 at c5;clear cc;have m24:cU (.int z4) (.int 24)=some (.int (z4 % 24)):=ft (by decide);generalize z4 % 24=hour at m24;have d2:rj (.int z5) (.int 2)=some (.int (z5 / 2)):=qg (by decide);have m2:cU (.int z5) (.int 2)=some (.int (z5 % 2)):=ft (by decide);have mm:qN (.int (z5 / 2)) (.int (z5 % 2))=some (.int (z5 / 2 * (z5 % 2))):=if_pos (.inr (by omega));generalize z5 / 2 * (z5 % 2)=od at mm;obtain⟨nms,a1,a2,a3,en⟩:=names z0;obtain⟨mms,b1,b2,b3,em⟩:=names z3;obtain⟨X1,h1,ord1,hg1,eh1⟩:=Cm nms a1 a2 a3 z1 z2 0;obtain⟨X2,h2,ord2,hg2,eh2⟩:=Cm mms b1 b2 b3 z1 z2 od;obtain⟨M⟩:=@sI X1 h1 nms ord1 hg1 hour;obtain⟨N⟩:=@sI X2 h2 mms ord2 hg2 hour
 have sl:gSl (.lst (ns.map PV.int)) (some 7) (some 207)=some (.lst ((iN ns (some 7) (some 207)).map PV.int)):=by
  show some (PV.lst (iN (ns.map PV.int) (some 7) (some 207)))=_;rw[zQ]
 have zl:(iN ns (some 7) (some 207)).length<=207:=by
  unfold iN;rw[JJ];have e:HT.sIx ns.length ns.length (some 207)=O5 207 ns.length:=HT.sIx_nat ns.length ns.length 207;rw[e];omega
 generalize iN ns (some 7) (some 207)=zs at sl zl;have it:eV (.lst (zs.map PV.int))=some (zs.map PV.int):=rfl;have rc:=vI zs;obtain⟨r,er⟩:∃r,r=zs.map fun z=>(z % 13).toNat:=⟨_,rfl⟩
 have hr:∀i∈r,i<13:=fun i hi=>by
  rw[er] at hi;obtain⟨z,_,rfl⟩:=HN.mp hi;omega
 have rl:r.length<=207:=by rw[er,HF];exact zl
 rw[← er] at rc;have z1':(r.map fun i=>WO.sg (cd i)).length<=16777216:=by rw[HF];omega
 have jn:oM (.str "") (.lst (r.map fun i=>WO.sg (cd i)))=some (.str (cy r)):=by
  have:=WO.joinV (r.map cd) (by rw[HF];omega);rw[I8] at this;exact this
 have w1:=o8 M r (by omega);have w2:=o8 N r (by omega);have v1:=nH M r (by omega);have v2:=nH N r (by omega)
 have l1:iZ (.lst ((hs M r).map hE))=some (.int ((r.length:Int)+1)):=by
  show some (PV.int (((hs M r).map hE).length:Int))=_;rw[HF,pN];rfl
 have l2:iZ (.lst ((hs N r).map hE))=some (.int ((r.length:Int)+1)):=by
  show some (PV.int (((hs N r).map hE).length:Int))=_;rw[HF,pN];rfl
 have l3:iZ (.str (cy r))=some (.int r.length):=by
  unfold cy;rw[fu (by rw[ck,HF];omega),ck,HF]
 have nn:=sH ((r.length:Int)+1) ((r.length:Int)+1);rw[decide_eq_true rfl] at nn;rcases oe M N with⟨L,ec,hA⟩|⟨t,L,ec,ht,tl,hd,hB⟩
 ·have eqh:hs M r=hs N r:=by
   refine List.ext_getElem? fun k=>?_
   by_cases hk:k<=r.length
   ·rw[pO M r k hk,pO N r k hk,hA (r.take k) fun i hi=>hr i (NO hi)]
   ·rw[Jm (by rw[pN];omega),Jm (by rw[pN];omega)]
  have q1:=F7 (hs N r);rw[eqh] at v1 l1
  obtain⟨L',ec'⟩:∃L',bH [h2.pv,h1.pv,.int hour]=some (.tup [.str "alike",L']):=by
   rcases oe N M with⟨L',e,_⟩|⟨t,_,_,ht,_,hd,_⟩
   ·exact⟨L',e⟩
   ·exact absurd (hA t ht).symm hd
  have g0:gIx (.tup [.str "alike",L]) (.int 0)=some (.str "alike"):=rfl;have g0':gIx (.tup [.str "alike",L']) (.int 0)=some (.str "alike"):=rfl;have qa:gEq (.str "alike") (.str "alike")=some (.bl true):=by rw[ly,decide_eq_true rfl]
  generalize PV.tup [.str "alike",L]=T1 at *;generalize PV.tup [.str "alike",L']=T2 at *;generalize (hs N r).map hE=X at *;generalize (scan M.lead M.s0 r).map St.pv=S1 at *;generalize (scan N.lead N.s0 r).map St.pv=S2 at *;generalize (r.map fun i=>WO.sg (cd i))=RS at *;generalize cy r=RR at *;generalize zs.map PV.int=ZS at *;generalize ns.map PV.int=NS at *;generalize nms.map PV.str=NM1 at *;generalize mms.map PV.str=NM2 at *;generalize h1.pv=H at *;generalize h2.pv=G at *;simp[tP,PU.start,c0,c1,c2,c3,c4,c5,d2,m2,mm,en,em,eh1,eh2,m24,sl,it,bU,rc,z1',jn,ec,w1,w2,v1,v2,l1,l3,nn,g0,g0',qa,q1,ec']
 ·obtain⟨L',ec'⟩:∃L',bH [h2.pv,h1.pv,.int hour]=some (.tup [.str "apart",.str (cy t),L']):=by
   rcases oe N M with⟨L',e,h⟩|⟨t',L',e,ht',_,hd',hB'⟩
   ·exact absurd (h t ht).symm hd
   ·have:t'=t:=by
     rcases BF.lt_tri t' t with z | z | z
     ·exact absurd (hB t' ht' z).symm hd'
     ·exact z
     ·exact absurd (hB' t ht z).symm hd
    subst this;exact⟨L',e⟩
  have g0:gIx (.tup [.str "apart",.str (cy t),L]) (.int 0)=some (.str "apart"):=rfl;have g1:gIx (.tup [.str "apart",.str (cy t),L]) (.int 1)=some (.str (cy t)):=rfl;have qa:gEq (.str "apart") (.str "alike")=some (.bl false):=by rw[ly,decide_eq_false (by decide +kernel)]
  have s2:gSl (.tup [.str "apart",.str (cy t),L']) none (some 2)=some (.tup [.str "apart",.str (cy t)]):=rfl
  have qe:gEq (.tup [.str "apart",.str (cy t)]) (.tup [.str "apart",.str (cy t)])=some (.bl true):=by
   have:=(Dy ("apart",cy t) ("apart",cy t)).2;rw[decide_eq_true rfl] at this;exact this
  obtain⟨W1,S1,f1,f2,f3⟩:=ya M t (by omega);obtain⟨W2,S2,f4,f5,f6⟩:=ya N t (by omega);have qn:=(Dy (M.hp (t.foldl M.lead M.s0)) (N.hp (t.foldl N.lead N.s0))).2;rw[decide_eq_false hd] at qn;obtain⟨a,fl⟩:=EC M N (.lst (ns.map PV.int)) (.int z1) (.int z2) (.int od) (.tup [.str "apart",.str (cy t),L]) r t hr (by omega) ht tl hB
  have rg:Dw (.int ((r.length:Int)+1))=.ok (bM 0 (r.length+1)):=by
   rw[rE (by omega) (by omega)];rfl
  have ng:pR (.int 1)=some (.int (-1)):=rfl;simp only[wg] at fl;generalize PV.tup [.str "apart",.str (cy t),L]=T1 at *;generalize PV.tup [.str "apart",.str (cy t),L']=T2 at *;generalize hE (M.hp (t.foldl M.lead M.s0))=A1 at *;generalize hE (N.hp (t.foldl N.lead N.s0))=A2 at *;generalize (hs M r).map hE=X at *;generalize (hs N r).map hE=Y at *;generalize (scan M.lead M.s0 r).map St.pv=SS1 at *;generalize (scan N.lead N.s0 r).map St.pv=SS2 at *;generalize (r.map fun i=>WO.sg (cd i))=RS at *;generalize cy r=RR at *;generalize cy t=RT at *;generalize zs.map PV.int=ZS at *;generalize ns.map PV.int=NS at *;generalize nms.map PV.str=NM1 at *;generalize mms.map PV.str=NM2 at *;generalize h1.pv=H at *;generalize h2.pv=G at *;generalize bM 0 (r.length+1)=RG at *;simp[tP,PU.start,c0,c1,c2,c3,c4,c5,d2,m2,mm,en,em,eh1,eh2,m24,sl,it,bU,rc,z1',jn,ec,w1,w2,v1,v2,l1,l2,l3,nn,g0,g1,qa,rg];rw[fl];simp[f1,f2,f3,f4,f5,f6,qn,ng,ec',s2,qe,ot]
end K40
namespace K40
open PySem PySem.Spec PyProof.Rows L2 PU
seal EV EO EN EA ET EW SV SVs TGt Ag TCt Ah EI ETs ED EOI ELF EVF ENF ETF SVF
def top(i:Nat):Stmt:=IW.main.body.getD i (.Pass ⟨0,0,0,0⟩)
structure Txt(w:IA)(K:HA)(mg:Str->Option HB):Prop where
 n_dict:mg "dict"=none
 n_enumerate:mg "enumerate"=none
 n_int:mg "int"=none
 n_len:mg "len"=none
 n_list:mg "list"=none
 n_range:mg "range"=none
 n_tuple:mg "tuple"=none
 n_zip:mg "zip"=none
 c_CODE_END:@Con (tw w) K mg "CODE_END" c_CODE_END
 c_HEARD:@Con (tw w) K mg "HEARD" c_HEARD
 c_SIGNS:@Con (tw w) K mg "SIGNS" c_SIGNS
 c_WAIT:@Con (tw w) K mg "WAIT" c_WAIT
end K40
namespace K40
open PySem PySem.Spec PyProof.Rows L2 PU
seal EV EO EN EA ET EW SV SVs TGt Ag TCt Ah EI ETs ED EOI ELF EVF ENF ETF SVF
variable{P : HX}{w : IA}{K : HA}{mg : Str → Option HB}{base : Heap}
abbrev eN:Stmt:=top 33
theorem ku:FnScope ["_law_script","_law_k"] ["_law_script","_law_k"] (ah eN):=fsc
theorem aV (T:Txt w K mg) (hs:Hs K mg "_law_cell_at" eN):@PF (tw w) P w K mg base 1 "_law_cell_at" aw:=
 letI:TW:=tw w
 iA (g:=d9) hs ku fun _ _ _ _ _ _ _ hr=>have hu:=hr.units;(ab (du (bh Es oJ (av 1) (EV.o (jW uI rfl T.n_len rfl (av 0)))) (aj (aJ (ao (ixP hu) (av 0) (av 1)))) bg) (aj (aJ aN)))
abbrev eM:Stmt:=top 34
theorem b9:FnScope ["_law_cell","_law_many","_law_found","_law_number","_law_k"] ["_law_cell","_law_many"] (ah eM):=fsc
theorem bJ (T:Txt w K mg) (hs:Hs K mg "_law_numbers" eM):@PF (tw w) P w K mg base 1 "_law_numbers" aW:=
 letI:TW:=tw w
 iA (g:=d8) hs b9 fun _ _ _ _ _ _ _ hr=>have hu:=hr.units;(ab (g9 2 b9.nd (eB ai)) (ab (aH 3 b9.nd (ar qF (av 0) ae)) (ab (du (bh (iD hu) bF (EV.o (ar bK (av 0) ae)) ae) (ab (cZ (fP rfl T.n_range (aC 1)) (bw 4 b9.nd) (ab (dY 2 (ar bK (av 3) ae)) (aj (aH 3 b9.nd (ar qF (av 3) ae))))) (aj (SV.frz 2 (aJ (aC 2))))) bg) (ab (aH 3 b9.nd (ar bK (av 3) ae)) (ab (cZ (fP rfl T.n_range (ar dy (av 1) ae)) (bw 4 b9.nd) (ab (aH 3 b9.nd (ar bK (EV.o (ar sE (EV.o (ar dy (EV.o (ar dy (av 3) (av 4))) ae)) ae)) ae)) (aj (dY 2 (ar bK (EV.o (ar sE (av 3) ae)) ae))))) (aj (aJ (jc (wL 2) (cV aN) dP))))))))
abbrev gh:Stmt:=top 36
theorem aF:FnScope ["_law_names_here","_law_one","_law_two","_law_odd","_law_some","_law_more","_law_keys","_law_k","_law_key","_law_to","_law_waits","_law_menu","_law_words","_law_room","_law_span","_law_rooms","_law_letters"] ["_law_names_here","_law_one","_law_two","_law_odd"] (ah gh):=fsc
theorem dI (T:Txt w K mg) (hs:Hs K mg "_law_house" gh) (bJ:@PF (tw w) P w K mg base 1 "_law_numbers" aW):@PF (tw w) P w K mg base 2 "_law_house" dA:=
 letI:TW:=tw w
 iA (g:=gn) hs aF fun _ _ _ _ _ _ _ hr=>have hu:=hr.units;(ab (aH 4 aF.nd (aq bJ hr (a0 (aC 1) (a0 aN ai)))) (ab (aH 5 aF.nd (aq bJ hr (a0 (aC 2) (a0 aN ai)))) (ab (g9 6 aF.nd (eB ai)) (ab (cZ (zL rfl T.n_enumerate aI) (oS rfl (d7 (bw 7 aF.nd) (d7 (bw 8 aF.nd) lB))) (aj (du (EW.et (nO (bh (iD hu) bF (EV.o (ar bK (EV.o (ao (ixP hu) (av 4) (av 7))) ae)) ae) (jU (EW.et (zF (bh (Ao hu) jI (EV.o (ar bK (av 3) ae)) ae) (uc (bh (Ao hu) jI (EV.o (ar bK (EV.o (ar qF (av 3) ae)) ae)) (av 7)))))))) (ab (aH 9 aF.nd (ao (ixP hu) (av 4) (EV.o (ar dy (av 7) ae)))) (ab (du (EW.et (nO (bh (iD hu) bF (EV.o (ar bK (av 3) ae)) ae) (jU (bh (iD hu) bF (EV.o (ar bK (EV.o (ar qF (av 3) ae)) ae)) (av 7))))) (aj (aH 9 aF.nd (ar dy (av 9) ae))) bg) (aj (dY 6 (aR (a0 (aC 8) (a0 (ao (ixP hu) (EV.o (ar dy (av 0) (EN.o (eB (a0 aI ai))))) (EV.o (ar bK (av 9) ae))) ai))))))) bg))) (ab (aH 10 aF.nd (aR (a0 (ar dy ae (EV.o (ar bK (EV.o (ar dy (EV.o (ao (ixP hu) (av 4) ae)) (EV.o (ud cInt rfl T.n_int rfl (EV.o (gR (iD hu) (EV.o (ar bK (av 3) ae)) ae)))))) ae))) (a0 (ao (ixP hu) (av 0) (EV.o (ar bK (EV.o (ao (ixP hu) (av 4) ae)) ae))) ai)))) (ab (aH 11 aF.nd (aR (a0 aI (a0 aI (a0 (ud CS rfl T.n_tuple rfl (wL 6)) (a0 (aR (a0 (ar dy ae (EV.o (ar bK (EV.o (ao (ixP hu) (av 4) ae)) ae))) (a0 (ao (ixP hu) (av 0) (EV.o (ar bK (EV.o (ao (ixP hu) (av 4) ae)) ae))) ai))) (a0 (aC 10) ai))))))) (ab (aH 12 aF.nd (ue (EV.o (aR (a0 (aR (a0 aI (a0 (ao (ixP hu) (av 0) (EV.o (ar bK (EV.o (ar dy (EV.o (ao (ixP hu) (av 5) ae)) (EV.o (ud cInt rfl T.n_int rfl (EV.o (gR (iD hu) (EV.o (ar bK (av 3) ae)) ae)))))) ae))) ai))) (a0 (aR (a0 aI (a0 (ao (ixP hu) (av 0) (EV.o (ar bK (EV.o (ao (ixP hu) (av 5) ae)) ae))) ai))) ai)))) dP (cV (ar dy ae (EV.o (ar bK (EV.o (ao (ixP hu) (av 5) ae)) ae)))))) (ab (aH 13 aF.nd (aR (a0 aI (a0 (ao (ixP hu) (EN.o (eB (a0 aI (a0 aI ai)))) (EV.o (ar bK (EV.o (ao (ixP hu) (av 5) ae)) ae))) (a0 (aC 12) (a0 (aR (a0 aN (a0 (ao (ixP hu) (av 0) (EV.o (ar bK (EV.o (ao (ixP hu) (av 5) ae)) ae))) ai))) (a0 (aR (a0 aN (a0 (ao (ixP hu) (av 0) (EV.o (ar bK (EV.o (ao (ixP hu) (av 5) ae)) ae))) ai))) ai))))))) (ab (aH 14 aF.nd (aR (a0 (ar bK (EV.o (ao (ixP hu) (av 5) ae)) ae) (a0 aN (a0 (ao (ixP hu) (av 0) (EV.o (ao (ixP hu) (EN.o (eB (a0 aN (a0 aN (a0 aN ai))))) (EV.o (ar bK (EV.o (ao (ixP hu) (av 5) ae)) ae))))) ai))))) (ab (g9 15 aF.nd (um (ik (ao (ixP hu) (av 0) ae) (aC 11) (ik (ao (ixP hu) (av 0) ae) (aC 13) (ik (ao (ixP hu) (av 0) ae) (aR (a0 aI (a0 (aR (a0 (aC 14) ai)) (a0 (ao (ixP hu) (av 0) (EV.o (ao (ixP hu) (EN.o (eB (a0 aN (a0 aN (a0 aN ai))))) (EV.o (ar bK (EV.o (ao (ixP hu) (av 5) ae)) ae))))) ai)))) yb))))) (ab (kK 15 hu (ao (ixP hu) (av 0) ae) (aR (a0 aI (a0 (ao (ixP hu) (EN.o (eB (a0 aI (a0 aI ai)))) (EV.o (ud cInt rfl T.n_int rfl (EV.o (gR (iD hu) (EV.o (ar bK (av 3) ae)) ae))))) ai)))) (ab (kK 15 hu (ao (ixP hu) (av 0) ae) (aR (a0 aI (a0 (ao (ixP hu) (EN.o (eB (a0 aI (a0 aI (a0 aI ai))))) (EV.o (ar bK (EV.o (ao (ixP hu) (av 5) ae)) ae))) ai)))) (ab (aH 16 aF.nd (EN.v (eB (a0 (aR (a0 aI (a0 aI ai))) (a0 (aR (a0 aI (a0 aI ai))) (a0 (aR (a0 aI (a0 aI ai))) (a0 (aR (a0 aI (a0 aI ai))) ai))))))) (ab (du (EW.et (nO (bh (iD hu) bF (EV.o (ar bK (av 3) ae)) ae) (jU (bh (iD hu) bF (EV.o (ar bK (EV.o (ar qF (av 3) ae)) ae)) ae)))) (aj (aH 16 aF.nd (EN.v (eB (a0 (aR (a0 aI (a0 aI ai))) (a0 (aR (a0 aI (a0 aI ai))) (a0 (aR (a0 aI (a0 aI ai))) (a0 (aR (a0 aI (a0 aI ai))) ai)))))))) bg) (aj (SV.frz 15 (aJ (EN.v (um (ik aI (ao (ixP hu) (av 0) (EV.o (ar bK (EV.o (ao (ixP hu) (av 5) ae)) ae))) (ik aI (aC 16) (ik aI (aC 15) yb))))))))))))))))))))))
abbrev lK:Stmt:=top 1
theorem gz:FnScope ["room","hour","since","till","name"] ["room","hour"] (ah lK):=fsc
theorem jv (T:Txt w K mg) (hs:Hs K mg "handed" lK):@PF (tw w) P w K mg base 1 "handed" jb:=
 letI:TW:=tw w
 iA (g:=iY) hs gz fun _ _ _ _ _ _ _ hr=>have hu:=hr.units;(ab (cZ (eC (ao (ixP hu) (av 0) ae)) (oS rfl (d7 (bw 2 gz.nd) (d7 (bw 3 gz.nd) (d7 (bw 4 gz.nd) lB)))) (aj (du (wK GF Es zw oJ (av 2) (av 1) (av 3)) (aj (aJ (aC 4))) bg))) (aj (aJ (ao (ixP hu) (av 0) ae))))
abbrev jo:Stmt:=top 2
theorem gZ:FnScope ["H","hour","name","come"] ["H","hour","name"] (ah jo):=fsc
theorem ia (T:Txt w K mg) (hs:Hs K mg "come_to" jo) (jv:@PF (tw w) P w K mg base 1 "handed" jb):@PF (tw w) P w K mg base 2 "come_to" gO:=
 letI:TW:=tw w
 iA (g:=jP) hs gZ fun _ _ _ _ _ _ _ hr=>have hu:=hr.units;(ab (aH 3 gZ.nd (aC 2)) (ab (oV 300 (bh (iD hu) bF (EV.o (ao (ixP hu) (EV.o (ao (ixP hu) (EV.o (ao (ixP hu) (av 0) cx)) (av 3))) ae)) cx) (aj (aH 3 gZ.nd (aq jv hr (a0 (ao (ixP hu) (EV.o (ao (ixP hu) (av 0) cx)) (av 3)) (a0 (aC 1) ai)))))) (aj (aJ (aC 3)))))
abbrev jt:Stmt:=top 14
theorem qv:FnScope ["H","hour","name","back"] ["H","hour","name","back"] (ah jt):=fsc
theorem bS (T:Txt w K mg) (hs:Hs K mg "arrival" jt) (ia:@PF (tw w) P w K mg base 2 "come_to" gO):@PF (tw w) P w K mg base 3 "arrival" bI:=
 letI:TW:=tw w
 iA (g:=jR) hs qv fun _ _ _ _ _ _ _ hr=>have hu:=hr.units;(aj (aJ (aR (a0 (aq ia hr (a0 (aC 0) (a0 (aC 1) (a0 (aC 2) ai)))) (a0 (aC 3) (a0 aN (a0 aN (a0 aI ai))))))))
abbrev dQ:Stmt:=top 20
theorem dv:FnScope ["H","hour","state","bound","wrong"] ["H","hour","state"] (ah dQ):=fsc
theorem cD (T:Txt w K mg) (hs:Hs K mg "by_wrong_key" dQ) (bS:@PF (tw w) P w K mg base 3 "arrival" bI):@PF (tw w) P w K mg base 4 "by_wrong_key" bx:=
 letI:TW:=tw w
 iA (g:=cO) hs dv fun _ _ _ _ _ _ _ hr=>have hu:=hr.units;(ab (aH 3 dv.nd (ao (ixP hu) (EV.o (ao (ixP hu) (EV.o (ao (ixP hu) (av 0) cx)) (EV.o (ao (ixP hu) (av 2) ae)))) ae)) (ab (aH 4 dv.nd (ar dy (EV.o (ao (ixP hu) (av 2) ae)) ae)) (ab (du (bh (iD hu) bF (av 4) (EV.o (ao (ixP hu) (av 3) ae))) (aj (aJ (aq bS hr (a0 (aC 0) (a0 (aC 1) (a0 (ao (ixP hu) (av 3) ae) (a0 (ao (ixP hu) (av 2) ae) ai))))))) bg) (aj (aJ (aR (a0 (ao (ixP hu) (av 2) ae) (a0 (ao (ixP hu) (av 2) ae) (a0 (aC 4) (a0 (ao (ixP hu) (av 2) ae) (a0 aI ai)))))))))))
abbrev lM:Stmt:=top 19
theorem jk:FnScope ["H","hour","ways","state","key","typed","target"] ["H","hour","ways","state","key"] (ah lM):=fsc
theorem jw (T:Txt w K mg) (hs:Hs K mg "by_key" lM) (cD:@PF (tw w) P w K mg base 4 "by_wrong_key" bx) (bS:@PF (tw w) P w K mg base 3 "arrival" bI):@PF (tw w) P w K mg base 5 "by_key" da:=
 letI:TW:=tw w
 iA (g:=eW) hs jk fun _ _ _ _ _ _ _ hr=>have hu:=hr.units;(ab (aH 5 jk.nd (ar dy (EV.o (ao (ixP hu) (av 3) ae)) (av 4))) (ab (du (bh (yZ hu) qL (av 5) (av 2)) (aj (aJ (aq cD hr (a0 (aC 0) (a0 (aC 1) (a0 (aC 3) ai)))))) bg) (ab (aH 6 jk.nd (Cu (bh (iD hu) bF (EV.o (ao (ixP hu) (av 2) (av 5))) cx) (ao (ixP hu) (av 3) ae) (ao (ixP hu) (av 2) (av 5)))) (ab (du (bh Et wA (av 6) (EV.o nQ)) (aj (aJ (aR (a0 (ao (ixP hu) (av 3) ae) (a0 (ao (ixP hu) (av 3) ae) (a0 (ao (ixP hu) (av 3) ae) (a0 (ao (ixP hu) (av 3) ae) (a0 (aC 5) ai)))))))) bg) (ab (du (bh (iD hu) bF (av 6) cx) (aj (aJ (aq cD hr (a0 (aC 0) (a0 (aC 1) (a0 (aC 3) ai)))))) bg) (aj (aJ (aq bS hr (a0 (aC 0) (a0 (aC 1) (a0 (aC 6) (a0 (ao (ixP hu) (av 3) ae) ai))))))))))))
abbrev jr:Stmt:=top 21
theorem hV:FnScope ["H","hour","state","bound","waits"] ["H","hour","state"] (ah jr):=fsc
theorem ic (T:Txt w K mg) (hs:Hs K mg "by_wait" jr) (bS:@PF (tw w) P w K mg base 3 "arrival" bI):@PF (tw w) P w K mg base 4 "by_wait" gQ:=
 letI:TW:=tw w
 iA (g:=gH) hs hV fun _ _ _ _ _ _ _ hr=>have hu:=hr.units;(ab (aH 3 hV.nd (ao (ixP hu) (EV.o (ao (ixP hu) (EV.o (ao (ixP hu) (av 0) cx)) (EV.o (ao (ixP hu) (av 2) ae)))) ae)) (ab (aH 4 hV.nd (ar dy (EV.o (ao (ixP hu) (av 2) ae)) ae)) (ab (du (bh (iD hu) bF (av 4) (EV.o (ao (ixP hu) (av 3) ae))) (aj (aJ (aq bS hr (a0 (aC 0) (a0 (aC 1) (a0 (ao (ixP hu) (av 3) ae) (a0 (ao (ixP hu) (av 2) ae) ai))))))) bg) (aj (aJ (aR (a0 (ao (ixP hu) (av 2) ae) (a0 (ao (ixP hu) (av 2) ae) (a0 (ao (ixP hu) (av 2) ae) (a0 (aC 4) (a0 aI ai)))))))))))
abbrev lL:Stmt:=top 18
theorem mN:FnScope ["H","hour","ways","state","sign","kind"] ["H","hour","ways","state","sign"] (ah lL):=fsc
theorem cQ (T:Txt w K mg) (hs:Hs K mg "follow" lL) (ic:@PF (tw w) P w K mg base 4 "by_wait" gQ) (jw:@PF (tw w) P w K mg base 5 "by_key" da):@PF (tw w) P w K mg base 6 "follow" bN:=
 letI:TW:=tw w
 iA (g:=dM) hs mN fun _ _ _ _ _ _ _ hr=>have hu:=hr.units;(ab (aH 5 mN.nd (ao (ixP hu) (EV.o (ao (ixP hu) (EV.o (ao (ixP hu) (av 0) cx)) (EV.o (ao (ixP hu) (av 3) ae)))) ae)) (ab (du (EW.et (zF (bh (iD hu) bF (av 5) cx) (uc (bh (iD hu) bF (av 5) cx)))) (aj (aJ (aC 3))) bg) (ab (du (bh (iD hu) bF (av 4) (EV.o (nR rfl T.c_WAIT))) (aj (aJ (aq ic hr (a0 (aC 0) (a0 (aC 1) (a0 (aC 3) ai)))))) bg) (aj (aJ (aq jw hr (a0 (aC 0) (a0 (aC 1) (a0 (aC 2) (a0 (aC 3) (a0 (aC 4) ai)))))))))))
abbrev oh:Stmt:=top 24
theorem oZ:FnScope ["H","state","room"] ["H","state"] (ah oh):=fsc
theorem cC (T:Txt w K mg) (hs:Hs K mg "heard" oh):@PF (tw w) P w K mg base 1 "heard" bX:=
 letI:TW:=tw w
 iA (g:=ig) hs oZ fun _ _ _ _ _ _ _ hr=>have hu:=hr.units;(ab (aH 2 oZ.nd (ao (ixP hu) (EV.o (ao (ixP hu) (av 0) cx)) (EV.o (ao (ixP hu) (av 1) ae)))) (aj (aJ (aR (a0 (ao (ixP hu) (EV.o (nR rfl T.c_HEARD)) (EV.o (ao (ixP hu) (av 2) ae))) (a0 (ao (ixP hu) (av 2) ae) ai))))))
theorem lH:NdL ["pair","sign","ways","others","hour","H","G","state"]:=⟨by decide +kernel⟩
theorem jG (T:Txt w K mg) (cQ:@PF (tw w) P w K mg base 6 "follow" bN):@LamB (tw w) P w K mg base 6 aO ["pair","sign"] ["state"] iG:=
 letI:TW:=tw w
 ⟨.of rfl rfl rfl (by decide +kernel) (by decide +kernel) (by decide +kernel) (by decide +kernel) (by decide +kernel),fun _ _ _ _ us h=>match us,h with | [_,_],_=>rfl,fun f c cl A outer s H hr=>lx.st rfl (by
  have hu:=hr.units;exact(ab (aH 7 lH.nd (aq cQ hr (a0 (aC 5) (a0 (aC 4) (a0 (ao (ixP hu) (av 2) (EV.o (ao (ixP hu) (EV.o (ao (ixP hu) (av 0) ae)) ae))) (a0 (ao (ixP hu) (av 0) ae) (a0 (aC 1) ai))))))) (aj (aJ (aR (a0 (aC 7) (a0 (aq cQ hr (a0 (aC 6) (a0 (aC 4) (a0 (ao (ixP hu) (av 3) (EV.o (ao (ixP hu) (EV.o (ao (ixP hu) (av 0) ae)) ae))) (a0 (ao (ixP hu) (av 0) ae) (a0 (aC 1) ai)))))) ai)))))))⟩
theorem jF (T:Txt w K mg) (cC:@PF (tw w) P w K mg base 1 "heard" bX):@LamB (tw w) P w K mg base 6 aG ["pair"] [] iF:=
 letI:TW:=tw w
 ⟨.of rfl rfl rfl (by decide +kernel) (by decide +kernel) (by decide +kernel) (by decide +kernel) (by decide +kernel),fun _ _ _ _ us h=>match us,h with | [_],_=>rfl,fun f c cl A outer s H hr=>lx.st rfl (by
  have hu:=hr.units;exact(aj (aJ (gR (Ao hu) (EV.o (aq cC hr (a0 (aC 1) (a0 (ao (ixP hu) (av 0) ae) ai)))) (EV.o (aq cC hr (a0 (aC 2) (a0 (ao (ixP hu) (av 0) ae) ai))))))))⟩
theorem GI (T:Txt w K mg) (cQ:@PF (tw w) P w K mg base 6 "follow" bN) (cC:@PF (tw w) P w K mg base 1 "heard" bX):@D0 (tw w) P w K mg base 6 appL:=by
 letI:TW:=tw w
 intro L qs cs p e;unfold appL at e;split at e
 ·rename_i hL;subst hL;obtain⟨h1,h2⟩:=t5 e;exact⟨_,_,_,jG T cQ,h1,h2⟩
 split at e
 ·rename_i hL;subst hL;obtain⟨h1,h2⟩:=t5 e;exact⟨_,_,_,jF T cC,h1,h2⟩
 cases e
abbrev cB:Stmt:=top 8
theorem bD:FnScope ["codes","counts","code","size"] ["codes"] (ah cB):=fsc
theorem cj (T:Txt w K mg) (hs:Hs K mg "beginning_counts" cB):@PF (tw w) P w K mg base 1 "beginning_counts" bt:=
 letI:TW:=tw w
 iA (g:=cG) hs bD fun _ _ _ _ _ _ _ hr=>have hu:=hr.units;(ab (g9 1 bD.nd mh) (ab (cZ (eC (aC 0)) (bw 2 bD.nd) (aj (cZ (jY rfl T.n_range aN (ar dy (EV.o (jW uI rfl T.n_len rfl (av 2))) ae)) (bw 3 bD.nd) (aj (kK 1 hu (eA (av 2) dP (cV (aC 3))) (ar dy (EV.o (zI (wL 1) (eA (av 2) dP (cV (aC 3))) aN)) ae)))))) (aj (SV.frz 1 (aJ (aC 1))))))
abbrev lJ:Stmt:=top 6
theorem jj:FnScope ["letters","letter","key","held"] ["letters","letter"] (ah lJ):=fsc
theorem ju (T:Txt w K mg) (hs:Hs K mg "key_of" lJ):@PF (tw w) P w K mg base 1 "key_of" ja:=
 letI:TW:=tw w
 iA (g:=iX) hs jj fun _ _ _ _ _ _ _ hr=>have hu:=hr.units;(ab (cZ (eC (aC 0)) (oS rfl (d7 (bw 2 jj.nd) (d7 (bw 3 jj.nd) lB))) (aj (du (bh (FL hu) tx (av 1) (av 3)) (aj (aJ (aC 2))) bg))) (aj (aJ nQ)))
abbrev jq:Stmt:=top 5
theorem hJ:FnScope ["letters","word","keys"] ["letters","word"] (ah jq):=fsc
theorem ib (T:Txt w K mg) (hs:Hs K mg "code_of" jq) (ju:@PF (tw w) P w K mg base 1 "key_of" ja):@PF (tw w) P w K mg base 2 "code_of" fO:=
 letI:TW:=tw w
 iA (g:=jQ) hs hJ fun _ _ _ _ _ _ _ hr=>have hu:=hr.units;(ab (rR false 2 hJ.nd (N':=["letter","letters"]) (cok hJ) (eC (aC 1)) (fun _ _ _ _ _=>(vB 0)) (fun _ _ _ _ _=>(aq ju hr (a0 (aC 1) (a0 (aC 0) ai))))) (aj (aJ (Cu (bh (FL hu) tx (EV.o nQ) (av 2)) nQ (zG B7 BO aI (av 2))))))
abbrev dw:Stmt:=top 9
theorem ff:FnScope ["code","counts","size"] ["code","counts"] (ah dw):=fsc
theorem cW (T:Txt w K mg) (hs:Hs K mg "own_beginning" dw):@PF (tw w) P w K mg base 1 "own_beginning" cH:=
 letI:TW:=tw w
 iA (g:=cF) hs ff fun _ _ _ _ _ _ _ hr=>have hu:=hr.units;(ab (cZ (jY rfl T.n_range aN (jW uI rfl T.n_len rfl (av 0))) (bw 2 ff.nd) (aj (du (bh (iD hu) bF (EV.o (ao (ixP hu) (av 1) (EV.o (eA (av 0) dP (cV (aC 2)))))) ae) (aj (aJ (eA (av 0) dP (cV (aC 2))))) bg))) (aj (aJ (aC 0))))
abbrev fD:Stmt:=top 7
theorem cA:FnScope ["letters","words","codes","counts"] ["letters","words"] (ah fD):=fsc
theorem eR (T:Txt w K mg) (hs:Hs K mg "beginnings" fD) (ib:@PF (tw w) P w K mg base 2 "code_of" fO) (cj:@PF (tw w) P w K mg base 1 "beginning_counts" bt) (cW:@PF (tw w) P w K mg base 1 "own_beginning" cH):@PF (tw w) P w K mg base 3 "beginnings" cT:=
 letI:TW:=tw w
 iA (g:=fN) hs cA fun _ _ _ _ _ _ _ hr=>have hu:=hr.units;(ab (rR false 2 cA.nd (N':=["word","letters"]) (cok cA) (eC (aC 1)) (fun _ _ _ _ _=>(vB 0)) (fun _ _ _ _ _=>(ar dy (EV.o (aq ib hr (a0 (aC 1) (a0 (aC 0) ai)))) (EV.o (nR rfl T.c_CODE_END))))) (ab (aH 3 cA.nd (aq cj hr (a0 (aC 2) ai))) (aj (aJ (EN.v (mi (N':=["word","code","counts"]) (cok cA) (CG rfl T.n_zip (aC 1) (aC 2)) (fun _ _ _ _ _=>(xn rfl (iP (vB 0) (iP (vB 1) rN)))) (fun _ _ _ _ _=>(aR (a0 (aC 0) (a0 (aq cW hr (a0 (aC 1) (a0 (aC 2) ai))) ai))))))))))
abbrev fA:Stmt:=top 17
theorem cz:FnScope ["letters","names","ways","word","beginning","size"] ["letters","names"] (ah fA):=fsc
theorem eO (T:Txt w K mg) (hs:Hs K mg "names_ways" fA) (eR:@PF (tw w) P w K mg base 3 "beginnings" cT):@PF (tw w) P w K mg base 4 "names_ways" dN:=
 letI:TW:=tw w
 iA (g:=fI) hs cz fun _ _ _ _ _ _ _ hr=>have hu:=hr.units;(ab (g9 2 cz.nd mh) (ab (cZ (eC (aq eR hr (a0 (aC 0) (a0 (EN.v (zK CT rfl T.n_list rfl (av 1))) ai)))) (oS rfl (d7 (bw 3 cz.nd) (d7 (bw 4 cz.nd) lB))) (ab (cZ (jY rfl T.n_range aN (jW uI rfl T.n_len rfl (av 4))) (bw 5 cz.nd) (aj (kK 2 hu (eA (av 4) dP (cV (aC 5))) nQ))) (aj (kK 2 hu (aC 4) (ao (ixP hu) (av 1) (av 3)))))) (aj (SV.frz 2 (aJ (aC 2))))))
abbrev gf:Stmt:=top 16
theorem iw:FnScope ["H","name","room"] ["H","name"] (ah gf):=fsc
theorem fE (T:Txt w K mg) (hs:Hs K mg "room_ways" gf) (eO:@PF (tw w) P w K mg base 4 "names_ways" dN):@PF (tw w) P w K mg base 5 "room_ways" aK:=
 letI:TW:=tw w
 iA (g:=cM) hs iw fun _ _ _ _ _ _ _ hr=>have hu:=hr.units;(ab (aH 2 iw.nd (ao (ixP hu) (EV.o (ao (ixP hu) (av 0) cx)) (av 1))) (ab (du (bh (iD hu) bF (EV.o (ao (ixP hu) (av 2) ae)) cx) (aj (aJ (EN.v (zK yg rfl T.n_dict rfl (EV.o (ao (ixP hu) (av 2) ae)))))) bg) (ab (du (bh (iD hu) bF (EV.o (ao (ixP hu) (av 2) ae)) cx) (aj (aJ (aq eO hr (a0 (ao (ixP hu) (av 0) cx) (a0 (EN.v (zK yg rfl T.n_dict rfl (EV.o (ao (ixP hu) (av 2) ae)))) ai))))) bg) (aj (aJ (EN.v mh))))))
abbrev fB:Stmt:=top 15
theorem eL:FnScope ["H","ways","name"] ["H"] (ah fB):=fsc
theorem bR (T:Txt w K mg) (hs:Hs K mg "house_ways" fB) (fE:@PF (tw w) P w K mg base 5 "room_ways" aK):@PF (tw w) P w K mg base 6 "house_ways" bc:=
 letI:TW:=tw w
 iA (g:=fJ) hs eL fun _ _ _ _ _ _ _ hr=>have hu:=hr.units;(ab (g9 1 eL.nd mh) (ab (cZ (eC (ao (ixP hu) (av 0) cx)) (bw 2 eL.nd) (aj (kK 1 hu (aC 2) (aq fE hr (a0 (aC 0) (a0 (aC 2) ai)))))) (aj (SV.frz 1 (aJ (aC 1))))))
abbrev fC:Stmt:=top 29
theorem br:FnScope ["start","lead","is_last","known","found","done","near","sign","thing"] ["start","lead","is_last"] (ah fC):=fsc
theorem eQ (T:Txt w K mg) (hs:Hs K mg "first_rows" fC) (LT:@D0 (tw w) P w K mg base 6 appL):@PFN (tw w) P w K mg base 8 "first_rows" cS:=
 letI:TW:=tw w
 Bl (g:=fK) hs br fun _ _ _ _ _ _ _ hr=>have hu:=hr.units;(iQ (mV _ _) (g9 3 br.nd (wN hu (aC 0) uf)) (iQ (mV _ _) (g9 4 br.nd (eB (a0 (aR (a0 (aC 0) (a0 aI ai))) ai))) (iQ (ji _ _) (aH 5 br.nd aN) (iQ (vh (fz (ji _ _) (fz (uM _ _) (tW (fz (ji _ _) (pM (fz (qA _ _ _) (fz (uN _ _) (pM uJ kY))) kY)))))) (oV 10500000 (EW.et (nO (bh Es oJ (av 5) (EV.o (jW uI rfl T.n_len rfl (wL 4)))) (jU (Cw (mf (EV.o (me 2 LT hr (a0 (ao (ixP hu) (EV.o (ao (ixP hu) (wL 4) (EV.o (jV aN)))) ae) ai)))))))) (ab (aH 6 br.nd (ao (ixP hu) (wL 4) (av 5))) (ab (B4 5 br.nd aN) (aj (cZ (eC (nR rfl T.c_SIGNS)) (bw 7 br.nd) (ab (aH 8 br.nd (me 1 LT hr (a0 (ao (ixP hu) (av 6) ae) (a0 (aC 7) ai)))) (aj (du (bh (w9 hu) oI (av 8) (wL 3)) (ab (yx 3 hu (aC 8) uf) (ab (dY 4 (aR (a0 (aC 8) (a0 (ar dy (EV.o (ao (ixP hu) (av 6) ae)) (av 7)) ai)))) (aj (du (mf (EV.o (me 2 LT hr (a0 (aC 8) ai)))) (aj vD) bg)))) bg)))))))) (vC 4)))))
abbrev oj:Stmt:=top 13
theorem vG:FnScope ["H","hour"] ["H","hour"] (ah oj):=fsc
theorem fV (T:Txt w K mg) (hs:Hs K mg "begin" oj) (bS:@PF (tw w) P w K mg base 3 "arrival" bI):@PF (tw w) P w K mg base 4 "begin" cn:=
 letI:TW:=tw w
 iA (g:=oK) hs vG fun _ _ _ _ _ _ _ hr=>have hu:=hr.units;(aj (aJ (aq bS hr (a0 (aC 0) (a0 (aC 1) (a0 (ao (ixP hu) (av 0) cx) (a0 aI ai)))))))
abbrev c7:Stmt:=top 31
theorem bQ:FnScope ["H","G","hour","ways","others","lead","is_apart","found","pairs","last"] ["H","G","hour"] (ah c7):=fsc
theorem gJ:∀y∈aO.scope.names,y.2=.free->(ah c7).names.lookup y.1=some .cell:=by decide +kernel
theorem md {C:Cn} (h:C.X.env.scope=ah c7:=by rfl) (hN:C.X.N=(["H","G","hour","ways","others","lead","is_apart","found","pairs","last"]:List Str):=by rfl):FnC C aO [3,4,2,0,1]:=⟨by rw[h];exact gJ,rfl,by decide +kernel,by rw[hN];rfl⟩
theorem gI:∀y∈aG.scope.names,y.2=.free->(ah c7).names.lookup y.1=some .cell:=by decide +kernel
theorem gL {C:Cn} (h:C.X.env.scope=ah c7:=by rfl) (hN:C.X.N=(["H","G","hour","ways","others","lead","is_apart","found","pairs","last"]:List Str):=by rfl):FnC C aG [0,1]:=⟨by rw[h];exact gI,rfl,by decide +kernel,by rw[hN];rfl⟩
theorem dZ {f:Addr} {fd:FuncData} (T:Txt w K mg) (F:Fun K "compare" "compare" c7 f fd) (hm:mg "compare"=some (.ref f)) (hb:Binds K fd ["H","G","hour"] []) {cP:Addr} (hcode:fd.code=.ref cP) (hhd:Kt K cP dm=true) (hKb:K.In base) (hbn:∃bm o,mg "__builtins__"=some (.ref bm)/\bm≠Iv/\bm≠mainGlobals/\base.get? bm=some o/\o.cls=.type "module"/\o.dict=some Iv/\o.data=.plain) (bR:@PF (tw w) P w K mg base 6 "house_ways" bc) (eQ:@PFN (tw w) P w K mg base 8 "first_rows" cS) (fV:@PF (tw w) P w K mg base 4 "begin" cn) (LT:@D0 (tw w) P w K mg base 6 appL):@PF (tw w) P w K mg base 9 "compare" bH:=
 letI:TW:=tw w
 yT F bQ hm hb (g:=gG) fun cdv hcdv A outer s H E hr=>by
  have hu:=hr.units;exact(SVF.tru (lC 3 bQ.nd cu (fun _ _ _ h=>trivial) (EVF.of (aq bR hr (a0 (aC 0) ai))) (lC 4 bQ.nd cu (fun _ _ _ h=>trivial) (EVF.of (aq bR hr (a0 (aC 1) ai))) (rQ (L:=aO) (pos:=pY ⟨0,0,0,0⟩ fR) (c:=cP) (P:=dm) 5 bQ.nd cu (fun _ _ _ h=>trivial) ⟨rfl,rfl,rfl,hcdv.trans hcode,LP hKb hhd,kJ,hbn,rfl,rfl,rfl,gJ⟩ (rQ (L:=aG) (pos:=pY ⟨0,0,0,0⟩ fQ) (c:=cP) (P:=dm) 6 bQ.nd (Ph.and_ok cu FnS.ok) (fun _ _ _ h=>⟨trivial,FnS.set (by decide) _ _ _ h.2⟩) ⟨rfl,rfl,rfl,hcdv.trans hcode,LP hKb hhd,kJ,hbn,rfl,rfl,rfl,gI⟩ (lC 7 bQ.nd (Ph.and_ok (Ph.and_ok cu FnS.ok) FnS.ok) (fun _ _ _ h=>⟨⟨trivial,FnS.set (by decide) _ _ _ h.1.2⟩,FnS.set (by decide) _ _ _ h.2⟩) (ENF.v (uk eQ hr (CC (aR (a0 (aq fV hr (a0 (aC 0) (a0 (aC 2) ai))) (a0 (aq fV hr (a0 (aC 1) (a0 (aC 2) ai))) ai))) (CF 5 (fun _ _ h=>h.1.2) md (CF 6 (fun _ _ h=>h.2) gL CD (Ph.and_ok (Ph.and_ok cu FnS.ok) FnS.ok)) (Ph.and_ok (Ph.and_ok cu FnS.ok) FnS.ok)) (Ph.and_ok (Ph.and_ok cu FnS.ok) FnS.ok)))) (B3 8 (Ph.and_ok (Ph.and_ok cu FnS.ok) FnS.ok) (fun _ _ _ h=>⟨⟨trivial,FnS.set (by decide) _ _ _ h.1.2⟩,FnS.set (by decide) _ _ _ h.2⟩) (yO 8 bQ.nd (N':=["pair","row"]) (cok bQ) (eC (aC 7)) (fun _ _ _ _ _=>(xn rfl (iP (vB 0) (iP (vB 1) rN)))) (fun _ _ _ _ _=>(aR (a0 (ao (ixP hu) (av 0) ae) (a0 (ao (ixP hu) (av 0) ae) (a0 (aC 1) ai)))))) (lC 9 bQ.nd (Ph.and_ok (Ph.and_ok cu FnS.ok) FnS.ok) (fun _ _ _ h=>⟨⟨trivial,FnS.set (by decide) _ _ _ h.1.2⟩,FnS.set (by decide) _ _ _ h.2⟩) (EVF.of (ao (ixP hu) (av 7) (EV.o (jV aN)))) (rO (Ph.and_ok (Ph.and_ok cu FnS.ok) FnS.ok) (ug (qP 6 LT hr (fun _ _ h=>h.2) gL (a0 (ao (ixP hu) (av 9) ae) ai))) (EVF.of (aR (a0 aI (a0 (ao (ixP hu) (av 9) ae) (a0 (jc (av 8) dP (cV (jV aN))) ai))))) (yw (EVF.of (aR (a0 aI (a0 (aC 8) ai))))))))))))))
abbrev gi:Stmt:=top 37
theorem iy:FnScope ["_law_house_here","_law_states"] ["_law_house_here","_law_states"] (ah gi):=fsc
theorem dJ (T:Txt w K mg) (hs:Hs K mg "_law_heard" gi) (cC:@PF (tw w) P w K mg base 1 "heard" bX):@PF (tw w) P w K mg base 2 "_law_heard" dB:=
 letI:TW:=tw w
 iA (g:=gp) hs iy fun _ _ _ _ _ _ _ hr=>have hu:=hr.units;(aj (aJ (EN.v (mi (N':=["_law_state","_law_house_here"]) (cok iy) (eC (aC 1)) (fun _ _ _ _ _=>(vB 0)) (fun _ _ _ _ _=>(aq cC hr (a0 (aC 1) (a0 (aC 0) ai))))))))
abbrev gg:Stmt:=top 35
theorem ba:FnScope ["_law_cell","_law_letters","_law_some","_law_size","_law_at","_law_names_here","_law_turn","_law_name","_law_k"] ["_law_cell"] (ah gg):=fsc
theorem dH (T:Txt w K mg) (hs:Hs K mg "_law_names" gg) (bJ:@PF (tw w) P w K mg base 1 "_law_numbers" aW):@PF (tw w) P w K mg base 2 "_law_names" dz:=
 letI:TW:=tw w
 iA (g:=gm) hs ba fun _ _ _ _ _ _ _ hr=>have hu:=hr.units;(ab (aH 1 ba.nd aI) (ab (aH 2 ba.nd (aq bJ hr (a0 (aC 0) (a0 aN ai)))) (ab (aH 3 ba.nd (ar dy ae (EV.o (ar bK (EV.o (ao (ixP hu) (av 2) ae)) ae)))) (ab (aH 4 ba.nd (ar bK (EV.o (ao (ixP hu) (av 2) ae)) (av 3))) (ab (g9 5 ba.nd (eB ai)) (ab (cZ (fP rfl T.n_range aN) (bw 6 ba.nd) (ab (aH 7 ba.nd aI) (ab (cZ (fP rfl T.n_range (aC 3)) (bw 8 ba.nd) (aj (aH 7 ba.nd (ar dy (av 7) (EV.o (ao (ixP hu) (av 1) (EV.o (ar bK (EV.o (ar dy (EV.o (ao (ixP hu) (av 2) (av 8))) (EV.o (ar sE (EV.o (ar sE ae (av 6))) (EV.o (ud cInt rfl T.n_int rfl (EV.o (gR (iD hu) (av 8) (av 4))))))))) ae)))))))) (aj (dY 5 (aC 7)))))) (aj (SV.frz 5 (aJ (aC 5))))))))))
abbrev jl:Stmt:=top 23
theorem fT:FnScope ["H","hour","state","row","ways","states","sign"] ["H","hour","state","row"] (ah jl):=fsc
theorem i5 (T:Txt w K mg) (hs:Hs K mg "walk_on" jl) (bR:@PF (tw w) P w K mg base 6 "house_ways" bc) (cQ:@PF (tw w) P w K mg base 6 "follow" bN):@PF (tw w) P w K mg base 7 "walk_on" gM:=
 letI:TW:=tw w
 iA (g:=jN) hs fT fun _ _ _ _ _ _ _ hr=>have hu:=hr.units;(ab (aH 4 fT.nd (aq bR hr (a0 (aC 0) ai))) (ab (g9 5 fT.nd (eB (a0 (aC 2) ai))) (ab (cZ (eC (aC 3)) (bw 6 fT.nd) (aj (dY 5 (aq cQ hr (a0 (aC 0) (a0 (aC 1) (a0 (ao (ixP hu) (av 4) (EV.o (ao (ixP hu) (EV.o (ao (ixP hu) (wL 5) (EV.o (jV aN)))) ae))) (a0 (ao (ixP hu) (wL 5) (EV.o (jV aN))) (a0 (aC 6) ai))))))))) (aj (SV.frz 5 (aJ (aC 5)))))))
abbrev rX:Stmt:=top 22
theorem yA:FnScope ["H","hour","row"] ["H","hour","row"] (ah rX):=fsc
theorem i6 (T:Txt w K mg) (hs:Hs K mg "walk" rX) (i5:@PF (tw w) P w K mg base 7 "walk_on" gM) (fV:@PF (tw w) P w K mg base 4 "begin" cn):@PF (tw w) P w K mg base 8 "walk" iE:=
 letI:TW:=tw w
 iA (g:=tK) hs yA fun _ _ _ _ _ _ _ hr=>have hu:=hr.units;(aj (aJ (aq i5 hr (a0 (aC 0) (a0 (aC 1) (a0 (aq fV hr (a0 (aC 0) (a0 (aC 1) ai))) (a0 (aC 2) ai)))))))
abbrev rY:Stmt:=top 28
theorem rW:FnScope ["row"] ["row"] (ah rY):=fsc
theorem lQ (T:Txt w K mg) (hs:Hs K mg "rank" rY):@PF (tw w) P w K mg base 1 "rank" nN:=
 letI:TW:=tw w
 iA (g:=tM) hs rW fun _ _ _ _ _ _ _ hr=>have hu:=hr.units;(aj (aJ (aR (a0 (jW uI rfl T.n_len rfl (av 0)) (a0 (EN.v (mi (N':=["sign"]) (cok rW) (eC (aC 0)) (fun _ _ _ _ _=>(vB 0)) (fun _ _ _ _ _=>(zG B9 BP (nR rfl T.c_SIGNS) (av 0))))) ai)))))
abbrev jm:Stmt:=top 27
theorem qu:FnScope ["one","other"] ["one","other"] (ah jm):=fsc
theorem i7 (T:Txt w K mg) (hs:Hs K mg "earlier" jm) (lQ:@PF (tw w) P w K mg base 1 "rank" nN):@PF (tw w) P w K mg base 2 "earlier" gN:=
 letI:TW:=tw w
 iA (g:=jO) hs qu fun _ _ _ _ _ _ _ hr=>have hu:=hr.units;(aj (aJ (gR (Er hu) (EV.o (aq lQ hr (a0 (aC 0) ai))) (EV.o (aq lQ hr (a0 (aC 1) ai))))))
abbrev lI:Stmt:=top 38
theorem dG:FnScope ["_law_script","_law_one","_law_two","_law_odd","_law_house_here","_law_other","_law_hour","_law_row","_law_found","_law_here","_law_there","_law_parts","_law_k"] ["_law_script"] (ah lI):=fsc
theorem Bz {f:Addr} {fd:FuncData} (T:Txt w K mg) (F:Fun K "law" "law" lI f fd) (aV:@PF (tw w) P w K mg base 1 "_law_cell_at" aw) (dI:@PF (tw w) P w K mg base 2 "_law_house" dA) (dH:@PF (tw w) P w K mg base 2 "_law_names" dz) (dZ:@PF (tw w) P w K mg base 9 "compare" bH) (dJ:@PF (tw w) P w K mg base 2 "_law_heard" dB) (i6:@PF (tw w) P w K mg base 8 "walk" iE) (i7:@PF (tw w) P w K mg base 2 "earlier" gN) (cC:@PF (tw w) P w K mg base 1 "heard" bX):FnOk P w K mg base CX0 10 f fd ["_law_script"] (@spP (tw w) K 1 ub):=
 letI:TW:=(tw w)
 have main:FnOk P w K mg base CX0 (9+1) f fd ["_law_script"] (spP K 1 (eI 1 13 tP)):=by
  refine Eu (N:=["_law_script","_law_one","_law_two","_law_odd","_law_house_here","_law_other","_law_hour","_law_row","_law_found","_law_here","_law_there","_law_parts","_law_k"]) (ps:=["_law_script"]) (k:=9) (g:=tP) F dG ?_;intro cdv A outer s H E hr;have hu:=hr.units;exact(ab (aH 1 dG.nd (aq aV hr (a0 (aC 0) (a0 aN ai)))) (ab (aH 2 dG.nd (aq aV hr (a0 (aC 0) (a0 aN ai)))) (ab (aH 3 dG.nd (ar sE (EV.o (ar qF (EV.o (aq aV hr (a0 (aC 0) (a0 aN ai)))) ae)) (EV.o (ar bK (EV.o (aq aV hr (a0 (aC 0) (a0 aN ai)))) ae)))) (ab (aH 4 dG.nd (aq dI hr (a0 (aq dH hr (a0 (aq aV hr (a0 (aC 0) (a0 aN ai))) ai)) (a0 (aC 1) (a0 (aC 2) (a0 aN ai)))))) (ab (aH 5 dG.nd (aq dI hr (a0 (aq dH hr (a0 (aq aV hr (a0 (aC 0) (a0 aN ai))) ai)) (a0 (aC 1) (a0 (aC 2) (a0 (aC 3) ai)))))) (ab (aH 6 dG.nd (ar bK (EV.o (aq aV hr (a0 (aC 0) (a0 aN ai)))) ae)) (ab (aH 7 dG.nd (zG B7 BO aI (EN.o (mi (N':=["_law_cell"]) (cok dG) (eC (jc (av 0) (cV aN) (cV aN))) (fun _ _ _ _ _=>(vB 0)) (fun _ _ _ _ _=>(ao (ixP hu) cx (EV.o (ar bK (av 0) ae)))))))) (ab (aH 8 dG.nd (aq dZ hr (a0 (aC 4) (a0 (aC 5) (a0 (aC 6) ai))))) (ab (aH 9 dG.nd (aq dJ hr (a0 (aC 4) (a0 (aq i6 hr (a0 (aC 4) (a0 (aC 6) (a0 (aC 7) ai)))) ai)))) (ab (aH 10 dG.nd (aq dJ hr (a0 (aC 5) (a0 (aq i6 hr (a0 (aC 5) (a0 (aC 6) (a0 (aC 7) ai)))) ai)))) (ab (du (EW.et (zF (bh (Ao hu) jI (EV.o (jW uI rfl T.n_len rfl (av 9))) (EV.o (ar dy (EV.o (jW uI rfl T.n_len rfl (av 7))) ae))) (uc (bh (Ao hu) jI (EV.o (jW uI rfl T.n_len rfl (av 10))) (EV.o (ar dy (EV.o (jW uI rfl T.n_len rfl (av 7))) ae)))))) (aj (aJ uf)) bg) (ab (du (bh (iD hu) bF (EV.o (ao (ixP hu) (av 8) ae)) cx) (aj (aJ (Cv (gR (iD hu) (av 9) (av 10)) (Ct (gR (iD hu) (EV.o (ao (ixP hu) (EV.o (aq dZ hr (a0 (aC 5) (a0 (aC 4) (a0 (aC 6) ai))))) ae)) cx))))) bg) (ab (aH 11 dG.nd (ao (ixP hu) (av 8) ae)) (ab (cZ (fP rfl T.n_range (jW uI rfl T.n_len rfl (av 9))) (bw 12 dG.nd) (aj (du (EW.et (nO (mf (EV.o (aq i7 hr (a0 (eA (av 7) dP (cV (aC 12))) (a0 (aC 11) ai))))) (jU (bh (Ao hu) jI (EV.o (ao (ixP hu) (av 9) (av 12))) (EV.o (ao (ixP hu) (av 10) (av 12))))))) (aj (aJ uf)) bg))) (ab (du (bh (iD hu) bF (EV.o (aq cC hr (a0 (aC 4) (a0 (ao (ixP hu) (EV.o (aq i6 hr (a0 (aC 4) (a0 (aC 6) (a0 (aC 11) ai))))) (EV.o (jV aN))) ai)))) (EV.o (aq cC hr (a0 (aC 5) (a0 (ao (ixP hu) (EV.o (aq i6 hr (a0 (aC 5) (a0 (aC 6) (a0 (aC 11) ai))))) (EV.o (jV aN))) ai))))) (aj (aJ uf)) bg) (aj (aJ (gR (iD hu) (EV.o (jc (EV.o (aq dZ hr (a0 (aC 5) (a0 (aC 4) (a0 (aC 6) ai))))) dP (cV aN))) (EV.o (aR (a0 aI (a0 (aC 11) ai))))))))))))))))))))))
 main
end K40
namespace K40
open PySem PySem.Spec PyProof.Rows L2 PU
seal EV EO EN EA ET EW SV SVs TGt Ag TCt Ah EI ETs ED EOI ELF EVF ENF ETF SVF
theorem all_mk {l:Lx} {w:IA} {K:HA} {h:Heap} {mg:Str->Option HB} {fa:Addr} (X:K.In h) (G:h.Ns mainGlobals mg) (hfa:mg "law"=some (.ref fa))
  {f21 f28:Addr} {od21 an21 od28 an28:Option Addr} {sl21 sl28:Array (Option HB)} {oc21 kV21 dc21 pm21 cd21 ct21 oc28 kV28 dc28 pm28 cd28 ct28:HB}
  (h0:Has K "_law_cell_at" eN)
  (h1:Has K "_law_numbers" eM)
  (h2:Has K "_law_house" gh)
  (h3:Has K "handed" lK)
  (h4:Has K "come_to" jo)
  (h5:Has K "arrival" jt)
  (h6:Has K "by_wrong_key" dQ)
  (h7:Has K "by_key" lM)
  (h8:Has K "by_wait" jr)
  (h9:Has K "follow" lL)
  (h10:Has K "heard" oh)
  (h11:Has K "beginning_counts" cB)
  (h12:Has K "key_of" lJ)
  (h13:Has K "code_of" jq)
  (h14:Has K "own_beginning" dw)
  (h15:Has K "beginnings" fD)
  (h16:Has K "names_ways" fA)
  (h17:Has K "room_ways" gf)
  (h18:Has K "house_ways" fB)
  (h19:Has K "first_rows" fC)
  (h20:Has K "begin" oj)
  (a21:Iu K mainGlobals "compare"=some (some (.ref f21))) (l21:K.lookup f21=some ⟨oc21,od21,.func (J0 "compare" "compare" (dC c7) (bz c7) (ah c7) .none kV21 dc21 pm21 an21 cd21 ct21),sl21⟩) (c21:Jp K cd21 "compare"=true) (k21:JH K (.ref f21)=true)
  (h22:Has K "_law_heard" gi)
  (h23:Has K "_law_names" gg)
  (h24:Has K "walk_on" jl)
  (h25:Has K "walk" rX)
  (h26:Has K "rank" rY)
  (h27:Has K "earlier" jm)
  (a28:Iu K mainGlobals "law"=some (some (.ref f28))) (l28:K.lookup f28=some ⟨oc28,od28,.func (J0 "law" "law" (dC lI) (bz lI) (ah lI) .none kV28 dc28 pm28 an28 cd28 ct28),sl28⟩) (c28:Jp K cd28 "law"=true) (k28:JH K (.ref f28)=true)
  {cP21:Addr} (hcode21:cd21=.ref cP21) (hhd21:Kt K cP21 dm=true)
  (z_dict:Iu K mainGlobals "dict"=some none)
  (z_enumerate:Iu K mainGlobals "enumerate"=some none)
  (z_int:Iu K mainGlobals "int"=some none)
  (z_len:Iu K mainGlobals "len"=some none)
  (z_list:Iu K mainGlobals "list"=some none)
  (z_range:Iu K mainGlobals "range"=some none)
  (z_tuple:Iu K mainGlobals "tuple"=some none)
  (z_zip:Iu K mainGlobals "zip"=some none)
  (c_CODE_END:@Con (tw w) K mg "CODE_END" c_CODE_END)
  (c_HEARD:@Con (tw w) K mg "HEARD" c_HEARD)
  (c_SIGNS:@Con (tw w) K mg "SIGNS" c_SIGNS)
  (c_WAIT:@Con (tw w) K mg "WAIT" c_WAIT)
  : ∃fd:FuncData,(∀(s:HC) (v:HB),Mt s fd ⟨[v],[]⟩ [("_law_script",v)])/\∀base:Heap,K.In base->base.Ns mainGlobals mg->(∃bm o,mg "__builtins__"=some (.ref bm)/\bm≠Iv/\bm≠mainGlobals/\base.get? bm=some o/\o.cls=.type "module"/\o.dict=some Iv/\o.data=.plain)->FnOk l.prog w K mg base CX0 10 fa fd ["_law_script"] (@spP (tw w) K 1 ub):=by
 have e:=hfa.symm.trans (Kq X G a28);cases e;have T:Txt w K mg:=⟨J4 X G z_dict,J4 X G z_enumerate,J4 X G z_int,J4 X G z_len,J4 X G z_list,J4 X G z_range,J4 X G z_tuple,J4 X G z_zip,c_CODE_END,c_HEARD,c_SIGNS,c_WAIT⟩;have F21:=tR (st:=c7) l21 c21 k21;have b21:=F21.binds (ps:=["H","G","hour"]) fun _ _ _ _ _ _ us hl=>match us,hl with | [_,_,_],_=>rfl
 have F28:=tR (st:=lI) l28 c28 k28;refine⟨J0 "law" "law" (dC lI) (bz lI) (ah lI) .none kV28 dc28 pm28 an28 cd28 ct28,fun s v=>.of_eq rfl,fun base hKb _ hbn=>?_⟩;have p_law_cell_at:=aV (P:=l.prog) (base:=base) T (h0.fn X G);have p_law_numbers:=bJ (P:=l.prog) (base:=base) T (h1.fn X G);have p_law_house:=dI (P:=l.prog) (base:=base) T (h2.fn X G) p_law_numbers;have p_handed:=jv (P:=l.prog) (base:=base) T (h3.fn X G);have p_come_to:=ia (P:=l.prog) (base:=base) T (h4.fn X G) p_handed;have p_arrival:=bS (P:=l.prog) (base:=base) T (h5.fn X G) p_come_to;have p_by_wrong_key:=cD (P:=l.prog) (base:=base) T (h6.fn X G) p_arrival;have p_by_key:=jw (P:=l.prog) (base:=base) T (h7.fn X G) p_by_wrong_key p_arrival;have p_by_wait:=ic (P:=l.prog) (base:=base) T (h8.fn X G) p_arrival;have p_follow:=cQ (P:=l.prog) (base:=base) T (h9.fn X G) p_by_wait p_by_key;have p_heard:=cC (P:=l.prog) (base:=base) T (h10.fn X G);have LT:=GI (P:=l.prog) (base:=base) T p_follow p_heard;have p_beginning_counts:=cj (P:=l.prog) (base:=base) T (h11.fn X G);have p_key_of:=ju (P:=l.prog) (base:=base) T (h12.fn X G);have p_code_of:=ib (P:=l.prog) (base:=base) T (h13.fn X G) p_key_of;have p_own_beginning:=cW (P:=l.prog) (base:=base) T (h14.fn X G);have p_beginnings:=eR (P:=l.prog) (base:=base) T (h15.fn X G) p_code_of p_beginning_counts p_own_beginning;have p_names_ways:=eO (P:=l.prog) (base:=base) T (h16.fn X G) p_beginnings;have p_room_ways:=fE (P:=l.prog) (base:=base) T (h17.fn X G) p_names_ways;have p_house_ways:=bR (P:=l.prog) (base:=base) T (h18.fn X G) p_room_ways;have p_first_rows:=eQ (P:=l.prog) (base:=base) T (h19.fn X G) LT;have p_begin:=fV (P:=l.prog) (base:=base) T (h20.fn X G) p_arrival;have p_compare:=dZ (P:=l.prog) (base:=base) T F21 (Kq X G a21) b21 hcode21 hhd21 hKb hbn p_house_ways p_first_rows p_begin LT;have p_law_heard:=dJ (P:=l.prog) (base:=base) T (h22.fn X G) p_heard;have p_law_names:=dH (P:=l.prog) (base:=base) T (h23.fn X G) p_law_numbers;have p_walk_on:=i5 (P:=l.prog) (base:=base) T (h24.fn X G) p_house_ways p_follow;have p_walk:=i6 (P:=l.prog) (base:=base) T (h25.fn X G) p_walk_on p_begin;have p_rank:=lQ (P:=l.prog) (base:=base) T (h26.fn X G);have p_earlier:=i7 (P:=l.prog) (base:=base) T (h27.fn X G) p_rank;exact Bz T F28 p_law_cell_at p_law_house p_law_names p_compare p_law_heard p_walk p_earlier p_heard
theorem walk{l:Lx}{q:HX}{loose:List Str}{XP:(Str->Option HB)->Heap->Prop}{YP:IA->Heap->Prop}{d:DefRec}{K:Params->HA}(hn:l.most=some 63)(hdf:d.params.defaults=[])
  (hY:∀(w:IA)(h:Heap),YP w h->(K w.params).In h) (hT:∀(w:IA)(h:Heap),YP w h->∀P∈PTS,h.get? P=some (JS #[])) (hC:∀(w:IA),∀P∈PTS,∃c,Kt (K w.params) c P=true) (hL:∀(w:IA),∀P∈PTS,(K w.params).lookup P=none)
  (F:∀(w:IA)(mg:Str->Option HB)(fa:Addr)(h:Heap),(K w.params).In h->h.Ns mainGlobals mg->mg d.name=some (.ref fa)->
   ∃fd:FuncData,(∀(s:HC) (u:HB),Mt s fd ⟨[u],[]⟩ [("_law_script",u)])/\∀base:Heap,(K w.params).In base->base.Ns mainGlobals mg->(∃bm o,mg "__builtins__"=some (.ref bm)/\bm≠Iv/\bm≠mainGlobals/\base.get? bm=some o/\o.cls=.type "module"/\o.dict=some Iv/\o.data=.plain)->FnOk l.prog w (K w.params) mg base CX0 10 fa fd ["_law_script"] (@spP (tw w) (K w.params) 1 ub)) :
  PySem.W.WalkO q loose XP YP l.row.toRowW d [] (fun f vs=>Nb f vs):=
 L2.walk_ofT (n:=63) (k:=10) (x:="_law_script") (CX:=fun _=>CX0) (sp:=fun w=>@spP (tw w) (K w.params) 1 ub) hn (by decide) hdf ⟨rfl,by decide,by decide⟩ PTS hY hT hC hL F
  (fun w _ a ns hl hT hS=>letI:TW:=tw w;⟨rfl,DX (ts:=PTS) rfl hT,_,_,qt hS,wj ns,fun v _ _ r=>r⟩) fun _ _ _ _ _ z=>z
end K40
def PySem.W.Fast.tw1651379194707457680:Nat:=0
def PySem.W.Fast.tw15904512496003509365:Nat:=0
def PySem.W.Fast.tw10138361651752512906:Nat:=0
def PySem.W.Fast.tw7892803191026182882:Nat:=0
def PySem.W.Fast.tw13851920531179264621:Nat:=0
def PySem.W.Fast.tw17789690419131205697:Nat:=0
def PySem.W.Fast.tw16662185261471460533:Nat:=0
def PySem.W.Fast.tw11244429055508626673:Nat:=0
def PySem.W.Fast.tw2271405599341143717:Nat:=0
def PySem.W.Fast.tw12896853655652648825:Nat:=0
def PySem.W.Fast.tw138822014215983630:Nat:=0
def PySem.W.Fast.tw15889589730536108325:Nat:=0
def PySem.W.Fast.tw6034174670772974188:Nat:=0
def PySem.W.Fast.tw17894211745773706062:Nat:=0
def PySem.W.Fast.tw10124199566704246966:Nat:=0
def PySem.W.Fast.tw8299209657358894637:Nat:=0
def PySem.W.Fast.tw1429640460431260971:Nat:=0
def PySem.W.Fast.tw1352588896788919012:Nat:=0
def PySem.W.Fast.tw6237870461408121745:Nat:=0
def PySem.W.Fast.tw6482655131843028756:Nat:=0
def PySem.W.Fast.tw5107442534781334126:Nat:=0
def PySem.W.Fast.tw13154528523309703278:Nat:=0
def PySem.W.Fast.tw9826022482222575104:Nat:=0
def PySem.W.Fast.tw1888798929598869935:Nat:=0
open PySem PySem.W PyProof.Rows
set_option maxRecDepth 100000 in
set_option maxHeartbeats 0 in
theorem PySem.Challenge.cw_menutree_k40_whole_any_row_of_two_holds : PySem.Challenge.rw_menutree_k40_whole_any_row_of_two.Holds := by
 w_on;o_law;km_head;(case hw=>w_witness2)
 k_fill
 refine K40.walk (l:=PySem.Challenge.rw_menutree_k40_whole_any_row_of_two) rfl rfl (fun w h Y=>PySem.W.km_in_of Y) (fun w h Y=>PySem.W.km_tabs_of Y) ?C ?L ?F
 case F=>
  intro w mg fa h KX G hmg;refine' K40.all_mk KX G hmg ?h0 ?h1 ?h2 ?h3 ?h4 ?h5 ?h6 ?h7 ?h8 ?h9 ?h10 ?h11 ?h12 ?h13 ?h14 ?h15 ?h16 ?h17 ?h18 ?h19 ?h20 ?a21 ?l21 ?c21 ?k21 ?h22 ?h23 ?h24 ?h25 ?h26 ?h27 ?a28 ?l28 ?c28 ?k28 ?hcode21 ?hhd21 ?z_dict ?z_enumerate ?z_int ?z_len ?z_list ?z_range ?z_tuple ?z_zip ?q_CODE_END ?q_HEARD ?q_SIGNS ?q_WAIT
  (case h0 | h1 | h2 | h3 | h4 | h5 | h6 | h7 | h8 | h9 | h10 | h11 | h12 | h13 | h14 | h15 | h16 | h17 | h18 | h19 | h20 | h22 | h23 | h24 | h25 | h26 | h27=>(refine' PU.Has.of ?n1 ?n2 ?n3 ?n4;(case n1=>k_is);(case n2=>k_is);(case n3=>k_is);(case n4=>k_is)))
  (case a21=>k_is)
  (case l21=>k_is)
  (case c21=>k_is)
  (case k21=>k_is)
  (case a28=>k_is)
  (case l28=>k_is)
  (case c28=>k_is)
  (case k28=>k_is)
  (case hcode21=>exact rfl)
  (case hhd21=>exact rfl)
  (case z_dict=>k_is)
  (case z_enumerate=>k_is)
  (case z_int=>k_is)
  (case z_len=>k_is)
  (case z_list=>k_is)
  (case z_range=>k_is)
  (case z_tuple=>k_is)
  (case z_zip=>k_is)
  (case q_CODE_END=>(refine' PU.con_str KX G ?n1;(case n1=>k_is)))
  (case q_HEARD=>(refine' PU.con_dct [(HL "menu",_,_),(HL "names",_,_),(HL "hand",_,_),(HL "end",_,_)] (xs:=[.str (HL "asked"),.str (HL "asked"),.str (HL "hand"),.str (HL "end")]) KX G ?n1 ?n2 ?n3 ?n4 ?n5 ?n6 ?n7 ?n8;(case n1=>k_is);(case n2=>k_is);(case n3=>exact rfl);(case n4=>decide);(case n5=>decide +kernel);(case n6=>show 4<=sizeLine;decide);(case n7=>exact .cons ⟨_,rfl⟩ (.cons ⟨_,rfl⟩ (.cons ⟨_,rfl⟩ (.cons ⟨_,rfl⟩ (.nil)))));(case n8=>intro H;exact⟨_,_,rfl,rfl,_,_,rfl,rfl,_,_,rfl,rfl,_,_,rfl,rfl,rfl⟩)))
  (case q_SIGNS=>(refine' PU.con_str KX G ?n1;(case n1=>k_is)))
  (case q_WAIT=>(refine' PU.con_str KX G ?n1;(case n1=>k_is)))
 case C=>
  intro w P hP;cases HY.mp hP;exact⟨167,rfl⟩
 case L=>
  intro w P hP;cases HY.mp hP;exact rfl
