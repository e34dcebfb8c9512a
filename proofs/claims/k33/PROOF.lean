import PyProof.Rows.All
import Wide.All
import OpenK.AllK
import Wide.FinOn
import Lean
import PyProof.EqAt
import PyProof.EqKinds
import PyProof.TupleCall
import PyProof.StrLawsIdx
import PyProof.StrBlockH
import PyProof.EnumStmt
import PyProof.ListNew
import PyProof.AutoListH
import PyProof.TupleIter
import PyProof.ZipIter
import PyProof.Rows.ZipGen
import KE.KDictOf
import PyProof.ListIndex
import PyProof.AttrMissHeap
import PyProof.NeKinds
import KE.KLam
import KE.KNestM
import KE.KDictLaws
import PyProof.StrLawsIn
import PySem.Challenge.RW_menutree_k33_whole_any_row
set_option Elab.async false
set_option linter.all false
set_option maxRecDepth 100000
set_option maxHeartbeats 16000000
open Array renaming getElem?_eq_getElem->Mt,getElem?_toList->Rz,length_toList->Nc,toList_append->SR
open Bool renaming and_eq_true->MH,and_false->Q4,and_true->Rl,eq_iff_iff->ND,false_and->RU,false_eq_true->M9,false_ne_true->LK,not_eq_true->On,or_eq_true->P0,or_false->Rj,true_and->Ri
open Eq renaming refl->Lm
open False renaming elim->LJ
open ForInStep renaming yield->Mn
open Function renaming comp->NF,comp_def->SH
open Int renaming emod_lt_of_pos->QW,emod_nonneg->RD,eq_ofNat_of_zero_le->Ry,toNat_natCast->O7,zero_add->SF
open LawfulBEq renaming eq_of_beq->OQ
open List renaming Nodup->Sn,Sublist->Nn,all_cons->Nz,all_eq_true->Nh,any_cons->MV,any_eq_true->N6,any_map->NO,append_assoc->Mr,append_nil->Mh,cons_append->OI,count_append->T7,count_eq_zero->QP,drop_eq_getElem_cons->Mc,drop_length->Ng,drop_of_length_le->Rx,eq_nil_of_length_eq_zero->N7,ext_getElem?->O5,filterMap_cons->OL,filter_cons_of_neg->Pd,filter_cons_of_pos->Pc,find?_cons->NC,find?_cons_of_neg->Oa,find?_cons_of_pos->Rw,find?_eq_none->Sm,find?_some->R6,flatMap_cons->Qg,foldl_append->N9,foldl_cons->MM,getD_cons_succ->Sd,getD_cons_zero->Sb,getD_eq_getElem?_getD->Lk,getElem?_append->SQ,getElem?_append_left->Lb,getElem?_append_right->Lv,getElem?_cons_succ->MG,getElem?_eq_getElem->LU,getElem?_eq_none->MP,getElem?_eq_none_iff->MK,getElem?_eq_some_iff->L4,getElem?_map->LC,getElem?_of_mem->SO,getElem?_range->Ms,getElem?_replicate->M7,getElem?_set->Qf,getElem?_set_ne->Lx,getElem?_set_self->Lr,getElem?_zipWith->Mz,getElem?_zip_eq_some->Rb,getElem_inj->Pb,getElem_mem->Ml,getElem_of_mem->NI,getElem_range->Sk,getLast?_eq_none_iff->Ra,head?->QO,length->NR,length_append->Lp,length_cons->Lj,length_drop->Qu,length_eq_zero_iff->Pa,length_erase_of_mem->Rh,length_filter_le->Py,length_map->LA,length_nil->NB,length_pos_of_mem->Rv,length_range->Mq,length_replicate->My,length_set->Ny,length_singleton->O0,length_take->MY,length_zip->Nw,lookup->SN,lookup_cons->Lo,map->RT,map_append->Ld,map_congr_left->NH,map_cons->L8,map_fst_zip->Qt,map_map->LV,map_nil->Nm,map_singleton->QN,map_snd_zip->Qs,mem_append->Lh,mem_append_left->MJ,mem_append_right->La,mem_cons->LR,mem_cons_of_mem->Lg,mem_cons_self->Le,mem_erase_of_ne->SM,mem_filter->MD,mem_filterMap->Sj,mem_flatMap->Om,mem_iff_getElem?->Mg,mem_map->LG,mem_of_find?_eq_some->NY,mem_of_getElem?->LM,mem_of_getLast?->SL,mem_of_mem_take->OC,mem_range->MF,mem_singleton->LH,nil_append->Nv,nodup_append->MI,nodup_cons->Lq,not_mem_nil->Mk,of_mem_zip->Pv,pairwise_append->SJ,pairwise_iff_getElem->PC,pairwise_lt_range->Ru,pairwise_map->T6,prefix_iff_eq_take->OW,prefix_of_prefix_length_le->Ql,prefix_refl->PZ,range->L7,range_succ->Oz,range_succ_eq_map->Pn,replicate->M3,size_toArray->Li,tail->Qr,take_add_one->O4,take_length->Qq,take_of_length_le->Nl,take_prefix->OH,take_succ_eq_append_getElem->NZ,zipWith_cons_cons->MX,zip_cons_cons->OS
open List.IsPrefix renaming length_le->NV,trans->PY
open List.Pairwise renaming imp_of_mem->O6,map->Pw
open List.Sublist renaming refl->Rc
open List.cons renaming injEq->Ni
open Nat renaming add_sub_cancel_left->Rt,le_add_right->Pk,le_of_eq->SE,le_of_lt->Pu,le_of_not_lt->Qz,le_refl->LX,le_succ->Oy,le_trans->MC,lt_irrefl->M6,lt_of_le_of_lt->OV,lt_of_lt_of_le->LQ,lt_of_succ_lt_succ->SD,lt_or_ge->Oe,lt_succ_of_lt->NA,lt_succ_self->Pj,lt_trans->Od,ne_of_gt->MQ,ne_of_lt->LO,not_lt->Pq,not_lt_zero->RC,succ_ne_self->Pi,zero_add->Pp,zero_le->M0
open Ne renaming symm->MU
open Option renaming bind_eq_some_iff->LD,bind_some->Qe,getD_none->Si,isSome_iff_exists->RO,isSome_map->QM,map_eq_some_iff->LB,map_some->Ph
open Option.some renaming inj->M4,injEq->Nj
open Or renaming inl->Ow,inr->Ov
open Prod renaming ext->RL
open PyProof.Rows renaming AllBare->QB,IntsAre->T5,callWith_type1->ML,envOfC->OU,slot_tuple_getitem->MO,subscriptTail_builtinR->T4
open PySem renaming Around->Ls,BindsTo->Rq,Builtin->Pm,Env->Qa,FuncData->Mw,IsPart->QU,NameKind->Nt,Obj->Mi,Paired->SA,PassesOwn->QZ,Pos->NJ,Program->Lf,Result->RZ,Shared->L6,Value->L3,World->Ln,assign->P5,assignEach->Ma,atKey->S7,attributeBase->OY,backTo->Oc,behindInMarks->P1,binaryOp->OA,bindArgs->QT,bindC->Sg,bindL->Sf,bootBuiltins->O1,builtinsNs->MZ,call->SX,callType_codes->QS,call_meetsIn->Sx,callerA->R8,cellOf->S6,codeAmong->Og,codeAny->OF,codeAny_builtin->Nb,codeAny_compStart_list->Q7,codeAny_mono->Q6,compEnvC->Q0,compareOp->Lz,comprehension->SW,concat_meets->Sw,eval->MS,exec_Assign_Name_used->QH,foldedSetIterable->NK,getItem->QY,getattributeRaised->PM,letOwnedTupleGo->QF,mem_of_lookup->Lw,model->Ll,newFunctionEnv->S5,newList->Ro,noFill_tuple_add->RX,plainId_quiet->Po,post_val_or_str->QE,pyNext->P4,rawInt->ON,relabel->Sv,richCompare_meets_room->Su,seq_tuple_add->SU,sizeLine_eq->Ly,sliceBounds->P3,starEach->Lc,stored->RV,storedH->QX,strIterType->OM,swapsWith->OB,sysModules->MA,tupleKind->Nr,tupleKind_room_in1->Qw,typeLookup->Qv,valueAt->Mp,wpAny->LY,wpAny_Assign_Subscript->Ss,wpAny_Call_Name_kw->Ob,wpAny_Call_method_late->Sr,wpAny_bind->L1,wpAny_callSpecial?_slot->Nq,wpAny_call_entry->OO,wpAny_comprehension_free->OX,wpAny_dictEntries->OE,wpAny_dictEpoch->QD,wpAny_execs_nil->QC,wpAny_field->QR,wpAny_fieldsOf->QQ,wpAny_getItem_str_slice->Of,wpAny_holding->Mj,wpAny_isInstance->Pz,wpAny_isOneOf_itemiter->Oq,wpAny_loadPart'->Mb,wpAny_mono->N8,wpAny_newFunctionEnv->P2,wpAny_newObj_type->Mu,wpAny_notOrdered_dict->QG,wpAny_passesOwn->O9,wpAny_pure->L9,wpAny_pyIter_enum->Oo,wpAny_pyNext_list_item->Sq,wpAny_pyNext_tuple_end->So,wpAny_pyNext_tuple_item->Se,wpAny_rule->Q5,wpAny_sequenceKey->R7,wpAny_standAt->Qm,wpAny_tests_nil->Rm,wpAny_truthy_bool->Nd,wpAny_typeNameOfWhole_itemiter->Np,wpAny_typeNameOf_itemiter->OR,wpAny_typeOf->NT,wpAny_updateSeq->O8
open PySem.Around renaming frames_deeper->Rr,under_plainId->Ol
open PySem.Builtin.Dict renaming addKeywords->Qd,dictSlotArgs->QV,pairItems->Qp,samePairs->Qo,selfAndRest->Qc,updateFrom->OD
open PySem.Builtin.Dict_items renaming ownedTupleIsFree->P8,ownsTuple->Pl,pairFromOwner->PL
open PySem.Builtin.List renaming listExtendWith->Mf,listItems->OJ,listLengthHint->QL,listSameRef->Qb,listTouch->Qn,listUpdate->Qk
open PySem.Builtin.Slice renaming sliceAdjust->Ot,sliceApplied->QK,slicePlaces->Nu
open PySem.Builtin.Str renaming occurrences->N5,strSliceIndices->Oi
open PySem.Builtin.Tuple renaming tupleExact->O3,tupleItemsOf->QJ
open PySem.Calls renaming Name_function_global->RB,callWith_builtin->Pg,evalArgs_plain->SB,spliced_cons->Sa,spliced_nil->Sh
open PySem.Challenge renaming pw_menutree_k33_whole_any_row->M8
open PySem.Data renaming cell->QA,fields->Qy
open PySem.F renaming args_dict_itemiterator_next_1->Px,args_list_init_2->RA,args_tuple_add_2->P7,called_list->Rp,entry_dict_itemiterator_next->Q3,entry_extend_loop->R5,entry_list_init->RJ,entry_tuple_add->PJ,kt_typeCall_dict_1->T3,plainAttrs_dict->PH,plainAttrs_list->RH,plain_extend_loop->NU,slot_dict_eq->Rn,slot_dict_get->Rg,slot_dict_getitem->R4,slot_dict_itemiterator_next->NG,slot_dict_items->RG,slot_dict_setdefault->Qj,slot_list_append->Pf,slot_list_getattribute->Pe,slot_list_setitem->R3,slot_tuple_add->PR,slot_tuple_getattribute->PQ,typeCall_list_1->RE,type_list_append->R9
open PySem.Heap renaming ExtBut->Ou,SameBut->OG,get?_none_of_le->SI,get?_push_of_some->L5,get?_push_size->LZ,get?_update_other->MW,get?_update_self->Mx,lt_size->LF,size_push->OZ
open PySem.Heap.DictOf renaming new->P9
open PySem.NameKind renaming cell->Q2,free->MB
open PySem.Obj renaming mapSeq->Lu
open PySem.Paired renaming length->M5
open PySem.PassesOwn renaming never->PK
open PySem.SeqAt renaming notIn_listAt->SZ
open PySem.SeqAt.EqAt renaming int_str->Rf,str_int->Re
open PySem.Shared renaming TypeIs->Q9
open PySem.Str renaming join->Q8,ofString->LI
open PySem.Txt renaming slice->Mm,slice_le->Ox
open PySem.Value renaming bool->Oh,int->T2,none->Mo,notImplemented->S9,ref->M1,str->T1,type->Nk
open PySem.W renaming CodeHd->Qx,Frag->L0,OpenLaw->Qi,callWith_K->S8,cellsFrom_some->RY,codeHdIn->PD,codeHd_of_K->Q1,codeIn->O2,envX->PP,findIn->Sz,fnOf->Me,keepIn->NQ,kla_fn->Sy,kla_obj->Os,methodObj->QI,mg_none_of->Mv,mg_of->P6,nsIn->Md,tabObj->OT
open PySem.WalksT renaming enumerateD->SY
open Sum renaming inl->Qh,inr->Na
open Sum.inr renaming inj->Nf
open True renaming intro->Oj
section
namespace L2
open PySem PySem.Spec PyProof.Rows
abbrev Key:=Sum Int Str
def qK:Key->L3->Bool
 | .inl k,v=>Value.isInt k v
 | .inr x,v=>Value.isStrOf x v
def Kb(w:Ln):Key->Int
 | .inl k=>hashInt k
 | .inr x=>hashStr w x
theorem aY:∀{k:Key}{v:L3},qK k v=true->(∃i t,k=Qh i/\v=T2 i t)\/(∃x t,k=Na x/\v=T1 x t)
 | .inl i,v,h=>by
  obtain⟨t,e⟩:=Value.isInt_shape (k:=i) (v:=v) h;exact .inl ⟨i,t,rfl,e⟩
 | .inr x,v,h=>by
  obtain⟨t,e⟩:=Value.isStrOf_shape (x:=x) (v:=v) h;exact .inr ⟨x,t,rfl,e⟩
theorem wc(i:Int)(t:Tok):qK (.inl i) (.int i t)=true:=by simp[qK,Value.isInt]
theorem wb(x:Str)(t:Tok):qK (.inr x) (.str x t)=true:=by simp[qK,Value.isStrOf]
theorem F8(a b:Int):decide ((Qh a:Key)=Qh b)=(a == b):=by
 by_cases e:a=b
 ·subst e;simp
 ·have h:¬ (Qh a:Key)=Qh b:=fun q=>e (Sum.inl.inj q)
  rw[decide_eq_false h];exact(beq_eq_false_iff_ne.mpr e).symm
theorem F5(a b:Str):decide ((Na a:Key)=Na b)=decide (a=b):=by
 by_cases e:a=b
 ·subst e;simp
 ·have h:¬ (Na a:Key)=Na b:=fun q=>e (Nf q)
  rw[decide_eq_false h,decide_eq_false e]
theorem F7(a:Int)(b:Str):decide ((Qh a:Key)=Na b)=false:=decide_eq_false (fun q=>nomatch q)
theorem F6(a:Str)(b:Int):decide ((Na a:Key)=Qh b)=false:=decide_eq_false (fun q=>nomatch q)
def ah(prog:Lf)(w:Ln):PySem.KeyKind prog w Key where
 is:=qK
 hash:=Kb w
 inj:=fun v a b ha hb=>by
  rcases aY ha with⟨i,t,rfl,rfl⟩|⟨x,t,rfl,rfl⟩
  ·rcases aY hb with⟨j,u,rfl,e⟩|⟨y,u,rfl,e⟩
   ·injection e with e1 _;rw[e1]
   ·exact nomatch e
  ·rcases aY hb with⟨j,u,rfl,e⟩|⟨y,u,rfl,e⟩
   ·exact nomatch e
   ·injection e with e1 _;rw[e1]
 byValue:=fun k v h=>by
  rcases aY h with⟨i,t,rfl,rfl⟩|⟨x,t,rfl,rfl⟩ <;> rfl
 pyHash:=fun hv h=>by
  rcases aY hv with⟨i,t,rfl,rfl⟩|⟨x,t,rfl,rfl⟩
  ·exact wpAny_pyHash_int h
  ·exact wpAny_pyHash_str h
 eqBool:=fun hu hv h=>by
  rcases aY hu with⟨i,t,rfl,rfl⟩|⟨x,t,rfl,rfl⟩
  ·rcases aY hv with⟨j,u,rfl,rfl⟩|⟨y,u,rfl,rfl⟩
   ·rw[F8] at h;exact wpAny_eqBool_int h
   ·rw[F7] at h;exact Rf i t y u _ _ _ _ h
  ·rcases aY hv with⟨j,u,rfl,rfl⟩|⟨y,u,rfl,rfl⟩
   ·rw[F6] at h;exact Re x t j u _ _ _ _ h
   ·rw[F5] at h;exact wpAny_eqBool_str h
 «strs»:=fun k x t v h=>by
  rcases aY h with⟨i,u,rfl,e⟩|⟨y,u,rfl,e⟩
  ·exact nomatch e
  ·injection e with e1 _
   subst e1;cases v <;> rfl
theorem qD(prog:Lf)(w:Ln)(i:Int)(t:Tok):(ah prog w).is (.inl i) (.int i t)=true:=wc i t
theorem fH(prog:Lf)(w:Ln)(x:Str)(t:Tok):(ah prog w).is (.inr x) (.str x t)=true:=wb x t
end L2
namespace L2
open PySem PySem.Spec PyProof.Rows
inductive V where
 | non | bl (b:Bool) | int (i:Int) | str (x:Str) | byt (b:Array UInt8) | flt (b:UInt64) | ref (a:Addr) | ty (n:String)
 deriving DecidableEq
def RelV:V->L3->Prop
 | .non,u=>u=Mo
 | .bl b,u=>u=Oh b
 | .int i,u=>∃t,u=T2 i t
 | .str x,u=>∃t,u=T1 x t
 | .byt b,u=>∃t,u=Value.bytes b t
 | .flt b,u=>∃t,u=Value.float b t
 | .ref a,u=>u=M1 a
 | .ty n,u=>u=Nk n
abbrev Vals:List V->List L3->Prop:=SA RelV
theorem Vals.length{xs:List V}{us:List L3}(r:Vals xs us):xs.length=us.length:=M5 r
theorem Vals.get:∀{xs:List V}{us:List L3}{i:Nat}{x:V},Vals xs us->xs[i]?=some x->∃u,us[i]?=some u/\RelV x u
 | _,_,_,_,.nil,e=>by simp at e
 | _,_,0,_,.cons r _,e=>by simp at e;subst e;exact⟨_,rfl,r⟩
 | _,_,i+1,x,.cons _ t,e=>by
  obtain⟨u,h1,h2⟩:=Vals.get (i:=i) (x:=x) t (by simpa using e);exact⟨u,by simpa using h1,h2⟩
theorem Vals.append:∀{xs ys:List V}{us ws:List L3},Vals xs us->Vals ys ws->Vals (xs++ys) (us++ws)
 | _,_,_,_,.nil,s=>s
 | _,_,_,_,.cons r t,s=>.cons r (Vals.append t s)
theorem Vals.take:∀{xs:List V}{us:List L3}(n:Nat),Vals xs us->Vals (xs.take n) (us.take n)
 | _,_,0,_=>.nil
 | _,_,_+1,.nil=>.nil
 | _,_,n+1,.cons r t=>.cons r (Vals.take n t)
theorem Vals.drop:∀{xs:List V}{us:List L3}(n:Nat),Vals xs us->Vals (xs.drop n) (us.drop n)
 | _,_,0,r=>r
 | _,_,_+1,.nil=>.nil
 | _,_,n+1,.cons _ t=>Vals.drop n t
def oD:Option V->Option L3->Prop
 | some v,some u=>RelV v u
 | none,none=>True
 | _,_=>False
def KV{κ:Type}:List (κ×V)->List (κ×L3)->Prop:=SA fun (p:κ×V) (q:κ×L3)=>p.1=q.1/\RelV p.2 q.2
def kV:Key->V
 | .inl i=>.int i
 | .inr x=>.str x
inductive HO where
  | lst (xs:List V)
  | tup (xs:List V)
  | dK (kvs:List (Key×V)) | dT (kvs:List (List Key×V))
  | set (S:Int->Bool) (n:Nat)
  | ins (C dx:Addr) (fs:List (Str×V))
  | own (x:Addr)
  | xd (fs:List (Str×V))
  | met (f x:Addr)
  | rng (lo hi:Int)
  | frz (o:Mi) (u:HO)
  | tbl (ps:Array L3)
  | ext (φ:Heap->Prop)
abbrev Hp:=Addr->Option HO
def upd(H:Hp)(a:Addr)(o:HO):Hp:=fun b=>if b=a then some o else H b
theorem ai{H:Hp}{a:Addr}{o:HO}:upd H a o a=some o:=by unfold upd;rw[if_pos rfl]
theorem aj{H:Hp}{a b:Addr}{o:HO}(h:b≠a):upd H a o b=H b:=by unfold upd;rw[if_neg h]
theorem ER{H:Hp}{a b:Addr}{o u:HO}(h:H a=some o)(h':H b=some u)(d:o≠u):a≠b:=by
 intro e;subst e;rw[h] at h';exact d (M4 h')
theorem bc{H:Hp}{a b:Addr}{o:HO}(h:H a=some o)(h':H b=none):a≠b:=by
 intro e;subst e;rw[h] at h';cases h'
def zT (h:Heap) (a:Addr) (items:Array L3):Prop:=∃o,h.get? a=some o/\o.cls=.type "tuple"/\(∃n,o.data=.seq items n)/\((∀v∈items.toList,∃b,v=M1 b)->o.dict=none)
theorem zT.up{h:Heap}{a:Addr}{items:Array L3}(x:zT h a items):IsTup h a items:=by
 obtain⟨o,e,c,d,_⟩:=x;exact⟨o,e,c,d⟩
theorem zT.new (h:Heap) (items:Array L3):zT (h.push { cls:=.type "tuple",data:=.seq items }) h.objs.size items:=⟨_,LZ _ rfl,rfl,⟨_,rfl⟩,fun _=>rfl⟩
section
variable(P : Lf)(w : Ln)
def dw(H:Hp)(h:Heap)(a:Addr):HO->Prop
 | .lst xs=>xs.length<=sizeLine/\∃(its:List L3) (n:Nat),Vals xs its/\h.get? a=some { cls:=.type "list",data:=.seq its.toArray n }
 | .tup xs=>xs.length<=sizeLine/\∃its:List L3,Vals xs its/\zT h a its.toArray
 | .dK kvs=>kvs.length<=sizeLine/\(a == MA)=false/\∃vs,KV kvs vs/\h.DictOf (ah P w) a vs
 | .dT kvs=>kvs.length<=sizeLine/\(a == MA)=false/\∃xs:List (List Key×Addr×L3),
   SA (fun (p:List Key×V) (q:List Key×Addr×L3)=>p.1=q.1/\H q.2.1=some (.tup (p.1.map kV))/\RelV p.2 q.2.2) kvs xs/\
   ∃o es ep,h.get? a=some o/\o.ExactDict/\o.data=.dict es ep/\es.toList=xs.map (entryOfKey (Nr (ah P w)))/\(xs.map (·.1)).Nodup
 | .set S n=>h.SetOf (intKind P w) a S n
 | .ins C dx fs=>H dx=some (.own a)/\fs.length<=1000/\dx≠a/\h.get? a=some (PySem.W.instObj C dx)/\
   ∃mA,h.Ns1 dx mA/\(∀f,oD (fs.lookup f) (mA f))/\PySem.Within mA (fs.map (·.1))
 | .own _=>∃o,h.get? a=some o
 | .xd fs=>∃mA,h.Ns1 a mA/\∀f,oD (fs.lookup f) (mA f)
 | .rng lo hi=>∃t u v,h.get? a=some { cls:=.type "range",data:=.fields #[.int lo t,.int hi u,.int 1 v] }
 | .frz o u=>h.get? a=some o/\dw H h a u
 | .tbl ps=>h.get? a=some { cls:=.none,data:=.fields ps }
 | .met f x=>h.get? a=some (QI (.ref f) (.ref x))
 | .ext φ=>φ h/\(∃o,h.get? a=some o)/\∀h1 h2:Heap,φ h1->(∀o,h1.get? a=some o->h2.get? a=some o)->φ h2
def HOk(H:Hp)(h:Heap):Prop:=∀a o,H a=some o->dw P w H h a o
end
section
variable{P : Lf}{w : Ln}{H H' : Hp}{h h' : Heap}{a : Addr}{o : HO}
theorem dw.lt(x:dw P w H h a o):a<h.objs.size:=by
 cases o with
 | lst xs=>obtain⟨_,_,_,_,e⟩:=x;exact LF e
 | tup xs=>obtain⟨_,_,_,p⟩:=x;exact p.up.lt
 | dK kvs=>obtain⟨_,_,_,_,o,_,_,e,_⟩:=x;exact LF e
 | dT kvs=>obtain⟨_,_,_,_,o,_,_,e,_⟩:=x;exact LF e
 | set S n=>obtain⟨o,_,_,_,e,_⟩:=x;exact LF e
 | ins C dx fs=>obtain⟨_,_,_,e,_⟩:=x;exact LF e
 | own y=>obtain⟨_,e⟩:=x;exact LF e
 | xd fs=>obtain⟨_,⟨_,_,_,e,_⟩,_⟩:=x;exact LF e
 | rng lo hi=>obtain⟨_,_,_,e⟩:=x;exact LF e
 | frz ob u=>obtain⟨e,_⟩:=x;exact LF e
 | tbl ps=>exact LF (show h.get? a=some _ from x)
 | met f y=>exact LF (show h.get? a=some _ from x)
 | ext φ=>obtain⟨_,⟨_,e⟩,_⟩:=x;exact LF e
theorem Paired.mapP{α β:Type}{F G:α->β->Prop}:∀{l₁:List α}{l₂:List β},SA F l₁ l₂->(∀a b,F a b->G a b)->SA G l₁ l₂
 | _,_,.nil,_=>.nil
 | _,_,.cons r t,f=>.cons (f _ _ r) (Paired.mapP t f)
theorem dw.stay(x:dw P w H h a o)(k:∀b u,(b=a\/H b=some (.own a))->h.get? b=some u->h'.get? b=some u)
  (ho:∀b,H b=some (.own a)->H' b=some (.own a)) (ht:∀b xs,H b=some (.tup xs)->H' b=some (.tup xs)):dw P w H' h' a o:=by
 induction o with
 | lst xs=>obtain⟨z,its,n,r,e⟩:=x;exact⟨z,its,n,r,k _ _ (.inl rfl) e⟩
 | tup xs=>obtain⟨z,its,r,ob,e,c⟩:=x;exact⟨z,its,r,ob,k _ _ (.inl rfl) e,c⟩
 | dK kvs=>obtain⟨z,y,vs,r,ob,es,ep,e,c⟩:=x;exact⟨z,y,vs,r,ob,es,ep,k _ _ (.inl rfl) e,c⟩
 | dT kvs=>
  obtain⟨z,y,xs,r,ob,es,ep,e,c⟩:=x;exact⟨z,y,xs,Paired.mapP r fun p q z=>⟨z.1,ht _ _ z.2.1,z.2.2⟩,ob,es,ep,k _ _ (.inl rfl) e,c⟩
 | set S n=>obtain⟨ob,es,ep,t,e,c⟩:=x;exact⟨ob,es,ep,t,k _ _ (.inl rfl) e,c⟩
 | ins C dx fs=>
  obtain⟨d,z,ne,e,mA,⟨od,es,ep,e2,c⟩,r⟩:=x;exact⟨ho _ d,z,ne,k _ _ (.inl rfl) e,mA,⟨od,es,ep,k _ _ (.inr d) e2,c⟩,r⟩
 | own y=>obtain⟨ob,e⟩:=x;exact⟨ob,k _ _ (.inl rfl) e⟩
 | xd fs=>obtain⟨mA,⟨od,es,ep,e,c⟩,r⟩:=x;exact⟨mA,⟨od,es,ep,k _ _ (.inl rfl) e,c⟩,r⟩
 | rng lo hi=>obtain⟨t,u,v,e⟩:=x;exact⟨t,u,v,k _ _ (.inl rfl) e⟩
 | frz ob u ih=>obtain⟨e,q⟩:=x;exact⟨k _ _ (.inl rfl) e,ih q⟩
 | tbl ps=>
  have e:h.get? a=some { cls:=.none,data:=.fields ps }:=x;show h'.get? a=some { cls:=.none,data:=.fields ps };exact k a _ (.inl rfl) e
 | met f y=>
  have e:h.get? a=some (QI (.ref f) (.ref y)):=x;show h'.get? a=some (QI (.ref f) (.ref y));exact k a _ (.inl rfl) e
 | ext φ=>obtain⟨p,⟨o,e⟩,st⟩:=x;exact⟨st _ _ p fun o q=>k _ _ (.inl rfl) q,⟨o,k _ _ (.inl rfl) e⟩,st⟩
theorem HOk.lt(x:HOk P w H h)(e:H a=some o):a<h.objs.size:=(x a o e).lt
theorem HOk.fresh(x:HOk P w H h)(e:h.objs.size<=a):H a=none:=by
 cases q:H a with
 | none=>rfl
 | some u=>exact absurd (LQ (x.lt q) e) (M6 _)
theorem HOk.kept(x:HOk P w H h)(k:∀b u,h.get? b=some u->h'.get? b=some u):HOk P w H h':=fun a o e=>
 (x a o e).stay (fun b u _ q=>k b u q) (fun _ q=>q) fun _ _ q=>q
theorem HOk.laid(x:HOk P w H h)(k:∀b u,h.get? b=some u->h'.get? b=some u)(hp:h.objs.size<=a)(new:dw P w (upd H a o) h' a o):HOk P w (upd H a o) h':=fun b u e=>by
 have hn:=x.fresh hp
 by_cases hb:b=a
 ·subst hb;rw[ai] at e;cases e;exact new
 ·rw[aj hb] at e
  exact(x b u e).stay (fun c v _ q=>k c v q) (fun c q=>by rw[aj (bc q hn)];exact q) fun c xs q=>by rw[aj (bc q hn)];exact q
end
def Rd(H:Hp)(a:Addr)(u:HO):Prop:=H a=some u\/∃o,H a=some (.frz o u)
theorem Rd.ok{P:Lf}{w:Ln}{H:Hp}{h:Heap}{a:Addr}{u:HO}(r:Rd H a u)(x:HOk P w H h):dw P w H h a u:=by
 rcases r with r | ⟨o,r⟩
 ·exact x a u r
 ·obtain⟨_,q⟩:=x a _ r
  exact q
def Mut:Option HO->Prop
 | some (.lst _)=>True
 | some (.dK _)=>True
 | some (.dT _)=>True
 | some (.set _ _)=>True
 | some (.ins _ _ _)=>True
 | some (.ext _)=>True
 | _=>False
section
variable{P : Lf}{w : Ln}{H : Hp}{h h' : Heap}{x e : Addr}{o' : HO}
theorem HOk.write(ok:HOk P w H h)(mu:Mut (H x))(he:e=x\/H e=some (.own x))(k:∀b u,b≠e->h.get? b=some u->h'.get? b=some u)(heo:∃u,h'.get? e=some u)
  (new:dw P w (upd H x o') h' x o'):HOk P w (upd H x o') h':=fun b u q=>by
 have nown:∀c y,H c=some (.own y)->c≠x:=fun c y r z=>by subst z;rw[r] at mu;exact mu
 have ntup:∀c xs,H c=some (.tup xs)->c≠x:=fun c xs r z=>by subst z;rw[r] at mu;exact mu
 by_cases hb:b=x
 ·subst hb;rw[ai] at q;cases q;exact new
 ·rw[aj hb] at q
  by_cases hbe:b=e
  ·have q':H b=some (.own x):=by
    rcases he with z | z
    ·exact absurd (hbe.trans z) hb
    ·rw[hbe];exact z
   rw[q] at q';cases q';obtain⟨v,hv⟩:=heo;exact⟨v,by rw[hbe];exact hv⟩
  ·refine(ok b u q).stay (fun c v hc r=>k c v ?_ r) (fun c r=>by rw[aj (nown c b r)];exact r) fun c xs r=>by rw[aj (ntup c xs r)];exact r
   rcases hc with rfl | hc
   ·exact hbe
   ·rintro rfl
    rcases he with z | z
    ·exact nown c b hc z
    ·rw[hc] at z;cases z;exact hb rfl
end
structure Un(fs ex:List Addr)(H H':Hp)(h h':Heap):Prop where
 keep:∀b o,h.get? b=some o->H b=none->b ∉ fs->b ∉ ex->h'.get? b=some o
 slot:∀b o,h.get? b=some o->H b=none->b∈fs->b ∉ ex->∃sl,h'.get? b=some { o with slots:=sl }
 free:∀b o,h.get? b=some o->H b=none->b ∉ ex->H' b=none
 there:∀b o,h.get? b=some o->b ∉ ex->∃o',h'.get? b=some o'
 tups:∀b xs,H b=some (.tup xs)->H' b=some (.tup xs)
 frzs:∀b o u,H b=some (.frz o u)->H' b=some (.frz o u)
 tbls:∀b ps,H b=some (.tbl ps)->∃more,H' b=some (.tbl (ps++more))
section
variable{fs fs' ex ex' : List Addr}{H H1 H2 : Hp}{h h1 h2 h' : Heap}{a x e : Addr}{o : HO}
theorem Un.any(u:Un fs ex H H1 h h1){b:Addr}{ob:Mi}(q:h.get? b=some ob)(n:H b=none)(hx:b ∉ ex):∃sl,h1.get? b=some { ob with slots:=sl }:=by
 by_cases hb:b∈fs
 ·exact u.slot b ob q n hb hx
 ·exact⟨ob.slots,u.keep b ob q n hb hx⟩
theorem Un.kept(k:∀b u,h.get? b=some u->h'.get? b=some u):Un fs ex H H h h':=
 ⟨fun b ob q _ _ _=>k b ob q,fun b ob q _ _ _=>⟨ob.slots,k b ob q⟩,fun _ _ _ n _=>n,fun b ob q _=>⟨ob,k b ob q⟩,fun _ _ q=>q,fun _ _ _ q=>q,fun _ ps q=>⟨#[],by rw[q];simp⟩⟩
theorem Un.refl:Un fs ex H H h h:=Un.kept fun _ _ q=>q
theorem Un.laid(k:∀b u,h.get? b=some u->h'.get? b=some u)(hp:h.objs.size<=a)(hn:H a=none):Un fs ex H (upd H a o) h h' where
 keep:=fun b u q _ _ _=>k b u q
 slot:=fun b u q _ _ _=>⟨u.slots,k b u q⟩
 free:=fun b u q n _=>by rw[aj (LO (LQ (LF q) hp))];exact n
 there:=fun b u q _=>⟨u,k b u q⟩
 tups:=fun b xs q=>by rw[aj (bc q hn)];exact q
 frzs:=fun b u xs q=>by rw[aj (bc q hn)];exact q
 tbls:=fun b ps q=>⟨#[],by rw[aj (bc q hn),q];simp⟩
theorem Un.write(mu:Mut (H x))(he:e=x\/H e=some (.own x))(k:∀b u,b≠e->h.get? b=some u->h'.get? b=some u)(heo:∃u,h'.get? e=some u):Un fs ex H (upd H x o) h h':=by
 have hx:∀b,H b=none->b≠x:=fun b n z=>by subst z;rw[n] at mu;exact mu
 have hb:∀b,H b=none->b≠e:=fun b n z=>by
  subst z;rcases he with r | r
  ·exact hx b n r
  ·rw[n] at r;cases r
 have hm:∀b u,H b=some u->¬ Mut (some u)->b≠x:=fun b u q nm z=>by subst z;rw[q] at mu;exact nm mu
 refine⟨fun b u q n _ _=>k b u (hb b n) q,fun b u q n _ _=>⟨u.slots,k b u (hb b n) q⟩,fun b u q n _=>by rw[aj (hx b n)];exact n,fun b u q _=>?_,
  fun b xs q=>by rw[aj (hm b _ q fun z=>z)];exact q,fun b u xs q=>by rw[aj (hm b _ q fun z=>z)];exact q,fun b ps q=>⟨#[],by rw[aj (hm b _ q fun z=>z),q];simp⟩⟩
 by_cases hbe:b=e
 ·subst hbe;exact heo
 ·exact⟨u,k b u hbe q⟩
end
def trk(h:Heap)(H:Hp):List Addr:=(L7 h.objs.size).filter fun a=>(H a).isSome
def zp(h:Heap)(H:Hp):Heap:=PySem.W.hideAll h (trk h H)
theorem wB(h:Heap)(H:Hp):(zp h H).objs.size=h.objs.size:=PySem.W.hideAll_size _ _
theorem zo{h:Heap}{H:Hp}{b:Addr}{o:Mi}(e:h.get? b=some o)(n:H b=none):(zp h H).get? b=some o:=
 PySem.W.hideAll_get _ e fun hm=>by
  have q:(H b).isSome=true:=(MD.mp hm).2;rw[n] at q;simp at q
theorem BW{h:Heap}{H:Hp}{b:Addr}{o:Mi}(e:(zp h H).get? b=some o):h.get? b=some o/\H b=none:=by
 have e':h.get? b=some o:=PySem.W.of_hideAll (trk h H) e;refine⟨e',?_⟩;cases q:H b with
 | none=>rfl
 | some x=>
  have hm:b∈trk h H:=MD.mpr ⟨MF.mpr (LF e'),by simp[q]⟩;have z:(zp h H).get? b=none:=PySem.W.hideAll_none (trk h H) hm;rw[z] at e;cases e
def D6(g h:Heap)(L:Addr):List (Addr×Mi):=(L7 h.objs.size).filterMap fun a=>if a=L\/(g.get? a).isSome=true then none else (h.get? a).map fun o=>(a,o)
def rest(g h:Heap)(L d:Addr):List (Addr×Mi):=(D6 g h L).filter fun p=>decide (p.1≠d)
end L2
namespace L2
open PySem PySem.Spec PyProof.Rows
structure Mod(K:L0)(mg:Str->Option L3)(base:Heap):Prop where
 kin:K.In base
 glob:base.Ns mainGlobals mg
 blt:∃mb,base.Ns MZ mb/\∀x:Str,x≠"__name__"->mb x=O1 x
 nolimit:base.NoLimit
structure Cx where
 prog:Lf
 w:Ln
 K:L0
 mg:Str->Option L3
 base:Heap
 A:Ls
 N:List Str
 s₀:L6
 H₀:Hp
 env:Qa
 outer:List Qa
 stack:List Qa
 ex:List Addr
 fn:Str->Bool
 calm:Bool
 pn:List (Addr×Mi)
 xe:L3->L6->Prop
def frs(l:List Qa):List Addr:=l.filterMap (·.frame)
abbrev Cx.fs(X:Cx):List Addr:=frs X.outer
def Vis(sc:Scope)(x:Str):Prop:=sc.names.lookup x=some .local\/sc.names.lookup x=some .cell\/sc.names.lookup x=some .free
def Loc(sc:Scope)(x:Str):Prop:=sc.names.lookup x=some .local\/sc.names.lookup x=some .cell
def Look(env:Qa)(h:Heap)(m:Str->Option L3)(x:Str)(u:L3):Prop:=
 (env.kindOf x=some .local/\m x=some u)\/((env.kindOf x=some .cell\/env.kindOf x=some .free)/\∃c,env.cells.lookup x=some c/\h.IsCell c (some u))
structure Cx.Ok(X:Cx):Prop where
 mod:Mod X.K X.mg X.base
 kind:X.env.scope.kind=.function
 glob:X.env.globals=mainGlobals
 blt:X.env.builtins=MZ
 above:X.s₀.heap.objs.size<=X.env.locals
 inj:∀x y c,X.env.cells.lookup x=some c->X.env.cells.lookup y=some c->x=y
 has:∀x,(X.env.kindOf x=some .cell\/X.env.kindOf x=some .free)->∃c,X.env.cells.lookup x=some c
 cab:∀x c,X.fn x=true->X.env.cells.lookup x=some c->X.s₀.heap.objs.size<=c
 hd:X.calm=true->X.A.handled=none
 frames:X.A.frames=some X.stack
 stk:X.stack=X.outer\/(X.stack=X.env::X.outer/\X.env.frame=some X.env.locals)
 exf:∀b∈X.ex,b≠X.env.locals/\∀x c,X.env.cells.lookup x=some c->c≠b
 bs:∀b o,X.base.get? b=some o->X.s₀.heap.get? b=some o/\X.H₀ b=none
 bsz:X.base.objs.size<=X.s₀.heap.objs.size
 noex:∀b o,X.base.get? b=some o->b ∉ X.ex
 exfs:∀b∈X.ex,b ∉ X.fs
 funs:X.s₀.heap.FunFrames X.base X.outer
 frf:∀b∈X.fs,X.H₀ b=none
structure Inv(X:Cx)(KW:List (Addr×Mi))(σ:List (Option V))(H:Hp)(s:L6):Prop where
 ok:X.Ok
 os:s.os=X.s₀.os
 bare:QB s.gens
 base:Un X.fs X.ex X.H₀ H X.s₀.heap s.heap
 loc:∃m,s.heap.Ns X.env.locals m/\∀(i:Nat)(x:Str)(v:V),X.N[i]?=some x->σ[i]?=some (some v)->Vis X.env.scope x->∃u,RelV v u/\Look X.env s.heap m x u
 cell:∀x c,X.env.cells.lookup x=some c->∃v,s.heap.IsCell c v
 free:H X.env.locals=none
 freeC:∀x c,X.env.cells.lookup x=some c->H c=none
 pin:∀p∈X.pn++KW,s.heap.get? p.1=some p.2/\H p.1=none/\p.1≠X.env.locals/\p.1 ∉ X.fs/\∀v,p.2.data≠.cell v
 hok:HOk X.prog X.w H s.heap
 len:σ.length=X.N.length
section
variable{X : Cx}{KW : List (Addr×Mi)}{σ : List (Option V)}{H H' : Hp}{s : L6}{h' : Heap}
theorem Cx.Ok.nofr(ok:X.Ok){b:Addr}{o:Mi}(e:X.base.get? b=some o):b ∉ X.fs:=fun hb=>by
 have:=(ok.funs.mem hb).1;rw[e] at this;cases this
theorem Inv.bs(I:Inv X KW σ H s):∀b o,X.base.get? b=some o->s.heap.get? b=some o/\H b=none:=fun b o e=>
 ⟨I.base.keep b o (I.ok.bs b o e).1 (I.ok.bs b o e).2 (I.ok.nofr e) (I.ok.noex b o e),I.base.free b o (I.ok.bs b o e).1 (I.ok.bs b o e).2 (I.ok.noex b o e)⟩
theorem Inv.bk(I:Inv X KW σ H s):∀b o,X.base.get? b=some o->s.heap.get? b=some o:=fun b o e=>(I.bs b o e).1
theorem Inv.mod(I:Inv X KW σ H s):Mod X.K X.mg X.base:=I.ok.mod
theorem Inv.kIn(I:Inv X KW σ H s):X.K.In s.heap:=I.ok.mod.kin.keeps I.bk
theorem Inv.lt(I:Inv X KW σ H s):X.env.locals<s.heap.objs.size:=let ⟨_,hn,_⟩:=I.loc;hn.lt
theorem Inv.sz(I:Inv X KW σ H s):X.s₀.heap.objs.size<=s.heap.objs.size:=MC I.ok.above (Pu I.lt)
theorem Inv.nofs(I:Inv X KW σ H s){a:Addr}(h:s.heap.objs.size<=a):a ∉ X.fs:=fun hb=>by
 obtain⟨_,o,ho,_⟩:=I.ok.funs.mem hb;exact absurd (LQ (LF ho) (MC I.sz h)) (M6 _)
theorem Inv.cne(I:Inv X KW σ H s):∀x c,X.env.cells.lookup x=some c->c≠X.env.locals:=fun x c e z=>by
 obtain⟨v,o,ho,hd⟩:=I.cell x c e;obtain⟨m,⟨o',es,ep,ho',hd',_⟩,_⟩:=I.loc;rw[z,ho'] at ho;cases ho;rw[hd'] at hd;cases hd
theorem Inv.funs(I:Inv X KW σ H s):s.heap.FunFrames X.base X.outer:=by
 have all:∀(l:List Qa),(∀b∈frs l,b∈X.fs)->X.s₀.heap.FunFrames X.base l->s.heap.FunFrames X.base l:=by
  intro l
  induction l with
  | nil=>intro _ _;trivial
  | cons env r ih=>
   intro hs hl;obtain⟨hk,⟨L,o,hf,hn,ho,hd⟩,hr⟩:=hl;have hL:L∈X.fs:=hs L (by unfold frs;rw[OL,hf];exact Le);obtain⟨sl,e⟩:=I.base.slot L o ho (I.ok.frf L hL) hL fun z=>I.ok.exfs L z hL;exact⟨hk,⟨L,_,hf,hn,e,hd⟩,ih (fun b hb=>hs b (by unfold frs;rw[OL,hf];exact Lg _ hb)) hr⟩
 exact all X.outer (fun _ hb=>hb) I.ok.funs
theorem Inv.stack(I:Inv X KW σ H s):s.heap.FunFrames X.base X.stack:=by
 rcases I.ok.stk with e | ⟨e,hf⟩
 ·rw[e];exact I.funs
 ·rw[e]
  obtain⟨m,hn,_⟩:=I.loc;refine .cons (by rw[I.ok.kind];decide) hf hn ?_ I.funs;exact SI (MC I.ok.bsz I.ok.above)
theorem Inv.stkSub(I:Inv X KW σ H s):∀b∈frs X.stack,b∈X.env.locals::X.fs:=fun b hb=>by
 rcases I.ok.stk with e | ⟨e,hf⟩
 ·rw[e] at hb;exact Lg _ hb
 ·rw[e] at hb
  unfold frs at hb;rw[OL,hf] at hb;exact hb
theorem Inv.stkFree(I:Inv X KW σ H s):∀b∈frs X.stack,H b=none:=fun b hb=>by
 rcases LR.mp (I.stkSub b hb) with e | hb
 ·rw[e];exact I.free
 ·obtain⟨_,o,ho,_⟩:=I.ok.funs.mem hb
  exact I.base.free b o ho (I.ok.frf b hb) fun z=>I.ok.exfs b z hb
theorem Inv.step{g':Array GenState}{t':Nat}{d':Drawn}{ch:List Addr}(I:Inv X KW σ H s)
  (hch:∀b∈ch,(b∈X.ex\/X.s₀.heap.objs.size<=b)/\b≠X.env.locals/\(∀x c,X.env.cells.lookup x=some c->c≠b)/\∀p∈X.pn++KW,p.1≠b)
  (keep:∀b o,b≠X.env.locals->b ∉ X.fs->b ∉ ch->s.heap.get? b=some o->H b=none->h'.get? b=some o)
  (slot:∀b o,b≠X.env.locals->b∈X.fs->b ∉ ch->s.heap.get? b=some o->H b=none->∃sl,h'.get? b=some { o with slots:=sl }) (free:∀b o,b ∉ ch->s.heap.get? b=some o->H b=none->H' b=none)
  (there:∀b o,b ∉ ch->s.heap.get? b=some o->∃o',h'.get? b=some o')
  (tups:∀b xs,H b=some (.tup xs)->H' b=some (.tup xs)) (frzs:∀b o u,H b=some (.frz o u)->H' b=some (.frz o u)) (tbls:∀b ps,H b=some (.tbl ps)->∃more,H' b=some (.tbl (ps++more)))
  (ns:∀m,s.heap.Ns X.env.locals m->h'.Ns X.env.locals m) (hok:HOk X.prog X.w H' h') (hg:QB g') :
  Inv X KW σ H' { s with heap:=h',gens:=g',drawn:=d',toks:=t' }:=by
 have neL:∀b o,X.s₀.heap.get? b=some o->b≠X.env.locals:=fun b o e=>LO (LQ (LF e) I.ok.above)
 have neC:∀b o,X.s₀.heap.get? b=some o->b ∉ X.ex->b ∉ ch:=fun b o e hx hb=>by
  rcases (hch b hb).1 with z | z
  ·exact hx z
  ·exact absurd (LQ (LF e) z) (M6 _)
 have cellK:∀x c,X.env.cells.lookup x=some c->∀v,s.heap.IsCell c v->h'.IsCell c v:=fun x c e v ⟨o,ho,hd⟩=>by
  have nch:c ∉ ch:=fun z=>(hch c z).2.2.1 x c e rfl
  by_cases hc:c∈X.fs
  ·obtain⟨sl,q⟩:=slot c o (I.cne x c e) hc nch ho (I.freeC x c e)
   exact⟨_,q,hd⟩
  ·exact⟨o,keep c o (I.cne x c e) hc nch ho (I.freeC x c e),hd⟩
 refine⟨I.ok,I.os,hg,⟨fun b o e n hb hx=>?_,fun b o e n hb hx=>?_,fun b o e n hx=>?_,fun b o e hx=>?_,fun b xs e=>tups b xs (I.base.tups b xs e),fun b o xs e=>frzs b o xs (I.base.frzs b o xs e),fun b ps e=>?_⟩,?_,fun x c e=>?_,?_,fun x c e=>?_,fun p hp=>?_,hok,I.len⟩
 ·exact keep b o (neL b o e) hb (neC b o e hx) (I.base.keep b o e n hb hx) (I.base.free b o e n hx)
 ·obtain⟨sl,e1⟩:=I.base.slot b o e n hb hx
  obtain⟨sl',e2⟩:=slot b _ (neL b o e) hb (neC b o e hx) e1 (I.base.free b o e n hx);exact⟨sl',e2⟩
 ·obtain⟨o',e1⟩:=I.base.there b o e hx
  exact free b o' (neC b o e hx) e1 (I.base.free b o e n hx)
 ·obtain⟨o',e1⟩:=I.base.there b o e hx
  exact there b o' (neC b o e hx) e1
 ·obtain⟨m1,e1⟩:=I.base.tbls b ps e
  obtain⟨m2,e2⟩:=tbls b _ e1;exact⟨m1++m2,by rw[e2,Array.append_assoc]⟩
 ·obtain⟨m,hn,hl⟩:=I.loc
  refine⟨m,ns m hn,fun i x v e1 e2 e3=>?_⟩;obtain⟨u,r,l⟩:=hl i x v e1 e2 e3;refine⟨u,r,?_⟩;rcases l with l | ⟨k,c,e,z⟩
  ·exact .inl l
  ·exact .inr ⟨k,c,e,cellK x c e _ z⟩
 ·obtain⟨v,z⟩:=I.cell x c e
  exact⟨v,cellK x c e v z⟩
 ·obtain⟨m,⟨o,_,_,ho,_⟩,_⟩:=I.loc
  exact free _ o (fun z=>(hch _ z).2.1 rfl) ho I.free
 ·obtain⟨v,o,ho,hd⟩:=I.cell x c e
  exact free c o (fun z=>(hch c z).2.2.1 x c e rfl) ho (I.freeC x c e)
 ·obtain⟨e,n,ne,nf,d⟩:=I.pin p hp
  have nch:p.1 ∉ ch:=fun z=>(hch p.1 z).2.2.2 p hp rfl;exact⟨keep p.1 p.2 ne nf nch e n,free p.1 p.2 nch e n,ne,nf,d⟩
theorem Inv.un{t':Nat}(I:Inv X KW σ H s)(u:Un X.fs [] H H' s.heap h')(hok:HOk X.prog X.w H' h'):Inv X KW σ H' { s with heap:=h',toks:=t' }:=by
 obtain⟨m,⟨o,es,ep,ho,r⟩,_⟩:=id I.loc;obtain⟨sl,hL⟩:=u.any ho I.free (by simp)
 exact I.step (g':=s.gens) (d':=s.drawn) (ch:=[]) (fun _ z=>nomatch z) (fun b o _ hb _ e n=>u.keep b o e n hb (by simp)) (fun b o _ hb _ e n=>u.slot b o e n hb (by simp)) (fun b o _ e n=>u.free b o e n (by simp)) (fun b o _ e=>u.there b o e (by simp)) u.tups u.frzs u.tbls (fun m' hm=>by
  obtain⟨o',es',ep',ho',r'⟩:=hm;rw[ho] at ho';cases ho';exact⟨_,es',ep',hL,r'⟩) hok I.bare
theorem Inv.call{g':Array GenState}{t':Nat}{d':Drawn}{ch:List Addr}(I:Inv X KW σ H s)(u:Un (frs X.stack) ch H H' s.heap h')(hok:HOk X.prog X.w H' h')(hg:QB g')
  (hch:∀b∈ch,(b∈X.ex\/X.s₀.heap.objs.size<=b)/\b≠X.env.locals/\(∀x c,X.env.cells.lookup x=some c->c≠b)/\∀p∈X.pn++KW,p.1≠b) :
  Inv X KW σ H' { s with heap:=h',gens:=g',drawn:=d',toks:=t' }:=by
 obtain⟨m,⟨o,es,ep,ho,r⟩,_⟩:=id I.loc;obtain⟨sl,hL⟩:=u.any ho I.free fun z=>(hch _ z).2.1 rfl
 exact I.step (ch:=ch) hch (fun b o hL hb hc e n=>u.keep b o e n (fun z=>(LR.mp (I.stkSub b z)).elim hL hb) hc) (fun b o _ _ hc e n=>u.any e n hc) (fun b o hc e n=>u.free b o e n hc) (fun b o hc e=>u.there b o e hc) u.tups u.frzs u.tbls (fun m' hm=>by
  obtain⟨o',es',ep',ho',r'⟩:=hm;rw[ho] at ho';cases ho';exact⟨_,es',ep',hL,r'⟩) hok hg
theorem Inv.turned{t':Nat}{it:Addr}(I:Inv X KW σ H s)(k:∀b o,b≠it->s.heap.get? b=some o->h'.get? b=some o)(hn:H it=none)(hL:it≠X.env.locals)
  (h1:it∈X.ex\/X.s₀.heap.objs.size<=it) (h2:∀x c,X.env.cells.lookup x=some c->c≠it) (h3:∀p∈X.pn++KW,p.1≠it):Inv X KW σ H { s with heap:=h',toks:=t' }:=by
 have nit:∀b u,H b=some u->b≠it:=fun b u e z=>by rw[z,hn] at e;cases e
 refine I.step (g':=s.gens) (d':=s.drawn) (ch:=[it]) (fun b hb=>?_) (fun b o _ _ hc e _=>k b o (fun z=>hc (by simp[z])) e) (fun b o _ _ hc e _=>⟨o.slots,k b o (fun z=>hc (by simp[z])) e⟩) (fun _ _ _ _ n=>n)
  (fun b o hc e=>⟨o,k b o (fun z=>hc (by simp[z])) e⟩) (fun _ _ e=>e) (fun _ _ _ e=>e) (fun b ps e=>⟨#[],by rw[e];simp⟩) (fun m hm=>?_) (fun b u e=>?_) I.bare
 ·have e:b=it:=by simpa using hb
  subst e;exact⟨h1,hL,h2,h3⟩
 ·obtain⟨o,es,ep,ho,r⟩:=hm
  exact⟨o,es,ep,k _ o (MU hL) ho,r⟩
 ·refine(I.hok b u e).stay (fun c v hc q=>k c v ?_ q) (fun _ q=>q) fun _ _ q=>q
  rcases hc with z | z
  ·rw[z];exact nit b u e
  ·exact nit c _ z
theorem Inv.tok(I:Inv X KW σ H s)(t:Nat):Inv X KW σ H { s with toks:=t }:=I.un (h':=s.heap) (t':=t) Un.refl I.hok
theorem Inv.kept{t':Nat}(I:Inv X KW σ H s)(k:∀b u,s.heap.get? b=some u->h'.get? b=some u):Inv X KW σ H { s with heap:=h',toks:=t' }:=I.un (Un.kept k) (I.hok.kept k)
theorem Inv.laid{a:Addr}{o:HO}{t':Nat}(I:Inv X KW σ H s)(k:∀b u,s.heap.get? b=some u->h'.get? b=some u)(hp:s.heap.objs.size<=a)(new:dw X.prog X.w (upd H a o) h' a o) :
  Inv X KW σ (upd H a o) { s with heap:=h',toks:=t' }:=I.un (Un.laid k hp (I.hok.fresh hp)) (I.hok.laid k hp new)
theorem Inv.write{x e:Addr}{o:HO}{t':Nat}(I:Inv X KW σ H s)(mu:Mut (H x))(he:e=x\/H e=some (.own x))(k:∀b u,b≠e->s.heap.get? b=some u->h'.get? b=some u)(heo:∃u,h'.get? e=some u)
  (new:dw X.prog X.w (upd H x o) h' x o):Inv X KW σ (upd H x o) { s with heap:=h',toks:=t' }:=I.un (Un.write mu he k heo) (I.hok.write mu he k heo new)
theorem Inv.pins_of{pins':List (Addr×Mi)}(I:Inv X KW σ H s)(h:∀p∈pins',s.heap.get? p.1=some p.2/\H p.1=none/\p.1≠X.env.locals/\p.1 ∉ X.fs/\∀v,p.2.data≠.cell v):Inv X pins' σ H s:=
 ⟨I.ok,I.os,I.bare,I.base,I.loc,I.cell,I.free,I.freeC,fun p hp=>(Lh.mp hp).elim (fun z=>I.pin p (MJ _ z)) (h p),I.hok,I.len⟩
theorem rX{N:List Str}(hN:N.Nodup){i j:Nat}{x:Str}(a:N[i]?=some x)(b:N[j]?=some x):i=j:=by
 obtain⟨h1,e1⟩:=L4.mp a;obtain⟨h2,e2⟩:=L4.mp b;exact(Pb hN).mp (e1.trans e2.symm)
theorem uT{M:Model}{A:Ls}{E:L3->L6->Prop}{i:Nat}{x:Str}{v:V}{u:L3}{Q:Unit->L6->Prop}(I:Inv X KW σ H s)(hN:X.N.Nodup)(hi:X.N[i]?=some x)(hx:Loc X.env.scope x)(r:RelV v u)
  (h:∀s',Inv X KW (σ.set i (some v)) H s'->(∃a,OG a s.heap s'.heap/\(a=X.env.locals\/X.env.cells.lookup x=some a))->Q () s') (hf:X.fn x=true\/X.env.scope.names.lookup x=some .local:=by first | exact .inl rfl | exact .inr rfl | assumption):LY M A (storeName X.env x u) Q E s:=by
 obtain⟨m,hn,hl⟩:=id I.loc;have hcls:(X.env.scope.kind == .class || (X.env.scope.kind == .module && X.env.locals != X.env.globals))=false:=by rw[I.ok.kind];rfl
 have hiσ:i<σ.length:=by rw[I.len];exact(L4.mp hi).1
 have cne:=I.cne
 have tracked:∀{a:Addr}{h':Heap},(∃o,s.heap.get? a=some o/\H a=none)->OG a s.heap h'->HOk X.prog X.w H h':=fun {a h'} ha hs b ob e=>by
  obtain⟨_,_,hfree⟩:=ha;refine(I.hok b ob e).stay (fun c w' hc q=>(hs.2 c ?_).trans q) (fun _ q=>q) fun _ _ q=>q;rintro rfl;rcases hc with rfl | hc
  ·rw[hfree] at e;cases e
  ·rw[hfree] at hc;cases hc
 rcases hx with hk | hk
 ·refine wpAny_storeName_local hk hn (fun h' hn' hs=>?_) hcls
  obtain⟨oL,_,_,hoL,_⟩:=id hn;refine h _ ⟨I.ok,I.os,I.bare,⟨fun b o e n hb hx=>?_,fun b o e n hb hx=>?_,I.base.free,fun b o e hx=>?_,I.base.tups,I.base.frzs,I.base.tbls⟩,⟨_,hn',fun j y v' e1 e2 e3=>?_⟩,fun y c e=>?_,I.free,I.freeC,fun p hp=>?_,tracked ⟨oL,hoL,I.free⟩ hs,by simpa using I.len⟩ ⟨_,hs,.inl rfl⟩
  ·exact(hs.2 b (LO (LQ (LF e) I.ok.above))).trans (I.base.keep b o e n hb hx)
  ·obtain⟨sl,e1⟩:=I.base.slot b o e n hb hx
   exact⟨sl,(hs.2 b (LO (LQ (LF e) I.ok.above))).trans e1⟩
  ·obtain⟨o',e1⟩:=I.base.there b o e hx
   exact⟨o',(hs.2 b (LO (LQ (LF e) I.ok.above))).trans e1⟩
  ·by_cases hj:j=i
   ·subst hj
    rw[hi] at e1;cases e1;rw[Lr hiσ] at e2;cases e2;exact⟨u,r,.inl ⟨hk,by simp⟩⟩
   ·rw[Lx (MU hj)] at e2
    obtain⟨u',r',q⟩:=hl j y v' e1 e2 e3;refine⟨u',r',?_⟩;rcases q with⟨k,e⟩|⟨k,c,e,z⟩
    ·refine .inl ⟨k,?_⟩
     have:y≠x:=fun e=>hj (rX hN e1 (e▸hi));simp[this,e]
    ·exact .inr ⟨k,c,e,z.sameBut hs (cne y c e)⟩
  ·obtain⟨w',z⟩:=I.cell y c e
   exact⟨w',z.sameBut hs (cne y c e)⟩
  ·obtain⟨e,n,ne,nf,d⟩:=I.pin p hp
   exact⟨(hs.2 p.1 ne).trans e,n,ne,nf,d⟩
 ·have hfn:X.fn x=true:=by
   rcases hf with z | z
   ·exact z
   ·rw[z] at hk;cases hk
  obtain⟨c,hc⟩:=I.ok.has x (.inl hk);obtain⟨w',z⟩:=I.cell x c hc;refine wpAny_storeName_cell I.ok.kind hk hc z (fun h' hc' hs=>?_);obtain⟨oc,hoc,hocd⟩:=id z;refine h { s with heap:=h' } ⟨I.ok,I.os,I.bare,⟨fun b o e n hb hx=>?_,fun b o e n hb hx=>?_,I.base.free,fun b o e hx=>?_,I.base.tups,I.base.frzs,I.base.tbls⟩,⟨m,hn.sameBut hs (MU (cne x c hc)),fun j y v' e1 e2 e3=>?_⟩,fun y c' e=>?_,I.free,I.freeC,fun p hp=>?_,tracked ⟨oc,hoc,I.freeC x c hc⟩ hs,by simpa using I.len⟩ ⟨c,hs,.inr hc⟩
  ·exact(hs.2 b (LO (LQ (LF e) (I.ok.cab x c hfn hc)))).trans (I.base.keep b o e n hb hx)
  ·obtain⟨sl,e1⟩:=I.base.slot b o e n hb hx
   exact⟨sl,(hs.2 b (LO (LQ (LF e) (I.ok.cab x c hfn hc)))).trans e1⟩
  ·obtain⟨o',e1⟩:=I.base.there b o e hx
   exact⟨o',(hs.2 b (LO (LQ (LF e) (I.ok.cab x c hfn hc)))).trans e1⟩
  ·by_cases hj:j=i
   ·subst hj
    rw[hi] at e1;cases e1;rw[Lr hiσ] at e2;cases e2;exact⟨u,r,.inr ⟨.inl hk,c,hc,hc'⟩⟩
   ·rw[Lx (MU hj)] at e2
    obtain⟨u',r',q⟩:=hl j y v' e1 e2 e3;refine⟨u',r',?_⟩;rcases q with q | ⟨k,c',e,z'⟩
    ·exact .inl q
    ·refine .inr ⟨k,c',e,z'.sameBut hs ?_⟩
     rintro rfl;exact hj (rX hN e1 (I.ok.inj _ _ _ e hc▸hi))
  ·by_cases hcc:c'=c
   ·subst hcc;exact⟨_,hc'⟩
   ·obtain⟨w2,z2⟩:=I.cell y c' e
    exact⟨w2,z2.sameBut hs hcc⟩
  ·obtain⟨e,n,ne,nf,d⟩:=I.pin p hp
   refine⟨(hs.2 p.1 ?_).trans e,n,ne,nf,d⟩;intro q;rw[q,hoc] at e;have q':oc=p.2:=M4 e;exact d w' (by rw[← q'];exact hocd)
theorem mN{M:Model}{A:Ls}{E:L3->L6->Prop}{i:Nat}{x:Str}{v:V}{u:L3}{Q:Unit->L6->Prop}(I:Inv X KW σ H s)(hN:X.N.Nodup)(hi:X.N[i]?=some x)(hx:Loc X.env.scope x)(r:RelV v u)
  (h:∀s',Inv X KW (σ.set i (some v)) H s'->Q () s') (hf:X.fn x=true\/X.env.scope.names.lookup x=some .local:=by first | exact .inl rfl | exact .inr rfl | assumption):LY M A (storeName X.env x u) Q E s:=
 uT I hN hi hx r (fun s' I' _=>h s' I') hf
theorem Inv.call'{s':L6}{ch:List Addr}(I:Inv X KW σ H s)(ho:s'.os=s.os)(u:Un (frs X.stack) ch H H' s.heap s'.heap)(hok:HOk X.prog X.w H' s'.heap)(hg:QB s'.gens)
  (hch:∀b∈ch,(b∈X.ex\/X.s₀.heap.objs.size<=b)/\b≠X.env.locals/\(∀x c,X.env.cells.lookup x=some c->c≠b)/\∀p∈X.pn++KW,p.1≠b):Inv X KW σ H' s':=by
 obtain⟨h',g',d',t',o'⟩:=s';have e:o'=s.os:=ho;subst e;exact I.call (g':=g') (t':=t') (d':=d') u hok hg hch
end
abbrev XK:=L3->Option Addr->Hp->Prop
abbrev St:=List (Option V)
abbrev VK:=V->Hp->Prop
abbrev TE:=St->Hp->VK->Prop
abbrev TT:=St->Hp->(Bool->Hp->Prop)->Prop
abbrev TA:=St->Hp->(List V->Hp->Prop)->Prop
structure Ends where
 nx:St->Hp->Prop
 rt:VK
 bk:St->Hp->Prop:=fun _ _=>False
 ct:St->Hp->Prop:=fun _ _=>False
abbrev TS:=Ends->St->Hp->Prop
def EP(X:Cx)(KW:List (Addr×Mi))(σ:St)(Q:VK)(u:L3)(s':L6):Prop:=∃v H',Inv X KW σ H' s'/\RelV v u/\Q v H'
def TP(X:Cx)(KW:List (Addr×Mi))(σ:St)(Q:Bool->Hp->Prop)(b:Bool)(s':L6):Prop:=∃H',Inv X KW σ H' s'/\Q b H'
def AP(X:Cx)(KW:List (Addr×Mi))(σ:St)(Q:List V->Hp->Prop)(us:List L3)(s':L6):Prop:=∃vs H',Inv X KW σ H' s'/\Vals vs us/\Q vs H'
def SP(X:Cx)(KW:List (Addr×Mi))(D:Ends)(f:Flow)(s':L6):Prop:=
 match f with
 | .next=>∃σ' H',Inv X KW σ' H' s'/\D.nx σ' H'
 | .brk=>∃σ' H',Inv X KW σ' H' s'/\D.bk σ' H'
 | .cont=>∃σ' H',Inv X KW σ' H' s'/\D.ct σ' H'
 | .ret u=>∃v σ' H',Inv X KW σ' H' s'/\RelV v u/\D.rt v H'
def PE(X:Cx)(e:Expr)(t:TE):Prop:=
 ∀(KW:List (Addr×Mi))(s:L6)(σ:St)(H:Hp)(Q:VK),Inv X KW σ H s->t σ H Q->LY (Ll X.prog X.w) X.A (MS e X.env) (EP X KW σ Q) X.xe s
def PT(X:Cx)(e:Expr)(t:TT):Prop:=
 ∀(KW:List (Addr×Mi))(s:L6)(σ:St)(H:Hp)(Q:Bool->Hp->Prop),Inv X KW σ H s->t σ H Q->LY (Ll X.prog X.w) X.A (isTrue e X.env (MS e X.env)) (TP X KW σ Q) X.xe s
def PW(X:Cx)(e:Expr)(t:TT):Prop:=
 ∀(whole:Sem L3)(KW:List (Addr×Mi))(s:L6)(σ:St)(H:Hp)(Q:Bool->Hp->Prop),Inv X KW σ H s->t σ H Q->LY (Ll X.prog X.w) X.A (isTrue e X.env whole) (TP X KW σ Q) X.xe s
theorem PW.pt{X:Cx}{e:Expr}{t:TT}(h:PW X e t):PT X e t:=h _
def PA(X:Cx)(es:List Expr)(t:TA):Prop:=
 ∀(pos:NJ)(KW:List (Addr×Mi))(s:L6)(σ:St)(H:Hp)(Q:List V->Hp->Prop),Inv X KW σ H s->t σ H Q->LY (Ll X.prog X.w) X.A (spliced (Oc pos (Lc es X.env))) (AP X KW σ Q) X.xe s
def PS(X:Cx)(st:Stmt)(t:TS):Prop:=
 ∀(KW:List (Addr×Mi))(s:L6)(σ:St)(H:Hp)(D:Ends),Inv X KW σ H s->t D σ H->LY (Ll X.prog X.w) X.A (exec st X.env) (SP X KW D) X.xe s
def PSs(X:Cx)(st:List Stmt)(t:TS):Prop:=
 ∀(KW:List (Addr×Mi))(s:L6)(σ:St)(H:Hp)(D:Ends),Inv X KW σ H s->t D σ H->LY (Ll X.prog X.w) X.A (execs st X.env) (SP X KW D) X.xe s
theorem thn{α:Type}{t:Sem α}{Q Q':α->L6->Prop}{M:Model}{A:Ls}{E:L3->L6->Prop}{s:L6}(h:LY M A t Q E s)(hQ:∀a s,Q a s->Q' a s):LY M A t Q' E s:=N8 h hQ fun _ _ x=>x
end L2
namespace L2
open PySem PySem.Spec PyProof.Rows
section
variable{X : Cx}
def JK(i:Nat):TE:=fun σ H Q=>∃v,σ[i]?=some (some v)/\Q v H
def tC(v:V):TE:=fun _ H Q=>Q v H
theorem dS {i:Nat} {x:Str} {pos:NJ} (hN:X.N[i]?=some x) (hv:Vis X.env.scope x) (hd:(x == ("__debug__":Str))=false:=by decide) (hcd:(x == ("__classdict__":Str))=false:=by decide):PE X (.Name x pos) (JK i):=by
 intro KW s σ H Q I h;obtain⟨v,e,h⟩:=h;obtain⟨m,hn,hl⟩:=I.loc;obtain⟨u,r,l⟩:=hl i x v hN e hv;have fin:EP X KW σ Q u s:=⟨v,H,I,r,h⟩;rcases l with⟨hk,hm⟩|⟨hk,c,hc,hcell⟩
 ·exact wpAny_Name (wpAny_loadName_local I.ok.kind hk hn hm fin) hd
 ·rcases hk with hk | hk
  ·exact wpAny_Name (wpAny_loadName_cell I.ok.kind hk hc hcell fin) hd
  ·exact wpAny_Name (wpAny_loadName_free I.ok.kind hk hc hcell fin hcd) hd
theorem Eo{i j pos}:PE X (.Constant (.int i) j pos) (tC (.int i)):=fun _ _ _ H _ I h=>wpAny_Constant_int ⟨.int i,H,I.tok _,⟨_,rfl⟩,h⟩
theorem Hw{b j pos}:PE X (.Constant (.bool b) j pos) (tC (.bl b)):=fun _ _ _ H _ I h=>Constant_bool ⟨.bl b,H,I,rfl,h⟩
theorem Ek{j pos}:PE X (.Constant .none j pos) (tC .non):=fun _ _ _ H _ I h=>Constant_none ⟨.non,H,I,rfl,h⟩
theorem Ei{x j pos}:PE X (.Constant (.str x) j pos) (tC (.str x)):=fun _ _ _ H _ I h=>Calls.Constant_str ⟨.str x,H,I.tok _,⟨_,rfl⟩,h⟩
def Gl(X:Cx)(x:Str):Prop:=X.env.kindOf x=some .globalImplicit
theorem qI{E:L3->L6->Prop}{KW:List (Addr×Mi)}{s:L6}{σ:St}{H:Hp}{x:Str}{u:L3}{pos:NJ}{Q:L3->L6->Prop}(I:Inv X KW σ H s)(hg:Gl X x)(hm:X.mg x=some u)(h:Q u s)
  (hd:(x == ("__debug__":Str))=false:=by decide):LY (Ll X.prog X.w) X.A (MS (.Name x pos) X.env) Q E s:=
 RB I.ok.kind hg (Calls.loadGlobal_global (by rw[I.ok.glob];exact I.mod.glob.keeps I.bk) hm h) hd
theorem jE{E:L3->L6->Prop}{KW:List (Addr×Mi)}{s:L6}{σ:St}{H:Hp}{x:Str}{u:L3}{pos:NJ}{Q:L3->L6->Prop}(I:Inv X KW σ H s)(hg:Gl X x)(hm:X.mg x=none)(hv:O1 x=some u)(h:Q u s)
  (hn:x≠"__name__":=by decide) (hd:(x == ("__debug__":Str))=false:=by decide):LY (Ll X.prog X.w) X.A (MS (.Name x pos) X.env) Q E s:=by
 obtain⟨mb,h1,h2⟩:=I.mod.blt;exact RB I.ok.kind hg (Calls.loadGlobal_builtin (by rw[I.ok.glob];exact I.mod.glob.keeps I.bk) hm (by rw[I.ok.blt];exact h1.keeps I.bk) ((h2 x hn).trans hv) h) hd
theorem BL {x:Str} {v:V} {u:L3} {pos:NJ} (hg:Gl X x) (hm:X.mg x=some u) (r:RelV v u) (hd:(x == ("__debug__":Str))=false:=by decide):PE X (.Name x pos) (tC v):=
 fun _ _ _ H _ I h=>qI I hg hm ⟨v,H,I,r,h⟩ hd
variable{a b : Expr}{ta tb : TE}{pos : NJ}
variable{tA tB' : TT}{rest : List Expr}
def JY(t u:TT):TT:=fun σ H Q=>t σ H fun c H1=>if c=true then u σ H1 Q else Q false H1
def tOr(t u:TT):TT:=fun σ H Q=>t σ H fun c H1=>if c=true then Q true H1 else u σ H1 Q
def JQ(t:TT):TT:=fun σ H Q=>t σ H fun c H1=>Q (!c) H1
theorem BB(ha:PT X a tA):PW X (.BoolOp .And [a] pos) tA:=by
 intro wh KW s σ H Q I h;refine isTrue_and (thn (ha KW s σ H Q I h) fun c s1 e=>?_);cases c with
 | true=>exact isTrue_and_nil e
 | false=>exact e
theorem E9(ha:PT X a tA):PW X (.BoolOp .Or [a] pos) tA:=by
 intro wh KW s σ H Q I h;refine isTrue_or (thn (ha KW s σ H Q I h) fun c s1 e=>?_);cases c with
 | false=>exact isTrue_or_nil e
 | true=>exact e
theorem Ea(ha:PT X a tA)(hb:PW X (.BoolOp .And (b::rest) pos) tB'):PW X (.BoolOp .And (a::b::rest) pos) (JY tA tB'):=by
 intro wh KW s σ H Q I h;refine isTrue_and (thn (ha KW s σ H _ I h) fun c s1 ⟨H1,I1,q1⟩=>?_);cases c with
 | true=>exact hb wh KW s1 σ H1 Q I1 q1
 | false=>exact⟨H1,I1,q1⟩
theorem Hm(ha:PT X a tA)(hb:PW X (.BoolOp .Or (b::rest) pos) tB'):PW X (.BoolOp .Or (a::b::rest) pos) (tOr tA tB'):=by
 intro wh KW s σ H Q I h;refine isTrue_or (thn (ha KW s σ H _ I h) fun c s1 ⟨H1,I1,q1⟩=>?_);cases c with
 | true=>exact⟨H1,I1,q1⟩
 | false=>exact hb wh KW s1 σ H1 Q I1 q1
theorem Ec(ha:PT X a tA):PT X (.UnaryOp .Not a pos) (JQ tA):=by
 intro KW s σ H Q I h;exact isTrue_not (ha KW s σ H (fun c H1=>Q (!c) H1) I h)
def Hc(ta tb:TE):TE:=fun σ H Q=>ta σ H fun x H1=>∃c,x=.bl c/\if c=true then tb σ H1 Q else Q (.bl false) H1
theorem Ej{op}{t:TE}(h:PE X a t):PE X (.BoolOp op [a] pos) t:=fun KW s σ H Q I hw=>BoolOp_one (h KW s σ H Q I hw)
theorem Ep(ha:PE X a ta)(hb:PE X (.BoolOp .And (b::rest) pos) tb):PE X (.BoolOp .And (a::b::rest) pos) (Hc ta tb):=by
 intro KW s σ H Q I h;refine BoolOp_and (thn (ha KW s σ H _ I h) fun v s1 ⟨x,H1,I1,r1,q1⟩=>?_);obtain⟨c,rfl,q1⟩:=q1;cases r1;refine Nd ?_;cases c with
 | true=>exact hb KW s1 σ H1 Q I1 q1
 | false=>exact⟨.bl false,H1,I1,rfl,q1⟩
def tIf(t:TT)(ta tb:TE):TE:=fun σ H Q=>t σ H fun c H1=>if c=true then ta σ H1 Q else tb σ H1 Q
theorem yW{c:Expr}(hc:PT X c tA)(ha:PE X a ta)(hb:PE X b tb):PE X (.IfExp c a b pos) (tIf tA ta tb):=by
 intro KW s σ H Q I h;refine wpAny_IfExp (thn (hc KW s σ H _ I h) fun d s1 ⟨H1,I1,q1⟩=>?_);cases d with
 | true=>exact ha KW s1 σ H1 Q I1 q1
 | false=>exact hb KW s1 σ H1 Q I1 q1
end
end L2
namespace L2
open PySem PySem.Spec PyProof.Rows
def SqL(K:L0)(H:Hp)(a:Addr)(xs:List V):Prop:=
 Rd H a (.lst xs) ∨
  ∃(o:Mi) (its:Array L3) (n:Nat),K.lookup a=some o/\o.cls=.type "list"/\o.dict=none/\o.data=.seq its n/\its.size<=sizeLine/\Vals xs its.toList
def SqT(K:L0)(H:Hp)(a:Addr)(xs:List V):Prop:=
 Rd H a (.tup xs) ∨
  ∃(o:Mi) (its:Array L3) (n:Nat),K.lookup a=some o/\o.cls=.type "tuple"/\o.data=.seq its n/\its.size<=sizeLine/\Vals xs its.toList/\o.dict=none
def Kx:L3->Option V
 | .none=>some .non
 | .bool b=>some (.bl b)
 | .int i _=>some (.int i)
 | .str x _=>some (.str x)
 | .bytes b _=>some (.byt b)
 | .float b _=>some (.flt b)
 | .ref a=>some (.ref a)
 | .type n=>some (.ty n)
 | _=>none
theorem RelV.abs{x:V}{u:L3}(r:RelV x u):Kx u=some x:=by
 cases x with
 | non=>cases r;rfl
 | bl _=>cases r;rfl
 | int _=>obtain⟨t,rfl⟩:=r;rfl
 | str _=>obtain⟨t,rfl⟩:=r;rfl
 | byt _=>obtain⟨t,rfl⟩:=r;rfl
 | flt _=>obtain⟨t,rfl⟩:=r;rfl
 | ref _=>cases r;rfl
 | ty _=>cases r;rfl
theorem RelV.inj{x y:V}{u:L3}(r:RelV x u)(q:RelV y u):x=y:=M4 (r.abs.symm.trans q.abs)
theorem Vals.inj:∀{xs ys:List V}{us:List L3},Vals xs us->Vals ys us->xs=ys
 | _,_,_,.nil,.nil=>rfl
 | _,_,_,.cons r t,.cons r' t'=>by rw[r.inj r',Vals.inj t t']
section
variable{X : Cx}{KW : List (Addr×Mi)}{σ : St}{H : Hp}{s : L6}{a : Addr}{xs ys : List V}
theorem SqL.of{K:L0}(h:H a=some (.lst xs)):SqL K H a xs:=.inl (.inl h)
theorem Inv.list(I:Inv X KW σ H s)(h:SqL X.K H a xs):∃its:List L3,Vals xs its/\PlainL s.heap a its.toArray/\xs.length<=sizeLine:=by
 rcases h with h | ⟨o,its,n,hk,hc,hd,hs,hz,r⟩
 ·obtain⟨z,its,n,r,e⟩:=h.ok I.hok
  exact⟨its,r,⟨_,n,e,rfl,rfl,rfl⟩,z⟩
 ·refine⟨its.toList,r,⟨o,n,I.kIn a o hk,hc,hd,by simpa using hs⟩,?_⟩
  have e:=r.length;simp only[Nc] at e;omega
theorem Inv.tuple(I:Inv X KW σ H s)(h:SqT X.K H a xs):∃its:List L3,Vals xs its/\IsTup s.heap a its.toArray/\xs.length<=sizeLine:=by
 rcases h with h | ⟨o,its,n,hk,hc,hs,hz,r,hdn⟩
 ·obtain⟨z,its,r,p⟩:=h.ok I.hok
  exact⟨its,r,p.up,z⟩
 ·refine⟨its.toList,r,⟨o,I.kIn a o hk,hc,n,by simpa using hs⟩,?_⟩
  have e:=r.length;simp only[Nc] at e;omega
theorem Inv.tupleX(I:Inv X KW σ H s)(h:SqT X.K H a xs):∃its:List L3,Vals xs its/\zT s.heap a its.toArray/\xs.length<=sizeLine:=by
 rcases h with h | ⟨o,its,n,hk,hc,hs,hz,r,hdn⟩
 ·obtain⟨z,its,r,p⟩:=h.ok I.hok
  exact⟨its,r,p,z⟩
 ·refine⟨its.toList,r,⟨o,I.kIn a o hk,hc,⟨n,by simpa using hs⟩,fun _=>hdn⟩,?_⟩
  have e:=r.length;simp only[Nc] at e;omega
theorem Inv.list_inj(I:Inv X KW σ H s)(h:SqL X.K H a xs)(h':SqL X.K H a ys):xs=ys:=by
 obtain⟨its,r,⟨o,n,e,_,_,d⟩,_⟩:=I.list h;obtain⟨its',r',⟨o',n',e',_,_,d'⟩,_⟩:=I.list h';rw[e] at e';cases e';rw[d] at d';injection d' with d1 _;have:its=its':=by simpa using congrArg Array.toList d1
 subst this;exact r.inj r'
theorem Inv.tuple_inj(I:Inv X KW σ H s)(h:SqT X.K H a xs)(h':SqT X.K H a ys):xs=ys:=by
 obtain⟨its,r,⟨o,e,_,n,d⟩,_⟩:=I.tuple h;obtain⟨its',r',⟨o',e',_,n',d'⟩,_⟩:=I.tuple h';rw[e] at e';cases e';rw[d] at d';injection d' with d1 _;have:its=its':=by simpa using congrArg Array.toList d1
 subst this;exact r.inj r'
end
abbrev Cx.wish(X:Cx)(E:L3->L6->Prop):Cx:={ X with xe:=E }
abbrev Cx.nox(X:Cx):Cx:=X.wish fun _ _=>False
theorem Cx.Ok.wish{X:Cx}(ok:X.Ok)(E:L3->L6->Prop):(X.wish E).Ok:=
 ⟨ok.mod,ok.kind,ok.glob,ok.blt,ok.above,ok.inj,ok.has,ok.cab,ok.hd,ok.frames,ok.stk,ok.exf,ok.bs,ok.bsz,ok.noex,ok.exfs,ok.funs,ok.frf⟩
theorem Cx.Ok.unwish{X:Cx}{E:L3->L6->Prop}(ok:(X.wish E).Ok):X.Ok:=
 ⟨ok.mod,ok.kind,ok.glob,ok.blt,ok.above,ok.inj,ok.has,ok.cab,ok.hd,ok.frames,ok.stk,ok.exf,ok.bs,ok.bsz,ok.noex,ok.exfs,ok.funs,ok.frf⟩
section
variable{X : Cx}{KW : List (Addr×Mi)}{σ : St}{H : Hp}{s : L6}{E : L3 → L6 → Prop}
theorem Inv.wish(I:Inv X KW σ H s)(E:L3->L6->Prop):Inv (X.wish E) KW σ H s:=⟨I.ok.wish E,I.os,I.bare,I.base,I.loc,I.cell,I.free,I.freeC,I.pin,I.hok,I.len⟩
theorem Inv.unwish(I:Inv (X.wish E) KW σ H s):Inv X KW σ H s:=⟨I.ok.unwish,I.os,I.bare,I.base,I.loc,I.cell,I.free,I.freeC,I.pin,I.hok,I.len⟩
theorem SP.unwish{D:Ends}{f:Flow}{s':L6}(h:SP (X.wish E) KW D f s'):SP X KW D f s':=by
 cases f with
 | next=>obtain⟨σ',H',I,q⟩:=h;exact⟨σ',H',I.unwish,q⟩
 | brk=>obtain⟨σ',H',I,q⟩:=h;exact⟨σ',H',I.unwish,q⟩
 | cont=>obtain⟨σ',H',I,q⟩:=h;exact⟨σ',H',I.unwish,q⟩
 | ret u=>obtain⟨v,σ',H',I,r,q⟩:=h;exact⟨v,σ',H',I.unwish,r,q⟩
theorem PSs.nox{st:List Stmt}{t:TS}(h:PSs X.nox st t):PSs X st t:=fun KW s σ H D I hw=>
 N8 (h KW s σ H D (I.wish _) hw) (fun _ _ q=>q.unwish) fun _ _ z=>LJ z
end
section
variable{X : Cx}{st : Stmt}{rest : List Stmt}{t u : TS}{e : Expr}{te : TE}{pos : NJ}
def GZ:TS:=fun D σ H=>D.nx σ H
def JO(t u:TS):TS:=fun D σ H=>t { D with nx:=u D } σ H
theorem ny:PSs X [] GZ:=fun _ _ σ H _ I h=>QC ⟨σ,H,I,h⟩
theorem fC(h1:PS X st t)(h2:PSs X rest u):PSs X (st::rest) (JO t u):=by
 intro KW s σ H D I h;refine wpAny_execs_cons (thn (h1 KW s σ H { D with nx:=u D } I h) fun f s1 q=>?_);cases f with
 | next=>
  obtain⟨σ',H',I',q⟩:=q;exact h2 KW s1 σ' H' D I' q
 | ret v=>exact q
 | brk=>exact q
 | cont=>exact q
theorem nv(h1:PS X st t):PSs X [st] t:=by
 intro KW s σ H D I h;refine wpAny_execs_cons (thn (h1 KW s σ H D I h) fun f s1 q=>?_);cases f with
 | next=>exact QC q
 | ret v=>exact q
 | brk=>exact q
 | cont=>exact q
def DY:TS:=fun D σ H=>D.bk σ H
theorem yR:PS X (.Break pos) DY:=fun _ _ σ H _ I h=>wpAny_Break ⟨σ,H,I,h⟩
theorem Inv.quiet{KW:List (Addr×Mi)}{σ:St}{H:Hp}{s:L6}(I:Inv X KW σ H s):interactive X.env=false:=by simp[interactive,I.ok.kind]
def H8(te:TE):TS:=fun D σ H=>te σ H fun _ H1=>D.nx σ H1
theorem qx(he:PE X e te)(hs:OB e none pos.line X.env=pure false:=by rfl):PS X (.Expr e pos) (H8 te):=by
 intro KW s σ H D I h;exact wpAny_Expr_any (thn (he KW s σ H _ I h) fun v s1 ⟨x,H1,I1,r1,q1⟩=>⟨σ,H1,I1,q1⟩) I.quiet hs
def JP(te:TE):TS:=fun D σ H=>te σ H D.rt
theorem rN(he:PE X e te):PS X (.Return (some e) pos) (JP te):=by
 intro KW s σ H D I h;exact wpAny_Return_some (thn (he KW s σ H _ I h) fun v s1 ⟨x,H1,I1,r1,q1⟩=>⟨x,σ,H1,I1,r1,q1⟩)
def JU(c:TT)(t u:TS):TS:=fun D σ H=>c σ H fun b H1=>if b=true then t D σ H1 else u D σ H1
theorem Hq{c:Expr}{a b:List Stmt}{tc:TT}(hc:PT X c tc)(ha:PSs X a t)(hb:PSs X b u):PS X (.If c a b pos) (JU tc t u):=by
 intro KW s σ H D I h;refine wpAny_If (thn (hc KW s σ H _ I h) fun d s1 ⟨H1,I1,q1⟩=>?_);cases d with
 | true=>exact ha KW s1 σ H1 D I1 q1
 | false=>exact hb KW s1 σ H1 D I1 q1
end
abbrev TG:=V->St->Hp->(St->Hp->Prop)->Prop
abbrev TGs:=List V->St->Hp->(St->Hp->Prop)->Prop
def PG(X:Cx)(target:Expr)(t:TG):Prop:=
 ∀(KW:List (Addr×Mi))(s:L6)(σ:St)(H:Hp)(v:V)(u:L3)(Q:St->Hp->Prop),Inv X KW σ H s->RelV v u->t v σ H Q->
  LY (Ll X.prog X.w) X.A (P5 target X.env u) (fun _ s'=>∃σ' H',Inv X KW σ' H' s'/\Q σ' H') X.xe s
def PGs(X:Cx)(ts:List Expr)(t:TGs):Prop:=
 ∀(KW:List (Addr×Mi))(s:L6)(σ:St)(H:Hp)(vs:List V)(us:List L3)(Q:St->Hp->Prop),Inv X KW σ H s->Vals vs us->t vs σ H Q->
  LY (Ll X.prog X.w) X.A (assignInOrder ((Ma ts X.env).map (·.2)) us) (fun _ s'=>∃σ' H',Inv X KW σ' H' s'/\Q σ' H') X.xe s
abbrev Kz:=V->V->V->Hp->(Hp->Prop)->Prop
abbrev TIp:=V->V->Hp->VK->Prop
def PIp(X:Cx)(op:Operator)(t:TIp):Prop:=
 ∀(KW:List (Addr×Mi))(s:L6)(σ:St)(H:Hp)(x y:V)(v u:L3)(Q:VK),Inv X KW σ H s->RelV x v->RelV y u->t x y H Q->
  LY (Ll X.prog X.w) X.A (inplaceOp op v u) (EP X KW σ Q) X.xe s
section
variable{X : Cx}{pos : NJ}
def Fv(i:Nat):TG:=fun v σ H Q=>Q (σ.set i (some v)) H
theorem gf{i:Nat}{x:Str}(hN:X.N.Nodup)(hi:X.N[i]?=some x)(hx:Loc X.env.scope x)(hf:X.fn x=true\/X.env.scope.names.lookup x=some .local:=by first | exact .inl rfl | exact .inr rfl | assumption):PG X (.Name x pos) (Fv i):=by
 intro KW s σ H v u Q I r h;exact wpAny_assign_Name (mN I hN hi hx r (fun s' I'=>⟨_,H,I',h⟩) hf)
def Kn:TGs:=fun vs σ H Q=>vs=[]/\Q σ H
def Ij(t:TG)(u:TGs):TGs:=fun vs σ H Q=>∃v r,vs=v::r/\t v σ H fun σ' H'=>u r σ' H' Q
theorem qy:PGs X [] Kn:=by
 intro KW s σ H vs us Q I r h;obtain⟨e,h⟩:=h;subst e;cases r;exact assignInOrder_nil ⟨σ,H,I,h⟩
theorem jR{e:Expr}{es:List Expr}{t:TG}{u:TGs}(h1:PG X e t)(h2:PGs X es u)
  (hs:(Ma (e::es) X.env).map (·.2)=P5 e X.env::(Ma es X.env).map (·.2):=by rfl):PGs X (e::es) (Ij t u):=by
 intro KW s σ H vs us Q I r h;obtain⟨v,vr,e1,h⟩:=h;subst e1;cases r with
 | cons r rr=>
  rw[hs];refine assignInOrder_cons (thn (h1 KW s σ H _ _ _ I r h) fun _ s1 ⟨σ1,H1,I1,q1⟩=>?_);exact h2 KW s1 σ1 H1 _ _ Q I1 rr q1
def Km(K:L0)(n:Nat)(t:TGs):TG:=fun v σ H Q=>∃a xs,v=.ref a/\SqT K H a xs/\xs.length=n/\t xs σ H Q
theorem vt{es:List Expr}{k:Nat}{t:TGs}{n:Nat}(hc:X.calm=true)(h:PGs X es t)
  (hn:(Ma es X.env).length=n:=by rfl) (hst:(Ma es X.env).findIdx? (·.1)=none:=by rfl):PG X (.Tuple es k pos) (Km X.K n t):=by
 intro KW s σ H v u Q I r hw;obtain⟨a,xs,e1,hq,hl,hw⟩:=hw;subst e1;cases r;obtain⟨its,rv,ht,hz⟩:=I.tuple hq;refine assign_Tuple_tuple (I.ok.hd hc) ht (by simp[hn,← hl,rv.length]) hst fun h' hx=>?_;have I1:Inv X KW σ H { s with heap:=h' }:=I.kept (t':=s.toks) fun b o e=>hx b o (LO (LF e)) e;exact h KW _ σ H xs _ Q I1 (by simpa using rv) hw
def Cy(to ti:TE)(t:Kz):TG:=fun v σ H Q=>to σ H fun o H1=>ti σ H1 fun i H2=>t o i v H2 fun H3=>Q σ H3
def JX(te:TE)(g:TG):TS:=fun D σ H=>te σ H fun x H1=>g x σ H1 D.nx
theorem Ap{i:Nat}{x:Str}{e:Expr}{te:TE}{pos':NJ}(hN:X.N.Nodup)(hi:X.N[i]?=some x)(hx:Loc X.env.scope x)(he:PE X e te)(hs:OB e (some (.Name x pos')) pos.line X.env=pure false:=by rfl)(hf:X.fn x=true\/X.env.scope.names.lookup x=some .local:=by first | exact .inl rfl | exact .inr rfl | assumption) :
  PS X (.Assign [.Name x pos'] e pos) (JX te (Fv i)):=by
 intro KW s σ H D I h;refine wpAny_Assign_Name (thn (he KW s σ H _ I h) fun v s1 ⟨y,H1,I1,r1,q1⟩=>?_) hs;exact mN I1 hN hi hx r1 (fun s2 I2=>⟨_,H1,I2,q1⟩) hf
def JW(i:Nat)(te:TE)(ti:TIp):TS:=fun D σ H=>∃x,σ[i]?=some (some x)/\te σ H fun y H1=>ti x y H1 fun z H2=>D.nx (σ.set i (some z)) H2
theorem Ee{i:Nat}{x:Str}{e:Expr}{te:TE}{op:Operator}{ti:TIp}{pos':NJ}(hN:X.N.Nodup)(hi:X.N[i]?=some x)(hx:Loc X.env.scope x)(he:PE X e te)(ho:PIp X op ti)(hf:X.fn x=true\/X.env.scope.names.lookup x=some .local:=by first | exact .inl rfl | exact .inr rfl | assumption) :
  PS X (.AugAssign (.Name x pos') op e pos) (JW i te ti):=by
 intro KW s σ H D I h;obtain⟨v,e1,h⟩:=h;obtain⟨m,hn,hl⟩:=I.loc;have vis:Vis X.env.scope x:=by rcases hx with k | k;exact .inl k;exact .inr (.inl k)
 obtain⟨u,r,l⟩:=hl i x v hi e1 vis;refine wpAny_AugAssign_Name ?_
 have go:LY (Ll X.prog X.w) X.A (MS e X.env) (fun w s₂=>LY (Ll X.prog X.w) X.A (inplaceOp op u w) (fun r s₃=>LY (Ll X.prog X.w) X.A (storeName X.env x r) (fun _=>SP X KW D .next) X.xe s₃) X.xe s₂) X.xe s:=by
  refine thn (he KW s σ H _ I h) fun w s1 ⟨y,H1,I1,r1,q1⟩=>?_;refine thn (ho KW s1 σ H1 v y u w _ I1 r r1 q1) fun z s2 ⟨zv,H2,I2,r2,q2⟩=>?_;exact mN I2 hN hi hx r2 (fun s3 I3=>⟨_,H2,I3,q2⟩) hf
 rcases l with⟨hk,hm⟩|⟨hk,c,hc,hcell⟩
 ·exact wpAny_loadName_local I.ok.kind hk hn hm go
 ·rcases hk with hk | hk
  ·exact wpAny_loadName_cell I.ok.kind hk hc hcell go
  ·rcases hx with k | k
   ·have:X.env.scope.names.lookup x=some .free:=hk
    rw[k] at this;cases this
   ·have:X.env.scope.names.lookup x=some .free:=hk
    rw[k] at this;cases this
def ipI(f:Int->Int->Int):TIp:=fun x y H Q=>∃i j,x=.int i/\y=.int j/\Q (.int (f i j)) H
theorem Fs:PIp X .Add (ipI fun i j=>i+j):=by
 intro KW s σ H x y v u Q I r1 r2 h;obtain⟨i,j,e1,e2,q⟩:=h;subst e1;subst e2;obtain⟨t,rfl⟩:=r1;obtain⟨t',rfl⟩:=r2;exact iadd_int ⟨.int _,H,I.tok _,⟨_,rfl⟩,q⟩
end
section
variable{X : Cx}{pos : NJ}
def DS(c:TT)(tb:TS):TS:=fun D σ H=>∃W:Nat->St->Hp->Prop,(∃m,W m σ H)/\∀m σ H,W m σ H->
 c σ H fun b H1=>if b=true then ∃N:St->Hp->Prop,(∀σ' H',N σ' H'->∃m',m'<m/\W m' σ' H')/\tb { D with nx:=N,ct:=N,bk:=D.nx } σ H1 else D.nx σ H1
theorem yP{c:Expr}{body:List Stmt}{tc:TT}{tb:TS}(hp:QZ (Ll X.prog X.w) X.A X.env X.xe)(hc:PT X c tc)(hb:PSs X body tb):PS X (.While c body [] pos) (DS tc tb):=by
 intro KW s σ H D I h;obtain⟨W,⟨m0,w0⟩,turn⟩:=h;refine wpAny_While (codeAny_whileLoop (fun n s'=>∃σ' H',Inv X KW σ' H' s'/\W n σ' H') ?_ m0 ⟨σ,H,I,w0⟩);rintro n s1 ⟨σ1,H1,I1,w1⟩;refine O9 hp (thn (hc KW s1 σ1 H1 _ I1 (turn n σ1 H1 w1)) fun b s2 ⟨H2,I2,q2⟩=>?_);cases b with
 | true=>
  obtain⟨N,hN,q2⟩:=q2;rw[if_pos rfl];refine O9 hp (thn (hb KW s2 σ1 H2 _ I2 q2) fun f s3 q3=>?_);cases f with
  | next=>
   obtain⟨σ3,H3,I3,n3⟩:=q3;obtain⟨m',hm,w3⟩:=hN σ3 H3 n3;exact⟨m',hm,σ3,H3,I3,w3⟩
  | cont=>
   obtain⟨σ3,H3,I3,n3⟩:=q3;obtain⟨m',hm,w3⟩:=hN σ3 H3 n3;exact⟨m',hm,σ3,H3,I3,w3⟩
  | brk=>exact q3
  | ret v=>exact q3
 | false=>
  rw[if_neg LK];exact QC ⟨σ1,H2,I2,q2⟩
end
structure It where
 go:Nat->Hp->Prop
 yld:Nat->Hp->V->Hp->Prop
 stop:Nat->Hp->Prop
def oE(X:Cx)(KW:List (Addr×Mi))(H:Hp)(b:Addr):Prop:=
 H b=none/\b≠X.env.locals/\b ∉ X.fs/\(b∈X.ex\/X.s₀.heap.objs.size<=b)/\(∀x c,X.env.cells.lookup x=some c->c≠b)/\∀p∈X.pn++KW,p.1≠b
theorem Inv.fpOk{X:Cx}{KW:List (Addr×Mi)}{σ:St}{H H':Hp}{s:L6}{b:Addr}(I:Inv X KW σ H s)(hb:s.heap.objs.size<=b)(hn:H' b=none):oE X KW H' b:=by
 refine⟨hn,MQ (LQ I.lt hb),I.nofs hb,.inr (MC I.sz hb),fun x c e z=>?_,fun p hp z=>?_⟩
 ·obtain⟨v,q⟩:=I.cell x c e
  exact absurd (LQ q.lt (by rw[z];exact hb)) (M6 _)
 ·exact absurd (LQ (LF (I.pin p hp).1) (by rw[z];exact hb)) (M6 _)
structure Turn(P:Lf)(w:Ln)(K:L0)(tg:Expr)(J:It)(fp:List Addr)(it:Addr)(tn:Nat->Heap->Prop):Prop where
 mem:it∈fp
 obj:∀i h,tn i h->∀b∈fp,∃o,h.get? b=some o/\∀v,o.data≠.cell v
 keep:∀i h h',tn i h->(∀b∈fp,∀o,h.get? b=some o->h'.get? b=some o)->tn i h'
 item:∀(X:Cx),X.prog=P->X.w=w->X.K=K->X.calm=true->∀(i:Nat)(KW:List (Addr×Mi))(s:L6)(σ:St)(H:Hp)(E:L3->L6->Prop),Inv X KW σ H s->(∀b∈fp,oE X KW H b)->tn i s.heap->J.go i H->
  LY (Ll P w) X.A (P4 (.ref it)) (fun r s1=>∃u,r=some u/\
   LY (Ll P w) X.A (QF tg (.ref it) u) (fun _ s2=>∃x H',Inv X KW σ H' s2/\RelV x u/\J.yld i H x H'/\tn (i+1) s2.heap/\∀b∈fp,H' b=none) E s1) E s
 done:∀(X:Cx),X.prog=P->X.w=w->X.K=K->X.calm=true->∀(i:Nat)(KW:List (Addr×Mi))(s:L6)(σ:St)(H:Hp)(E:L3->L6->Prop),Inv X KW σ H s->(∀b∈fp,oE X KW H b)->tn i s.heap->J.stop i H->
  LY (Ll P w) X.A (P4 (.ref it)) (fun r s1=>r=none/\Inv X KW σ H s1) E s
 self:∀(A:Ls)(i:Nat)(s:L6)(Q:L3->L6->Prop)(E:L3->L6->Prop),tn i s.heap->Q (.ref it) s->LY (Ll P w) A (pyIter (.ref it)) Q E s
abbrev TI:=St->Hp->(It->Hp->Prop)->Prop
def PIE(X:Cx)(KW:List (Addr×Mi))(σ:St)(tg:Expr)(R:It->Hp->Prop)(itv:L3)(s2:L6):Prop:=
 ∃(it:Addr)(fp:List Addr)(tn:Nat->Heap->Prop)(J:It)(H':Hp),itv=.ref it/\Inv X KW σ H' s2/\Turn X.prog X.w X.K tg J fp it tn/\tn 0 s2.heap/\(∀b∈fp,oE X KW H' b)/\R J H'
def PI(X:Cx)(tg iter:Expr)(wi:TI):Prop:=
 ∀(KW:List (Addr×Mi))(s:L6)(σ:St)(H:Hp)(R:It->Hp->Prop),Inv X KW σ H s->wi σ H R->
  LY (Ll X.prog X.w) X.A (MS iter X.env) (fun v s1=>LY (Ll X.prog X.w) X.A (pyIter v) (PIE X KW σ tg R) X.xe s1) X.xe s
theorem wD{M:Model}{A:Ls}{E:L3->L6->Prop}{s:L6}{tg:Expr}{it:Addr}{u:L3}{o:Mi}{n:String}{vs:Array L3}{Q:Unit->L6->Prop}(ho:s.heap.get? it=some o)(hc:o.cls=.type n)(hd:o.data=.fields vs)
    (hn:["enumerate","zip","dict_itemiterator","dict_reverseitemiterator","odict_iterator","itertools.zip_longest","itertools.pairwise"].contains n=false) (hQ:Q () s):LY M A (QF tg (.ref it) u) Q E s:=by
  unfold QF
  cases tg <;> first
    | exact L9 hQ
    | (cases u <;> first
        | exact L9 hQ
        | (refine L1 (wpAny_load ho ?_)
           rw[hc,hd];show LY M A (if (["enumerate","zip","dict_itemiterator","dict_reverseitemiterator","odict_iterator","itertools.zip_longest","itertools.pairwise"].contains n && vs[0]? == some (ON _))=true then _ else _) Q E s;rw[if_neg (by intro h;rw[hn,RU] at h;cases h)];exact L9 hQ))
def Itl(K:L0)(a:Addr):It:=
 ⟨fun i H=>∃xs x,SqL K H a xs/\xs[i]?=some x,fun i H x H'=>H'=H/\∀xs,SqL K H a xs->xs[i]?=some x,fun i H=>∃xs,SqL K H a xs/\xs.length<=i⟩
def Itt(K:L0)(a:Addr):It:=
 ⟨fun i H=>∃xs x,SqT K H a xs/\xs[i]?=some x,fun i H x H'=>H'=H/\∀xs,SqT K H a xs->xs[i]?=some x,fun i H=>∃xs,SqT K H a xs/\xs.length<=i⟩
def Itr(lo:Int)(n:Nat):It:=⟨fun i _=>i<n,fun i H x H'=>H'=H/\x=.int (lo+i),fun i _=>n<=i⟩
theorem uO{P:Lf}{w:Ln}{K:L0}{tg:Expr}(a it:Addr):Turn P w K tg (Itl K a) [it] it (fun i h=>h.IsListIter it a i) where
 mem:=by simp
 obj:=fun i h st b hb=>by
  have e:b=it:=by simpa using hb
  subst e;obtain⟨o,e,c,d⟩:=st;exact⟨o,e,fun v z=>by rw[d] at z;cases z⟩
 keep:=fun i h h' st k=>st.at fun o e=>k it (by simp) o e
 item:=by
  intro X hP hw hK hc i KW s σ H E I hf st hg;subst hP hw hK;obtain⟨xs,x,hq,hx⟩:=hg;obtain⟨its,rv,p,hz⟩:=I.list hq;obtain⟨u,hu,ru⟩:=rv.get hx;obtain⟨f0,f1,f2,f3,f4,f5⟩:=hf it (by simp);refine Sq st p.isList (x:=u) (by simpa using hu) fun h' st' sb=>?_;have I1:Inv X KW σ H { s with heap:=h' }:=I.turned (t':=s.toks) (fun b o hb e=>(sb.2 b hb).trans e) f0 f1 f3 f4 f5;obtain⟨o,e,c,d⟩:=id st';exact⟨u,rfl,wD (s:={ s with heap:=h' }) e c d (by decide) ⟨x,H,I1,ru,⟨rfl,fun ys hy=>by rw[I.list_inj hy hq];exact hx⟩,st',fun b hb=>(hf b hb).1⟩⟩
 done:=by
  intro X hP hw hK hc i KW s σ H E I hf st hg;subst hP hw hK;obtain⟨xs,hq,hx⟩:=hg;obtain⟨its,rv,p,hz⟩:=I.list hq;obtain⟨f0,f1,f2,f3,f4,f5⟩:=hf it (by simp);have hl:=rv.length;exact wpAny_pyNext_list_end (I.ok.hd hc) st p.isList (by simp;omega) fun h' eb=>⟨rfl,I.turned (t':=s.toks) (fun b o hb e=>eb b o hb e) f0 f1 f3 f4 f5⟩
 self:=fun _ _ _ _ _ st h=>wpAny_pyIter_listiter st h
theorem t6{P:Lf}{w:Ln}{K:L0}{tg:Expr}(a it:Addr):Turn P w K tg (Itt K a) [it] it (fun i h=>h.IsTupleIter it a i) where
 mem:=by simp
 obj:=fun i h st b hb=>by
  have e:b=it:=by simpa using hb
  subst e;obtain⟨o,e,c,d⟩:=st;exact⟨o,e,fun v z=>by rw[d] at z;cases z⟩
 keep:=fun i h h' st k=>st.at fun o e=>k it (by simp) o e
 item:=by
  intro X hP hw hK hc i KW s σ H E I hf st hg;subst hP hw hK;obtain⟨xs,x,hq,hx⟩:=hg;obtain⟨its,rv,p,hz⟩:=I.tuple hq;obtain⟨u,hu,ru⟩:=rv.get hx;obtain⟨f0,f1,f2,f3,f4,f5⟩:=hf it (by simp);refine Se st (show s.heap.IsTuple a its.toArray from p) (x:=u) (by simpa using hu) fun h' st' sb=>?_;have I1:Inv X KW σ H { s with heap:=h' }:=I.turned (t':=s.toks) (fun b o hb e=>(sb.2 b hb).trans e) f0 f1 f3 f4 f5;obtain⟨o,e,c,d⟩:=id st';exact⟨u,rfl,wD (s:={ s with heap:=h' }) e c d (by decide) ⟨x,H,I1,ru,⟨rfl,fun ys hy=>by rw[I.tuple_inj hy hq];exact hx⟩,st',fun b hb=>(hf b hb).1⟩⟩
 done:=by
  intro X hP hw hK hc i KW s σ H E I hf st hg;subst hP hw hK;obtain⟨xs,hq,hx⟩:=hg;obtain⟨its,rv,p,hz⟩:=I.tuple hq;obtain⟨f0,f1,f2,f3,f4,f5⟩:=hf it (by simp);have hl:=rv.length;exact So (I.ok.hd hc) st (show s.heap.IsTuple a its.toArray from p) (by simp;omega) fun h' eb=>⟨rfl,I.turned (t':=s.toks) (fun b o hb e=>eb b o hb e) f0 f1 f3 f4 f5⟩
 self:=fun _ _ _ _ _ st h=>wpAny_pyIter_tupleiter st h
theorem t8{P:Lf}{w:Ln}{K:L0}{tg:Expr}(it:Addr)(lo:Int)(n:Nat):Turn P w K tg (Itr lo n) [it] it (fun i h=>IsRangeIter h it (lo+(i:Nat) * 1) ((n:Int)-(i:Nat)) 1) where
 mem:=by simp
 obj:=fun i h st b hb=>by
  have e:b=it:=by simpa using hb
  subst e
  exact⟨_,st,fun v z=>by
   have z':Qy _=QA v:=z;cases z'⟩
 keep:=fun i h h' st k=>k it (by simp) _ st
 item:=by
  intro X hP hw hK hc i KW s σ H E I hf st hg;subst hP hw hK;obtain⟨f0,f1,f2,f3,f4,f5⟩:=hf it (by simp);have W:=Walks.range (prog:=X.prog) (w:=X.w) (I.ok.hd hc) it lo 1 n;refine W.item i s _ _ hg st fun v h' tk hv st' kk=>?_;obtain⟨t,rfl⟩:=hv;have I1:Inv X KW σ H { s with heap:=h',toks:=tk }:=I.turned (fun b o hb e=>kk b o (by simpa using hb) e) f0 f1 f3 f4 f5;refine⟨_,rfl,wD (s:={ s with heap:=h',toks:=tk }) (n:="range_iterator") st' rfl rfl (by decide) ⟨.int (lo+i),H,I1,⟨t,?_⟩,⟨rfl,rfl⟩,st',fun b hb=>(hf b hb).1⟩⟩;rw[Int.mul_one]
 done:=by
  intro X hP hw hK hc i KW s σ H E I hf st hg;subst hP hw hK;obtain⟨f0,f1,f2,f3,f4,f5⟩:=hf it (by simp);exact wpAny_pyNext_range_end (I.ok.hd hc) st (by have:n<=i:=hg;omega) fun h' eb=>⟨rfl,I.turned (t':=s.toks) (fun b o hb e=>eb b o hb e) f0 f1 f3 f4 f5⟩
 self:=fun _ _ _ _ _ st h=>wpAny_pyIter_rangeiter st h
end L2
namespace L2
open PySem PySem.Spec PyProof.Rows
section
variable{X : Cx}{tg : Expr}
theorem rJ{KW:List (Addr×Mi)}{σ:St}{H:Hp}{s:L6}{R:It->Hp->Prop}{E:L3->L6->Prop}{lo hi:Int}{t u v:Tok}{tk:Nat}(I:Inv X KW σ H s)(h1:-(2 ^ 62)<=lo)(h2:lo<2 ^ 62)(h3:-(2 ^ 62)<=hi)(h4:hi<2 ^ 62)
  (q:R (Itr lo (hi-lo).toNat) H):LY (Ll X.prog X.w) X.A (pyIter (.ref s.heap.objs.size)) (PIE X KW σ tg R) E { s with heap:=s.heap.push { cls:=.type "range",data:=.fields #[.int lo t,.int hi u,.int 1 v] },toks:=tk }:=by
 refine wpAny_pyIter_range (IsRange.new ..) (small_one h1 h2 h3 h4) ?_;have I1:Inv X KW σ H { s with heap:=s.heap.push { cls:=.type "range",data:=.fields #[.int lo t,.int hi u,.int 1 v] },toks:=tk }:=I.kept fun b o e=>L5 _ e
 refine⟨(s.heap.push { cls:=.type "range",data:=.fields #[.int lo t,.int hi u,.int 1 v] }).objs.size,[(s.heap.push { cls:=.type "range",data:=.fields #[.int lo t,.int hi u,.int 1 v] }).objs.size],_,_,H,rfl,
  I1.kept (t':=tk) fun b o e=>L5 _ e,t8 _ lo (hi-lo).toNat,?_,fun b hb=>?_,q⟩
 ·have e1:lo+((0:Nat):Int) * 1=lo:=by simp
  have e2:(((hi-lo).toNat:Nat):Int)-((0:Nat):Int)=Builtin.Range.rangeSize lo hi 1:=by rw[rangeSize_one];split <;> omega
  show IsRangeIter _ _ (lo+((0:Nat):Int) * 1) ((((hi-lo).toNat:Nat):Int)-((0:Nat):Int)) 1;rw[e1,e2];exact LZ _ rfl
 ·have e:b=(s.heap.push { cls:=.type "range",data:=.fields #[.int lo t,.int hi u,.int 1 v] }).objs.size:=by simpa using hb
  subst e;exact I1.fpOk (LX _) (I1.hok.fresh (LX _))
def Ih(ta:TA):TI:=fun σ H R=>ta σ H fun vs H1=>∃j:Int,vs=[.int j]/\-(2 ^ 62)<=j/\j<2 ^ 62/\R (Itr 0 j.toNat) H1
def Ig(ta:TA):TI:=fun σ H R=>ta σ H fun vs H1=>∃i j:Int,vs=[.int i,.int j]/\(-(2 ^ 62)<=i/\i<2 ^ 62/\-(2 ^ 62)<=j/\j<2 ^ 62)/\R (Itr i (j-i).toNat) H1
theorem vp {a:Expr} {ta:TA} {p pos:NJ} (hg:Gl X "range") (hm:X.mg "range"=none) (ha:PA X [a] ta) (hs:Lc [a] X.env=[(false,MS a X.env)]:=by rfl):PI X tg (.Call (.Name "range" p) [a] [] pos) (Ih ta):=by
 intro KW s σ H R I h;refine Call_ (jE I hg hm boot_range (ML (thn (ha pos KW s σ H _ I h) fun us s1 ⟨vs,H1,I1,r1,q1⟩=>?_) hs rfl));obtain⟨j,e,q1,q2,q⟩:=q1;subst e;cases r1 with
 | cons r rr=>
  cases rr;obtain⟨t,rfl⟩:=r;exact call_range_1 (rJ I1 (by omega) (by omega) q1 q2 (by simpa using q))
theorem vo {a b:Expr} {ta:TA} {p pos:NJ} (hg:Gl X "range") (hm:X.mg "range"=none) (ha:PA X [a,b] ta) (hs:Lc [a,b] X.env=[(false,MS a X.env),(false,MS b X.env)]:=by rfl) (hs2:Lc [b] X.env=[(false,MS b X.env)]:=by rfl) :
  PI X tg (.Call (.Name "range" p) [a,b] [] pos) (Ig ta):=by
 intro KW s σ H R I h;refine Call_ (jE I hg hm boot_range (ML (thn (ha pos KW s σ H _ I h) fun us s1 ⟨vs,H1,I1,r1,q1⟩=>?_) (by rw[hs,hs2]) (by rw[hs2];rfl)));obtain⟨i,j,e,⟨q1,q2,q3,q4⟩,q⟩:=q1;subst e;cases r1 with
 | cons r rr=>
  cases rr with
  | cons r' rr=>
   cases rr;obtain⟨t,rfl⟩:=r;obtain⟨t',rfl⟩:=r';exact call_range_2 (rJ I1 q1 q2 q3 q4 q)
def JV(wi:TI)(g:TG)(tb:TS):TS:=fun D σ H=>wi σ H fun J H1=>∃W:Nat->Nat->St->Hp->Prop,(∃m,W 0 m σ H1)/\∀i m σ H,W i m σ H->
 (J.stop i H/\D.nx σ H)\/(J.go i H/\∃N:St->Hp->Prop,(∀σ' H',N σ' H'->∃m',m'<m/\W (i+1) m' σ' H')/\∀x H',J.yld i H x H'->g x σ H' fun σ2 H2=>tb { D with nx:=N,ct:=N,bk:=D.nx } σ2 H2)
def gO(fp:List Addr)(h:Heap):List (Addr×Mi):=fp.filterMap fun b=>(h.get? b).map fun o=>(b,o)
theorem cD{fp:List Addr}{h:Heap}{b:Addr}{o:Mi}(hb:b∈fp)(e:h.get? b=some o):(b,o)∈gO fp h:=Sj.mpr ⟨b,hb,by rw[e];rfl⟩
theorem vF{fp:List Addr}{h:Heap}{p:Addr×Mi}(hp:p∈gO fp h):p.1∈fp/\h.get? p.1=some p.2:=by
 obtain⟨b,hb,e⟩:=Sj.mp hp;cases q:h.get? b with
 | none=>rw[q] at e;cases e
 | some o=>
  rw[q] at e;have e':(b,o)=p:=M4 e;subst e';exact⟨hb,q⟩
theorem Inv.pinned{KW:List (Addr×Mi)}{σ:St}{H:Hp}{s:L6}{fp:List Addr}(I:Inv X KW σ H s)(hf:∀b∈fp,oE X KW H b)(ho:∀b∈fp,∃o,s.heap.get? b=some o/\∀v,o.data≠.cell v):Inv X (KW++gO fp s.heap) σ H s:=
 I.pins_of fun p hp=>(Lh.mp hp).elim (fun z=>I.pin p (La _ z)) fun z=>by
  obtain⟨hb,e⟩:=vF z;obtain⟨f0,f1,f2,_⟩:=hf p.1 hb;obtain⟨o,e',d⟩:=ho p.1 hb;rw[e] at e';cases e';exact⟨e,f0,f1,f2,d⟩
theorem Inv.unpinned{KW pl:List (Addr×Mi)}{σ:St}{H:Hp}{s:L6}(I:Inv X (KW++pl) σ H s):Inv X KW σ H s:=I.pins_of fun p hp=>I.pin p (La _ (MJ _ hp))
theorem vg{iter:Expr}{body:List Stmt}{wi:TI}{g:TG}{tb:TS}{pos:NJ}(hp:QZ (Ll X.prog X.w) X.A X.env X.xe)(hc:X.calm=true)(hi:PI X tg iter wi)(hg:PG X tg g)(hb:PSs X body tb)
  (hs:∀x,NK iter X.env x=pure x:=by intro _;rfl):PS X (.For tg iter body [] pos) (JV wi g tb):=by
 intro KW s σ H D I h;refine wpAny_For (thn (hi KW s σ H _ I h) fun v s1 h1=>thn h1 fun itv s2 h2=>?_) hs;obtain⟨it,fp,tn,J,H2,e,I2,T,st2,f2,W,⟨m0,w0⟩,turn⟩:=h2;subst e;have stat:∀{H':Hp},(∀b∈fp,H' b=none)->∀b∈fp,oE X KW H' b:=fun hn b hb=>⟨hn b hb,(f2 b hb).2⟩;refine codeAny_forLoop_any (fun n s'=>∃i σ' H',Inv X KW σ' H' s'/\tn i s'.heap/\(∀b∈fp,H' b=none)/\W i n σ' H') ?_ m0 ⟨0,σ,H2,I2,st2,fun b hb=>(f2 b hb).1,w0⟩;rintro n s3 ⟨i,σ3,H3,I3,st3,fr3,w3⟩;rcases turn i n σ3 H3 w3 with⟨stop,qn⟩|⟨go,N,hN,step⟩
 ·refine O9 hp (thn (T.done X rfl rfl rfl hc i KW s3 σ3 H3 X.xe I3 (stat fr3) st3 stop) fun r s4 ⟨hr,I4⟩=>?_)
  subst hr;exact QC ⟨σ3,H3,I4,qn⟩
 ·refine O9 hp (thn (T.item X rfl rfl rfl hc i KW s3 σ3 H3 X.xe I3 (stat fr3) st3 go) fun r s4 ⟨u,hr,h4⟩=>?_)
  subst hr;refine O9 hp (thn h4 fun _ s5 ⟨x,H5,I5,r5,y5,st5,fr5⟩=>?_);have I5':=I5.pinned (stat fr5) (T.obj _ _ st5);refine O9 hp (thn (hg _ s5 σ3 H5 x u _ I5' r5 (step x H5 y5)) fun _ s6 ⟨σ6,H6,I6,q6⟩=>?_);refine O9 hp (thn (hb _ s6 σ6 H6 _ I6 q6) fun f s7 q7=>?_)
  have again:∀{σ7:St}{H7:Hp},Inv X (KW++gO fp s5.heap) σ7 H7 s7->N σ7 H7->∃m,m<n/\∃i σ' H',Inv X KW σ' H' s7/\tn i s7.heap/\(∀b∈fp,H' b=none)/\W i m σ' H':=fun {σ7 H7} I7 n7=>by
   obtain⟨m',hm,w7⟩:=hN σ7 H7 n7;refine⟨m',hm,i+1,σ7,H7,I7.unpinned,T.keep _ _ _ st5 fun b hb o e=>(I7.pin (b,o) (La _ (La _ (cD hb e)))).1,fun b hb=>?_,w7⟩;obtain⟨o,e,d⟩:=T.obj _ _ st5 b hb;exact(I7.pin (b,o) (La _ (La _ (cD hb e)))).2.1
  cases f with
  | next=>obtain⟨σ7,H7,I7,n7⟩:=q7;exact again I7 n7
  | cont=>obtain⟨σ7,H7,I7,n7⟩:=q7;exact again I7 n7
  | brk=>obtain⟨σ7,H7,I7,q7⟩:=q7;exact⟨σ7,H7,I7.unpinned,q7⟩
  | ret v=>obtain⟨x7,σ7,H7,I7,r7,q7⟩:=q7;exact⟨x7,σ7,H7,I7.unpinned,r7,q7⟩
end
end L2
namespace L2
open PySem PySem.Spec PyProof.Rows
abbrev R2:=V->V->Hp->VK->Prop
def OpR(X:Cx)(f:L3->L3->Sem L3)(r:R2):Prop:=
 ∀(KW:List (Addr×Mi))(s:L6)(σ:St)(H:Hp)(x y:V)(v u:L3)(Q:VK),Inv X KW σ H s->RelV x v->RelV y u->r x y H Q->
  LY (Ll X.prog X.w) X.A (f v u) (EP X KW σ Q) X.xe s
def UnR(X:Cx)(f:L3->Sem L3)(r:V->Hp->VK->Prop):Prop:=
 ∀(KW:List (Addr×Mi))(s:L6)(σ:St)(H:Hp)(x:V)(v:L3)(Q:VK),Inv X KW σ H s->RelV x v->r x H Q->
  LY (Ll X.prog X.w) X.A (f v) (EP X KW σ Q) X.xe s
def gM(X:Cx)(f:L3)(r:List V->Hp->VK->Prop):Prop:=
 ∀(KW:List (Addr×Mi))(s:L6)(σ:St)(H:Hp)(xs:List V)(us:List L3)(Q:VK),Inv X KW σ H s->Vals xs us->r xs H Q->
  LY (Ll X.prog X.w) X.A (call f us) (EP X KW σ Q) X.xe s
def Jz(X:Cx)(r:V->Hp->(Bool->Hp->Prop)->Prop):Prop:=
 ∀(KW:List (Addr×Mi))(s:L6)(σ:St)(H:Hp)(x:V)(v:L3)(Q:Bool->Hp->Prop),Inv X KW σ H s->RelV x v->r x H Q->
  LY (Ll X.prog X.w) X.A (truthy v) (TP X KW σ Q) X.xe s
def tOp(r:R2)(ta tb:TE):TE:=fun σ H Q=>ta σ H fun x H1=>tb σ H1 fun y H2=>r x y H2 Q
def tUn(r:V->Hp->VK->Prop)(ta:TE):TE:=fun σ H Q=>ta σ H fun x H1=>r x H1 Q
def rI(C:Int->Int->Prop)(g:Int->Int->V):R2:=fun x y H Q=>∃i j,x=.int i/\y=.int j/\C i j/\Q (g i j) H
def rI0(g:Int->Int->V):R2:=fun x y H Q=>∃i j,x=.int i/\y=.int j/\Q (g i j) H
def rU(g:Int->V):V->Hp->VK->Prop:=fun x H Q=>∃i,x=.int i/\Q (g i) H
section
variable{X : Cx}{a b c : Expr}{ta tb tc : TE}{pos : NJ}
theorem IA(ha:PE X a ta)(hb:PE X b tb){KW:List (Addr×Mi)}{s:L6}{σ:St}{H:Hp}{R:V->V->Hp->Prop}(I:Inv X KW σ H s)
  (h:ta σ H fun x H1=>tb σ H1 fun y H2=>R x y H2) {Q:L3->L6->Prop} {f:L3->L3->Sem L3}
  (hf:∀v u s2 x y H2,Inv X KW σ H2 s2->RelV x v->RelV y u->R x y H2->LY (Ll X.prog X.w) X.A (f v u) Q X.xe s2) :
  LY (Ll X.prog X.w) X.A (MS a X.env) (fun v s₁=>LY (Ll X.prog X.w) X.A (MS b X.env) (fun u s₂=>LY (Ll X.prog X.w) X.A (f v u) Q X.xe s₂) X.xe s₁) X.xe s:=by
 refine thn (ha KW s σ H _ I h) fun v s1 ⟨x,H1,I1,r1,q1⟩=>?_;refine thn (hb KW s1 σ H1 _ I1 q1) fun u s2 ⟨y,H2,I2,r2,q2⟩=>?_;exact hf v u s2 x y H2 I2 r1 r2 q2
theorem Hv{op:Operator}{r:R2}(ho:OpR X (OA op) r)(ha:PE X a ta)(hb:PE X b tb):PE X (.BinOp a op b pos) (tOp r ta tb):=by
 intro KW s σ H Q I h;exact wpAny_BinOp (IA ha hb I h fun v u s2 x y H2 I2 rx ry q=>ho KW s2 σ H2 x y v u Q I2 rx ry q)
theorem Hu{op:UnaryOp}{r:V->Hp->VK->Prop}(ho:UnR X (unaryOp op) r)(ha:PE X a ta):PE X (.UnaryOp op a pos) (tUn r ta):=by
 intro KW s σ H Q I h;exact UnaryOp_ (thn (ha KW s σ H _ I h) fun v s1 ⟨x,H1,I1,r1,q1⟩=>ho KW s1 σ H1 x v Q I1 r1 q1)
theorem opI{f:L3->L3->Sem L3}{C:Int->Int->Prop}{g:Int->Int->Int}
  (rule:∀(i j:Int)(t u:Tok)(s:L6)(Q:L3->L6->Prop)(E:L3->L6->Prop),C i j->Q (.int (g i j) s.toks) { s with toks:=s.toks+1 }->LY (Ll X.prog X.w) X.A (f (.int i t) (.int j u)) Q E s) :
  OpR X f (rI C fun i j=>.int (g i j)):=by
 intro KW s σ H x y v u Q I rx ry h;obtain⟨i,j,rfl,rfl,hc,q⟩:=h;obtain⟨t,rfl⟩:=rx;obtain⟨t',rfl⟩:=ry;exact rule i j t t' s _ _ hc ⟨.int (g i j),H,I.tok _,⟨_,rfl⟩,q⟩
theorem Jg{f:L3->L3->Sem L3}{g:Int->Int->Int}
  (rule:∀(i j:Int)(t u:Tok)(s:L6)(Q:L3->L6->Prop)(E:L3->L6->Prop),Q (.int (g i j) s.toks) { s with toks:=s.toks+1 }->LY (Ll X.prog X.w) X.A (f (.int i t) (.int j u)) Q E s) :
  OpR X f (rI0 fun i j=>.int (g i j)):=by
 intro KW s σ H x y v u Q I rx ry h;obtain⟨i,j,rfl,rfl,q⟩:=h;obtain⟨t,rfl⟩:=rx;obtain⟨t',rfl⟩:=ry;exact rule i j t t' s _ _ ⟨.int (g i j),H,I.tok _,⟨_,rfl⟩,q⟩
theorem HF{f:L3->L3->Sem L3}{g:Int->Int->Bool}
  (rule:∀(i j:Int)(t u:Tok)(s:L6)(Q:L3->L6->Prop)(E:L3->L6->Prop),Q (.bool (g i j)) s->LY (Ll X.prog X.w) X.A (f (.int i t) (.int j u)) Q E s) :
  OpR X f (rI0 fun i j=>.bl (g i j)):=by
 intro KW s σ H x y v u Q I rx ry h;obtain⟨i,j,rfl,rfl,q⟩:=h;obtain⟨t,rfl⟩:=rx;obtain⟨t',rfl⟩:=ry;exact rule i j t t' s _ _ ⟨.bl (g i j),H,I,rfl,q⟩
def KF(i j:Int):Prop:=0<j/\j<1073741824
def IF(i j:Int):Prop:=(-(2 ^ 64)<i/\i<2 ^ 64)\/(-(2 ^ 64)<j/\j<2 ^ 64)
theorem IF.ok{i j:Int}(h:IF i j):IntMulOk i j:=by
 rcases h with⟨h1,h2⟩|⟨h1,h2⟩
 ·exact .of_left (intBits_le_64 h1 h2)
 ·exact .of_right (intBits_le_64 h1 h2)
theorem Ex:OpR X (OA .Add) (rI0 fun i j=>.int (i+j)):=Jg fun _ _ _ _ _ _ _ q=>add_int q
theorem Es:OpR X (OA .Sub) (rI0 fun i j=>.int (i-j)):=Jg fun _ _ _ _ _ _ _ q=>sub_int q
theorem Et:OpR X (OA .Mult) (rI IF fun i j=>.int (i * j)):=opI fun _ _ _ _ _ _ _ hc q=>mul_int q hc.ok
theorem BS:OpR X (OA .FloorDiv) (rI KF fun i j=>.int (i / j)):=opI fun i j _ _ _ _ _ hc q=>by
 have h1:(0:Int)<j:=hc.1;have h2:j<1073741824:=hc.2;exact floordiv_int (by omega) (by rw[Int.fdiv_eq_ediv_of_nonneg i (by omega)];exact q) (.inl (PyProof.noPylong_small (by omega)))
theorem Eu:OpR X (OA .Mod) (rI (fun _ j=>0<j) fun i j=>.int (i % j)):=opI fun i j _ _ _ _ _ hc q=>by
 have h1:(0:Int)<j:=hc;exact mod_int' (by omega) (by rw[Int.fmod_eq_emod_of_nonneg i (by omega)];exact q)
theorem unI{f:L3->Sem L3}{g:Int->Int}
  (rule:∀(i:Int)(t:Tok)(s:L6)(Q:L3->L6->Prop)(E:L3->L6->Prop),Q (.int (g i) s.toks) { s with toks:=s.toks+1 }->LY (Ll X.prog X.w) X.A (f (.int i t)) Q E s) :
  UnR X f (rU fun i=>.int (g i)):=by
 intro KW s σ H x v Q I rx h;obtain⟨i,rfl,q⟩:=h;obtain⟨t,rfl⟩:=rx;exact rule i t s _ _ ⟨.int (g i),H,I.tok _,⟨_,rfl⟩,q⟩
theorem DQ:UnR X (unaryOp .USub) (rU fun i=>.int (-i)):=unI fun _ _ _ _ _ q=>neg_int q
end
def yB:V->V->Bool
 | .non,.non=>true | .non,.int _=>true | .int _,.non=>true | .non,.bl _=>true | .bl _,.non=>true | .non,.str _=>true | .str _,.non=>true
 | .int _,.int _=>true | .bl _,.bl _=>true | .str _,.str _=>true | .byt _,.byt _=>true
 | .int _,.str _=>true | .str _,.int _=>true | .bl _,.str _=>true | .str _,.bl _=>true
 | _,_=>false
def rEq:R2:=fun x y H Q=>yB x y=true/\Q (.bl (decide (x=y))) H
def rNe:R2:=fun x y H Q=>yB x y=true/\Q (.bl (!decide (x=y))) H
theorem xo{i j:Int}:decide (V.int i=V.int j)=(i == j):=by
 rw[ND];simp
theorem AS{i j:Bool}:decide (V.bl i=V.bl j)=(i == j):=by
 rw[ND];simp
theorem xm{i j:Str}:decide (V.str i=V.str j)=(i == j):=by
 rw[ND];simp
theorem xq{i j:Array UInt8}:decide (V.byt i=V.byt j)=(i.toList == j.toList):=by
 rw[ND];cases i;cases j;simp
section
variable{X : Cx}{a b c : Expr}{ta tb tc : TE}{pos : NJ}
theorem aO{KW:List (Addr×Mi)}{σ:St}{H:Hp}{s:L6}{Q:VK}{k k':Bool}(I:Inv X KW σ H s)(q:Q (.bl k) H)(e:k=k'):EP X KW σ Q (.bool k') s:=by
 subst e;exact⟨.bl k,H,I,rfl,q⟩
theorem HC:OpR X (Lz .Eq) rEq:=by
 intro KW s σ H x y v u Q I rx ry h;obtain⟨hs,q⟩:=h;cases x with
 | non=>
  cases rx;cases y with
  | non=>cases ry;exact PySem.EqNone.eq_none_none (aO I q (by simp))
  | bl j=>cases ry;exact PySem.EqNone.eq_none_bool (aO I q (by simp))
  | int j=>obtain⟨t',rfl⟩:=ry;exact PySem.EqNone.eq_none_int (aO I q (by simp))
  | str j=>obtain⟨t',rfl⟩:=ry;exact PySem.EqNone.eq_none_str (aO I q (by simp))
  | _=>exact absurd (show false=true from hs) LK
 | bl i=>
  cases rx;cases y with
  | non=>cases ry;exact PySem.EqNone.eq_bool_none (aO I q (by simp))
  | bl j=>cases ry;exact eq_bool (aO I q AS)
  | str j=>obtain⟨t',rfl⟩:=ry;exact PySem.EqMixed.eq_bool_str (aO I q (by simp))
  | _=>exact absurd (show false=true from hs) LK
 | int i=>
  obtain⟨t,rfl⟩:=rx;cases y with
  | non=>cases ry;exact PySem.EqNone.eq_int_none (aO I q (by simp))
  | int j=>obtain⟨t',rfl⟩:=ry;exact eq_int (aO I q xo)
  | str j=>obtain⟨t',rfl⟩:=ry;exact PySem.EqMixed.eq_int_str (aO I q (by simp))
  | _=>exact absurd (show false=true from hs) LK
 | str i=>
  obtain⟨t,rfl⟩:=rx;cases y with
  | non=>cases ry;exact PySem.EqNone.eq_str_none (aO I q (by simp))
  | bl j=>cases ry;exact PySem.EqMixed.eq_str_bool (aO I q (by simp))
  | int j=>obtain⟨t',rfl⟩:=ry;exact PySem.EqMixed.eq_str_int (aO I q (by simp))
  | str j=>obtain⟨t',rfl⟩:=ry;exact eq_str (aO I q xm)
  | _=>exact absurd (show false=true from hs) LK
 | byt i=>
  obtain⟨t,rfl⟩:=rx;cases y with
  | byt j=>obtain⟨t',rfl⟩:=ry;exact PySem.W.eq_bytes (aO I q xq)
  | _=>exact absurd (show false=true from hs) LK
 | _=>cases y <;> exact absurd (show false=true from hs) LK
theorem Hy:OpR X (Lz .NotEq) rNe:=by
 intro KW s σ H x y v u Q I rx ry h;obtain⟨hs,q⟩:=h;cases x with
 | non=>
  cases rx;cases y with
  | non=>cases ry;exact PySem.EqNone.ne_none_none (aO I q (by simp))
  | bl j=>cases ry;exact PySem.EqNone.ne_none_bool (aO I q (by simp))
  | int j=>obtain⟨t',rfl⟩:=ry;exact PySem.EqNone.ne_none_int (aO I q (by simp))
  | str j=>obtain⟨t',rfl⟩:=ry;exact PySem.EqNone.ne_none_str (aO I q (by simp))
  | _=>exact absurd (show false=true from hs) LK
 | bl i=>
  cases rx;cases y with
  | non=>cases ry;exact PySem.EqNone.ne_bool_none (aO I q (by simp))
  | bl j=>cases ry;exact ne_bool (aO I q (congrArg not AS))
  | str j=>obtain⟨t',rfl⟩:=ry;exact PySem.EqMixed.ne_bool_str (aO I q (by simp))
  | _=>exact absurd (show false=true from hs) LK
 | int i=>
  obtain⟨t,rfl⟩:=rx;cases y with
  | non=>cases ry;exact PySem.EqNone.ne_int_none (aO I q (by simp))
  | int j=>obtain⟨t',rfl⟩:=ry;exact ne_int (aO I q (congrArg not xo))
  | str j=>obtain⟨t',rfl⟩:=ry;exact PySem.EqMixed.ne_int_str (aO I q (by simp))
  | _=>exact absurd (show false=true from hs) LK
 | str i=>
  obtain⟨t,rfl⟩:=rx;cases y with
  | non=>cases ry;exact PySem.EqNone.ne_str_none (aO I q (by simp))
  | bl j=>cases ry;exact PySem.EqMixed.ne_str_bool (aO I q (by simp))
  | int j=>obtain⟨t',rfl⟩:=ry;exact PySem.EqMixed.ne_str_int (aO I q (by simp))
  | str j=>obtain⟨t',rfl⟩:=ry;exact ne_str (aO I q (congrArg not xm))
  | _=>exact absurd (show false=true from hs) LK
 | byt i=>
  obtain⟨t,rfl⟩:=rx;cases y with
  | byt j=>obtain⟨t',rfl⟩:=ry;exact PySem.W.ne_bytes (aO I q (congrArg not xq))
  | _=>exact absurd (show false=true from hs) LK
 | _=>cases y <;> exact absurd (show false=true from hs) LK
theorem Hz:OpR X (Lz .Lt) (rI0 fun i j=>.bl (decide (i<j))):=HF fun _ _ _ _ _ _ _ q=>lt_int q
theorem HA:OpR X (Lz .LtE) (rI0 fun i j=>.bl (decide (i<=j))):=HF fun _ _ _ _ _ _ _ q=>le_int q
theorem HB:OpR X (Lz .Gt) (rI0 fun i j=>.bl (decide (j<i))):=HF fun _ _ _ _ _ _ _ q=>gt_int q
theorem vC:OpR X (Lz .Lt) (fun x y H Q=>∃i j,x=.str i/\y=.str j/\Q (.bl (decide (i.cps.toList<j.cps.toList))) H):=by
 intro KW s σ H x y v u Q I rx ry h;obtain⟨i,j,rfl,rfl,q⟩:=h;obtain⟨t,rfl⟩:=rx;obtain⟨t',rfl⟩:=ry;exact lt_str (aO I q rfl)
theorem vD:OpR X (Lz .In) (fun x y H Q=>∃i j,x=.str i/\y=.str j/\Q (.bl (!(N5 j i 0 j.length 1).isEmpty)) H):=by
 intro KW s σ H x y v u Q I rx ry h;obtain⟨i,j,rfl,rfl,q⟩:=h;obtain⟨t,rfl⟩:=rx;obtain⟨t',rfl⟩:=ry;exact in_str (aO I q rfl)
theorem Ew:OpR X (Lz .Is) (fun x y H Q=>y=.non/\Q (.bl (decide (x=.non))) H):=by
 intro KW s σ H x y v u Q I rx ry h;obtain⟨rfl,q⟩:=h;cases ry;refine is_none_gen (aO I q ?_)
 cases x <;> first
  | (cases rx;rfl)
  | (obtain⟨t,rfl⟩:=rx;rfl)
theorem BR:OpR X (Lz .IsNot) (fun x y H Q=>y=.non/\Q (.bl (!decide (x=.non))) H):=by
 intro KW s σ H x y v u Q I rx ry h;obtain⟨rfl,q⟩:=h;cases ry;refine isnot_none_gen (aO I q ?_)
 cases x <;> first
  | (cases rx;rfl)
  | (obtain⟨t,rfl⟩:=rx;rfl)
theorem Av(b:Expr){op:CmpOp}(h:op≠.In:=by decide)(h2:op≠.NotIn:=by decide):P1 op b=false:=by
 have e1:(op == CmpOp.In)=false:=by cases op <;> first | rfl | exact absurd rfl h
 have e2:(op == CmpOp.NotIn)=false:=by cases op <;> first | rfl | exact absurd rfl h2
 cases b <;> simp[P1,e1,e2]
theorem BN{op:CmpOp}{r:R2}(ho:OpR X (Lz op) r)(ha:PE X a ta)(hb:PE X b tb)(hm:P1 op b=false):PE X (.Compare a [op] [b] pos) (tOp r ta tb):=by
 intro KW s σ H Q I h;exact wpAny_Compare1 (IA ha hb I h fun v u s2 x y H2 I2 rx ry q=>ho KW s2 σ H2 x y v u Q I2 rx ry q) hm
def DU(t:TE):TT:=fun σ H Q=>t σ H fun x H'=>∃k,x=.bl k/\Q k H'
theorem BD{op:CmpOp}{r:R2}(ho:OpR X (Lz op) r)(ha:PE X a ta)(hb:PE X b tb)(hm:P1 op b=false):PT X (.Compare a [op] [b] pos) (DU (tOp r ta tb)):=by
 intro KW s σ H Q I h
 refine wpAny_isTrue_Compare1 (thn (ha KW s σ H _ I h) fun v s1 ⟨x,H1,I1,r1,q1⟩=>thn (hb KW s1 σ H1 _ I1 q1) fun u s2 ⟨y,H2,I2,r2,q2⟩=>
  thn (ho KW s2 σ H2 x y v u _ I2 r1 r2 q2) fun c s3 ⟨z,H3,I3,r3,k,e,q3⟩=>?_) hm
 subst e;cases r3;exact Nd ⟨H3,I3,q3⟩
def DX(r r':R2)(ta tb tc:TE):TE:=fun σ H Q=>ta σ H fun x H1=>tb σ H1 fun y H2=>r x y H2 fun z H3=>∃k,z=.bl k/\
 (if k=true then tc σ H3 fun w' H4=>r' y w' H4 Q else Q (.bl false) H3)
theorem yO{op op':CmpOp}{r r':R2}(ho:OpR X (Lz op) r)(ho':OpR X (Lz op') r')(ha:PE X a ta)(hb:PE X b tb)(hc:PE X c tc)
  (hm:lastMarks [op,op'] [b,c]=false:=by with_unfolding_all rfl):PT X (.Compare a [op,op'] [b,c] pos) (DU (DX r r' ta tb tc)):=by
 intro KW s σ H Q I h
 refine isTrue_chain (thn (ha KW s σ H _ I h) fun v s1 ⟨x,H1,I1,r1,q1⟩=>test_link (thn (hb KW s1 σ H1 _ I1 q1) fun u s2 ⟨y,H2,I2,r2,q2⟩=>
  thn (ho KW s2 σ H2 x y v u _ I2 r1 r2 q2) fun d s3 ⟨z,H3,I3,r3,k,e,q3⟩=>?_)) hm
 subst e;cases r3;refine Nd ?_;cases k with
 | false=>
  obtain⟨k',e',q'⟩:=q3;cases e';exact ite_ff ⟨H3,I3,q'⟩
 | true=>
  refine ite_tt (test_last (thn (hc KW s3 σ H3 _ I3 q3) fun w' s4 ⟨z',H4,I4,r4,q4⟩=>thn (ho' KW s4 σ H4 y z' u w' _ I4 r2 r4 q4) fun d' s5 ⟨z2,H5,I5,r5,k2,e2,q5⟩=>?_));subst e2;cases r5;exact Nd ⟨H5,I5,q5⟩
def Ky(K:L0)(x:V)(H:Hp)(k:Bool):Prop:=
 match x with
 | .non=>k=false
 | .bl b=>k=b
 | .int i=>k=(i != 0)
 | .str y=>y.length<=sizeLine/\k=((y.length:Int) != 0)
 | .byt y=>y.size<=sizeLine/\k=((y.size:Int) != 0)
 | .ref p=>(∃xs,SqL K H p xs/\k=!xs.isEmpty)\/(∃xs,SqT K H p xs/\k=!xs.isEmpty)\/∃kvs,H p=some (.dK kvs)/\k=!kvs.isEmpty
 | _=>False
theorem mw{κ:Type}{kvs:List (κ×V)}{vs:List (κ×L3)}(r:KV kvs vs):(!vs.isEmpty)=!kvs.isEmpty:=by
 cases r <;> rfl
theorem mv{xs:List V}{its:List L3}(r:Vals xs its):(!its.toArray.isEmpty)=!xs.isEmpty:=by
 cases r <;> simp
theorem pJ:(sizeLine:Nat)<2 ^ 63:=by rw[Ly];decide
theorem lU:Jz X (fun x H Q=>∃k,Ky X.K x H k/\Q k H):=by
 intro KW s σ H x v Q I rx h;obtain⟨k,e,q⟩:=h;have hl:=pJ;have hs:sizeLine=16777216:=Ly;cases x with
 | non=>
  cases rx;have e':k=false:=e;subst e';exact truthy_none ⟨H,I,q⟩
 | bl b=>
  cases rx;have e':k=b:=e;subst e';exact Nd ⟨H,I,q⟩
 | int i=>
  obtain⟨t,rfl⟩:=rx;have e':k=(i != 0):=e;subst e';exact PySem.P.truthy_int ⟨H,I,q⟩
 | str y=>
  obtain⟨t,rfl⟩:=rx;obtain⟨hy,e'⟩:y.length<=sizeLine/\k=((y.length:Int) != 0):=e;subst e';exact PySem.P.truthy_str (by omega) ⟨H,I.tok _,q⟩
 | byt y=>
  obtain⟨t,rfl⟩:=rx;obtain⟨hy,e'⟩:y.size<=sizeLine/\k=((y.size:Int) != 0):=e;subst e';exact PySem.W.truthy_bytes (by omega) ⟨H,I.tok _,q⟩
 | ref p=>
  cases rx;have e':(∃xs,SqL X.K H p xs/\k=!xs.isEmpty)\/(∃xs,SqT X.K H p xs/\k=!xs.isEmpty)\/∃kvs,H p=some (.dK kvs)/\k=!kvs.isEmpty:=e;rcases e' with⟨xs,hx,e'⟩|⟨xs,hx,e'⟩|⟨kvs,hx,e'⟩
  ·subst e'
   obtain⟨its,r,pl,hz⟩:=I.list hx;have hlen:=r.length;exact wpAny_truthy_list pl.isList (by simp only[Li];omega) ⟨H,I.tok _,by rw[mv r];exact q⟩
  ·subst e'
   obtain⟨its,r,pl,hz⟩:=I.tuple hx;have hlen:=r.length;exact truthy_tuple pl (by simp only[Li];omega) ⟨H,I.tok _,by rw[mv r];exact q⟩
  ·subst e'
   obtain⟨hz,hS,vs,r,m⟩:kvs.length<=sizeLine/\(p == MA)=false/\∃vs,KV kvs vs/\s.heap.DictOf (ah X.prog X.w) p vs:=I.hok p _ hx;have hlen:kvs.length=vs.length:=M5 r;exact wpAny_truthy_dict hS m (by omega) ⟨H,I.tok _,by rw[mw r];exact q⟩
 | _=>exact(show False from e).elim
theorem tT:OpR X (OA .Add) (fun x y H Q=>∃i j,x=.str i/\y=.str j/\i.length+j.length<=sizeLine/\Q (.str (i++j)) H):=by
 intro KW s σ H x y v u Q I rx ry h;obtain⟨i,j,rfl,rfl,hz,q⟩:=h;obtain⟨t,rfl⟩:=rx;obtain⟨t',rfl⟩:=ry;exact add_str (fun t' tk=>⟨.str (i++j),H,I.tok _,⟨_,rfl⟩,q⟩) hz
theorem vals1{x:V}{us:List L3}(r:Vals [x] us):∃u,us=[u]/\RelV x u:=by
 cases r with
 | cons r1 r2=>cases r2;exact⟨_,rfl,r1⟩
theorem vals2{x y:V}{us:List L3}(r:Vals [x,y] us):∃u w',us=[u,w']/\RelV x u/\RelV y w':=by
 cases r with
 | cons r1 r2=>
  cases r2 with
  | cons r3 r4=>cases r4;exact⟨_,_,rfl,r1,r3⟩
theorem qa:gM X (.type "int") (fun xs H Q=>(∃i,xs=[.int i]/\Q (.int i) H)\/∃k,xs=[.bl k]/\Q (.int (if k then 1 else 0)) H):=by
 intro KW s σ H xs us Q I r h;rcases h with⟨i,rfl,q⟩|⟨k,rfl,q⟩
 ·obtain⟨u,rfl,t,rfl⟩:=vals1 r
  exact call_int_int ⟨.int i,H,I,⟨_,rfl⟩,q⟩
 ·obtain⟨u,rfl,r1⟩:=vals1 r
  cases r1;exact call_int_bool ⟨.int (if k then 1 else 0),H,I.tok _,⟨_,rfl⟩,q⟩
def KC(K:L0)(x:V)(H:Hp)(n:Nat):Prop:=
 match x with
 | .str y=>y.length<=sizeLine/\n=y.length
 | .byt y=>y.size<=sizeLine/\n=y.size
 | .ref p=>(∃xs,SqL K H p xs/\n=xs.length)\/∃xs,SqT K H p xs/\n=xs.length
 | _=>False
theorem oz:gM X (.builtin "len") (fun xs H Q=>∃x n,xs=[x]/\KC X.K x H n/\Q (.int n) H):=by
 intro KW s σ H xs us Q I r h;obtain⟨x,n,rfl,e,q⟩:=h;obtain⟨u,rfl,rx⟩:=vals1 r;have hl:=pJ;have hs:sizeLine=16777216:=Ly;cases x with
 | str y=>
  obtain⟨t,rfl⟩:=rx;obtain⟨hy,e'⟩:y.length<=sizeLine/\n=y.length:=e;subst e';exact len_str (by omega) ⟨.int _,H,I.tok _,⟨_,rfl⟩,q⟩
 | byt y=>
  obtain⟨t,rfl⟩:=rx;obtain⟨hy,e'⟩:y.size<=sizeLine/\n=y.size:=e;subst e';exact PySem.W.len_bytes (by omega) ⟨.int _,H,I.tok _,⟨_,rfl⟩,q⟩
 | ref p=>
  cases rx;have e':(∃xs,SqL X.K H p xs/\n=xs.length)\/∃xs,SqT X.K H p xs/\n=xs.length:=e;rcases e' with⟨xs,hx,e'⟩|⟨xs,hx,e'⟩
  ·subst e'
   obtain⟨its,r',pl,hz⟩:=I.list hx;have hlen:=r'.length;exact Calls.call_len_list pl.isList (by simp only[Li];omega) ⟨.int xs.length,H,I.tok _,⟨_,by simp only[Li];rw[hlen]⟩,q⟩
  ·subst e'
   obtain⟨its,r',pl,hz⟩:=I.tuple hx;have hlen:=r'.length;exact len_tuple pl (by simp only[Li];omega) ⟨.int xs.length,H,I.tok _,⟨_,by simp only[Li];rw[hlen]⟩,q⟩
 | _=>exact(show False from e).elim
end
end L2
namespace L2
open PySem PySem.Spec PyProof.Rows
def ux(f:Str)(v:V):List (Str×V)->List (Str×V)
 | []=>[(f,v)]
 | (g,x)::r=>if g=f then (g,v)::r else (g,x)::ux f v r
theorem oD.some_of{v:V}{o:Option L3}(r:oD (some v) o):∃u,o=some u/\RelV v u:=by
 cases o with
 | none=>exact(show False from r).elim
 | some u=>exact⟨u,rfl,r⟩
theorem oD.none_of{o:Option L3}(r:oD none o):o=none:=by
 cases o with
 | none=>rfl
 | some u=>exact(show False from r).elim
structure Cls(K:L0)(C:Addr):Prop where
 pg:PySem.W.plainGet K C Str.empty=true
 hd:PySem.W.hasDictIn K C=true
 po:PySem.W.plainOver K C=true
 sa:Sz K (.ref C) "__setattr__"=some (some (.builtin "object.__setattr__"))
structure Con(K:L0)(C:Addr)(f:Str)(v:V)(u:L3):Prop where
 at_:Sz K (.ref C) f=some (some u)
 rel:RelV v u
 get:PySem.W.specialIn K u "__get__"=some none
 cp:PySem.W.copiedNames.contains f=false
end L2
namespace L2
open PySem PySem.Spec PyProof.Rows
structure Room(k:Nat)(A:Ls):Prop where
 hd:A.handled=none
 dp:A.depth+3 * k+5<recursionLimit
 un:A.units+16 * k+200<cLine
theorem Room.mono{j k:Nat}{A:Ls}(r:Room k A)(h:j<=k):Room j A:=⟨r.hd,by have:=r.dp;omega,by have:=r.un;omega⟩
theorem Room.deeper{k:Nat}{A:Ls}(r:Room (k+1) A)(env:Qa):Room k (A.deeper env):=
 ⟨r.hd,by have:=r.dp;show A.depth+1+3 * k+5<_;omega,by have:=r.un;show A.units+3+16 * k+200<_;omega⟩
theorem Room.depth{k:Nat}{A:Ls}(r:Room k A):A.depth<recursionLimit:=by have:=r.dp;omega
theorem Room.units{k:Nat}{A:Ls}(r:Room k A):A.units+64<cLine:=by have:=r.un;omega
def JR:TA:=fun _ H Q=>Q [] H
def Ha(ta:TE)(tr:TA):TA:=fun σ H Q=>ta σ H fun x H1=>tr σ H1 fun xs H2=>Q (x::xs) H2
section
variable{X : Cx}{e : Expr}{es : List Expr}{te : TE}{t : TA}{pos : NJ}
theorem fT:PA X [] JR:=fun _ _ _ _ H Q I h=>Sh ⟨[],H,I,.nil,h⟩
theorem bM(ha:PE X e te)(hr:PA X es t)(hs:Lc (e::es) X.env=(false,MS e X.env)::Lc es X.env:=by rfl):PA X (e::es) (Ha te t):=by
 intro pos KW s σ H Q I h;rw[hs];show LY _ _ (spliced ((false,MS e X.env)::Oc pos (Lc es X.env))) _ _ s;refine Sa (thn (ha KW s σ H _ I h) fun u s1 ⟨x,H1,I1,r1,q1⟩=>?_);exact thn (hr pos KW s1 σ H1 _ I1 q1) fun us s2 ⟨xs,H2,I2,r2,q2⟩=>⟨x::xs,H2,I2,.cons r1 r2,q2⟩
def JL(t:TA):TE:=fun σ H Q=>t σ H fun xs H1=>xs.length<=sizeLine/\∀p,H1 p=none->Q (.ref p) (upd H1 p (.tup xs))
def JS(t:TA):TE:=fun σ H Q=>t σ H fun xs H1=>xs.length<=sizeLine/\∀p,H1 p=none->Q (.ref p) (upd H1 p (.lst xs))
theorem Eh{x1}(h:PA X es t):PE X (.Tuple es x1 pos) (JL t):=by
 intro KW s σ H Q I hq;refine wpAny_Tuple_spliced (thn (h pos KW s σ H _ I hq) fun us s1 ⟨xs,H1,I1,r,z,q⟩=>⟨by rw[← r.length];exact z,?_⟩);have hf:H1 s1.heap.objs.size=none:=I1.hok.fresh (LX _);refine⟨.ref s1.heap.objs.size,upd H1 s1.heap.objs.size (.tup xs),I1.laid (t':=s1.toks) (fun b u e=>L5 _ e) (LX _) ?_,rfl,q _ hf⟩;exact⟨z,us,r,⟨_,LZ _ rfl,rfl,⟨_,rfl⟩,fun _=>rfl⟩⟩
theorem El(h:PA X es t):PE X (.List es pos) (JS t):=by
 intro KW s σ H Q I hq;refine wpAny_List_spliced (thn (h pos KW s σ H _ I hq) fun us s1 ⟨xs,H1,I1,r,z,q⟩=>⟨by rw[← r.length];exact z,?_⟩);have hf:H1 s1.heap.objs.size=none:=I1.hok.fresh (LX _);refine⟨.ref s1.heap.objs.size,upd H1 s1.heap.objs.size (.lst xs),I1.laid (t':=s1.toks) (fun b u e=>L5 _ e) (LX _) ?_,rfl,q _ hf⟩;exact⟨z,us,0,r,LZ _ rfl⟩
end
abbrev Sp:=List V->Hp->VK->XK->Prop
abbrev CXT:=List Qa->Hp->L6->XK->L3->L6->Prop
structure Env0(P:Lf)(w:Ln)(K:L0)(mg:Str->Option L3)(base:Heap)(A:Ls)(outer:List Qa)(s:L6)(H:Hp):Prop where
 frames:A.frames=some outer
 mod:Mod K mg base
 bs:∀b o,base.get? b=some o->s.heap.get? b=some o/\H b=none
 bsz:base.objs.size<=s.heap.objs.size
 funs:s.heap.FunFrames base outer
 frf:∀b∈frs outer,H b=none
 hok:HOk P w H s.heap
 bare:QB s.gens
def CE(outer:List Qa)(P:Lf)(w:Ln)(H:Hp)(s:L6)(Q:VK)(u:L3)(s':L6):Prop:=
 ∃v H',s'.os=s.os/\QB s'.gens/\Un (frs outer) [] H H' s.heap s'.heap/\HOk P w H' s'.heap/\RelV v u/\Q v H'
def CR(CX:CXT)(outer:List Qa)(P:Lf)(w:Ln)(H:Hp)(s:L6)(Q:VK)(E:XK)(r:RZ)(s':L6):Prop:=
 match r with
 | .ok (.ret u)=>CE outer P w H s Q u s'
 | .ok _=>False
 | .error e=>CX outer H s E e s'
structure FnOk(P:Lf)(w:Ln)(K:L0)(mg:Str->Option L3)(base:Heap)(CX:CXT)(k:Nat)(f:Addr)(fd:Mw)(ps:List Str)(sp:Sp):Prop where
 len:∀vs H Q E,sp vs H Q E->vs.length=ps.length
 run:∀(A:Ls)(outer:List Qa)(s:L6)(H:Hp)(args:Args)(us:List L3)(vs:List V)(Q:VK)(E:XK),Room k A->Env0 P w K mg base A outer s H->Rq s fd args (ps.zip us)->Vals vs us->sp vs H Q E->
  OF (Ll P w) A (.call (.ref f) args) (CR CX outer P w H s Q E) s
section
variable{X : Cx}{KW : List (Addr×Mi)}{σ : St}{H : Hp}{s s' : L6}
theorem Inv.env0(I:Inv X KW σ H s):Env0 X.prog X.w X.K X.mg X.base X.A X.stack s H:=
 ⟨I.ok.frames,I.ok.mod,I.bs,MC I.ok.bsz I.sz,I.stack,I.stkFree,I.hok,I.bare⟩
theorem Inv.after{Q:VK}{u:L3}(I:Inv X KW σ H s)(h:CE X.stack X.prog X.w H s Q u s'):EP X KW σ Q u s':=by
 obtain⟨v,H',os,bare,un,hok,r,q⟩:=h;obtain⟨hh,g,d,t,os'⟩:=s';obtain rfl:os'=s.os:=os;exact⟨v,H',I.call (h':=hh) (g':=g) (d':=d) (t':=t) (ch:=[]) un hok bare (fun b z=>absurd z (by simp)),r,q⟩
end
def Hb(sp:Sp)(dvs:List V)(E:XK)(t:TA):TE:=fun σ H Q=>t σ H fun vs H1=>sp (vs++dvs) H1 Q E
def Binds(K:L0)(fd:Mw)(ps:List Str)(ds:List L3):Prop:=
 ∀(s:L6)(us:List L3),K.In s.heap->(us++ds).length=ps.length->Rq s fd ⟨us,[]⟩ (ps.zip (us++ds))
theorem Binds.all{K:L0}{fd:Mw}{ps:List Str}(h:∀us:List L3,us.length=ps.length->QT fd ⟨us,[]⟩=pure (ps.zip us)):Binds K fd ps []:=fun s us _ hl=>by
 rw[Mh] at hl ⊢;exact .of_eq (h us hl)
def Passes(CX:CXT)(X:Cx)(E:XK):Prop:=∀(KW:List (Addr×Mi))(σ:St)(H:Hp)(s:L6)(e:L3)(s':L6),Inv X KW σ H s->CX X.stack H s E e s'->X.xe e s'
section
variable{X : Cx}{CX : CXT}{k : Nat}{f C : Addr}{fd : Mw}{ps : List Str}{sp : Sp}{dvs : List V}{ds : List L3}{E : XK}{x m : Str}{p pos apos : NJ}{e o : Expr}{es : List Expr}{ta : TE}{t : TA}
theorem E5{KW:List (Addr×Mi)}{σ:St}{H:Hp}{s:L6}{Q:VK}{us:List L3}{vs:List V}(F:FnOk X.prog X.w X.K X.mg X.base CX k f fd ps sp)(hr:Room k X.A)(hb:Binds X.K fd ps ds)(hd:Vals dvs ds)(hx:Passes CX X E)
  (I:Inv X KW σ H s) (r:Vals vs us) (h:sp (vs++dvs) H Q E):LY (Ll X.prog X.w) X.A (call (.ref f) us) (EP X KW σ Q) X.xe s:=by
 have r2:Vals (vs++dvs) (us++ds):=r.append hd;have hl:(us++ds).length=ps.length:=by rw[← r2.length];exact F.len _ _ _ _ h
 refine wpAny_call (Q6 (F.run X.A X.stack s H ⟨us,[]⟩ (us++ds) (vs++dvs) Q E hr I.env0 (hb s us I.kIn hl) r2 h) fun r s' hq=>?_);cases r with
 | error e=>exact hx KW σ H s e s' I hq
 | ok fl=>
  cases fl with
  | ret u=>exact I.after hq
  | next=>exact LJ hq
  | brk=>exact LJ hq
  | cont=>exact LJ hq
theorem vy(F:FnOk X.prog X.w X.K X.mg X.base CX k f fd ps sp)(hr:Room k X.A)(hg:Gl X x)(hm:X.mg x=some (.ref f))(hk:NQ X.K (.ref f)=true)(hb:Binds X.K fd ps ds)(hd:Vals dvs ds)(hx:Passes CX X E)
  (ha:PA X (e::es) t) (hdb:(x == ("__debug__":Str))=false:=by decide) (he:Lc (e::es) X.env=(false,MS e X.env)::Lc es X.env:=by rfl) (hpl:(Oc pos (Lc es X.env)).any (·.1)=false:=by rfl) :
  PE X (.Call (.Name x p) (e::es) [] pos) (Hb sp dvs E t):=by
 intro KW s σ H Q I h;refine Ob (qI I hg hm ?_ hdb);refine S8 (h₀:=X.base) I.ok.mod.kin hk (thn (ha pos KW s σ H _ I h) fun us s1 ⟨vs,H1,I1,r,q⟩=>⟨I1.kIn,?_⟩) he hpl;exact E5 F hr hb hd hx I1 r q
end
structure FnScope(N P:List Str)(sc:Scope):Prop where
 kind:sc.kind=.function
 co:sc.isCoroutine=false
 gen:sc.isGenerator=false
 nd:N.Nodup
 pre:N.take P.length=P
 par:∀x∈P,sc.names.lookup x=some .local\/sc.names.lookup x=some .cell
 nofree:∀y∈sc.names,y.2≠.free
theorem qb{kindOf:Str->Option Nt}{x:Str}:∀{binds:List (Str×L3)}{m:Str->Option L3},(∀v,(x,v) ∉ binds)->Sf kindOf binds m x=m x
 | [],_,_=>rfl
 | (n,v)::r,m,h=>by
  unfold Sf;rw[qb fun w hw=>h w (Lg _ hw)]
  split
  ·have:x≠n:=by rintro rfl;exact h v Le
   simp[this]
  ·rfl
theorem qe{kindOf:Str->Option Nt}{x:Str}:∀{binds:List (Str×L3)}{m:Str->Option L3},(∀v,(x,v) ∉ binds)->Sg kindOf binds m x=m x
 | [],_,_=>rfl
 | (n,v)::r,m,h=>by
  unfold Sg;rw[qe fun w hw=>h w (Lg _ hw)]
  split
  ·rfl
  ·have:x≠n:=by rintro rfl;exact h v Le
   simp[this]
theorem qd{kindOf:Str->Option Nt}{x:Str}{v:L3}:∀{P:List Str}{vs:List L3}{i:Nat}{m:Str->Option L3},P.Nodup->P[i]?=some x->vs[i]?=some v->kindOf x=some .local->
  Sf kindOf (P.zip vs) m x=some v
 | [],_,_,_,_,h,_,_=>by simp at h
 | _::_,[],_,_,_,_,h,_=>by simp at h
 | p::P,w::vs,0,m,nd,h1,h2,hk=>by
  simp at h1 h2;subst h1;subst h2;show Sf kindOf ((p,w)::P.zip vs) m p=_;unfold Sf;rw[qb fun v hv=>(Lq.mp nd).1 (Pv hv).1,if_pos hk];simp
 | p::P,w::vs,i+1,m,nd,h1,h2,hk=>by
  show Sf kindOf ((p,w)::P.zip vs) m x=_;unfold Sf;exact qd (i:=i) (Lq.mp nd).2 (by simpa using h1) (by simpa using h2) hk
theorem qf{kindOf:Str->Option Nt}{x:Str}{v:L3}:∀{P:List Str}{vs:List L3}{i:Nat}{m:Str->Option L3},P.Nodup->P[i]?=some x->vs[i]?=some v->kindOf x≠some .local->
  Sg kindOf (P.zip vs) m x=some v
 | [],_,_,_,_,h,_,_=>by simp at h
 | _::_,[],_,_,_,_,h,_=>by simp at h
 | p::P,w::vs,0,m,nd,h1,h2,hk=>by
  simp at h1 h2;subst h1;subst h2;show Sg kindOf ((p,w)::P.zip vs) m p=_;unfold Sg;rw[qe fun v hv=>(Lq.mp nd).1 (Pv hv).1,if_neg hk];simp
 | p::P,w::vs,i+1,m,nd,h1,h2,hk=>by
  show Sg kindOf ((p,w)::P.zip vs) m x=_;unfold Sg;exact qf (i:=i) (Lq.mp nd).2 (by simpa using h1) (by simpa using h2) hk
def start(N:List Str)(vs:List V):St:=vs.map some++M3 (N.length-vs.length) none
def AU(CX:CXT)(P:Lf)(w:Ln)(K:L0)(mg:Str->Option L3)(base:Heap)(N:List Str)(qual:Str)(scope:Scope)(f:Addr)(cd:L3)(A:Ls)(outer:List Qa)(s:L6)(H:Hp)(E:XK):Cx where
 prog:=P
 w:=w
 K:=K
 mg:=mg
 base:=base
 A:=A.deeper (OU qual scope s.heap.objs.size f cd)
 N:=N
 s₀:=s
 H₀:=H
 env:=OU qual scope s.heap.objs.size f cd
 outer:=outer
 stack:=OU qual scope s.heap.objs.size f cd::outer
 ex:=[]
 calm:=true
 fn:=fun _=>true
 pn:=[]
 xe:=fun e s'=>LY (Ll P w) (A.deeper (OU qual scope s.heap.objs.size f cd)) (leaving (OU qual scope s.heap.objs.size f cd) e) (fun _ s''=>CX outer H s E e s'') (fun e' s''=>CX outer H s E e' s'') s'
theorem sX{sc:Scope}{n:Nat}{x:Str}(h:sc.names.lookup x=some .cell):∃c,(cellsFrom n sc.names []).lookup x=some c:=by
 have q:=RY sc.names n [] (.inl h);exact RO.mp q
theorem wy{CX:CXT}{P:Lf}{w:Ln}{K:L0}{mg:Str->Option L3}{base:Heap}{N ps:List Str}{qual:Str}{scope:Scope}{f:Addr}{cd:L3}{A:Ls}{outer:List Qa}{s s1:L6}{H:Hp}{E:XK}{us:List L3}{vs:List V}
  (S:FnScope N ps scope) (hd:A.handled=none) (e0:Env0 P w K mg base A outer s H) (hl:vs.length=ps.length) (r:Vals vs us)
  (x:InCallC s s.heap.objs.size (Sf (OU qual scope s.heap.objs.size f cd).kindOf (ps.zip us) fun _=>none) (cellsFrom (s.heap.objs.size+1) scope.names []) (Sg (OU qual scope s.heap.objs.size f cd).kindOf (ps.zip us) fun _=>none) s1) :
  Inv (AU CX P w K mg base N qual scope f cd A outer s H E) [] (start N vs) H s1:=by
 have hpl:ps.length<=N.length:=by have:=congrArg NR S.pre;rw[MY] at this;omega
 obtain⟨h1,tk,rfl,hk⟩:=x.done;have noA:∀b:Addr,b ∉ (AU CX P w K mg base N qual scope f cd A outer s H E).ex:=fun b z=>absurd (show b∈([]:List Addr) from z) (by simp)
 refine⟨⟨e0.mod,S.kind,rfl,rfl,LX _,fun y z c h1 h2=>?_,fun y hy=>?_,fun y c _ h=>?_,fun _=>hd,Rr e0.frames,.inr ⟨rfl,rfl⟩,fun b z=>absurd z (noA b),e0.bs,e0.bsz,fun b _ _=>noA b,fun b z=>absurd z (noA b),e0.funs,e0.frf⟩,
  rfl,e0.bare,Un.kept hk,⟨_,x.toInCall.ns,fun i y v h1 h2 h3=>?_⟩,fun y c h=>⟨_,x.cell y c h⟩,e0.hok.fresh (LX _),fun y c h=>?_,fun p hp=>absurd (show p∈([]:List (Addr×Mi)) from hp) (by simp),e0.hok.kept hk,?_⟩
 ·exact name_of_addr x.apart (Lw h1) (Lw h2)
 ·have hy:scope.names.lookup y=some .cell\/scope.names.lookup y=some .free:=hy
  rcases hy with hy | hy
  ·exact sX hy
  ·exact absurd rfl (S.nofree _ (Lw hy))
 ·exact Pu (x.above y c (Lw h))
 ·have hi:i<vs.length:=by
   unfold start at h2
   by_cases hi:i<vs.length
   ·exact hi
   ·rw[Lv (by simpa using hi)] at h2
    rw[M7] at h2;split at h2 <;> cases h2
  have ha:vs[i]?=some v:=by
   unfold start at h2;rw[Lb (by simpa using hi),LC] at h2;cases e:vs[i]? with
   | none=>rw[e] at h2;cases h2
   | some a=>rw[e] at h2;cases h2;rfl
  obtain⟨u,hu,rv⟩:=r.get ha
  have hp:ps[i]?=some y:=by
   rw[← S.pre,List.getElem?_take_of_lt (by omega)];exact h1
  have ndP:ps.Nodup:=by rw[← S.pre];exact S.nd.sublist (List.take_sublist _ _)
  refine⟨u,rv,?_⟩;rcases S.par y (LM hp) with k | k
  ·exact .inl ⟨k,qd ndP hp hu k⟩
  ·obtain⟨c,e⟩:=sX (n:=s.heap.objs.size+1) k
   refine .inr ⟨.inl k,c,e,?_⟩;have q:=x.cell y c e;rw[qf ndP hp hu (by show scope.names.lookup y≠_;rw[k];decide)] at q;exact q
 ·exact e0.hok.fresh (Pu (x.above y c (Lw h)))
 ·unfold start
  show _=N.length;rw[Lp,LA,My];omega
theorem FC{CX:CXT}{P:Lf}{w:Ln}{K:L0}{mg:Str->Option L3}{base:Heap}{k:Nat}{f:Addr}{name qual:Str}{params:Arguments}{body:List Stmt}{scope:Scope}{dV kV doc pm cdv ct oc:L3}{an od:Option Addr}
  {osl:Array (Option L3)} {N ps:List Str} {sp:Sp} (lk:K.lookup f=some ⟨oc,od,.func (Me name qual params body scope dV kV doc pm an cdv ct),osl⟩) (hcd:O2 K cdv qual=true) (S:FnScope N ps scope)
  (len:∀vs H Q E,sp vs H Q E->vs.length=ps.length)
  (hbody:∀(A:Ls)(outer:List Qa)(s:L6)(H:Hp)(vs:List V)(Q:VK)(E:XK),Room k (A.deeper (OU qual scope s.heap.objs.size f cdv))->sp vs H Q E->
   ∃t,PSs (AU CX P w K mg base N qual scope f cdv A outer s H E) body t/\t { nx:=fun _ H'=>Q .non H',rt:=Q } (start N vs) H) :
  FnOk P w K mg base CX (k+1) f (Me name qual params body scope dV kV doc pm an cdv ct) ps sp:=by
 refine⟨len,fun A outer s H args us vs Q E hr e0 hb r hsp=>?_⟩;have hl:=len _ _ _ _ hsp;have KX:K.In s.heap:=e0.mod.kin.keeps fun b o e=>(e0.bs b o e).1;have lim:s.heap.NoLimit:=e0.mod.nolimit.keeps fun b o e=>(e0.bs b o e).1
 have hkind:∀y∈ps.zip us,scope.names.lookup y.1=some .local\/(scope.names.lookup y.1=some .cell/\((cellsFrom (s.heap.objs.size+1) scope.names []).lookup y.1).isSome=true):=fun ⟨n,v⟩ hy=>by
  rcases S.par n (Pv hy).1 with q | q
  ·exact .inl q
  ·exact .inr ⟨q,RY _ _ _ (.inl q)⟩
 refine codeAny_call_function hr.depth (KX _ _ lk) rfl S.co S.gen rfl (PySem.W.codeRec_of KX hcd) (hb _ _ _ _ ?_);refine wpAny_newFunctionEnv_cells S.kind hkind fun env he s1 x=>?_;subst he;refine⟨lim.keeps x.toInCall.keep,codeAny_func ?_⟩;obtain⟨t,ht,hq⟩:=hbody A outer s H vs Q E (hr.deeper _) hsp;have I:Inv (AU CX P w K mg base N qual scope f cdv A outer s H E) [] (start N vs) H s1:=wy S hr.hd e0 hl r x;refine N8 (ht [] s1 (start N vs) H _ I hq) (fun fl s' hs=>?_) fun e s' hs=>hs
 have fin:∀{σ':St}{H':Hp}{v:V}{u:L3},Inv (AU CX P w K mg base N qual scope f cdv A outer s H E) [] σ' H' s'->RelV v u->Q v H'->CE outer P w H s Q u s':=
  fun {σ' H' v u} J rv q=>⟨v,H',J.os,J.bare,J.base,J.hok,rv,q⟩
 cases fl with
 | ret u=>
  obtain⟨v,σ',H',J,rv,q⟩:=hs;exact fin J rv q
 | next=>
  obtain⟨σ',H',J,q⟩:=hs;exact fin (v:=V.non) (u:=Mo) J rfl q
 | brk=>
  obtain⟨_,_,_,q⟩:=hs;exact LJ q
 | cont=>
  obtain⟨_,_,_,q⟩:=hs;exact LJ q
end L2
namespace L2
open PySem PySem.Spec PyProof.Rows
section
variable{X : Cx}{x : Str}{p pos : NJ}{e : Expr}{es : List Expr}{t : TA}{id T : String}{r : List V → Hp → VK → Prop}
def tCB(r:List V->Hp->VK->Prop)(t:TA):TE:=fun σ H Q=>t σ H fun vs H1=>r vs H1 Q
theorem yZ (hc:gM X (.builtin id) r) (hg:Gl X x) (hm:X.mg x=none) (hv:O1 x=some (.builtin id)) (ha:PA X (e::es) t) (hn:x≠"__name__":=by decide) (hdb:(x == ("__debug__":Str))=false:=by decide)
  (he:Lc (e::es) X.env=(false,MS e X.env)::Lc es X.env:=by rfl) (hpl:(Oc pos (Lc es X.env)).any (·.1)=false:=by rfl):PE X (.Call (.Name x p) (e::es) [] pos) (tCB r t):=by
 intro KW s σ H Q I h;refine Ob (jE I hg hm hv ?_ hn hdb);exact PyProof.Rows.callWith_builtin1 (thn (ha pos KW s σ H _ I h) fun us s1 ⟨vs,H1,I1,r1,q1⟩=>hc KW s1 σ H1 vs us Q I1 r1 q1) he hpl
theorem pd (hc:gM X (.type T) r) (hg:Gl X x) (hm:X.mg x=none) (hv:O1 x=some (.type T)) (ha:PA X (e::es) t) (hn:x≠"__name__":=by decide) (hdb:(x == ("__debug__":Str))=false:=by decide)
  (he:Lc (e::es) X.env=(false,MS e X.env)::Lc es X.env:=by rfl) (hpl:(Oc pos (Lc es X.env)).any (·.1)=false:=by rfl):PE X (.Call (.Name x p) (e::es) [] pos) (tCB r t):=by
 intro KW s σ H Q I h;refine Ob (jE I hg hm hv ?_ hn hdb);exact ML (thn (ha pos KW s σ H _ I h) fun us s1 ⟨vs,H1,I1,r1,q1⟩=>hc KW s1 σ H1 vs us Q I1 r1 q1) he hpl
end
end L2
namespace HT
open PySem PyProof.Rows
def lexLt:List Int->List Int->Bool
 | [],[]=>false
 | [],_::_=>true
 | _::_,[]=>false
 | x::xs,y::ys=>if x=y then lexLt xs ys else decide (x<y)
section
variable{prog : Lf}{w : Ln}{A : Ls}{E : L3 → L6 → Prop}{s : L6}
def sIx(n d:Nat):Option Int->Nat
 | none=>d
 | some v=>if v<0 then (v+(n:Int)).toNat else min v.toNat n
theorem sIx_nat(n d k:Nat):sIx n d (some (k:Int))=min k n:=by
 show (if (k:Int)<0 then ((k:Int)+(n:Int)).toNat else min (k:Int).toNat n)=min k n;rw[if_neg (by omega),O7]
theorem E3(n d:Nat)(hd:d<=n)(o:Option Int):sIx n d o<=n:=by
 cases o with
 | none=>exact hd
 | some v=>
  show (if v<0 then (v+(n:Int)).toNat else min v.toNat n)<=n
  by_cases hv:v<0
  ·rw[if_pos hv];omega
  ·rw[if_neg hv];exact Nat.min_le_right _ _
theorem xA(v:Int)(n d:Nat):(if v<0 then max (v+(n:Int)) 0 else min v (n:Int))=((sIx n d (some v):Nat):Int):=by
 show (if v<0 then max (v+(n:Int)) 0 else min v (n:Int))=(((if v<0 then (v+(n:Int)).toNat else min v.toNat n):Nat):Int)
 by_cases hv:v<0
 ·simp only[if_pos hv];omega
 ·simp only[if_neg hv];omega
theorem um(lo hi:Option Int)(n:Nat):Ot lo hi 1 (n:Int)=(((sIx n 0 lo:Nat):Int),((sIx n n hi:Nat):Int)):=by
 have h1:¬ ((1:Int)<0):=by omega
 unfold Ot;simp only[h1,if_false];refine RL ?_ ?_
 ·cases lo with
  | none=>rfl
  | some v=>exact xA v n 0
 ·cases hi with
  | none=>rfl
  | some v=>exact xA v n n
theorem tM(i j:Nat):Nu (i:Int) (j:Int) 1=j-i:=by
 unfold Nu;have h1:(1:Int) > 0:=by omega
 simp only[h1,if_true,Int.ediv_one]
 split <;> omega
theorem lX{v:L3}{o:Option Int}{Q:Option Int->L6->Prop}(p:QU v o)(h:Q o s):LY (Ll prog w) A (Builtin.Slice.slicePartIndex v) Q E s:=by
 cases p with
 | none=>exact slicePart_none h
 | int i t=>exact slicePart_int h
theorem fR{sl:Addr}{vl vu:L3}{lo hi:Option Int}{n:Nat}{Q:Int×Int×Nat->L6->Prop}(hs:s.heap.IsSliceOf sl vl vu .none)(pl:QU vl lo)(pu:QU vu hi)
  (h:Q (((sIx n 0 lo:Nat):Int),1,sIx n n hi-sIx n 0 lo) s):LY (Ll prog w) A (QK (.ref sl) (pure (n:Int))) Q E s:=by
 obtain⟨os,hos,hcs,hds⟩:=id hs;unfold QK Builtin.Slice.sliceFields;refine L1 (L1 (QR hos hds (x:=vl) rfl (L1 (QR hos hds (x:=vu) rfl (L1 (QR hos hds (x:=.none) rfl (L9 ?_)))))));refine L1 (slicePart_none ?_);show LY _ _ (if ((1:Int) == 0)=true then _ else _) _ _ s;rw[if_neg (by decide)];refine L1 (lX pl (L1 (lX pu (L1 (L9 ?_)))));show LY _ _ (match Ot lo hi 1 (n:Int) with | (lo,hi)=>pure (lo,(1:Int),Nu lo hi 1)) _ _ s;rw[um lo hi n];show LY _ _ (pure (((sIx n 0 lo:Nat):Int),(1:Int),Nu ((sIx n 0 lo:Nat):Int) ((sIx n n hi:Nat):Int) 1)) _ _ s;rw[tM];exact L9 h
theorem yT(xs:Array L3)(i k:Nat):((L7 k).filterMap fun (m:Nat)=>xs[((i:Int)+(m:Int) * 1).toNat]?).toArray=((xs.toList.drop i).take k).toArray:=by
 have e:(fun (m:Nat)=>xs[((i:Int)+(m:Int) * 1).toNat]?)=fun m=>xs[i+m]?:=by
  funext m
  have:((i:Int)+(m:Int) * 1).toNat=i+m:=by omega
  rw[this]
 rw[e];have:=pick_run xs i k;rw[List.filterMap_map] at this;have e2:((fun x=>xs[x]?) ∘ fun x=>i+x)=fun m=>xs[i+m]?:=rfl;rw[e2] at this;rw[this]
theorem getItem_tuple_cut{t sl:Addr}{items:Array L3}{vl vu:L3}{lo hi:Option Int}{Q:L3->L6->Prop}(ht:IsTup s.heap t items)(hs:s.heap.IsSliceOf sl vl vu .none)(pl:QU vl lo)(pu:QU vu hi)
  (hw:¬ (sIx items.size 0 lo=0/\sIx items.size items.size hi=items.size))
  (h:Q (.ref s.heap.objs.size) { s with heap:=s.heap.push { cls:=.type "tuple",data:=.seq ((items.toList.drop (sIx items.size 0 lo)).take (sIx items.size items.size hi-sIx items.size 0 lo)).toArray } })
  (hsz:items.size<=sizeLine):LY (Ll prog w) A (QY (.ref t) (.ref sl)) Q E s:=by
 have htake:sizeOk (.seq ((items.toList.drop (sIx items.size 0 lo)).take (sIx items.size items.size hi-sIx items.size 0 lo)).toArray):=by
  show ((items.toList.drop (sIx items.size 0 lo)).take (sIx items.size items.size hi-sIx items.size 0 lo)).toArray.size<=sizeLine;rw[Li,MY,Qu,Nc];omega
 have hj:sIx items.size items.size hi<=items.size:=E3 _ _ (LX _) hi;obtain⟨os,hos,hcs,hds⟩:=id hs;have hTs:s.TypeIs (.ref sl) "slice":=⟨os,hos,hcs⟩;unfold QY
 try with_reducible refine Mj ?_
 first | refine L1 (L9 ?_) | skip
 refine L1 (R7 ht.typeIs (by decide) ?_)
 refine L1 (Nq (name:=LI "__getitem__") ht.typeIs MO
  (OO MO ht.typeIs entry_tuple_getitem ?_ (args_tuple_getitem _ _)))
 show LY _ _ (QJ (.ref t) >>= _) _ _ s;refine L1 (tupleItemsOf_ ht ?_);refine L1 (NT hTs ?_);rw[if_pos (by decide)];refine L1 (fR hs pl pu ?_)
 have hno:¬ ((((sIx items.size 0 lo:Nat):Int) == 0 && (1:Int) == 1 && (sIx items.size items.size hi-sIx items.size 0 lo) == items.size)=true):=by
  intro q;rw[MH,MH] at q;have q1:((sIx items.size 0 lo:Nat):Int)=0:=OQ q.1.1;have q2:sIx items.size items.size hi-sIx items.size 0 lo=items.size:=OQ q.2;exact hw ⟨by omega,by omega⟩
 show LY _ _ (if (((sIx items.size 0 lo:Nat):Int) == 0 && (1:Int) == 1 && (sIx items.size items.size hi-sIx items.size 0 lo) == items.size)=true then _ else _) _ _ s;rw[if_neg hno,yT]
 first
  | exact L1 (m:=O3 _) (Mu (L9 ⟨_,rfl,L9 h⟩) htake)
  | exact L1 (m:=O3 _) (Mu (L1 (L9 (L9 ⟨_,rfl,L9 h⟩))) htake)
  | exact L1 (L1 (m:=O3 _) (Mu (L9 (L9 ⟨_,rfl,L9 h⟩)) htake))
  | exact L1 (L1 (m:=O3 _) (Mu (L9 ⟨_,rfl,L9 h⟩) htake))
end
end HT
namespace L2
open PySem PySem.Spec PyProof.Rows
abbrev TO:=St->Hp->(Option Int->Hp->Prop)->Prop
def PO(X:Cx)(e:Option Expr)(t:TO):Prop:=
 ∀(KW:List (Addr×Mi))(s:L6)(σ:St)(H:Hp)(Q:Option Int->Hp->Prop),Inv X KW σ H s->t σ H Q->
  LY (Ll X.prog X.w) X.A (evalPart e X.env) (fun u s'=>∃o H',Inv X KW σ H' s'/\QU u o/\Q o H') X.xe s
def Bk:TO:=fun _ H Q=>Q none H
def GY(t:TE):TO:=fun σ H Q=>t σ H fun x H1=>∃i,x=.int i/\Q (some i) H1
section
variable{X : Cx}{e : Expr}{te : TE}{lo hi : Option Expr}{tl th : TO}{pos p2 : NJ}
theorem BJ:PO X none Bk:=by
 intro KW s σ H Q I h;rw[evalPart_none];exact L9 ⟨none,H,I,.none,h⟩
theorem BI(h:PE X e te):PO X (some e) (GY te):=by
 intro KW s σ H Q I hw;rw[evalPart_some];refine thn (h KW s σ H _ I hw) fun u s1 ⟨x,H1,I1,r1,q1⟩=>?_;obtain⟨i,rfl,q⟩:=q1;obtain⟨t,rfl⟩:=r1;exact⟨some i,H1,I1,.int i t,q⟩
def SlR(X:Cx)(r:V->Option Int->Option Int->Hp->VK->Prop):Prop:=
 ∀(KW:List (Addr×Mi))(s:L6)(σ:St)(H:Hp)(x:V)(v vl vu:L3)(lo hi:Option Int)(sl:Addr)(Q:VK),Inv X KW σ H s->RelV x v->s.heap.IsSliceOf sl vl vu .none->QU vl lo->QU vu hi->r x lo hi H Q->
  ∃T id,Qv (.type T) "__getitem__"=pure (some (.builtin id))/\s.TypeIs v T/\LY (Ll X.prog X.w) X.A (QY v (.ref sl)) (EP X KW σ Q) X.xe s
def tSl(r:V->Option Int->Option Int->Hp->VK->Prop)(te:TE)(tl th:TO):TE:=fun σ H Q=>te σ H fun x H1=>tl σ H1 fun l H2=>th σ H2 fun u H3=>r x l u H3 Q
theorem nE{r:V->Option Int->Option Int->Hp->VK->Prop}(hr:SlR X r)(he:PE X e te)(hl:PO X lo tl)(hu:PO X hi th):PE X (.Subscript e (.Slice lo hi none p2) pos) (tSl r te tl th):=by
 intro KW s σ H Q I h;refine Subscript_ (thn (he KW s σ H _ I h) fun v s1 ⟨x,H1,I1,r1,q1⟩=>?_);refine wpAny_Slice (thn (hl KW s1 σ H1 _ I1 q1) fun vl s2 ⟨l,H2,I2,pl,q2⟩=>thn (hu KW s2 σ H2 _ I2 q2) fun vu s3 ⟨u,H3,I3,pu,q3⟩=>?_);rw[evalPart_none];refine L9 ?_;have I4:Inv X KW σ H3 { s3 with heap:=s3.heap.push { cls:=.type "slice",data:=.fields #[vl,vu,.none] } }:=I3.kept (t':=s3.toks) fun b ob q=>L5 _ q;obtain⟨T,id,hT,ht,hg⟩:=hr KW { s3 with heap:=s3.heap.push { cls:=.type "slice",data:=.fields #[vl,vu,.none] } } σ H3 x v vl vu l u s3.heap.objs.size Q I4 r1 (Heap.IsSliceOf.new ..) pl pu q3;show LY (Ll X.prog X.w) X.A (subscriptTail e (.Slice lo hi none p2) v (.ref s3.heap.objs.size)) (EP X KW σ Q) X.xe { s3 with heap:=s3.heap.push { cls:=.type "slice",data:=.fields #[vl,vu,.none] } };exact tail_any (ops:=[.ref s3.heap.objs.size,v]) ht hT hg (by with_unfolding_all rfl)
def zG(xs:List V)(lo hi:Option Int):List V:=(xs.drop (HT.sIx xs.length 0 lo)).take (HT.sIx xs.length xs.length hi-HT.sIx xs.length 0 lo)
theorem lx(xs:List V)(lo hi:Option Int):(zG xs lo hi).length<=xs.length:=by
 unfold zG;rw[MY,Qu];omega
def K3(K:L0):V->Option Int->Option Int->Hp->VK->Prop:=fun x lo hi H Q=>∃a xs,x=.ref a/\SqT K H a xs/\
 ¬ (HT.sIx xs.length 0 lo=0/\HT.sIx xs.length xs.length hi=xs.length)/\∀p,H p=none->Q (.ref p) (upd H p (.tup (zG xs lo hi)))
theorem Af:SlR X (K3 X.K):=by
 intro KW s σ H x v vl vu lo hi sl Q I rx hs pl pu h;obtain⟨a,xs,rfl,hx,hw,q⟩:=h;cases rx;obtain⟨its,r,ht,hz⟩:=I.tuple hx;have hlen:its.toArray.size=xs.length:=by rw[Li];exact r.length.symm
 refine⟨"tuple",_,MO.lookup,ht.typeIs,?_⟩;refine HT.getItem_tuple_cut ht hs pl pu (by rw[hlen];exact hw) ?_ (by rw[hlen];exact hz);rw[hlen];refine⟨.ref s.heap.objs.size,_,I.laid (t':=s.toks) (o:=.tup (zG xs lo hi)) (fun b ob q=>L5 _ q) (LX _) ?_,rfl,q _ (I.hok.fresh (LX _))⟩;exact⟨MC (lx xs lo hi) hz,_,(r.drop (HT.sIx xs.length 0 lo)).take (HT.sIx xs.length xs.length hi-HT.sIx xs.length 0 lo),zT.new _ _⟩
end
end L2
namespace L2
open PySem PySem.Spec PyProof.Rows
def ixN(n:Nat)(i:Int):Option Nat:=if 0<=i then (if i<n then some i.toNat else none) else if -(n:Int)<=i then some (i+n).toNat else none
def atI{α:Type}(xs:List α)(i:Int):Option α:=(ixN xs.length i).bind fun j=>xs[j]?
theorem Cj{n:Nat}{i:Int}{j:Nat}(h:ixN n i=some j):seqIndex? i n=some j/\j<n/\-(n:Int)<=i/\i<n:=by
 unfold ixN at h
 by_cases h0:0<=i
 ·rw[if_pos h0] at h
  by_cases h1:i<n
  ·rw[if_pos h1] at h
   have e:i.toNat=j:=M4 h;exact⟨by rw[seqIndex_of h0 h1,e],by omega,by omega,h1⟩
  ·rw[if_neg h1] at h;cases h
 ·rw[if_neg h0] at h
  by_cases h1:-(n:Int)<=i
  ·rw[if_pos h1] at h
   have e:(i+n).toNat=j:=M4 h;exact⟨by rw[seqIndex_neg (by omega) h1,e],by omega,h1,by omega⟩
  ·rw[if_neg h1] at h;cases h
theorem rg{α:Type}{xs:List α}{i:Int}{v:α}(h:atI xs i=some v):∃j,seqIndex? i xs.length=some j/\xs[j]?=some v/\j<xs.length/\-(xs.length:Int)<=i/\i<xs.length:=by
 unfold atI at h;cases e:ixN xs.length i with
 | none=>rw[e] at h;cases h
 | some j=>
  rw[e] at h;obtain⟨h1,h2,h3,h4⟩:=Cj e;exact⟨j,h1,h,h2,h3,h4⟩
def ri(b:Expr):Prop:=∀o i,subscripted b false o i=operate [o,i] (QY o i)
def IxR(X:Cx)(r:R2):Prop:=
 ∀(value slice:Expr)(KW:List (Addr×Mi))(s:L6)(σ:St)(H:Hp)(x y:V)(v u:L3)(Q:VK),Inv X KW σ H s->RelV x v->RelV y u->r x y H Q->
  subscripted slice false v u=operate [v,u] (QY v u)->LY (Ll X.prog X.w) X.A (subscriptTail value slice v u) (EP X KW σ Q) X.xe s
def MtR(X:Cx)(id:String)(r:V->List V->Hp->VK->Prop):Prop:=
 ∀(KW:List (Addr×Mi))(s:L6)(σ:St)(H:Hp)(x:V)(xs:List V)(v:L3)(us:List L3)(Q:VK),Inv X KW σ H s->RelV x v->Vals xs us->r x xs H Q->
  LY (Ll X.prog X.w) X.A (call (.builtin id) (v::us)) (EP X KW σ Q) X.xe s
section
variable{X : Cx}{a b : Expr}{ta tb : TE}{pos : NJ}
theorem IxR.or{r r':R2}(h:IxR X r)(h':IxR X r'):IxR X (fun x y H Q=>r x y H Q\/r' x y H Q):=by
 intro value slice KW s σ H x y v u Q I rx ry q hs;rcases q with q | q
 ·exact h value slice KW s σ H x y v u Q I rx ry q hs
 ·exact h' value slice KW s σ H x y v u Q I rx ry q hs
theorem En{r:R2}(hr:IxR X r)(ha:PE X a ta)(hb:PE X b tb)(hs:ri b):PE X (.Subscript a b pos) (tOp r ta tb):=by
 intro KW s σ H Q I h;exact Subscript_ (IA ha hb I h fun v u s2 x y H2 I2 rx ry q=>hr a b KW s2 σ H2 x y v u Q I2 rx ry q (hs _ _))
def Je(K:L0):R2:=fun x y H Q=>∃p xs i v,x=.ref p/\y=.int i/\SqL K H p xs/\atI xs i=some v/\Q v H
def Jc(K:L0):R2:=fun x y H Q=>∃p xs i v,x=.ref p/\y=.int i/\SqT K H p xs/\atI xs i=some v/\Q v H
def Jd:R2:=fun x y H Q=>∃z i c,x=.str z/\y=.int i/\z.length<=sizeLine/\atI z.cps.toList i=some c/\Q (.str ⟨#[c]⟩) H
theorem wq:IxR X (Je X.K):=by
 intro value slice KW s σ H x y v u Q I rx ry h hs;obtain⟨p,xs,i,z,rfl,rfl,hq,he,q⟩:=h;cases rx;obtain⟨t,rfl⟩:=ry;obtain⟨its,r,pl,hz⟩:=I.list hq;obtain⟨j,h1,h2,h3,h4,h5⟩:=rg he;obtain⟨w,ew,rw'⟩:=r.get h2;have hl:=r.length;have hn:=pJ;have fin:EP X KW σ Q w s:=⟨z,H,I,rw',q⟩
 by_cases h0:0<=i
 ·have hj:i.toNat=j:=by
   rw[seqIndex_of h0 h5] at h1;exact M4 h1
  exact item_listR pl.isList h0 (by omega) (by rw[hj];simpa using ew) fin hs
 ·have hj:(i+(its.toArray.size:Int)).toNat=j:=by
   rw[seqIndex_neg (by omega) h4] at h1;rw[Li,← hl];exact M4 h1
  exact T4 (x:=w) pl.isList.typeIs slot_list_getitem.lookup
   (wpAny_getItem_list_neg (Q:=fun r s'=>r=w/\EP X KW σ Q r s') pl.isList (by omega) (by rw[Li] <;> omega) (by omega) (by rw[hj];simpa using ew) ⟨rfl,fin⟩) hs
theorem AH:IxR X (Jc X.K):=by
 intro value slice KW s σ H x y v u Q I rx ry h hs;obtain⟨p,xs,i,z,rfl,rfl,hq,he,q⟩:=h;cases rx;obtain⟨t,rfl⟩:=ry;obtain⟨its,r,pl,hz⟩:=I.tuple hq;obtain⟨j,h1,h2,h3,h4,h5⟩:=rg he;obtain⟨w,ew,rw'⟩:=r.get h2;have hl:=r.length;have hn:=pJ;have fin:EP X KW σ Q w s:=⟨z,H,I,rw',q⟩
 exact T4 (x:=w) pl.typeIs slot_tuple_getitem.lookup
  (getItem_tuple (j:=j) (Q:=fun r s'=>r=w/\EP X KW σ Q r s') pl (by omega) (by omega) (by rw[Li,← hl];exact h1) (by simpa using ew) ⟨rfl,fin⟩) hs
theorem AI:IxR X Jd:=by
 intro value slice KW s σ H x y v u Q I rx ry h hs;obtain⟨z,i,c,rfl,rfl,hz,he,q⟩:=h;obtain⟨t,rfl⟩:=rx;obtain⟨t',rfl⟩:=ry;obtain⟨j,h1,h2,h3,h4,h5⟩:=rg he;have hl:z.cps.toList.length=z.length:=by simp[Str.length]
 rw[hl] at h1 h4 h5;have hn:=pJ
 exact tail_any (typeIs_str s z t) slot_str_getitem.lookup (getItem_str (c:=c) (by
  have e1:decide (i < -(2 ^ 63:Int))=false:=decide_eq_false (by omega);have e2:decide (i ≥ 2 ^ 63)=false:=decide_eq_false (by omega);rw[e1,e2,Rj]) (by rw[h1];simpa using h2) ⟨.str ⟨#[c]⟩,H,I.tok _,⟨_,rfl⟩,q⟩) hs
def rIx(K:L0):R2:=fun x y H Q=>Je K x y H Q\/Jc K x y H Q\/Jd x y H Q
theorem Fn:IxR X (rIx X.K):=wq.or (AH.or AI)
theorem oN(lo hi:Option Int)(n:Nat):(P3 lo hi none n).1=((HT.sIx n 0 lo:Nat):Int)/\(P3 lo hi none n).2.1=((HT.sIx n n hi:Nat):Int)/\(P3 lo hi none n).2.2=1:=by
 refine⟨?_,?_,rfl⟩
 ·cases lo with
  | none=>simp[P3,HT.sIx]
  | some i=>
   simp only[P3,HT.sIx,Si,show (1:Int) > 0 by decide,if_true]
   by_cases h:i<0
   ·simp only[h,if_true] <;> omega
   ·simp only[h,if_false] <;> omega
 ·cases hi with
  | none=>simp[P3,HT.sIx]
  | some i=>
   simp only[P3,HT.sIx,Si,show (1:Int) > 0 by decide,if_true]
   by_cases h:i<0
   ·simp only[h,if_true] <;> omega
   ·simp only[h,if_false] <;> omega
theorem mP(its:List L3)(lo hi:Option Int):slicePick its.toArray lo hi none=((its.drop (HT.sIx its.length 0 lo)).take (HT.sIx its.length its.length hi-HT.sIx its.length 0 lo)).toArray:=by
 obtain⟨h1,h2,h3⟩:=oN lo hi its.toArray.size;unfold slicePick;rw[h1,h2,h3];simp only[sliceRange_one,pick_run,Li] <;> rfl
def K5(K:L0):V->Option Int->Option Int->Hp->VK->Prop:=fun x lo hi H Q=>∃a xs,x=.ref a/\SqL K H a xs/\∀p,H p=none->Q (.ref p) (upd H p (.lst (zG xs lo hi)))
theorem Bp:SlR X (K5 X.K):=by
 intro KW s σ H x v vl vu lo hi sl Q I rx hs pl pu h;obtain⟨a,xs,rfl,hx,q⟩:=h;cases rx;obtain⟨its,r,ht,hz⟩:=I.list hx;have hlen:=r.length;refine⟨"list",_,slot_list_getitem.lookup,ht.isList.typeIs,?_⟩;refine wpAny_getItem_list_slice ht.isList hs pl pu .none (by simp) ?_ (by rw[Li] <;> omega)
 rw[mP,← hlen];refine⟨.ref s.heap.objs.size,_,I.laid (t':=s.toks) (o:=.lst (zG xs lo hi)) (fun b ob q=>L5 _ q) (LX _) ?_,rfl,q _ (I.hok.fresh (LX _))⟩;exact⟨MC (lx xs lo hi) hz,_,0,(r.drop (HT.sIx xs.length 0 lo)).take (HT.sIx xs.length xs.length hi-HT.sIx xs.length 0 lo),LZ _ rfl⟩
def lN:V->Bool
 | .non=>true
 | .bl _=>true
 | .int _=>true
 | .str _=>true
 | _=>false
def eqV:V->V->Bool
 | .non,.non=>true
 | .bl a,.bl b=>a == b
 | .bl a,.int b=>(if a then 1 else 0) == b
 | .int a,.bl b=>a == (if b then 1 else 0)
 | .int a,.int b=>a == b
 | .str a,.str b=>a == b
 | _,_=>false
theorem FG{A:Ls}{s:L6}{y x:V}{u v:L3}(ry:RelV y u)(rx:RelV x v)(fy:lN y=true)(fx:lN x=true):SeqAt.EqAt A s u v (eqV y x):=by
 cases y with
 | non=>
  cases ry;cases x with
  | non=>cases rx;exact SeqAt.EqAt.same _
  | bl b=>cases rx;exact SeqAt.EqAt.none_bool b
  | int b=>obtain⟨t,rfl⟩:=rx;exact SeqAt.EqAt.none_int b t
  | str b=>obtain⟨t,rfl⟩:=rx;exact SeqAt.EqAt.none_str b t
  | _=>exact absurd (show false=true from fx) LK
 | bl a=>
  cases ry;cases x with
  | non=>cases rx;exact SeqAt.EqAt.bool_none a
  | bl b=>cases rx;exact SeqAt.EqAt.bool_bool a b
  | int b=>obtain⟨t,rfl⟩:=rx;exact SeqAt.EqAt.bool_int a b t
  | str b=>obtain⟨t,rfl⟩:=rx;exact SeqAt.EqAt.bool_str a b t
  | _=>exact absurd (show false=true from fx) LK
 | int a=>
  obtain⟨t',rfl⟩:=ry;cases x with
  | non=>cases rx;exact SeqAt.EqAt.int_none a t'
  | bl b=>cases rx;exact SeqAt.EqAt.int_bool a t' b
  | int b=>obtain⟨t,rfl⟩:=rx;exact SeqAt.EqAt.int_int a t' b t
  | str b=>obtain⟨t,rfl⟩:=rx;exact Rf a t' b t
  | _=>exact absurd (show false=true from fx) LK
 | str a=>
  obtain⟨t',rfl⟩:=ry;cases x with
  | non=>cases rx;exact SeqAt.EqAt.str_none a t'
  | bl b=>cases rx;exact SeqAt.EqAt.str_bool a t' b
  | int b=>obtain⟨t,rfl⟩:=rx;exact Re a t' b t
  | str b=>obtain⟨t,rfl⟩:=rx;exact SeqAt.EqAt.str_str a t' b t
  | _=>exact absurd (show false=true from fx) LK
 | _=>exact absurd (show false=true from fy) LK
def eqU(x:V)(u:L3):Bool:=match u with
 | .none=>eqV .non x
 | .bool b=>eqV (.bl b) x
 | .int i _=>eqV (.int i) x
 | .str z _=>eqV (.str z) x
 | _=>false
theorem AN{x y:V}{u:L3}(r:RelV y u)(f:lN y=true):eqU x u=eqV y x:=by
 cases y with
 | non=>cases r;rfl
 | bl b=>cases r;rfl
 | int i=>obtain⟨t,rfl⟩:=r;rfl
 | str z=>obtain⟨t,rfl⟩:=r;rfl
 | _=>exact absurd (show false=true from f) LK
theorem lF{x:V}:∀{xs:List V}{us:List L3},Vals xs us->xs.all lN=true->us.any (eqU x)=xs.any fun y=>eqV y x
 | _,_,.nil,_=>rfl
 | y::xs,u::us,.cons r t,f=>by
  rw[Nz,MH] at f;rw[MV,MV,AN r f.1,lF t f.2]
theorem iH{A:Ls}{s:L6}{x:V}{v:L3}(rx:RelV x v)(fx:lN x=true):∀{xs:List V}{us:List L3},Vals xs us->xs.all lN=true->∀u∈us,SeqAt.EqAt A s u v (eqU x u)
 | _,_,.nil,_=>fun u hu=>by cases hu
 | y::xs,u::us,.cons r t,f=>fun u' hu=>by
  rw[Nz,MH] at f;rcases LR.mp hu with rfl | hu
  ·rw[AN r f.1];exact FG r rx f.1 fx
  ·exact iH rx fx t f.2 u' hu
def inV(x:V)(xs:List V):Bool:=xs.any fun y=>eqV y x
def rIn(K:L0)(neg:Bool):R2:=fun x y H Q=>∃p xs,y=.ref p/\(SqL K H p xs\/SqT K H p xs)/\lN x=true/\xs.all lN=true/\Q (.bl (if neg then !inV x xs else inV x xs)) H
theorem pB:OpR X (Lz .In) (rIn X.K false):=by
 intro KW s σ H x y v u Q I rx ry h;obtain⟨p,xs,rfl,hq,fx,fs,q⟩:=h;cases ry;rcases hq with hq | hq
 ·obtain⟨its,r,pl,hz⟩:=I.list hq
  refine SeqAt.in_listAt (eqU x) pl.isList (fun w hw=>iH rx fx r fs w (by simpa using hw)) ⟨.bl _,H,I,rfl,?_⟩;rw[show its.toArray.any (eqU x)=its.any (eqU x) by simp,lF r fs];exact q
 ·obtain⟨its,r,pl,hz⟩:=I.tuple hq
  refine SeqAt.in_tupleAt (eqU x) pl (fun w hw=>iH rx fx r fs w (by simpa using hw)) ⟨.bl _,H,I,rfl,?_⟩;rw[show its.toArray.any (eqU x)=its.any (eqU x) by simp,lF r fs];exact q
theorem jD:OpR X (Lz .NotIn) (rIn X.K true):=by
 intro KW s σ H x y v u Q I rx ry h;obtain⟨p,xs,rfl,hq,fx,fs,q⟩:=h;cases ry;rcases hq with hq | hq
 ·obtain⟨its,r,pl,hz⟩:=I.list hq
  refine SZ (eqU x) pl.isList (fun w hw=>iH rx fx r fs w (by simpa using hw)) ⟨.bl _,H,I,rfl,?_⟩;rw[show its.toArray.any (eqU x)=its.any (eqU x) by simp,lF r fs];exact q
 ·obtain⟨its,r,pl,hz⟩:=I.tuple hq
  refine SeqAt.notIn_tupleAt (eqU x) pl (fun w hw=>iH rx fx r fs w (by simpa using hw)) ⟨.bl _,H,I,rfl,?_⟩;rw[show its.toArray.any (eqU x)=its.any (eqU x) by simp,lF r fs];exact q
theorem pA:OpR X (Lz .NotIn) (fun x y H Q=>∃i j,x=.str i/\y=.str j/\Q (.bl (!(!(N5 j i 0 j.length 1).isEmpty))) H):=by
 intro KW s σ H x y v u Q I rx ry h;obtain⟨i,j,rfl,rfl,q⟩:=h;obtain⟨t,rfl⟩:=rx;obtain⟨t',rfl⟩:=ry;exact notIn_str ⟨.bl _,H,I,rfl,q⟩
theorem jF:gM X (.type "list") (fun xs H Q=>∃p ys,xs=[.ref p]/\(SqL X.K H p ys\/SqT X.K H p ys)/\∀l,H l=none->Q (.ref l) (upd H l (.lst ys))):=by
 intro KW s σ H xs us Q I r h;obtain⟨p,ys,rfl,hq,q⟩:=h;obtain⟨u,rfl,rx⟩:=vals1 r;cases rx
 have fin:∀(its:List L3),Vals ys its->ys.length<=sizeLine->∀(h':Heap)(c':Nat),(∀b o',s.heap.get? b=some o'->h'.get? b=some o')->
   h'.get? s.heap.objs.size=some { cls:=.type "list",dict:=none,data:=.seq its.toArray c',slots:=#[] }->EP X KW σ Q (.ref s.heap.objs.size) { s with heap:=h' }:=fun its r' hz h' c' kp e=>
  ⟨.ref s.heap.objs.size,_,I.laid (t':=s.toks) kp (LX _) (show dw X.prog X.w _ h' _ (.lst ys) from ⟨hz,its,c',r',e⟩),rfl,q _ (I.hok.fresh (LX _))⟩
 rcases hq with hq | hq
 ·obtain⟨its,r',pl,hz⟩:=I.list hq
  have hlen:=r'.length;obtain⟨o,ho,hc,n,hd⟩:=pl.isList;exact call_list_seq p (.inl rfl) ho hc hd (fun h' c' kp e=>fin its r' hz h' c' kp e) (by simp only[Li] <;> omega)
 ·obtain⟨its,r',pl,hz⟩:=I.tuple hq
  have hlen:=r'.length;obtain⟨o,ho,hc,n,hd⟩:=pl;exact call_list_seq p (.inr rfl) ho hc hd (fun h' c' kp e=>fin its r' hz h' c' kp e) (by simp only[Li] <;> omega)
theorem iY:gM X (.type "tuple") (fun xs H Q=>∃p ys,xs=[.ref p]/\((SqL X.K H p ys/\∀l,H l=none->Q (.ref l) (upd H l (.tup ys)))\/(SqT X.K H p ys/\Q (.ref p) H))):=by
 intro KW s σ H xs us Q I r h;obtain⟨p,ys,rfl,h⟩:=h;obtain⟨u,rfl,rx⟩:=vals1 r;cases rx;rcases h with⟨hq,q⟩|⟨hq,q⟩
 ·obtain⟨its,r',pl,hz⟩:=I.list hq
  have hlen:=r'.length;refine call_tuple_list pl.isList (fun h' kp=>?_) (by simp only[Li] <;> omega)
  have I1:Inv X KW σ H { s with heap:=h' }:=I.kept (t':=s.toks) kp
  have I2:Inv X KW σ (upd H h'.objs.size (.tup ys)) { s with heap:=h'.push { cls:=.type "tuple",data:=.seq its.toArray } }:=
   I1.laid (t':=s.toks) (fun b o e=>L5 _ e) (LX _) (show dw X.prog X.w _ _ _ (.tup ys) from ⟨hz,its,r',zT.new _ _⟩)
  exact⟨.ref h'.objs.size,_,I2,rfl,q _ (I1.hok.fresh (LX _))⟩
 ·obtain⟨its,r',pl,hz⟩:=I.tuple hq
  exact call_tuple_same pl ⟨.ref p,H,I,rfl,q⟩
def tyV(K:L0)(T:String)(x:V)(H:Hp):Prop:=match x with
 | .str _=>T="str"
 | .int _=>T="int"
 | .ref p=>(T="list"/\∃xs,SqL K H p xs)\/(T="tuple"/\∃o,K.lookup p=some o/\o.cls=.type "tuple"/\o.dict=none) ∨
   (T="dict"/\((∃kvs,H p=some (.dK kvs))\/∃kvs,H p=some (.dT kvs)))\/(T="set"/\∃S n,H p=some (.set S n))
 | _=>False
theorem DR{KW:List (Addr×Mi)}{σ:St}{H:Hp}{s:L6}{T:String}{x:V}{v:L3}(I:Inv X KW σ H s)(r:RelV x v)(ty:tyV X.K T x H) :
  s.TypeIs v T/\∀a,v=.ref a->∃ob,s.heap.get? a=some ob/\ob.dict=none:=by
 cases x with
 | str z=>
  obtain⟨t,rfl⟩:=r;cases (show T="str" from ty);exact⟨typeIs_str s z t,fun _ e=>nomatch e⟩
 | int i=>
  obtain⟨t,rfl⟩:=r;cases (show T="int" from ty);exact⟨typeIs_int s i t,fun _ e=>nomatch e⟩
 | ref p=>
  cases r;rcases ty with⟨rfl,xs,hq⟩|⟨rfl,o,hk,hc,hd⟩|⟨rfl,hk⟩|⟨rfl,S,n,hk⟩
  ·obtain⟨its,_,pl,_⟩:=I.list hq
   refine⟨pl.isList.typeIs,fun a e=>?_⟩;cases e;obtain⟨o,n,e,c,hd,_⟩:=pl;exact⟨o,e,hd⟩
  ·refine⟨⟨o,I.kIn p o hk,hc⟩,fun a e=>?_⟩
   cases e;exact⟨o,I.kIn _ o hk,hd⟩
  ·have z:∃o,s.heap.get? p=some o/\o.ExactDict:=by
    rcases hk with⟨kvs,hk⟩|⟨kvs,hk⟩
    ·obtain⟨_,_,_,_,o,_,_,e,ex,_⟩:=I.hok p _ hk
     exact⟨o,e,ex⟩
    ·obtain⟨_,_,_,_,o,_,_,e,ex,_⟩:=I.hok p _ hk
     exact⟨o,e,ex⟩
   obtain⟨o,e,ex⟩:=z;refine⟨⟨o,e,ex.1⟩,fun a e2=>?_⟩;cases e2;exact⟨o,e,ex.2.1⟩
  ·obtain⟨o,_,_,_,e,ex,_⟩:=I.hok p _ hk
   refine⟨⟨o,e,ex.1⟩,fun a e2=>?_⟩;cases e2;exact⟨o,e,ex.2.1⟩
 | _=>exact LJ ty
def tBM(K:L0)(T:String)(r:V->List V->Hp->VK->Prop)(to:TE)(t:TA):TE:=fun σ H Q=>to σ H fun x H1=>tyV K T x H1/\t σ H1 fun xs H2=>r x xs H2 Q
variable{o e : Expr}{es : List Expr}{to : TE}{t : TA}{name : Str}{apos cpos : NJ}{T id : String}{r : V → List V → Hp → VK → Prop}
theorem z6 (pa:PlainAttrs T) (slot:Slot T name id) (hty:typeOf (.builtin id)=pure (.type "method_descriptor")) (hm:MtR X id r) (ho:PE X o to) (ha:PA X (e::es) t)
  (hbase:OY o name X.env (MS o X.env)=MS o X.env:=by rfl)
  (hfew:((Oc cpos (Lc (e::es) X.env)).all (fun x=>!x.1) && (backToKw cpos (keywordEach [] X.env)).all (fun x=>x.1.isSome)
   && decide ((e::es).length+([]:List Keyword).length+(if ([]:List Keyword).isEmpty then 0 else 1)<30))=true:=by rfl)
  (hline:(apos.endLine == cpos.line)=true:=by rfl) (hs:Lc (e::es) X.env=(false,MS e X.env)::Lc es X.env:=by rfl) (hplain:(Oc cpos (Lc es X.env)).any (·.1)=false:=by rfl) :
  PE X (.Call (.Attribute o name apos) (e::es) [] cpos) (tBM X.K T r to t):=by
 intro KW s σ H Q I h;refine Sr hbase hfew hline rfl (thn (ho KW s σ H _ I h) fun v s1 ⟨x,H1,I1,r1,ty,q1⟩=>?_);obtain⟨h1,h2⟩:=DR I1 r1 ty;refine⟨T,id,pa,slot,hty,h1,h2,?_⟩;have hA:=ha cpos KW s1 σ H1 _ I1 q1;rw[hs] at hA ⊢;refine Pg (by show (false || (Oc cpos (Lc es X.env)).any (·.1))=false;rw[hplain] <;> rfl) (SB ?_)
 exact thn hA fun us s2 ⟨vs,H2,I2,r2,q2⟩=>hm KW s2 σ H2 x vs v us Q I2 r1 r2 q2
end
end L2
namespace L2
open PySem PySem.Spec PyProof.Rows
def MtM(X:Cx)(id:String)(r:V->List V->Hp->VK->Prop):Prop:=
 ∀(KW:List (Addr×Mi))(s:L6)(σ:St)(H:Hp)(x:V)(xs:List V)(v:L3)(us:List L3)(Q:VK),Inv X KW σ H s->RelV x v->Vals xs us->r x xs H Q->
  LY (Ll X.prog X.w) X.A (call (.builtin id) (v::us)) (EP X KW σ Q) X.xe s
theorem Vals.one:∀{x:V}{us:List L3},Vals [x] us->∃u,us=[u]/\RelV x u
 | _,_,.cons r .nil=>⟨_,rfl,r⟩
theorem Vals.two:∀{x y:V}{us:List L3},Vals [x,y] us->∃u v,us=[u,v]/\RelV x u/\RelV y v
 | _,_,_,.cons r (.cons q .nil)=>⟨_,_,rfl,r,q⟩
section
variable{X : Cx}{KW : List (Addr×Mi)}{σ : St}{H : Hp}{s : L6}{l b : Addr}{xs ys zs : List V}
theorem Inv.lset{its its':List L3}{n:Nat}{f:Array L3->Array L3}{t':Nat}(I:Inv X KW σ H s)(hH:H l=some (.lst xs))
  (e:s.heap.get? l=some { cls:=.type "list",data:=.seq its.toArray n }) (hf:f its.toArray=its'.toArray) (hv:Vals ys its') (hz:ys.length<=sizeLine) :
  Inv X KW σ (upd H l (.lst ys)) { s with heap:=s.heap.update l (Lu f),toks:=t' }:=by
 have q:=PySem.IsL.update e f;rw[hf] at q;refine I.write (x:=l) (e:=l) (by rw[hH];exact trivial) (.inl rfl) (fun b' u hb hu=>(MW s.heap (Lu f) (MU hb)).trans hu) ⟨_,q⟩ ?_;exact⟨hz,its',_,hv,q⟩
theorem Inv.lnew{its:List L3}{t':Nat}(I:Inv X KW σ H s)(hv:Vals ys its)(hz:ys.length<=sizeLine) :
  Inv X KW σ (upd H s.heap.objs.size (.lst ys)) { s with heap:=s.heap.push { cls:=.type "list",data:=.seq its.toArray },toks:=t' }:=
 I.laid (fun _ _ q=>L5 _ q) (LX _) ⟨hz,its,0,hv,LZ _ rfl⟩
theorem Inv.fresh(I:Inv X KW σ H s):H s.heap.objs.size=none:=I.hok.fresh (LX _)
theorem Inv.lstM (I:Inv X KW σ H s) (hH:H l=some (.lst xs)):xs.length<=sizeLine/\∃(its:List L3) (n:Nat),Vals xs its/\xs.length=its.length/\s.heap.get? l=some { cls:=.type "list",data:=.seq its.toArray n }:=by
 obtain⟨z,its,n,r,e⟩:=I.hok l _ hH;exact⟨z,its,n,r,r.length,e⟩
end
section
variable{X : Cx}
def Bw:V->List V->Hp->VK->Prop:=fun x vs H Q=>∃l xs y,x=.ref l/\vs=[y]/\H l=some (.lst xs)/\xs.length<sizeLine/\Q .non (upd H l (.lst (xs++[y])))
theorem gn:MtM X "list.append" Bw:=by
 intro KW s σ H x vs v us Q I rx rv h;obtain⟨l,xs,y,rfl,rfl,hH,hz,q⟩:=h;cases rx;obtain⟨u,rfl,ru⟩:=rv.one;obtain⟨z,its,n,r,hl,e⟩:=I.lstM hH;refine call_meets Pf ⟨_,e,rfl⟩ F.entry_list_append (F.args_list_append_2 _ _) (PySem.list_append l its.toArray n u (by rw[Li];omega)) ⟨e,?_⟩;refine⟨.non,_,I.lset (its':=its++[u]) hH e (by simp) (r.append (.cons ru .nil)) ?_,rfl,q⟩;rw[Lp,O0];omega
end
end L2
namespace L2
open PySem PySem.Spec PyProof.Rows
section
variable{κ : Type}[DecidableEq κ]
def jI(kvs:List (κ×V))(k:κ):Option V:=(kvs.find? fun kv=>decide (kv.1=k)).map (·.2)
def putK(kvs:List (κ×V))(k:κ)(v:V):List (κ×V):=
 if (kvs.any fun kv=>decide (kv.1=k))=true then kvs.map (fun kv=>if kv.1=k then (kv.1,v) else kv) else kvs++[(k,v)]
theorem ir{p:κ×V}{r:List (κ×V)}{k:κ}(e:p.1=k):jI (p::r) k=some p.2:=by simp[jI,NC,e]
theorem fq{p:κ×V}{r:List (κ×V)}{k:κ}(e:¬ p.1=k):jI (p::r) k=jI r k:=by simp[jI,NC,e]
theorem iu(k:κ):∀kvs:List (κ×V),(kvs.any fun kv=>decide (kv.1=k))=(jI kvs k).isSome
 | []=>rfl
 | p::r=>by
  rw[MV]
  by_cases e:p.1=k
  ·simp only[ir e,decide_eq_true e,Bool.true_or,Option.isSome_some]
  ·rw[fq e,decide_eq_false e,Bool.false_or];exact iu k r
theorem d5(kvs:List (κ×V))(k:κ)(v:V):(putK kvs k v).length<=kvs.length+1:=by
 unfold putK
 split
 ·rw[LA];omega
 ·rw[Lp,Lj,NB];omega
theorem oD.isSome_eq{o:Option V}{u:Option L3}(r:oD o u):o.isSome=u.isSome:=by
 cases o with
 | none=>cases u with
  | none=>rfl
  | some _=>exact(show False from r).elim
 | some _=>cases u with
  | none=>exact(show False from r).elim
  | some _=>rfl
theorem KV.val{kvs:List (κ×V)}{vs:List (κ×L3)}(r:KV kvs vs)(k:κ):oD (jI kvs k) (Mp vs k):=by
 unfold KV at r
 induction r with
 | nil=>exact Oj
 | @cons p q ps qs h t ih=>
  obtain⟨h1,h2⟩:=h
  by_cases e:p.1=k
  ·have e':q.1=k:=h1.symm.trans e
   have b:Mp (q::qs) k=some q.2:=by simp[Mp,NC,e']
   rw[ir e,b];exact h2
  ·have e':¬ q.1=k:=fun z=>e (h1.trans z)
   have b:Mp (q::qs) k=Mp qs k:=by simp[Mp,NC,e']
   rw[fq e,b];exact ih
theorem KV.any{kvs:List (κ×V)}{vs:List (κ×L3)}(r:KV kvs vs)(k:κ):(kvs.any fun kv=>decide (kv.1=k))=vs.any fun kv=>decide (kv.1=k):=by
 unfold KV at r
 induction r with
 | nil=>rfl
 | cons h t ih=>rw[MV,MV,ih,h.1]
theorem KV.repl{kvs:List (κ×V)}{vs:List (κ×L3)}(r:KV kvs vs)(k:κ){y:V}{u:L3}(ry:RelV y u) :
  KV (kvs.map fun kv=>if kv.1=k then (kv.1,y) else kv) (vs.map fun kv=>if kv.1=k then (kv.1,u) else kv):=by
 unfold KV at r ⊢
 induction r with
 | nil=>exact .nil
 | @cons p q ps qs h t ih=>
  rw[L8,L8];refine .cons ?_ ih;obtain⟨h1,h2⟩:=h
  by_cases e:p.1=k
  ·rw[if_pos e,if_pos (h1.symm.trans e)];exact⟨h1,ry⟩
  ·rw[if_neg e,if_neg (fun z=>e (h1.trans z))];exact⟨h1,h2⟩
theorem KV.put{kvs:List (κ×V)}{vs:List (κ×L3)}(r:KV kvs vs)(k:κ){y:V}{u:L3}(ry:RelV y u):KV (putK kvs k y) (RV vs k u):=by
 unfold putK RV;rw[r.any k]
 by_cases e:(vs.any fun kv=>decide (kv.1=k))=true
 ·rw[if_pos e,if_pos e];exact r.repl k ry
 ·rw[if_neg e,if_neg e];exact Paired.snoc r ⟨rfl,ry⟩
theorem KV.length{kvs:List (κ×V)}{vs:List (κ×L3)}(r:KV kvs vs):kvs.length=vs.length:=M5 r
end
theorem lM{P:Lf}{w:Ln}{k:Key}{u:L3}(r:RelV (kV k) u):(ah P w).is k u=true:=by
 cases k with
 | inl i=>obtain⟨t,e⟩:=(show ∃t,u=T2 i t from r);subst e;exact qD P w i t
 | inr x=>obtain⟨t,e⟩:=(show ∃t,u=T1 x t from r);subst e;exact fH P w x t
theorem pO{P:Lf}{w:Ln}:∀{ks:List Key}{us:List L3},Vals (ks.map kV) us->ItemsAre (ah P w) ks us
 | [],_,r=>by rw[Nm] at r;cases r;exact .nil
 | k::ks,_,r=>by
  rw[L8] at r;cases r with
  | cons h t=>exact .cons (lM h) (pO t)
abbrev KT(H:Hp):List (List Key×V)->List (List Key×Addr×L3)->Prop:=SA fun p q=>p.1=q.1/\H q.2.1=some (.tup (p.1.map kV))/\RelV p.2 q.2.2
theorem KT.val{H:Hp}{kvs:List (List Key×V)}{xs:List (List Key×Addr×L3)}(r:KT H kvs xs)(k:List Key):oD (jI kvs k) ((S7 xs k).map (·.2)):=by
 induction r with
 | nil=>exact Oj
 | @cons p q ps qs h t ih=>
  obtain⟨h1,_,h2⟩:=h
  by_cases e:p.1=k
  ·have e':q.1=k:=h1.symm.trans e
   have b:S7 (q::qs) k=some q.2:=by simp[S7,NC,e']
   rw[ir e,b];exact h2
  ·have e':¬ q.1=k:=fun z=>e (h1.trans z)
   have b:S7 (q::qs) k=S7 qs k:=by simp[S7,NC,e']
   rw[fq e,b];exact ih
theorem KT.repl{H:Hp}{kvs:List (List Key×V)}{xs:List (List Key×Addr×L3)}(r:KT H kvs xs)(k:List Key){y:V}{u:L3}(ry:RelV y u) :
  KT H (kvs.map fun kv=>if kv.1=k then (kv.1,y) else kv) (xs.map (putAt k u)):=by
 induction r with
 | nil=>exact .nil
 | @cons p q ps qs h t ih=>
  rw[L8,L8];refine .cons ?_ ih;obtain⟨h1,h2,h3⟩:=h;unfold putAt
  by_cases e:p.1=k
  ·rw[if_pos e,if_pos (h1.symm.trans e)];exact⟨h1,h2,ry⟩
  ·rw[if_neg e,if_neg (fun z=>e (h1.trans z))];exact⟨h1,h2,h3⟩
theorem KT.put{H:Hp}{kvs:List (List Key×V)}{xs:List (List Key×Addr×L3)}(r:KT H kvs xs)(k:List Key){b:Addr}{y:V}{u:L3}(hb:H b=some (.tup (k.map kV)))(ry:RelV y u) :
  KT H (putK kvs k y) (QX xs k b u):=by
 have e:(kvs.any fun kv=>decide (kv.1=k))=(S7 xs k).isSome:=by
  rw[iu,(r.val k).isSome_eq,QM]
 unfold putK QX;rw[e]
 by_cases q:(S7 xs k).isSome=true
 ·rw[if_pos q,if_pos q];exact r.repl k ry
 ·rw[if_neg q,if_neg q];exact Paired.snoc r ⟨rfl,hb,ry⟩
theorem KT.keeps{H H':Hp}{kvs:List (List Key×V)}{xs:List (List Key×Addr×L3)}(r:KT H kvs xs)(ht:∀b ys,H b=some (.tup ys)->H' b=some (.tup ys)):KT H' kvs xs:=
 Paired.mapP r fun _ _ z=>⟨z.1,ht _ _ z.2.1,z.2.2⟩
section
variable{P : Lf}{w : Ln}{H : Hp}{h : Heap}{a : Addr}
theorem E8{u:HO}(ok:HOk P w H h)(e:Rd H a u):dw P w H h a u:=e.ok ok
theorem xi{kvs:List (Key×V)}(ok:HOk P w H h)(e:Rd H a (.dK kvs)):kvs.length<=sizeLine/\(a == MA)=false/\∃vs,KV kvs vs/\h.DictOf (ah P w) a vs:=
 show dw P w H h a (.dK kvs) from E8 ok e
theorem CM{kvs:List (Key×V)}(ok:HOk P w H h)(e:H a=some (.dK kvs)):kvs.length<=sizeLine/\(a == MA)=false/\∃vs,KV kvs vs/\h.DictOf (ah P w) a vs:=xi ok (.inl e)
theorem key_of{ks:List Key}(ok:HOk P w H h)(e:H a=some (.tup (ks.map kV))):(Nr (ah P w)).is h ks a:=by
 obtain⟨_,its,r,o,h1,h2,⟨n,h3⟩,_⟩:=(show dw P w H h a (.tup (ks.map kV)) from ok a _ e);exact⟨o,its.toArray,n,h1,h2,h3,by simpa using pO r⟩
theorem xg{kvs:List (List Key×V)}(ok:HOk P w H h)(e:Rd H a (.dT kvs)):kvs.length<=sizeLine/\(a == MA)=false/\
  ∃xs,KT H kvs xs/\h.DictOfH (Nr (ah P w)) a xs:=by
 obtain⟨z,y,xs,r,o,es,ep,h1,h2,h3,h4,h5⟩:=(show dw P w H h a (.dT kvs) from E8 ok e);refine⟨z,y,xs,r,o,es,ep,h1,h2,h3,h4,fun x hx=>?_,h5⟩
 have all:∀{l:List (List Key×V)}{m:List (List Key×Addr×L3)},KT H l m->∀x∈m,(Nr (ah P w)).is h x.1 x.2.1:=by
  intro l m q
  induction q with
  | nil=>intro x hx;exact nomatch hx
  | @cons p q ps qs hq t ih=>
   intro x hx;rcases LR.mp hx with e | hx
   ·subst e
    exact key_of ok (by rw[← hq.1];exact hq.2.1)
   ·exact ih x hx
 exact all r x hx
theorem FO{kvs:List (List Key×V)}(ok:HOk P w H h)(e:H a=some (.dT kvs)):kvs.length<=sizeLine/\(a == MA)=false/\
  ∃xs,KT H kvs xs/\h.DictOfH (Nr (ah P w)) a xs:=xg ok (.inl e)
end
def G9(H:Hp)(a:Addr)(y:V)(r:Option V):Prop:=
 (∃kvs k,Rd H a (.dK kvs)/\y=kV k/\r=jI kvs k)\/∃kvs k b,Rd H a (.dT kvs)/\y=.ref b/\H b=some (.tup (k.map kV))/\r=jI kvs k
def B8(H:Hp)(a:Addr)(y v:V)(H':Hp):Prop:=
 (∃kvs k,H a=some (.dK kvs)/\y=kV k/\kvs.length<sizeLine/\H'=upd H a (.dK (putK kvs k v))) ∨
 ∃kvs k b,H a=some (.dT kvs)/\y=.ref b/\H b=some (.tup (k.map kV))/\kvs.length<sizeLine/\H'=upd H a (.dT (putK kvs k v))
theorem B8.k{H:Hp}{a:Addr}{kvs:List (Key×V)}{k:Key}{v:V}(e:H a=some (.dK kvs))(hl:kvs.length<sizeLine):B8 H a (kV k) v (upd H a (.dK (putK kvs k v))):=.inl ⟨kvs,k,e,rfl,hl,rfl⟩
theorem B8.t{H:Hp}{a b:Addr}{kvs:List (List Key×V)}{k:List Key}{v:V}(e:H a=some (.dT kvs))(eb:H b=some (.tup (k.map kV)))(hl:kvs.length<sizeLine) :
  B8 H a (.ref b) v (upd H a (.dT (putK kvs k v))):=.inr ⟨kvs,k,b,e,rfl,eb,hl,rfl⟩
section
variable{X : Cx}{KW : List (Addr×Mi)}{σ : St}{H : Hp}{s : L6}{a : Addr}{y v : V}{u r : L3}{o : Option V}{A : Ls}{E : L3 → L6 → Prop}
theorem Inv.big(I:Inv X KW σ H s):MA<s.heap.objs.size:=by
 have h:mainGlobals<s.heap.objs.size:=(I.mod.glob.keeps I.bk).lt;exact Od (by decide) h
theorem xt{Q:L3->L6->Prop}(hu:A.units+1<cLine)(I:Inv X KW σ H s)(g:G9 H a y (some v))(ry:RelV y u)(h:∀w' s',Inv X KW σ H s'->RelV v w'->Q w' s') :
  LY (Ll X.prog X.w) A (QY (.ref a) u) Q E s:=by
 rcases g with⟨kvs,k,e,ey,l⟩|⟨kvs,k,b,e,ey,eb,l⟩
 ·subst ey
  obtain⟨z,hd,vs,rel,dd⟩:=xi I.hok e;obtain⟨w',hw,rw'⟩:=oD.some_of (v:=v) (o:=Mp vs k) (by rw[l];exact rel.val k);exact wpAny_getItem_of (lM ry) dd.mapOf hw (h w' _ (I.tok _) rw')
 ·subst ey
  cases (show u=M1 b from ry);obtain⟨z,hd,xs,rel,dd⟩:=xg I.hok e;obtain⟨w',hw,rw'⟩:=oD.some_of (v:=v) (o:=(S7 xs k).map (·.2)) (by rw[l];exact rel.val k);obtain⟨p,hp,hp2⟩:=LB.mp hw;refine wpAny_getItem_heap (Qw hu) (key_of I.hok eb) dd hp ?_;rw[hp2];exact h w' _ (I.tok _) rw'
theorem CP{Q:L3->L6->Prop}(hu:A.units+1<cLine)(I:Inv X KW σ H s)(g:G9 H a y o)(ry:RelV y u)(h:∀s',Inv X KW σ H s'->Q (.bool (!o.isSome)) s') :
  LY (Ll X.prog X.w) A (Lz .NotIn u (.ref a)) Q E s:=by
 rcases g with⟨kvs,k,e,ey,l⟩|⟨kvs,k,b,e,ey,eb,l⟩
 ·subst ey
  obtain⟨z,hd,vs,rel,dd⟩:=xi I.hok e;refine wpAny_notIn_of (lM ry) hd dd.mapOf ?_;rw[← (rel.val k).isSome_eq,← l];exact h _ (I.tok _)
 ·subst ey
  cases (show u=M1 b from ry);obtain⟨z,hd,xs,rel,dd⟩:=xg I.hok e;refine wpAny_notIn_heap (Qw hu) (key_of I.hok eb) hd dd ?_;have q:=(rel.val k).isSome_eq;rw[QM] at q;rw[← q,← l];exact h _ (I.tok _)
theorem lu{h':Heap}{t':Nat}{ob:HO}(I:Inv X KW σ H s)(mu:Mut (H a))(hs:OG a s.heap h')(he:∃q,h'.get? a=some q)(new:dw X.prog X.w (upd H a ob) h' a ob) :
  Inv X KW σ (upd H a ob) { s with heap:=h',toks:=t' }:=
 I.write (x:=a) (e:=a) mu (.inl rfl) (fun b q hb z=>(hs.2 b hb).trans z) he new
theorem xj{P:Lf}{w:Ln}{H':Hp}{h':Heap}{kvs:List (Key×V)}{vs:List (Key×L3)}(z:kvs.length<=sizeLine)(hd:(a == MA)=false)(rel:KV kvs vs)(dd:h'.DictOf (ah P w) a vs) :
  dw P w H' h' a (.dK kvs):=⟨z,hd,vs,rel,dd⟩
theorem xr{H':Hp}{Q:Unit->L6->Prop}(hu:A.units+1<cLine)(I:Inv X KW σ H s)(g:B8 H a y v H')(ry:RelV y u)(rv:RelV v r)(h:∀s',Inv X KW σ H' s'->Q () s') :
  LY (Ll X.prog X.w) A (setItem (.ref a) u r) Q E s:=by
 rcases g with⟨kvs,k,e,ey,l,eH⟩|⟨kvs,k,b,e,ey,eb,l,eH⟩
 ·subst ey eH
  obtain⟨z,hd,vs,rel,dd⟩:=CM I.hok e;have hz:vs.length<=sizeLine:=by rw[← rel.length];exact z
  have hl:(putK kvs k v).length<=sizeLine:=by have:=d5 kvs k v;omega
  refine wpAny_setItem_pairs (hsz:=hz) (lM ry) dd fun h' dd' hs=>h _ ?_;have he:∃q,h'.get? a=some q:=let ⟨q,_,_,hq,_⟩:=dd';⟨q,hq⟩
  exact lu I (by rw[e];exact Oj) hs he (xj hl hd (rel.put k rv) dd')
 ·subst ey eH
  cases (show u=M1 b from ry);obtain⟨z,hd,xs,rel,dd⟩:=FO I.hok e;have hz:xs.length<=sizeLine:=by rw[← M5 rel];exact z
  have hl:(putK kvs k v).length<=sizeLine:=by have:=d5 kvs k v;omega
  refine wpAny_setItem_heap (hsz:=hz) (Qw hu) (key_of I.hok eb) dd fun h' dd' hs=>h _ ?_;obtain⟨q,es,ep,hq,h2,h3,h4,_,h5⟩:=dd';refine lu I (by rw[e];exact Oj) hs ⟨q,hq⟩ ⟨hl,hd,_,(rel.put k eb rv).keeps fun c ys ec=>?_,q,es,ep,hq,h2,h3,h4,h5⟩;rw[aj (ER ec e (fun z=>nomatch z))];exact ec
end
theorem qZ {X:Cx} {KW:List (Addr×Mi)} {σ:St} {H:Hp} {s:L6} {a:Addr} {y:V} {o:Option V} (I:Inv X KW σ H s) (g:G9 H a y o):s.TypeIs (.ref a) "dict":=by
 rcases g with⟨kvs,k,e,_,_⟩|⟨kvs,k,b,e,_,_,_⟩
 ·obtain⟨_,_,vs,_,dd⟩:=xi I.hok e
  exact dd.typeIs
 ·obtain⟨_,_,xs,_,dd⟩:=xg I.hok e
  exact dd.typeIs
def Hi(td ty tv:TE):TS:=fun D σ H=>tv σ H fun v H1=>td σ H1 fun x H2=>ty σ H2 fun y H3=>∃a H4,x=.ref a/\B8 H3 a y v H4/\D.nx σ H4
section
variable{X : Cx}{o i e value : Expr}{pos pos' tpos : NJ}{td ty tv : TE}
theorem vh(hu:X.A.units+1<cLine)(ho:PE X o td)(hi:PE X i ty)(hv:PE X value tv)(hs:OB value (some (.Subscript o i pos')) pos.line X.env=pure false) :
  PS X (.Assign [.Subscript o i pos'] value pos) (Hi td ty tv):=by
 intro KW s σ H D I h;refine Ss (thn (hv KW s σ H _ I h) fun r s1 ⟨v,H1,I1,rv,q1⟩=>thn (ho KW s1 σ H1 _ I1 q1) fun u s2 ⟨x,H2,I2,rx,q2⟩=>thn (hi KW s2 σ H2 _ I2 q2) fun iv s3 ⟨y,H3,I3,ry,a,H4,ex,g,q3⟩=>?_) hs;subst ex;obtain rfl:u=M1 a:=rx;exact xr hu I3 g ry rv fun s4 I4=>⟨σ,H4,I4,q3⟩
end
theorem sS {P:Lf} {w:Ln} {H:Hp} (h:Heap) (hb:MA<h.objs.size):dw P w H (h.push { cls:=.type "dict",data:=.dict #[] }) h.objs.size (.dK []):=
 ⟨M0 _,beq_eq_false_iff_ne.mpr (MU (LO hb)),[],.nil,P9 h⟩
theorem sR {P:Lf} {w:Ln} {H:Hp} (h:Heap) (hb:MA<h.objs.size):dw P w H (h.push { cls:=.type "dict",data:=.dict #[] }) h.objs.size (.dT []):=
 ⟨M0 _,beq_eq_false_iff_ne.mpr (MU (LO hb)),[],.nil,_,#[],0,LZ _ rfl,⟨rfl,rfl,rfl⟩,rfl,rfl,List.nodup_nil⟩
def DW:TE:=fun _ H Q=>∀p,H p=none->Q (.ref p) (upd H p (.dK []))
def DV:TE:=fun _ H Q=>∀p,H p=none->Q (.ref p) (upd H p (.dT []))
section
variable{X : Cx}{pos : NJ}
theorem yY:PE X (.Dict [] [] pos) DW:=fun KW s σ H Q I h=>
 wpAny_Dict_empty ⟨.ref s.heap.objs.size,_,I.laid (a:=s.heap.objs.size) (o:=.dK []) (t':=s.toks) (fun _ _ q=>L5 _ q) (LX _) (sS s.heap I.big),rfl,h _ (I.hok.fresh (LX _))⟩
theorem yX:PE X (.Dict [] [] pos) DV:=fun KW s σ H Q I h=>
 wpAny_Dict_empty ⟨.ref s.heap.objs.size,_,I.laid (a:=s.heap.objs.size) (o:=.dT []) (t':=s.toks) (fun _ _ q=>L5 _ q) (LX _) (sR s.heap I.big),rfl,h _ (I.hok.fresh (LX _))⟩
end
def rA:List (TE×TE)->St->Hp->(List (V×V)->Hp->Prop)->Prop
 | [],_,H,Q=>Q [] H
 | (tk,tv)::r,σ,H,Q=>tk σ H fun x H1=>tv σ H1 fun y H2=>rA r σ H2 fun ps H3=>Q ((x,y)::ps) H3
abbrev VV:List (V×V)->List (L3×L3)->Prop:=SA fun p q=>RelV p.1 q.1/\RelV p.2 q.2
def PPs(X:Cx)(pos:NJ)(keys:List (Option Expr))(values:List Expr)(trs:List (TE×TE)):Prop:=
 ∀(KW:List (Addr×Mi))(s:L6)(σ:St)(H:Hp)(Q:List (V×V)->Hp->Prop),Inv X KW σ H s->rA trs σ H Q->
  LY (Ll X.prog X.w) X.A (evalPairs (pairTrees keys values X.env pos)) (fun vs s'=>∃ps H',Inv X KW σ H' s'/\VV ps vs/\Q ps H') X.xe s
theorem vi{X:Cx}{pos:NJ}:PPs X pos [] [] []:=fun KW s σ H Q I h=>pairTrees_nil_walk ⟨[],H,I,.nil,h⟩
theorem rO{X:Cx}{pos:NJ}{k v:Expr}{ks:List (Option Expr)}{vs:List Expr}{tk tv:TE}{trs:List (TE×TE)}(hk:PE X k tk)(hv:PE X v tv)(hr:PPs X pos ks vs trs) :
  PPs X pos (some k::ks) (v::vs) ((tk,tv)::trs):=fun KW s σ H Q I h=>
 pairTrees_cons_walk (thn (hk KW s σ H _ I h) fun u s1 ⟨x,H1,I1,rx,q1⟩=>thn (hv KW s1 σ H1 _ I1 q1) fun w2 s2 ⟨y,H2,I2,ry,q2⟩=>
  thn (hr KW s2 σ H2 _ I2 q2) fun ws s3 ⟨ps,H3,I3,rel,q3⟩=>⟨(x,y)::ps,H3,I3,.cons ⟨rx,ry⟩ rel,q3⟩)
def cZ(kvs more:List (Key×V)):List (Key×V):=more.foldl (fun acc kv=>putK acc kv.1 kv.2) kvs
theorem KV.merge:∀{more:List (Key×V)}{rs:List (Key×L3)}{kvs:List (Key×V)}{vs:List (Key×L3)},KV more rs->KV kvs vs->KV (cZ kvs more) (merged vs rs):=by
 intro more rs kvs vs r;unfold KV at r
 induction r generalizing kvs vs with
 | nil=>intro q;exact q
 | @cons p q ps qs h t ih=>
  intro r0
  have e:KV (putK kvs p.1 p.2) (RV vs q.1 q.2):=by
   have:=r0.put p.1 h.2;rw[← h.1];exact this
  exact ih e
theorem iJ:∀(more kvs:List (Key×V)),(cZ kvs more).length<=kvs.length+more.length
 | [],kvs=>by show kvs.length<=kvs.length+0;omega
 | p::r,kvs=>by
  have h1:=iJ r (putK kvs p.1 p.2);have h2:=d5 kvs p.1 p.2;show (cZ (putK kvs p.1 p.2) r).length<=_;rw[Lj];omega
theorem mH{P:Lf}{w:Ln}:∀{kvs:List (Key×V)}{ws:List (L3×L3)},VV (kvs.map fun kv=>(kV kv.1,kv.2)) ws->∃rs,Carries (ah P w) ws rs/\KV kvs rs
 | [],_,r=>by rw[Nm] at r;cases r;exact⟨[],Oj,.nil⟩
 | p::kvs,_,r=>by
  rw[L8] at r;cases r with
  | @cons a b as bs h t=>
   obtain⟨rs,c,q⟩:=mH (P:=P) (w:=w) t;obtain⟨b1,b2⟩:=b;exact⟨(p.1,b2)::rs,⟨lM h.1,rfl,c⟩,.cons ⟨rfl,h.2⟩ q⟩
def H9(trs:List (TE×TE)):TE:=fun σ H Q=>∀p,H p=none->rA trs σ (upd H p (.dK [])) fun ps H2=>H2 p=some (.dK [])/\∃kvs:List (Key×V),ps=kvs.map (fun kv=>(kV kv.1,kv.2))/\kvs.length<=15/\Q (.ref p) (upd H2 p (.dK (cZ [] kvs)))
theorem BM{X:Cx}{pos:NJ}{keys:List (Option Expr)}{values:List Expr}{trs:List (TE×TE)}(h:PPs X pos keys values trs)(hall:keys.all (·.isSome)=true)(hl:keys.length=values.length)(h0:keys≠[])
  (h15:keys.length<=15):PE X (.Dict keys values pos) (H9 trs):=by
 intro KW s σ H Q I q;have hn:=I.hok.fresh (LX s.heap.objs.size);have I1:=I.laid (a:=s.heap.objs.size) (o:=.dK []) (h':=s.heap.push { cls:=.type "dict",data:=.dict #[] }) (t':=s.toks) (fun _ _ q=>L5 _ q) (LX _) (sS s.heap I.big);refine wpAny_Dict_walk (knd:=ah X.prog X.w) hall hl h0 h15 (thn (h KW _ σ _ _ I1 (q _ hn)) fun ws s2 ⟨ps,H2,I2,rel,e,kvs,ep,lk,q2⟩=>?_);subst ep;obtain⟨rs,c,rk⟩:=mH (P:=X.prog) (w:=X.w) rel;obtain⟨z,hd,vs0,r0,dd⟩:=CM I2.hok e;cases r0;refine⟨rs,c,dd,fun h' dd' hs=>⟨.ref s.heap.objs.size,_,?_,rfl,q2⟩⟩
 have hz:(cZ [] kvs).length<=sizeLine:=by
  have h1:=iJ kvs [];rw[NB] at h1;rw[Ly];omega
 have he:∃q,h'.get? s.heap.objs.size=some q:=let ⟨q,_,_,hq,_⟩:=dd';⟨q,hq⟩
 exact lu I2 (by rw[e];exact Oj) hs he (xj hz hd (rk.merge .nil) dd')
end L2
namespace Att
open PySem PySem.W PySem.Calls PyProof.Rows
theorem kO{P:Params}{h:Heap}:∀(ns:List Int)(vs:List L3),WellAll P h vs (ns.map WData.int)->T5 vs ns:=by
 intro ns
 induction ns with
 | nil=>
  intro vs w;rw[Nm] at w;cases w;exact .nil
 | cons n ns ih=>
  intro vs w;rw[L8] at w;cases w with
  | cons a b=>
   cases a;exact .cons _ _ (ih _ b)
theorem uW{l:OpenLaw}{n:Nat}(hn:l.most=some n){P:Params}{h:Heap}{args:List WData}{vals:List L3}
  (hpre:l.row.toRowW.claim.pre args=true) (hwl:WellAll P h vals args) :
  ∃a vs ns,vals=[M1 a]/\args=[WData.list (ns.map WData.int)]/\h.get? a=some { cls:=.type "list",data:=.seq vs.toArray }/\T5 vs ns/\ns.length<=n:=by
 have hsh:WShape.hasAll [] args [.list .int]=true:=(pre_splitW hpre).1;have hc:l.pre.holds [] { args:=args }=true:=(pre_splitW hpre).2;obtain⟨d,r,rfl,h1,h2⟩:=hasAllW_cons hsh;obtain rfl:=hasAllW_nil h2;obtain⟨xs,rfl,h3⟩:=hasW_list h1;obtain⟨ns,rfl⟩:=items_int h3
 have hlen:ns.length<=n:=by
  unfold OpenLaw.pre at hc
  have h4:(WTm.not (.lt (.lit (.int (n:Int))) (.len (.arg 0)))).holds [] { args:=[.list (ns.map .int)] }=true:=by
   have h4:=(holds_andW hc).1;rw[hn] at h4;exact h4
  have h5:=condW_of h4 (w_not (w_lt w_lit (w_len_list (w_arg rfl))));rw[LA] at h5;refine Qz fun q=>?_;have q':(n:Int)<((ns.length:Nat):Int):=by omega
  first
   | (rw[decide_eq_true q'] at h5;exact absurd h5 (by decide))
   | (simp at h5;omega)
 cases hwl with
 | cons w1 w2=>
  cases w2;cases w1 with
  | list ho hall=>exact⟨_,_,ns,rfl,rfl,ho,kO ns _ hall,hlen⟩
theorem vj(l:OpenLaw)(args:List WData):l.row.toRowW.claim.post args (.bool true) args=true:=
 postW_of (r:=l.row.toRowW) (X:=(true == true))
  (show WShape.has [] (.bool true) .bool=true by first | rfl | decide | simp[WShape.has,WShape.arms,WShape.armsAll])
  (show (WTm.eq .res (.lit (.bool true))).value [] { args:=args,res:=some (.bool true),after:=args }=some (.bool (true == true)) from w_eq_bool (w_res rfl) w_lit) rfl
theorem attach_call{l:OpenLaw}{n:Nat}{q:Lf}{loose:List Str}{XP:(Str->Option L3)->Heap->Prop}{YP:Ln->Heap->Prop}{d:DefRec}
  (hn:l.most=some n) (hdf:d.params.defaults=[])
  (call:∀(w:Ln)(s₀ s₁:L6)(mg mb:Str->Option L3)(fa:Addr)(o:Mi)(pm cd doc:L3)(a:Addr)(vs:List L3)(ns:List Int),
   Ground q loose [] XP w s₀ mg mb s₁.heap->YP w s₁.heap->
   s₁.heap.get? fa=some o->o.data=.func (docDef d.name d.params d.body d.scope pm cd doc)->s₁.heap.CodeRec cd d.name->mg d.name=some (.ref fa)->
   s₁.heap.get? a=some { cls:=.type "list",data:=.seq vs.toArray }->T5 vs ns->ns.length<=n->s₁.gens=#[]->
   OF (Ll l.prog w) R8 (.call (.ref fa) ⟨[.ref a],[]⟩) (fun r s'=>r=.ok (.ret (.bool true))/\OldK s₁.heap s'.heap/\s'.os=s₁.os/\QB s'.gens) s₁) :
  WalkO q loose XP YP l.row.toRowW d [] (fun f vs=>SX f vs):=by
 intro w s₀ s₁ mg mb G Y fa o pm cd doc dV kV ho hd hcd hD hmg hg args vals as hpre hlay hrd hwl hlo;obtain rfl:dV=.none:=Dflts.none hD hdf;obtain rfl:kV=.none:=Dflts.noKw hD;obtain⟨a,vs,ns,rfl,rfl,hobj,hints,hlen⟩:=uW hn hpre hwl;refine enter_call (Q6 (call w s₀ s₁ mg mb fa o pm cd doc a vs ns G Y ho (fd_plain hd) hcd hmg hobj hints hlen hg) fun r s' hq=>?_);obtain⟨rfl,h2,h3,h4⟩:=hq;exact⟨.inl ⟨.bool true,.bool true,[],rfl,fun _=>rfl,.bool true,vj l _,fun _=>⟨List.Pairwise.nil,fun _ hm=>(nomatch hm)⟩⟩,h2,h3,h4⟩
end Att
namespace L2
open PySem PySem.Spec PyProof.Rows
theorem oH:∀{vs:List L3}{ns:List Int},T5 vs ns->Vals (ns.map V.int) vs
 | _,_,.nil=>.nil
 | _,_,.cons n t h=>.cons ⟨t,rfl⟩ (oH h)
end L2
namespace L2
open PySem PySem.Spec PyProof.Rows
def dE(s:Stmt):Arguments:=match s with
 | .FunctionDef _ a _ _ _ _ _ _ _ _=>a
 | _=>{ posonlyargs:=[],args:=[],vararg:=none,kwonlyargs:=[],kw_defaults:=[],kwarg:=none,defaults:=[] }
def aT(s:Stmt):List Stmt:=match s with
 | .FunctionDef _ _ b _ _ _ _ _ _ _=>b
 | _=>[]
def a7(s:Stmt):Scope:=match s with
 | .FunctionDef _ _ _ _ _ _ sc _ _ _=>sc
 | _=>{ kind:=.function,names:=[],isGenerator:=false,isCoroutine:=false }
abbrev CX0:CXT:=fun _ _ _ _ _ _=>False
abbrev E0:XK:=fun _ _ _=>False
theorem Er{X:Cx}:Passes CX0 X E0:=fun _ _ _ _ _ _ _ h=>h.elim
structure Fun(K:L0)(x qual:Str)(st:Stmt)(f:Addr)(fd:Mw):Prop where
 ex:∃(oc:L3)(od:Option Addr)(kV doc pm:L3)(an:Option Addr)(cdv ct:L3)(osl:Array (Option L3)),
  fd=Me x qual (dE st) (aT st) (a7 st) .none kV doc pm an cdv ct/\K.lookup f=some ⟨oc,od,.func fd,osl⟩/\O2 K cdv qual=true
 kp:NQ K (.ref f)=true
section
variable{P : Lf}{w : Ln}{K : L0}{mg : Str → Option L3}{base : Heap}
theorem Fun.ok{x qual:Str}{st:Stmt}{f:Addr}{fd:Mw}{N ps:List Str}{k:Nat}{sp:Sp}(F:Fun K x qual st f fd)(S:FnScope N ps (a7 st))(len:∀vs H Q E,sp vs H Q E->vs.length=ps.length)
  (hbody:∀(cdv:L3)(A:Ls)(outer:List Qa)(s:L6)(H:Hp)(vs:List V)(Q:VK)(E:XK),Room k (A.deeper (OU qual (a7 st) s.heap.objs.size f cdv))->sp vs H Q E->
   ∃t,PSs (AU CX0 P w K mg base N qual (a7 st) f cdv A outer s H E).nox (aT st) t/\t { nx:=fun _ H'=>Q .non H',rt:=Q } (start N vs) H):FnOk P w K mg base CX0 (k+1) f fd ps sp:=by
 obtain⟨oc,od,kV,doc,pm,an,cdv,ct,osl,rfl,lk,hcd⟩:=F.ex;refine FC lk hcd S len fun A outer s H vs Q E hr hsp=>?_;obtain⟨t,h,q⟩:=hbody cdv A outer s H vs Q E hr hsp;exact⟨t,h.nox,q⟩
theorem Fun.binds{x qual:Str}{st:Stmt}{f:Addr}{fd:Mw}{ps:List Str}(F:Fun K x qual st f fd)
  (h:∀(kV doc pm:L3)(an:Option Addr)(cdv ct:L3)(us:List L3),us.length=ps.length->QT (Me x qual (dE st) (aT st) (a7 st) .none kV doc pm an cdv ct) ⟨us,[]⟩=pure (ps.zip us)):Binds K fd ps []:=by
 obtain⟨oc,od,kV,doc,pm,an,cdv,ct,osl,rfl,lk,hcd⟩:=F.ex;exact .all (h kV doc pm an cdv ct)
theorem wM{x qual:Str}{st:Stmt}{f:Addr}{oc:L3}{od an:Option Addr}{osl:Array (Option L3)}{kV doc pm cdv ct:L3}(l:K.lookup f=some ⟨oc,od,.func (Me x qual (dE st) (aT st) (a7 st) .none kV doc pm an cdv ct),osl⟩)
  (c:O2 K cdv qual=true) (k:NQ K (.ref f)=true):Fun K x qual st f (Me x qual (dE st) (aT st) (a7 st) .none kV doc pm an cdv ct):=⟨⟨oc,od,kV,doc,pm,an,cdv,ct,osl,rfl,l,c⟩,k⟩
end
theorem Dm{A B:Prop}(h:B):if false=true then A else B:=by
 rw[if_neg LK];exact h
theorem Dl{A B:Prop}(h:A):if true=true then A else B:=by
 rw[if_pos rfl];exact h
end L2
end
namespace PU
theorem zi(s:PySem.Str)(l:List PySem.Str):PySem.Txt.join s l=Q8 s l:=PySem.StrLaws.glued_eq_join s l
end PU
section
namespace PU
open PySem L2
structure Lam where
 qual:Str
 args:Arguments
 body:Expr
 scope:Scope
 kept:List Str
inductive PV where
 | non | bl (b:Bool) | int (i:Int) | str (x:Str)
 | tup (ps:List PV) | lst (ps:List PV)
 | dct (ks:List Key) (ps:List PV) | dtt (ks:List (List Key)) (ps:List PV)
 | fn (L:Lam) (cs:List PV)
structure PX where
 cls:Str
 args:List PV
inductive R (α:Type) where
 | ok (a:α) | er (x:PX) | no
namespace R
protected def bind{α β:Type}:R α->(α->R β)->R β
 | ok a,f=>f a
 | er x,_=>er x
 | no,_=>no
instance:Monad R where
 pure:=R.ok
 bind:=R.bind
@[simp] theorem ok_bind{α β:Type}(a:α)(f:α->R β):(R.ok a >>= f)=f a:=rfl
@[simp] theorem Iq{α β:Type}(x:PX)(f:α->R β):((R.er x:R α) >>= f)=R.er x:=rfl
@[simp] theorem HM{α β:Type}(f:α->R β):((R.no:R α) >>= f)=R.no:=rfl
@[simp] theorem Ho{α:Type}(a:α):(pure a:R α)=R.ok a:=rfl
def ofO{α:Type}:Option α->R α
 | some a=>ok a
 | none=>no
@[simp] theorem ofO_some{α:Type}(a:α):ofO (some a)=R.ok a:=rfl
@[simp] theorem ofO_none{α:Type}:ofO (none:Option α)=R.no:=rfl
theorem bind_assoc{α β γ:Type}(r:R α)(f:α->R β)(g:β->R γ):((r >>= f) >>= g)=(r >>= fun a=>f a >>= g):=by cases r <;> rfl
end R
inductive Sl where
 | no | val (p:PV) | own (p:PV) | pin (ps:List PV) (a:Nat)
abbrev PSt:=List Sl
def getV(i:Nat)(ρ:PSt):R PV:=match ρ[i]? with
 | some (.val p)=>.ok p
 | _=>.no
def gS(i:Nat)(ρ:PSt):R PV:=match ρ[i]? with
 | some (.val p)=>.ok p
 | some (.own p)=>.ok p
 | some (.pin ps _)=>.ok (.lst ps)
 | _=>.no
def kI(i:Int):PSt->R PV:=fun _=>.ok (.int i)
def kB(b:Bool):PSt->R PV:=fun _=>.ok (.bl b)
def kN:PSt->R PV:=fun _=>.ok .non
def kS(x:Str):PSt->R PV:=fun _=>.ok (.str x)
def kP(p:PV):PSt->R PV:=fun _=>.ok p
def aH:PSt->R (List PV):=fun _=>.ok []
def a6(f:PSt->R PV)(fs:PSt->R (List PV)):PSt->R (List PV):=fun ρ=>f ρ >>= fun p=>fs ρ >>= fun ps=>.ok (p::ps)
def gR(ps:List PV):R (List PV):=if ps.length<=16777216 then .ok ps else .no
def gK(fs:PSt->R (List PV)):PSt->R PV:=fun ρ=>fs ρ >>= fun ps=>gR ps >>= fun ps=>.ok (.tup ps)
def s9(fs:PSt->R (List PV)):PSt->R PV:=fun ρ=>fs ρ >>= fun ps=>gR ps >>= fun ps=>.ok (.lst ps)
def ab(fa fb:PSt->R PV)(g:PV->PV->Option PV):PSt->R PV:=fun ρ=>fa ρ >>= fun p=>fb ρ >>= fun q=>R.ofO (g p q)
def sW(fa fb fc:PSt->R PV)(g g':PV->PV->Option PV):PSt->R PV:=fun ρ=>fa ρ >>= fun p=>fb ρ >>= fun q=>R.ofO (g p q) >>= fun z=>match z with
 | .bl true=>fc ρ >>= fun r=>R.ofO (g' q r)
 | .bl false=>.ok (.bl false)
 | _=>.no
def xR:PV->Option Bool
 | .non=>some false
 | .bl b=>some b
 | .int i=>some (i != 0)
 | .str y=>if y.length<=16777216 then some ((y.length:Int) != 0) else none
 | .tup ps=>some (!ps.isEmpty)
 | .lst ps=>some (!ps.isEmpty)
 | .dct ks _=>some (!ks.isEmpty)
 | .dtt _ _=>none
 | .fn _ _=>none
def cH(f:PSt->R PV):PSt->R Bool:=fun ρ=>f ρ >>= fun p=>R.ofO (xR p)
def eX:PV->PV->Option PV
 | .int i,.int j=>some (.int (i+j))
 | .str x,.str y=>if x.length+y.length<=16777216 then some (.str (x++y)) else none
 | .lst ps,.lst qs=>if ps.length+qs.length<=16777216 then some (.lst (ps++qs)) else none
 | .tup ps,.tup qs=>if ps.length+qs.length<=16777216 then some (.tup (ps++qs)) else none
 | _,_=>none
def Cy:PV->PV->Option PV
 | .int i,.int j=>some (.int (i-j))
 | _,_=>none
def wJ:PV->PV->Option PV
 | .int i,.int j=>if i.natAbs<18446744073709551616\/j.natAbs<18446744073709551616 then some (.int (i * j)) else none
 | _,_=>none
def Fx:PV->PV->Option PV
 | .int i,.int j=>if 0<j/\j<1073741824 then some (.int (i / j)) else none
 | _,_=>none
def dy:PV->PV->Option PV
 | .int i,.int j=>if 0<j then some (.int (i % j)) else none
 | _,_=>none
inductive Fl where
 | next (ρ:PSt) | brk (ρ:PSt) | cont (ρ:PSt) | ret (p:PV)
def aF(g g':PSt->R Fl):PSt->R Fl:=fun ρ=>g ρ >>= fun fl=>match fl with
 | .next ρ'=>g' ρ'
 | .brk ρ'=>.ok (.brk ρ')
 | .cont ρ'=>.ok (.cont ρ')
 | .ret p=>.ok (.ret p)
def cF:PSt->R Fl:=fun ρ=>.ok (.next ρ)
def cy(f:PSt->R PV):PSt->R Fl:=fun ρ=>f ρ >>= fun p=>.ok (.ret p)
def ifF(t:PSt->R Bool)(g g':PSt->R Fl):PSt->R Fl:=fun ρ=>t ρ >>= fun k=>if k=true then g ρ else g' ρ
def cx(i:Nat)(f:PSt->R PV):PSt->R Fl:=fun ρ=>f ρ >>= fun p=>.ok (.next (ρ.set i (.val p)))
def lH(i:Nat)(f:PSt->R PV):PSt->R Fl:=fun ρ=>f ρ >>= fun p=>.ok (.next (ρ.set i (.own p)))
def Iz:PSt->R Fl:=fun ρ=>.ok (.brk ρ)
def ua(i:Nat)(ρ:PSt):PSt:=match ρ[i]? with
 | some (.own p)=>ρ.set i (.val p)
 | _=>ρ
def uB(i:Nat)(g:PSt->R Fl):PSt->R Fl:=fun ρ=>g (ua i ρ)
abbrev Tgt:=PV->PSt->Option PSt
abbrev xO:=List PV->PSt->Option PSt
def af(i:Nat):Tgt:=fun p ρ=>some (ρ.set i (.val p))
def fV:xO:=fun ps ρ=>match ps with
 | []=>some ρ
 | _::_=>none
def aD(h:Tgt)(h':xO):xO:=fun ps ρ=>match ps with
 | p::r=>(h p ρ).bind fun ρ1=>h' r ρ1
 | []=>none
def fU(n:Nat)(h:xO):Tgt:=fun p ρ=>match p with
 | .tup ps=>if ps.length=n then h ps ρ else none
 | _=>none
def gL(h:PV->PSt->Option PSt)(g:PSt->R Fl):List PV->PSt->R Fl
 | [],ρ=>.ok (.next ρ)
 | p::ps,ρ=>R.ofO (h p ρ) >>= fun ρ1=>g ρ1 >>= fun fl=>match fl with
  | .next ρ2=>gL h g ps ρ2
  | .cont ρ2=>gL h g ps ρ2
  | .brk ρ2=>.ok (.next ρ2)
  | .ret q=>.ok (.ret q)
def jL(fi:PSt->R (List PV))(h:Tgt)(g:PSt->R Fl):PSt->R Fl:=fun ρ=>fi ρ >>= fun ps=>gL h g ps ρ
def aE(fs:PSt->R (List PV))(F:List PV->Option PV):PSt->R PV:=fun ρ=>fs ρ >>= fun ps=>R.ofO (F ps)
def start(n:Nat)(ps:List PV):PSt:=ps.map Sl.val++M3 (n-ps.length) .no
def dF(m n:Nat)(g:PSt->R Fl)(ps:List PV):Option PV:=if ps.length=m then (match g (start n ps) with
 | .ok (.ret p)=>some p
 | .ok (.next _)=>some .non
 | _=>none) else none
def roS:Option Sl->Sl
 | some (.val p)=>.val p
 | _=>.no
def ba(nt:Nat)(idx:List Nat)(ρ:PSt):PSt:=M3 nt .no++idx.map fun i=>roS ρ[i]?
def bL(h:Tgt)(t:PSt->R Bool)(fe:PSt->R PV)(ρ:PSt):List PV->R (List PV)
 | []=>.ok []
 | p::ps=>R.ofO (h p ρ) >>= fun ρ1=>t ρ1 >>= fun b=>if b=true then fe ρ1 >>= fun q=>bL h t fe ρ ps >>= fun qs=>.ok (q::qs) else bL h t fe ρ ps
def BZ{α:Type}:R α->R α
 | .ok a=>.ok a
 | _=>.no
def ff(fi:PSt->R (List PV))(h:Tgt)(t:PSt->R Bool)(fe:PSt->R PV)(nt:Nat)(idx:List Nat):PSt->R PV:=
 fun ρ=>fi ρ >>= fun ps=>BZ (bL h t fe (ba nt idx ρ) ps) >>= fun qs=>gR qs >>= fun qs=>.ok (.lst qs)
def jM:PSt->R Bool:=fun _=>.ok true
mutual
def bE:PV->PV->Option Bool
 | .non,q=>match q with
  | .non=>some true | .bl _=>some false | .int _=>some false | .str _=>some false | .tup _=>some false | .lst _=>some false | _=>none
 | .bl a,q=>match q with
  | .bl b=>some (a == b) | .int b=>some ((if a then 1 else 0) == b) | .non=>some false | .str _=>some false | .tup _=>some false | .lst _=>some false | _=>none
 | .int a,q=>match q with
  | .int b=>some (a == b) | .bl b=>some (a == (if b then 1 else 0)) | .non=>some false | .str _=>some false | .tup _=>some false | .lst _=>some false | _=>none
 | .str a,q=>match q with
  | .str b=>some (a == b) | .non=>some false | .bl _=>some false | .int _=>some false | .tup _=>some false | .lst _=>some false | _=>none
 | .tup ps,q=>match q with
  | .tup qs=>cQ ps qs | .non=>some false | .bl _=>some false | .int _=>some false | .str _=>some false | .lst _=>some false | _=>none
 | .lst ps,q=>match q with
  | .lst qs=>cQ ps qs | .non=>some false | .bl _=>some false | .int _=>some false | .str _=>some false | .tup _=>some false | _=>none
 | _,_=>none
def cQ:List PV->List PV->Option Bool
 | [],[]=>some true
 | [],_::_=>some false
 | _::_,[]=>some false
 | p::ps,q::qs=>(bE p q).bind fun a=>(cQ ps qs).bind fun b=>some (a && b)
end
mutual
def z7:PV->Nat
 | .tup ps=>dU ps+1
 | .lst ps=>dU ps+1
 | .dct _ ps=>dU ps+1
 | .dtt _ ps=>dU ps+1
 | .fn _ ps=>dU ps+1
 | _=>0
def dU:List PV->Nat
 | []=>0
 | p::ps=>max (z7 p) (dU ps)
end
def hV(ps qs:List PV)(j:Nat):Bool:=match ps[j]?,qs[j]? with
 | some p,some q=>(bE p q).getD false
 | _,_=>false
def mq:PV->Bool
 | .non=>true | .bl _=>true | .int _=>true | .str _=>true
 | _=>false
def scV:PV->V
 | .bl b=>.bl b | .int i=>.int i | .str x=>.str x
 | _=>.non
def bK:List Key->List PV->Key->Option PV
 | k::ks,p::ps,j=>if k=j then some p else bK ks ps j
 | _,_,_=>none
def kT(e:PV->PV->Option Bool):List Key->List PV->List Key->List PV->Option Bool
 | k::ks,p::ps,ls,qs=>match bK ls qs k with
  | none=>some false
  | some q=>(e p q).bind fun a=>(kT e ks ps ls qs).bind fun b=>some (a && b)
 | [],[],_,_=>some true
 | _,_,_,_=>none
def xV:Nat->PV->PV->Option Bool
 | n+1,.dct ks ps,.dct ls qs=>if ks.length=ls.length then kT (xV n) ks ps ls qs else some false
 | _,p,q=>bE p q
def gEq:PV->PV->Option PV
 | .dct ks ps,.dct ls qs=>if dU ps<=60 then (xV 3 (.dct ks ps) (.dct ls qs)).map .bl else none
 | .tup ps,.tup qs=>if dU ps<=60 then (cQ ps qs).map .bl else none
 | .lst ps,.lst qs=>if dU ps<=60 then (cQ ps qs).map .bl else none
 | p,q=>if mq p=true/\mq q=true/\yB (scV p) (scV q)=true then some (.bl (decide (scV p=scV q))) else none
def gNe:PV->PV->Option PV
 | .tup ps,.tup qs=>if dU ps<=60 then (cQ ps qs).map fun b=>.bl (!b) else none
 | .lst ps,.lst qs=>if dU ps<=60 then (cQ ps qs).map fun b=>.bl (!b) else none
 | p,q=>if mq p=true/\mq q=true/\yB (scV p) (scV q)=true then some (.bl (!decide (scV p=scV q))) else none
def gLt:PV->PV->Option PV
 | .int i,.int j=>some (.bl (decide (i<j)))
 | .str x,.str y=>some (.bl (decide (x.cps.toList<y.cps.toList)))
 | _,_=>none
def gLe:PV->PV->Option PV
 | .int i,.int j=>some (.bl (decide (i<=j)))
 | .str x,.str y=>some (.bl (!decide (y.cps.toList<x.cps.toList)))
 | _,_=>none
def gGt:PV->PV->Option PV
 | .int i,.int j=>some (.bl (decide (j<i)))
 | _,_=>none
def gGe:PV->PV->Option PV
 | .int i,.int j=>some (.bl (decide (j<=i)))
 | _,_=>none
def Co:PV->Bool
 | .non=>true
 | _=>false
def qS:PV->PV->Option PV
 | p,.non=>some (.bl (Co p))
 | _,_=>none
def u3:PV->PV->Option PV
 | p,.non=>some (.bl (!Co p))
 | _,_=>none
def ft:PV->Option Key
 | .int i=>some (.inl i)
 | .str x=>some (.inr x)
 | _=>none
def gIx:PV->PV->Option PV
 | .lst ps,.int i=>atI ps i
 | .tup ps,.int i=>atI ps i
 | .str z,.int i=>if z.length<=16777216 then (atI z.cps.toList i).map fun c=>.str ⟨#[c]⟩ else none
 | .dct ks ps,k=>(ft k).bind fun k=>bK ks ps k
 | _,_=>none
def inS(x y:Str):Bool:=!(N5 y x 0 y.length 1).isEmpty
def gIn:PV->PV->Option PV
 | .str x,.str y=>some (.bl (inS x y))
 | p,.lst qs=>if mq p=true/\qs.all mq=true then some (.bl (inV (scV p) (qs.map scV))) else none
 | p,.tup qs=>if mq p=true/\qs.all mq=true then some (.bl (inV (scV p) (qs.map scV))) else none
 | p,.dct ks _=>(ft p).map fun k=>.bl (ks.any fun j=>decide (j=k))
 | _,_=>none
def dX(p q:PV):Option PV:=(gIn p q).bind fun z=>match z with
 | .bl b=>some (.bl (!b))
 | _=>none
def B4(t u:PSt->R Bool):PSt->R Bool:=fun ρ=>t ρ >>= fun c=>if c=true then u ρ else .ok false
def orB(t u:PSt->R Bool):PSt->R Bool:=fun ρ=>t ρ >>= fun c=>if c=true then .ok true else u ρ
def EF(t:PSt->R Bool):PSt->R Bool:=fun ρ=>t ρ >>= fun c=>.ok (!c)
def G5(fa fb:PSt->R PV):PSt->R PV:=fun ρ=>fa ρ >>= fun p=>match p with
 | .bl true=>fb ρ
 | .bl false=>.ok (.bl false)
 | _=>.no
def ifV(t:PSt->R Bool)(fa fb:PSt->R PV):PSt->R PV:=fun ρ=>t ρ >>= fun c=>if c=true then fa ρ else fb ρ
def un1(f:PSt->R PV)(g:PV->Option PV):PSt->R PV:=fun ρ=>f ρ >>= fun p=>R.ofO (g p)
def l7:PV->Option PV
 | .lst ps=>some (.int ps.length)
 | .tup ps=>some (.int ps.length)
 | .str x=>if x.length<=16777216 then some (.int x.length) else none
 | .dct ks _=>some (.int ks.length)
 | _=>none
def GF:PV->Option PV
 | .int i=>some (.int i)
 | .bl b=>some (.int (if b then 1 else 0))
 | _=>none
def sC:PV->Option PV
 | .lst ps=>some (.tup ps)
 | .tup ps=>some (.tup ps)
 | _=>none
def xX:Key->PV
 | .inl i=>.int i
 | .inr x=>.str x
def fY(x:Str):List PV:=x.cps.toList.map fun c=>.str ⟨#[c]⟩
def eD:PV->Option (List PV)
 | .lst ps=>some ps
 | .tup ps=>some ps
 | .dct ks _=>some (ks.map xX)
 | .str x=>some (fY x)
 | _=>none
def itF(f:PSt->R PV):PSt->R (List PV):=fun ρ=>f ρ >>= fun p=>R.ofO (eD p)
def c7(lo:Int)(n:Nat):List PV:=(L7 n).map fun i=>.int (lo+(i:Nat))
def Bu(f:PSt->R PV):PSt->R (List PV):=fun ρ=>f ρ >>= fun p=>match p with
 | .int j=>if j.natAbs<1000000000 then .ok (c7 0 j.toNat) else .no
 | _=>.no
def Dh(f f2:PSt->R PV):PSt->R (List PV):=fun ρ=>f ρ >>= fun p=>f2 ρ >>= fun q=>match p,q with
 | .int i,.int j=>if i.natAbs<1000000000/\j.natAbs<1000000000 then .ok (c7 i (j-i).toNat) else .no
 | _,_=>.no
def qh(i:Nat)(f:PSt->R PV):PSt->R Fl:=fun ρ=>match ρ[i]? with
 | some (.own (.lst ps))=>f ρ >>= fun p=>if ps.length<16777216 then .ok (.next (ρ.set i (.own (.lst (ps++[p]))))) else .no
 | _=>.no
def rV(ps:List PV):List (List PV):=(L7 ps.length).zipWith (fun (i:Nat) p=>[.int (i:Int),p]) ps
def oh:PV->Option (List PV)
 | .lst ps=>some ((rV ps).map .tup)
 | .str x=>some ((rV (fY x)).map .tup)
 | _=>none
def uc(f:PSt->R PV):PSt->R (List PV):=fun ρ=>f ρ >>= fun p=>R.ofO (oh p)
def jC(ks:List Key)(ps:List PV):List (List PV):=ks.zipWith (fun k p=>[xX k,p]) ps
def Jw:PV->Option PV
 | .int i=>if i.natAbs.log2<1920 then some (.str (toString i)) else none
 | .str x=>some (.str x)
 | _=>none
def y7:PV->Option PV
 | .int i=>some (.int (-i))
 | _=>none
def Fp:PV->Bool
 | .str _=>true
 | _=>false
def qE(fo fe:PSt->R PV)(g:PV->PV->Option PV):PSt->R PV:=fun ρ=>fo ρ >>= fun p=>if Fp p=true then fe ρ >>= fun q=>R.ofO (g p q) else .no
def jG:List PV->Option (List Str)
 | []=>some []
 | .str x::r=>(jG r).map (x::·)
 | _::_=>none
def qR:PV->PV->Option PV
 | .str x,.lst ps=>(jG ps).bind fun ys=>if (ys.map (·.length)).sum+ys.length * x.length<=16777216 then some (.str (Txt.join x ys)) else none
 | .str x,.tup ps=>(jG ps).bind fun ys=>if (ys.map (·.length)).sum+ys.length * x.length<=16777216 then some (.str (Txt.join x ys)) else none
 | _,_=>none
def lI{α:Type}(xs:List α)(lo hi:Option Int):List α:=(xs.drop (HT.sIx xs.length 0 lo)).take (HT.sIx xs.length xs.length hi-HT.sIx xs.length 0 lo)
def gSl:PV->Option Int->Option Int->Option PV
 | .lst ps,lo,hi=>some (.lst (lI ps lo hi))
 | .tup ps,lo,hi=>if HT.sIx ps.length 0 lo=0/\HT.sIx ps.length ps.length hi=ps.length then none else some (.tup (lI ps lo hi))
 | _,_,_=>none
def f9:PSt->R (Option Int):=fun _=>.ok none
def ij(f:PSt->R PV):PSt->R (Option Int):=fun ρ=>f ρ >>= fun p=>match p with
 | .int i=>.ok (some i)
 | _=>.no
def lY(f:PSt->R PV)(l h:PSt->R (Option Int)):PSt->R PV:=fun ρ=>f ρ >>= fun p=>l ρ >>= fun lo=>h ρ >>= fun hi=>R.ofO (gSl p lo hi)
def jJ(ks:List Key)(ps:List PV)(k:Key)(p:PV):List PV:=ks.zipWith (fun j q=>if j=k then p else q) ps
def jA(ks:List Key)(ps:List PV)(k:Key)(p:PV):PV:=if (ks.any fun j=>decide (j=k))=true then .dct ks (jJ ks ps k p) else .dct (ks++[k]) (ps++[p])
def ux(i:Nat)(fk fv:PSt->R PV):PSt->R Fl:=fun ρ=>match ρ[i]? with
 | some (.own (.dct ks ps))=>fv ρ >>= fun p=>fk ρ >>= fun kp=>R.ofO (ft kp) >>= fun k=>if ks.length<16777216 then .ok (.next (ρ.set i (.own (jA ks ps k p)))) else .no
 | _=>.no
def newD:PSt->R PV:=fun _=>.ok (.dct [] [])
def EK:PSt->R (List (Key×PV)):=fun _=>.ok []
def ou(fk fv:PSt->R PV)(f:PSt->R (List (Key×PV))):PSt->R (List (Key×PV)):=fun ρ=>fk ρ >>= fun kp=>R.ofO (ft kp) >>= fun k=>fv ρ >>= fun p=>f ρ >>= fun r=>.ok ((k,p)::r)
def eJ(kps:List (Key×PV)):PV:=kps.foldl (fun d kp=>match d with
 | .dct ks ps=>jA ks ps kp.1 kp.2
 | d=>d) (.dct [] [])
def xl(f:PSt->R (List (Key×PV))):PSt->R PV:=fun ρ=>f ρ >>= fun kps=>if kps.length<=15 then .ok (eJ kps) else .no
end PU
end
namespace PU
open PySem PySem.Spec PyProof.Rows L2
def jm:Expr->Bool
 | .Starred ..=>false
 | _=>true
theorem c6{e:Expr}{es:List Expr}{env:Qa}(h:jm e=true):Lc (e::es) env=(false,MS e env)::Lc es env:=by
 cases e <;> first | rfl | cases h
theorem bj{e:Expr}{env:Qa}(h:jm e=true):Lc [e] env=[(false,MS e env)]:=c6 h
theorem yz{e e2:Expr}{env:Qa}(h:jm e=true)(h2:jm e2=true):Lc [e,e2] env=[(false,MS e env),(false,MS e2 env)]:=(c6 h).trans (congrArg _ (bj h2))
theorem jO{pos:NJ}{es:List Expr}{env:Qa}(h:es.all jm=true):(Oc pos (Lc es env)).any (·.1)=false:=by
 have:∀es:List Expr,es.all jm=true->(Lc es env).any (·.1)=false:=by
  intro es
  induction es with
  | nil=>intro _;rfl
  | cons e es ih=>
   intro h;simp only[Nz,MH] at h;rw[c6 h.1,MV,ih h.2];rfl
 have h2:=this es h
 have h3:(Oc pos (Lc es env)).map (·.1)=(Lc es env).map (·.1):=by
  unfold Oc;simp[LV,SH]
 have:(Oc pos (Lc es env)).any (·.1)=((Oc pos (Lc es env)).map (·.1)).any id:=by rw[NO];rfl
 rw[this,h3,NO];exact h2
class TW where
 w:Ln
 tabs:List Addr:=[]
 qual:Nat->Nat->Str:=fun _ _=>⟨#[]⟩
variable[TW]
def jb(c:Addr)(q:Str):HO:=.ext fun h=>h.CodeRec (.ref c) q
def TOk(H:Hp)(ps:Array L3):Prop:=TriplesOk ps.toList/\∀pos v,Og pos ps.toList=some v->∃c,v=.ref c/\H c=some (jb c (TW.qual pos.line pos.col))
def Do:HO->Bool
 | .tbl _=>true
 | _=>false
structure Same(H H':Hp):Prop where
 at_:∀b o,H b=some o->∀(n:Do o=false:=by rfl),H' b=some o
 tb:∀b ps,H b=some (.tbl ps)->∃ps',H' b=some (.tbl ps')/\(TOk H ps->TOk H' ps')
instance {H H':Hp}:CoeFun (Same H H') (fun _=>∀b o,H b=some o->∀(n:Do o=false:=by rfl),H' b=some o):=⟨@Same.at_ _ H H'⟩
theorem TOk.same{H H':Hp}{ps:Array L3}(h:∀b o,H b=some o->Do o=false->H' b=some o)(t:TOk H ps):TOk H' ps:=
 ⟨t.1,fun pos v e=>let ⟨c,e1,e2⟩:=t.2 pos v e;⟨c,e1,h _ _ e2 rfl⟩⟩
theorem Same.of{H H':Hp}(h:∀b o,H b=some o->H' b=some o):Same H H':=
 ⟨fun b o e _=>h b o e,fun b ps e=>⟨ps,h b _ e,TOk.same fun b o e _=>h b o e⟩⟩
theorem Same.refl(H:Hp):Same H H:=.of fun _ _ h=>h
theorem Same.trans{H H1 H2:Hp}(a:Same H H1)(b:Same H1 H2):Same H H2:=
 ⟨fun c o h n=>b.at_ c o (a.at_ c o h n) n,fun c ps e=>by
  obtain⟨p1,e1,k1⟩:=a.tb c ps e;obtain⟨p2,e2,k2⟩:=b.tb c p1 e1;exact⟨p2,e2,fun t=>k2 (k1 t)⟩⟩
theorem Same.free{H H':Hp}(e:Same H H'){l:Addr}(h:H' l=Option.none):H l=Option.none:=by
 cases q:H l with
 | none=>rfl
 | some o=>
  cases ho:Do o with
  | false=>rw[e.at_ l o q ho] at h;cases h
  | true=>
   cases o <;> cases ho
   obtain⟨p1,e1,_⟩:=e.tb l _ q;rw[e1] at h;cases h
def uq(H:Hp):Prop:=∀P∈TW.tabs,∃ps,H P=some (.tbl ps)/\TOk H ps
theorem Same.tabs{H H':Hp}(s:Same H H')(t:uq H):uq H':=fun P hP=>by
 obtain⟨ps,e,k⟩:=t P hP;obtain⟨p1,e1,k1⟩:=s.tb P ps e;exact⟨p1,e1,k1 k⟩
def G8(K:L0)(a:Addr)(xs:List V):Prop:=
 ∃(its:List L3) (n:Nat),K.lookup a=some { cls:=.type "list",data:=.seq its.toArray n }/\xs.length<=sizeLine/\Vals xs its
def xP(K:L0)(a:Addr)(kvs:List (Key×V)):Prop:=
 kvs.length<=sizeLine/\(a == MA)=false/\∃(o:Mi)(es:Array DictEntry)(ep:Nat),K.lookup a=some o/\o.ExactDict/\o.data=.dict es ep/\
  ∀P:Lf,∃vs,KV kvs vs/\PySem.KeysOf (ah P TW.w) es/\Pairs (ah P TW.w) es.toList vs/\(vs.map (·.1)).Nodup
theorem xP.at{K:L0}{a:Addr}{kvs:List (Key×V)}(h:xP K a kvs)(P:Lf)(w:Ln)(hw:w=TW.w)(hp:Heap)(hk:K.In hp):∃vs,KV kvs vs/\hp.DictOf (ah P w) a vs:=by
 subst hw;obtain⟨_,_,o,es,ep,e,x,d,r⟩:=h;obtain⟨vs,r1,r2⟩:=r P;exact⟨vs,r1,o,es,ep,hk _ _ e,x,d,r2⟩
def SqO(K:L0)(H:Hp)(a:Addr)(xs:List V):Prop:=Rd H a (.lst xs)\/G8 K a xs
theorem SqO.l{K:L0}{H:Hp}{a:Addr}{xs:List V}(h:SqO K H a xs):SqL K H a xs:=by
 rcases h with h | ⟨its,n,e,z,r⟩
 ·exact .inl h
 ·exact .inr ⟨_,its.toArray,n,e,rfl,rfl,rfl,by rw[Li,← r.length];exact z,by simpa using r⟩
theorem SqO.is{X:Cx}{KW:List (Addr×Mi)}{σ:L2.St}{H:Hp}{s:L6}{a:Addr}{xs:List V}(I:Inv X KW σ H s)(h:SqO X.K H a xs) :
  xs.length<=sizeLine/\∃(its:List L3) (n:Nat),Vals xs its/\s.heap.get? a=some { cls:=.type "list",data:=.seq its.toArray n }:=by
 rcases h with h | ⟨its,n,e,z,r⟩
 ·obtain⟨z,its,n,r,e⟩:=h.ok I.hok
  exact⟨z,its,n,r,e⟩
 ·exact⟨z,its,n,r,I.kIn _ _ e⟩
def SqF(K:L0)(H:Hp)(a:Addr)(xs:List V):Prop:=(∃o,H a=some (.frz o (.lst xs)))\/G8 K a xs
def DkF(K:L0)(H:Hp)(a:Addr)(kvs:List (Key×V)):Prop:=(∃o,H a=some (.frz o (.dK kvs)))\/xP K a kvs
def DkR(K:L0)(H:Hp)(a:Addr)(kvs:List (Key×V)):Prop:=Rd H a (.dK kvs)\/xP K a kvs
theorem SqF.l{K:L0}{H:Hp}{a:Addr}{xs:List V}(h:SqF K H a xs):SqO K H a xs:=by
 rcases h with h | h
 ·exact .inl (.inr h)
 ·exact .inr h
theorem DkF.r{K:L0}{H:Hp}{a:Addr}{kvs:List (Key×V)}(h:DkF K H a kvs):DkR K H a kvs:=by
 rcases h with h | h
 ·exact .inl (.inr h)
 ·exact .inr h
def FnAt(f:Addr)(o:Mi):HO:=.ext fun h=>h.get? f=some o
def eW(H:Hp):List (Str×Addr)->List V->Prop
 | [],xs=>xs=[]
 | p::cl,xs=>∃x r o u,xs=x::r/\H p.2=some (.frz o (.own 0))/\o.data=.cell (some u)/\RelV x u/\eW H cl r
mutual
def Rep(K:L0)(H:Hp):PV->V->Prop
 | .non,v=>v=.non
 | .bl b,v=>v=.bl b
 | .int i,v=>v=.int i
 | .str x,v=>v=.str x
 | .tup ps,v=>∃a xs,v=.ref a/\H a=some (.tup xs)/\au K H ps xs
 | .lst ps,v=>∃a xs,v=.ref a/\SqF K H a xs/\au K H ps xs
 | .dct ks ps,v=>∃a kvs,v=.ref a/\DkF K H a kvs/\kvs.map (·.1)=ks/\au K H ps (kvs.map (·.2))
 | .dtt ks ps,v=>∃a o kvs,v=.ref a/\H a=some (.frz o (.dT kvs))/\kvs.map (·.1)=ks/\au K H ps (kvs.map (·.2))
 | .fn L cs,v=>∃f c cl pm ct xs,v=.ref f/\H f=some (FnAt f (Os "<lambda>" L.qual L.args L.body L.scope cl pm c ct))/\H c=some (jb c L.qual)/\cl.map (·.1)=L.kept/\(cl.map (·.2)).Nodup/\eW H cl xs/\au K H cs xs
def au(K:L0)(H:Hp):List PV->List V->Prop
 | [],xs=>xs=[]
 | p::ps,xs=>∃x r,xs=x::r/\Rep K H p x/\au K H ps r
end
def aN(K:L0)(H:Hp):PV->V->Prop
 | .lst ps,v=>∃a xs,v=.ref a/\SqO K H a xs/\au K H ps xs
 | .dct ks ps,v=>∃a kvs,v=.ref a/\DkR K H a kvs/\kvs.map (·.1)=ks/\au K H ps (kvs.map (·.2))
 | .dtt ks ps,v=>∃a kvs,v=.ref a/\Rd H a (.dT kvs)/\kvs.map (·.1)=ks/\au K H ps (kvs.map (·.2))
 | p,v=>Rep K H p v
def c5(K:L0)(H:Hp)(a:Addr):PV->Prop
 | .lst ps=>∃xs,H a=some (.lst xs)/\au K H ps xs
 | .dct ks ps=>∃kvs,H a=some (.dK kvs)/\kvs.map (·.1)=ks/\au K H ps (kvs.map (·.2))
 | .dtt ks ps=>∃kvs,H a=some (.dT kvs)/\kvs.map (·.1)=ks/\au K H ps (kvs.map (·.2))
 | _=>False
def zm:HO->Bool
 | .frz _ _=>true
 | .tup _=>true
 | .ext _=>true
 | _=>false
def Kp(H H':Hp):Prop:=∀b u,H b=some u->zm u=true->H' b=some u
theorem Same.kp{H H':Hp}(h:Same H H'):Kp H H':=fun b u e f=>h.at_ b u e (by cases u <;> first | rfl | cases f)
theorem Kp.refl(H:Hp):Kp H H:=fun _ _ e _=>e
theorem Kp.trans{H H1 H2:Hp}(h:Kp H H1)(k:Kp H1 H2):Kp H H2:=fun b u e f=>k b u (h b u e f) f
theorem Kp.upd{H:Hp}{a:Addr}{u o:HO}(h:H a=some u)(f:zm u=false):Kp H (upd H a o):=fun b w e g=>by
 have:b≠a:=fun z=>by
  subst z;rw[h] at e;cases e;rw[f] at g;cases g
 rw[aj this];exact e
theorem Kp.sqT{K:L0}{H H':Hp}(k:Kp H H'){a:Addr}{xs:List V}(h:SqT K H a xs):SqT K H' a xs:=by
 rcases h with (h | ⟨o,h⟩) | h
 ·exact .inl (.inl (k _ _ h rfl))
 ·exact .inl (.inr ⟨o,k _ _ h rfl⟩)
 ·exact .inr h
theorem Kp.sqF{K:L0}{H H':Hp}(k:Kp H H'){a:Addr}{xs:List V}(h:SqF K H a xs):SqF K H' a xs:=by
 rcases h with⟨o,h⟩ | h
 ·exact .inl ⟨o,k _ _ h rfl⟩
 ·exact .inr h
theorem Kp.dkF{K:L0}{H H':Hp}(k:Kp H H'){a:Addr}{kvs:List (Key×V)}(h:DkF K H a kvs):DkF K H' a kvs:=by
 rcases h with⟨o,h⟩ | h
 ·exact .inl ⟨o,k _ _ h rfl⟩
 ·exact .inr h
theorem TOk.kp{H H':Hp}{ps:Array L3}(k:Kp H H')(t:TOk H ps):TOk H' ps:=
 ⟨t.1,fun pos v e=>let ⟨c,e1,e2⟩:=t.2 pos v e;⟨c,e1,k _ _ e2 rfl⟩⟩
theorem Kp.but{H H':Hp}{a:Addr}(na:∀u,H a=some u->zm u=false)(oth:∀b,b≠a->H' b=H b):Kp H H':=fun b u e f=>by
 have:b≠a:=fun z=>by
  subst z;rw[na u e] at f;cases f
 rw[oth b this];exact e
theorem Same.but{B H H':Hp}{a:Addr}(s:Same B H)(fa:B a=none)(na:∀u,H a=some u->zm u=false)(oth:∀b,b≠a->H' b=H b):Same B H':=
 ⟨fun b o e n=>by rw[oth b (bc e fa)];exact s.at_ b o e n,fun b ps e=>by
  obtain⟨p1,e1,k1⟩:=s.tb b ps e;exact⟨p1,by rw[oth b (bc e fa)];exact e1,fun t=>(k1 t).kp (Kp.but na oth)⟩⟩
theorem uq.but{H H':Hp}{a:Addr}(t:uq H)(na:∀u,H a=some u->zm u=false/\Do u=false)(oth:∀b,b≠a->H' b=H b):uq H':=fun P hP=>by
 obtain⟨ps,e,k⟩:=t P hP
 have:P≠a:=fun z=>by
  subst z;have:=(na _ e).2;cases this
 exact⟨ps,by rw[oth P this];exact e,k.kp (Kp.but (fun u h=>(na u h).1) oth)⟩
theorem tq{K:L0}{H:Hp}{a:Addr}{xs:List V}(h:H a=some (.tup xs)):SqT K H a xs:=.inl (.inl h)
theorem eW.kp{H H':Hp}(k:Kp H H'):∀{cl:List (Str×Addr)}{xs:List V},eW H cl xs->eW H' cl xs
 | [],_,h=>h
 | p::cl,_,⟨x,r,o,u,e,h,d,v,t⟩=>⟨x,r,o,u,e,k _ _ h rfl,d,v,eW.kp k t⟩
mutual
theorem Rep.kp{K:L0}{H H':Hp}(k:Kp H H'):∀(p:PV){v:V},Rep K H p v->Rep K H' p v
 | .non,_,h=>h
 | .bl _,_,h=>h
 | .int _,_,h=>h
 | .str _,_,h=>h
 | .tup ps,_,⟨a,xs,e,h,r⟩=>⟨a,xs,e,k _ _ h rfl,au.kp k ps r⟩
 | .lst ps,_,⟨a,xs,e,h,r⟩=>⟨a,xs,e,k.sqF h,au.kp k ps r⟩
 | .dct ks ps,_,⟨a,kvs,e,h,ek,r⟩=>⟨a,kvs,e,k.dkF h,ek,au.kp k ps r⟩
 | .dtt ks ps,_,⟨a,o,kvs,e,h,ek,r⟩=>⟨a,o,kvs,e,k _ _ h rfl,ek,au.kp k ps r⟩
 | .fn L cs,_,⟨f,c,cl,pm,ct,xs,e,h1,h2,h3,h5,h4,r⟩=>⟨f,c,cl,pm,ct,xs,e,k _ _ h1 rfl,k _ _ h2 rfl,h3,h5,eW.kp k h4,au.kp k cs r⟩
theorem au.kp{K:L0}{H H':Hp}(k:Kp H H'):∀(ps:List PV){xs:List V},au K H ps xs->au K H' ps xs
 | [],_,h=>h
 | p::ps,_,⟨x,r,e,h,t⟩=>⟨x,r,e,Rep.kp k p h,au.kp k ps t⟩
end
section
variable{K : L0}{H H' : Hp}{p : PV}{ps qs : List PV}{v : V}{xs ys : List V}{a : Addr}
theorem Rep.same(h:Rep K H p v)(s:Same H H'):Rep K H' p v:=Rep.kp (Same.kp s) p h
theorem au.same(h:au K H ps xs)(s:Same H H'):au K H' ps xs:=au.kp (Same.kp s) ps h
theorem aN.same(h:aN K H p v)(s:Same H H'):aN K H' p v:=by
 cases p with
 | lst ps=>
  obtain⟨a,xs,e,q,r⟩:=h;refine⟨a,xs,e,?_,r.same s⟩;rcases q with (q | ⟨o,q⟩) | q
  ·exact .inl (.inl (s _ _ q))
  ·exact .inl (.inr ⟨o,s _ _ q⟩)
  ·exact .inr q
 | dct ks ps=>
  obtain⟨a,kvs,e,q,ek,r⟩:=h;refine⟨a,kvs,e,?_,ek,r.same s⟩;rcases q with (q | ⟨o,q⟩) | q
  ·exact .inl (.inl (s _ _ q))
  ·exact .inl (.inr ⟨o,s _ _ q⟩)
  ·exact .inr q
 | dtt ks ps=>
  obtain⟨a,kvs,e,q,ek,r⟩:=h;refine⟨a,kvs,e,?_,ek,r.same s⟩;rcases q with q | ⟨o,q⟩
  ·exact .inl (s _ _ q)
  ·exact .inr ⟨o,s _ _ q⟩
 | _=>exact Rep.same h s
theorem c5.same(h:c5 K H a p)(s:Same H H'):c5 K H' a p:=by
 cases p with
 | lst ps=>
  obtain⟨xs,q,r⟩:=h;exact⟨xs,s _ _ q,r.same s⟩
 | dct ks ps=>
  obtain⟨kvs,q,ek,r⟩:=h;exact⟨kvs,s _ _ q,ek,r.same s⟩
 | dtt ks ps=>
  obtain⟨kvs,q,ek,r⟩:=h;exact⟨kvs,s _ _ q,ek,r.same s⟩
 | _=>exact h
theorem Rep.o(h:Rep K H p v):aN K H p v:=by
 cases p with
 | lst ps=>
  obtain⟨a,xs,e,q,r⟩:=h;exact⟨a,xs,e,q.l,r⟩
 | dct ks ps=>
  obtain⟨a,kvs,e,q,ek,r⟩:=h;exact⟨a,kvs,e,q.r,ek,r⟩
 | dtt ks ps=>
  obtain⟨a,o,kvs,e,q,ek,r⟩:=h;exact⟨a,kvs,e,.inr ⟨o,q⟩,ek,r⟩
 | _=>exact h
theorem c5.o(h:c5 K H a p):aN K H p (.ref a):=by
 cases p with
 | lst ps=>
  obtain⟨xs,q,r⟩:=h;exact⟨a,xs,rfl,.inl (.inl q),r⟩
 | dct ks ps=>
  obtain⟨kvs,q,ek,r⟩:=h;exact⟨a,kvs,rfl,.inl (.inl q),ek,r⟩
 | dtt ks ps=>
  obtain⟨kvs,q,ek,r⟩:=h;exact⟨a,kvs,rfl,.inl q,ek,r⟩
 | _=>exact LJ h
theorem au.length:∀{ps:List PV}{xs:List V},au K H ps xs->ps.length=xs.length
 | [],_,h=>by cases h;rfl
 | p::ps,_,⟨x,r,e,_,t⟩=>by subst e;simp[au.length t]
theorem au.nil:au K H [] []:=rfl
theorem au.cons(h:Rep K H p v)(t:au K H ps xs):au K H (p::ps) (v::xs):=⟨v,xs,rfl,h,t⟩
theorem au.append:∀{ps qs:List PV}{xs ys:List V},au K H ps xs->au K H qs ys->au K H (ps++qs) (xs++ys)
 | [],_,_,_,h,k=>by cases h;exact k
 | p::ps,_,_,_,⟨x,r,e,h,t⟩,k=>by subst e;exact⟨x,_,rfl,h,au.append t k⟩
theorem au.get:∀{ps:List PV}{xs:List V}{i:Nat}{p:PV},au K H ps xs->ps[i]?=some p->∃x,xs[i]?=some x/\Rep K H p x
 | [],_,_,_,_,e=>by simp at e
 | p::ps,_,0,_,⟨x,r,e,h,t⟩,q=>by
  subst e;simp at q;subst q;exact⟨x,rfl,h⟩
 | p::ps,_,i+1,q,⟨x,r,e,h,t⟩,z=>by
  subst e;obtain⟨y,h1,h2⟩:=au.get (i:=i) (p:=q) t (by simpa using z);exact⟨y,by simpa using h1,h2⟩
theorem au.getV:∀{ps:List PV}{xs:List V}{i:Nat}{x:V},au K H ps xs->xs[i]?=some x->∃p,ps[i]?=some p/\Rep K H p x:=fun {ps xs i x} r e=>by
 have h1:i<xs.length:=(L4.mp e).1;rw[← r.length] at h1;obtain⟨y,e2,rp⟩:=r.get (i:=i) (p:=ps[i]) (by simp[h1]);rw[e] at e2;cases e2;exact⟨_,by simp[h1],rp⟩
theorem au.take:∀{ps:List PV}{xs:List V}(n:Nat),au K H ps xs->au K H (ps.take n) (xs.take n)
 | _,_,0,_=>by simp;rfl
 | [],_,n+1,h=>by cases h;rfl
 | p::ps,_,n+1,⟨x,r,e,h,t⟩=>by subst e;exact⟨x,_,rfl,h,au.take n t⟩
theorem au.drop:∀{ps:List PV}{xs:List V}(n:Nat),au K H ps xs->au K H (ps.drop n) (xs.drop n)
 | _,_,0,h=>by simpa using h
 | [],_,n+1,h=>by cases h;rfl
 | p::ps,_,n+1,⟨x,r,e,h,t⟩=>by subst e;simpa using au.drop n t
theorem au.set:∀{ps:List PV}{xs:List V}(n:Nat){p:PV}{v:V},au K H ps xs->Rep K H p v->au K H (ps.set n p) (xs.set n v)
 | [],_,_,_,_,h,_=>by cases h;rfl
 | q::ps,_,0,_,_,⟨x,r,e,h,t⟩,k=>by subst e;exact⟨_,_,rfl,k,t⟩
 | q::ps,_,n+1,_,_,⟨x,r,e,h,t⟩,k=>by subst e;exact⟨x,_,rfl,h,au.set n t k⟩
end
theorem _root_.L2.Inv.reH{X:Cx}{KW:List (Addr×Mi)}{σ:L2.St}{H H':Hp}{s:L6}(I:Inv X KW σ H s){a:Addr}{u u':HO}(hu:H a=some u)(h':H'=upd H a u')
  (nf:zm u=false) (nt:∀ps,u≠.tbl ps) (no:∀x,u≠.own x) (hok:dw X.prog X.w H' s.heap a u'):Inv X KW σ H' s:=by
 subst h';have keepT:∀b xs,H b=some (.tup xs)->(upd H a u') b=some (.tup xs):=fun b xs e=>Kp.upd hu nf b _ e rfl
 have keepO:∀b x,H b=some (.own x)->(upd H a u') b=some (.own x):=fun b x e=>by
  have:b≠a:=fun z=>by
   subst z;rw[hu] at e;cases e;exact no x rfl
  rw[aj this];exact e
 have hn:∀b,H b=none->(upd H a u') b=none:=fun b e=>by
  have:b≠a:=fun z=>by
   subst z;rw[hu] at e;cases e
  rw[aj this];exact e
 refine⟨I.ok,I.os,I.bare,⟨I.base.keep,I.base.slot,fun b o e n x=>hn b (I.base.free b o e n x),I.base.there,fun b xs e=>keepT b xs (I.base.tups b xs e),
  fun b o w e=>Kp.upd hu nf b _ (I.base.frzs b o w e) rfl,fun b ps e=>?_⟩,I.loc,I.cell,hn _ I.free,fun x c e=>hn c (I.freeC x c e),fun p hp=>?_,fun b o e=>?_,I.len⟩
 ·obtain⟨more,q⟩:=I.base.tbls b ps e
  have:b≠a:=fun z=>by
   subst z;rw[hu] at q;cases q;exact nt _ rfl
  exact⟨more,by rw[aj this];exact q⟩
 ·obtain⟨h1,h2,h3⟩:=I.pin p hp
  exact⟨h1,hn _ h2,h3⟩
 ·by_cases hb:b=a
  ·subst hb
   rw[ai] at e;cases e;exact hok
  ·rw[aj hb] at e
   exact(I.hok b o e).stay (fun c v _ r=>r) (fun c r=>keepO c b r) keepT
theorem _root_.L2.Inv.frz{X:Cx}{KW:List (Addr×Mi)}{σ:L2.St}{H:Hp}{s:L6}{a:Addr}{p:PV}(I:Inv X KW σ H s)(n:c5 X.K H a p) :
  ∃H',Inv X KW σ H' s/\Rep X.K H' p (.ref a)/\∀b,b≠a->H' b=H b:=by
 cases p with
 | lst ps=>
  obtain⟨xs,q,r⟩:=n;obtain⟨z,its,m,rv,e⟩:=I.hok a _ q;refine⟨upd H a (.frz _ (.lst xs)),I.reH q rfl rfl (by intro _ h;cases h) (by intro _ h;cases h) ⟨e,z,its,m,rv,e⟩,⟨a,xs,rfl,.inl ⟨_,ai⟩,r.kp (Kp.upd q rfl)⟩,fun b hb=>aj hb⟩
 | dct ks ps=>
  obtain⟨kvs,q,ek,r⟩:=n;obtain⟨z,hs,vs,rv,o,es,ep,e,rest⟩:=I.hok a _ q;refine⟨upd H a (.frz o (.dK kvs)),I.reH q rfl rfl (by intro _ h;cases h) (by intro _ h;cases h) ⟨e,z,hs,vs,rv,o,es,ep,e,rest⟩,⟨a,kvs,rfl,.inl ⟨_,ai⟩,ek,r.kp (Kp.upd q rfl)⟩,fun b hb=>aj hb⟩
 | dtt ks ps=>
  obtain⟨kvs,q,ek,r⟩:=n;obtain⟨z,hs,ys,rv,o,es,ep,e,rest⟩:=I.hok a _ q;refine⟨upd H a (.frz o (.dT kvs)),I.reH q rfl rfl (by intro _ h;cases h) (by intro _ h;cases h) ⟨e,z,hs,ys,?_,o,es,ep,e,rest⟩,⟨a,o,kvs,rfl,ai,ek,r.kp (Kp.upd q rfl)⟩,fun b hb=>aj hb⟩;exact Paired.mapP rv fun p1 q1 ⟨h1,h2,h3⟩=>⟨h1,Kp.upd q rfl _ _ h2 rfl,h3⟩
 | _=>exact LJ n
theorem c5.nt{K:L0}{H:Hp}{a:Addr}{p:PV}(h:c5 K H a p):∀u,H a=some u->zm u=false/\Do u=false:=fun u e=>by
 cases p with
 | lst ps=>obtain⟨_,w,_⟩:=h;rw[w] at e;cases e;exact⟨rfl,rfl⟩
 | dct ks ps=>obtain⟨_,w,_⟩:=h;rw[w] at e;cases e;exact⟨rfl,rfl⟩
 | dtt ks ps=>obtain⟨_,w,_⟩:=h;rw[w] at e;cases e;exact⟨rfl,rfl⟩
 | _=>exact LJ h
end PU
namespace PU
open PySem PySem.Spec PyProof.Rows L2
variable[TW]
structure Cn where
 X:Cx
 Ac:PX->Hp->Prop
def Dp(K:L0)(H:Hp)(x:Option (Option V)):Sl->Prop
 | .no=>True
 | .val p=>∃v,x=some (some v)/\Rep K H p v
 | .own p=>∃a,x=some (some (.ref a))/\c5 K H a p
 | .pin ps a=>x=some (some (.ref a))/\c5 K H a (.lst ps)
structure View(K:L0)(H:Hp)(σ:L2.St)(ρ:PSt):Prop where
 at_:∀(i:Nat)(l:Sl),ρ[i]?=some l->Dp K H σ[i]? l
 tb:uq H
instance {K:L0} {H:Hp} {σ:L2.St} {ρ:PSt}:CoeFun (View K H σ ρ) (fun _=>∀(i:Nat)(l:Sl),ρ[i]?=some l->Dp K H σ[i]? l):=⟨@View.at_ _ K H σ ρ⟩
theorem Dp.same{K:L0}{H H':Hp}{x:Option (Option V)}{l:Sl}(h:Dp K H x l)(s:Same H H'):Dp K H' x l:=by
 cases l with
 | no=>exact trivial
 | val p=>obtain⟨v,e,r⟩:=h;exact⟨v,e,r.same s⟩
 | own p=>obtain⟨a,e,r⟩:=h;exact⟨a,e,r.same s⟩
 | pin ps a=>exact⟨h.1,c5.same h.2 s⟩
theorem View.same{K:L0}{H H':Hp}{σ:L2.St}{ρ:PSt}(h:View K H σ ρ)(s:Same H H'):View K H' σ ρ:=⟨fun i l e=>(h i l e).same s,s.tabs h.tb⟩
def RQ(C:Cn)(H:Hp){α:Type}(r:R α)(k:α->Prop):Prop:=
 match r with
 | .ok a=>k a
 | .er x=>∀H',Same H H'->C.Ac x H'
 | .no=>False
section
variable{C : Cn}{H H' : Hp}{α β : Type}{r : R α}{k k' : α → Prop}
theorem RQ.imp(h:RQ C H r k)(f:∀a,r=.ok a->k a->k' a):RQ C H r k':=by
 cases r with
 | ok a=>exact f a rfl h
 | er x=>exact h
 | no=>exact h
theorem RQ.same(h:RQ C H r k)(s:Same H H'):RQ C H' r k:=by
 cases r with
 | ok a=>exact h
 | er x=>exact fun H2 s2=>h H2 (s.trans s2)
 | no=>exact h
theorem RQ.bind{f:α->R β}{m:β->Prop}(h:RQ C H (r >>= f) m):RQ C H r fun a=>RQ C H (f a) m:=by
 cases r <;> exact h
theorem RQ.ofO{o:Option α}(h:RQ C H (R.ofO o) k):∃a,o=some a/\k a:=by
 cases o with
 | none=>exact LJ h
 | some a=>exact⟨a,rfl,h⟩
end
def tV(C:Cn)(f:PSt->R PV):TE:=fun σ H Q=>∃ρ,View C.X.K H σ ρ/\RQ C H (f ρ) fun p=>∀v H',Same H H'->Rep C.X.K H' p v->Q v H'
def tO(C:Cn)(f:PSt->R PV):TE:=fun σ H Q=>∃ρ,View C.X.K H σ ρ/\RQ C H (f ρ) fun p=>∀v H',Same H H'->aN C.X.K H' p v->Q v H'
def tN(C:Cn)(f:PSt->R PV):TE:=fun σ H Q=>∃ρ,View C.X.K H σ ρ/\RQ C H (f ρ) fun p=>∀a H',Same H H'->H a=none->c5 C.X.K H' a p->Q (.ref a) H'
def tAs(C:Cn)(f:PSt->R (List PV)):TA:=fun σ H Q=>∃ρ,View C.X.K H σ ρ/\RQ C H (f ρ) fun ps=>∀vs H',Same H H'->au C.X.K H' ps vs->Q vs H'
def tBl(C:Cn)(f:PSt->R Bool):TT:=fun σ H Q=>∃ρ,View C.X.K H σ ρ/\RQ C H (f ρ) fun b=>∀H',Same H H'->Q b H'
def EV(C:Cn)(e:Expr)(f:PSt->R PV):Prop:=PE C.X e (tV C f)
def EO(C:Cn)(e:Expr)(f:PSt->R PV):Prop:=PE C.X e (tO C f)
def EN(C:Cn)(e:Expr)(f:PSt->R PV):Prop:=PE C.X e (tN C f)
def EA(C:Cn)(es:List Expr)(f:PSt->R (List PV)):Prop:=PA C.X es (tAs C f)
def ET(C:Cn)(e:Expr)(f:PSt->R Bool):Prop:=PT C.X e (tBl C f)
def EW(C:Cn)(e:Expr)(f:PSt->R Bool):Prop:=PW C.X e (tBl C f)
section
variable{C : Cn}{e a b c : Expr}{es : List Expr}{f fa fb fc : PSt → R PV}{fs : PSt → R (List PV)}{pos : NJ}
theorem EV.o(h:EV C e f):EO C e f:=fun KW s σ H Q I ⟨ρ,vw,q⟩=>h KW s σ H Q I ⟨ρ,vw,q.imp fun _ _ k v H' sm r=>k v H' sm r.o⟩
theorem EN.o(h:EN C e f):EO C e f:=fun KW s σ H Q I ⟨ρ,vw,q⟩=>h KW s σ H Q I ⟨ρ,vw,q.imp fun _ _ k a H' sm _ r=>k (.ref a) H' sm r.o⟩
theorem EN.v(h:EN C e f):EV C e f:=by
 intro KW s σ H Q I ⟨ρ,vw,q⟩;cases hf:f ρ with
 | ok p=>
  rw[hf] at q;refine thn (h KW s σ H (fun v H'=>∃a,v=.ref a/\Same H H'/\H a=none/\c5 C.X.K H' a p) I ⟨ρ,vw,by rw[hf];exact fun a H' sm n w=>⟨a,rfl,sm,n,w⟩⟩) fun u s' ⟨v,H',I',rv,a,ev,sm,na,w⟩=>?_;obtain⟨H2,I2,rp,oth⟩:=I'.frz w;subst ev;exact⟨.ref a,H2,I2,rv,q _ H2 (sm.but na (fun u h=>(w.nt u h).1) oth) rp⟩
 | er x=>
  rw[hf] at q;exact h KW s σ H Q I ⟨ρ,vw,by rw[hf];exact q⟩
 | no=>
  rw[hf] at q;exact LJ q
theorem x4 (i:Nat) {x:Str} (hN:C.X.N[i]?=some x) (hv:Vis C.X.env.scope x) (hd:(x == ("__debug__":Str))=false:=by decide) (hcd:(x == ("__classdict__":Str))=false:=by decide):EV C (.Name x pos) (getV i):=by
 intro KW s σ H Q I ⟨ρ,vw,q⟩;unfold getV at q;split at q
 ·rename_i p e
  obtain⟨v,ev,r⟩:=vw i _ e;exact dS hN hv hd hcd KW s σ H Q I ⟨v,ev,q v H (Same.refl H) r⟩
 ·exact LJ q
theorem FH (i:Nat) {x:Str} (hN:C.X.N[i]?=some x) (hv:Vis C.X.env.scope x) (hd:(x == ("__debug__":Str))=false:=by decide) (hcd:(x == ("__classdict__":Str))=false:=by decide):EO C (.Name x pos) (gS i):=by
 intro KW s σ H Q I ⟨ρ,vw,q⟩;unfold gS at q;split at q
 ·rename_i p e
  obtain⟨v,ev,r⟩:=vw i _ e;exact dS hN hv hd hcd KW s σ H Q I ⟨v,ev,q v H (Same.refl H) r.o⟩
 ·rename_i p e
  obtain⟨v,ev,r⟩:=vw i _ e;exact dS hN hv hd hcd KW s σ H Q I ⟨_,ev,q _ H (Same.refl H) r.o⟩
 ·rename_i ps a e
  obtain⟨ev,r⟩:=vw i _ e;exact dS hN hv hd hcd KW s σ H Q I ⟨_,ev,q _ H (Same.refl H) r.o⟩
 ·exact LJ q
theorem aI{i j}:EV C (.Constant (.int i) j pos) (kI i):=fun KW s σ H Q I ⟨_,_,q⟩=>Eo KW s σ H Q I (q _ H (Same.refl H) rfl)
theorem oe{i j}:EV C (.Constant (.bool i) j pos) (kB i):=fun KW s σ H Q I ⟨_,_,q⟩=>Hw KW s σ H Q I (q _ H (Same.refl H) rfl)
theorem gT{j}:EV C (.Constant .none j pos) kN:=fun KW s σ H Q I ⟨_,_,q⟩=>Ek KW s σ H Q I (q _ H (Same.refl H) rfl)
theorem aQ{x j}:EV C (.Constant (.str x) j pos) (kS x):=fun KW s σ H Q I ⟨_,_,q⟩=>Ei KW s σ H Q I (q _ H (Same.refl H) rfl)
theorem CC {x:Str} {v:V} {u:L3} {p:PV} (hg:Gl C.X x) (hm:C.X.mg x=some u) (r:RelV v u) (rp:∀H,Rep C.X.K H p v) (hd:(x == ("__debug__":Str))=false:=by decide):EV C (.Name x pos) (kP p):=
 fun KW s σ H Q I ⟨_,_,q⟩=>BL hg hm r hd KW s σ H Q I (q _ H (Same.refl H) (rp H))
theorem aa:EA C [] aH:=fun pos KW s σ H Q I ⟨_,_,q⟩=>fT pos KW s σ H Q I (q [] H (Same.refl H) au.nil)
theorem a0(ha:EV C e f)(hr:EA C es fs)(hs:Lc (e::es) C.X.env=(false,MS e C.X.env)::Lc es C.X.env:=by exact c6 rfl):EA C (e::es) (a6 f fs):=by
 intro pos KW s σ H Q I ⟨ρ,vw,q⟩;refine bM ha hr hs pos KW s σ H Q I ⟨ρ,vw,q.bind.imp fun p _ k v H1 s1 r1=>⟨ρ,vw.same s1,(k.bind.same s1).imp fun ps _ k2 vs H2 s2 r2=>?_⟩⟩;exact k2 (v::vs) H2 (s1.trans s2) (au.cons (r1.same s2) r2)
def tA1(C:Cn)(f:PSt->R PV):TA:=fun σ H Q=>∃ρ,View C.X.K H σ ρ/\RQ C H (f ρ) fun p=>∀v H',Same H H'->aN C.X.K H' p v->Q [v] H'
theorem sQ(ha:EO C e f)(hs:Lc [e] C.X.env=[(false,MS e C.X.env)]:=by exact bj rfl):PA C.X [e] (tA1 C f):=by
 intro pos KW s σ H Q I ⟨ρ,vw,q⟩;exact bM ha fT hs pos KW s σ H Q I ⟨ρ,vw,q⟩
theorem Same.new{H:Hp}{a:Addr}{o:HO}(h:H a=none):Same H (upd H a o):=.of fun b u e=>by
 rw[aj (bc e h)];exact e
theorem kU{C:Cn}{H:Hp}{ps:List PV}{β:Type}{g:List PV->R β}{k:β->Prop}(h:RQ C H (gR ps >>= g) k):ps.length<=sizeLine/\RQ C H (g ps) k:=by
 unfold gR at h
 by_cases hz:ps.length<=16777216
 ·rw[if_pos hz] at h
  exact⟨by rw[Ly];exact hz,h⟩
 ·rw[if_neg hz] at h
  exact LJ h
theorem b8{k}(h:EA C es fs):EV C (.Tuple es k pos) (gK fs):=by
 intro KW s σ H Q I ⟨ρ,vw,q⟩;refine Eh h KW s σ H Q I ⟨ρ,vw,q.bind.imp fun ps _ k vs H1 s1 r1=>?_⟩;obtain⟨z,k⟩:=kU k;refine⟨by rw[← r1.length];exact z,fun p hp=>?_⟩;exact k _ _ (s1.trans (Same.new hp)) ⟨p,vs,rfl,ai,r1.same (Same.new hp)⟩
theorem gz(h:EA C es fs):EN C (.List es pos) (s9 fs):=by
 intro KW s σ H Q I ⟨ρ,vw,q⟩;refine El h KW s σ H Q I ⟨ρ,vw,q.bind.imp fun ps _ k vs H1 s1 r1=>?_⟩;obtain⟨z,k⟩:=kU k;refine⟨by rw[← r1.length];exact z,fun p hp=>?_⟩;exact k p _ (s1.trans (Same.new hp)) (s1.free hp) ⟨vs,ai,r1.same (Same.new hp)⟩
def rP(K:L0)(g:PV->PV->Option PV):R2:=fun v u H Q=>∃p q z,aN K H p v/\aN K H q u/\g p q=some z/\∀w H',Same H H'->Rep K H' z w->Q w H'
theorem t2{σ:L2.St}{H:Hp}{Q:VK}{ρ:PSt}{g:PV->PV->Option PV}{r:R2}(vw:View C.X.K H σ ρ)(q:RQ C H (ab fa fb g ρ) fun p=>∀v H',Same H H'->Rep C.X.K H' p v->Q v H')
  (hr:∀v u H' Q',rP C.X.K g v u H' Q'->r v u H' Q'):tOp r (tO C fa) (tO C fb) σ H Q:=by
 refine⟨ρ,vw,q.bind.imp fun p _ k v H1 s1 r1=>⟨ρ,vw.same s1,(k.bind.same s1).imp fun p2 _ k2 u H2 s2 r2=>?_⟩⟩;obtain⟨z,ez,k3⟩:=k2.ofO;exact hr _ _ _ _ ⟨p,p2,z,r1.same s2,r2,ez,fun w H3 s3 r3=>k3 w H3 ((s1.trans s2).trans s3) r3⟩
theorem ar{op:Operator}{g:PV->PV->Option PV}(ho:OpR C.X (OA op) (rP C.X.K g))(ha:EO C a fa)(hb:EO C b fb):EV C (.BinOp a op b pos) (ab fa fb g):=by
 intro KW s σ H Q I ⟨ρ,vw,q⟩;exact Hv ho ha hb KW s σ H Q I (t2 vw q fun _ _ _ _ h=>h)
theorem mD{op:CmpOp}{g:PV->PV->Option PV}(ho:OpR C.X (Lz op) (rP C.X.K g))(ha:EO C a fa)(hb:EO C b fb)(hm:P1 op b=false:=by first | exact Av _ | with_unfolding_all rfl):EV C (.Compare a [op] [b] pos) (ab fa fb g):=by
 intro KW s σ H Q I ⟨ρ,vw,q⟩;exact BN ho ha hb hm KW s σ H Q I (t2 vw q fun _ _ _ _ h=>h)
theorem ae{g:PV->PV->Option PV}(ho:IxR C.X (rP C.X.K g))(ha:EO C a fa)(hb:EO C b fb)(hs:ri b:=by exact fun _ _=>rfl):EV C (.Subscript a b pos) (ab fa fb g):=by
 intro KW s σ H Q I ⟨ρ,vw,q⟩;exact En ho ha hb hs KW s σ H Q I (t2 vw q fun _ _ _ _ h=>h)
end
end PU
namespace PU
open PySem PySem.Spec PyProof.Rows L2
variable[TW]
section
variable{X : Cx}{KW : List (Addr×Mi)}{σ : L2.St}{H : Hp}{s : L6}
theorem DkR.at{a:Addr}{kvs:List (Key×V)}(hw:X.w=TW.w)(I:Inv X KW σ H s)(h:DkR X.K H a kvs) :
  kvs.length<=sizeLine/\(a == MA)=false/\∃vs,KV kvs vs/\s.heap.DictOf (ah X.prog X.w) a vs:=by
 rcases h with h | h
 ·exact xi I.hok h
 ·exact⟨h.1,h.2.1,h.at _ _ hw _ I.kIn⟩
theorem C4{ys:List V}{its:List L3}{ps:List PV}(I:Inv X KW σ H s)(hv:Vals ys its)(hz:ys.length<=sizeLine)(hr:au X.K H ps ys)(t':Nat) :
  ∃H',Inv X KW σ H' { s with heap:=s.heap.push { cls:=.type "list",data:=.seq its.toArray },toks:=t' }/\Same H H'/\Rep X.K H' (.lst ps) (.ref s.heap.objs.size):=by
 have I1:=I.lnew (t':=t') hv hz;have nf:H s.heap.objs.size=none:=I.fresh;obtain⟨H',I2,rp,oth⟩:=L2.Inv.frz (a:=s.heap.objs.size) (p:=.lst ps) I1 ⟨ys,ai,hr.same (Same.new nf)⟩;refine⟨H',I2,.of fun b o e=>?_,rp⟩;have hb:=bc e nf;rw[oth b hb,aj hb];exact e
theorem aN.lst_inv{K:L0}{H:Hp}{ps:List PV}{v:V}(h:aN K H (.lst ps) v):∃a xs,v=.ref a/\SqO K H a xs/\au K H ps xs:=h
theorem aN.tup_inv{K:L0}{H:Hp}{ps:List PV}{v:V}(h:aN K H (.tup ps) v):∃a xs,v=.ref a/\SqT K H a xs/\au K H ps xs:=by
 obtain⟨a,xs,e,q,r⟩:=(show ∃a xs,v=.ref a/\H a=some (.tup xs)/\au K H ps xs from h);exact⟨a,xs,e,.inl (.inl q),r⟩
end
theorem zJ{prog:Lf}{w:Ln}{A:Ls}{E:L3->L6->Prop}{s:L6}{t b:Addr}{vs ws:List L3}{Q:L3->L6->Prop}(ht:IsTup s.heap t vs.toArray)(hb:IsTup s.heap b ws.toArray)
  (h0:vs=[]->Q (.ref b) s) (h1:ws=[]->Q (.ref t) s) (h2:Q (.ref s.heap.objs.size) { s with heap:=s.heap.push { cls:=.type "tuple",data:=.seq (vs++ws).toArray } })
  (hsz:vs.length+ws.length<=sizeLine):LY (Ll prog w) A (OA .Add (.ref t) (.ref b)) Q E s:=by
 obtain⟨⟨cls,dd,data,sl⟩,ho,hc,n,hd⟩:=id ht;obtain⟨⟨cls2,dd2,data2,sl2⟩,ho2,hc2,n2,hd2⟩:=id hb;simp only at hc hd hc2 hd2;subst hc hd hc2 hd2;have e:vs.toArray++ws.toArray=(vs++ws).toArray:=by simp
 by_cases hv:vs=[]
 ·exact Sw ⟨_,ho,rfl⟩ ⟨_,ho2,rfl⟩ RX SU PR PJ (P7 _ _)
   (tuple_addW0 t b vs.toArray ws.toArray n n2 dd dd2 sl sl2 (by simp[hv])) ⟨ho,ho2,h0 hv⟩
 ·by_cases hw:ws=[]
  ·exact Sw ⟨_,ho,rfl⟩ ⟨_,ho2,rfl⟩ RX SU PR PJ (P7 _ _)
    (tuple_addW1 t b vs.toArray ws.toArray n n2 dd dd2 sl sl2 (by simpa using hv) (by simp[hw])) ⟨ho,ho2,h1 hw⟩
  ·refine Sw ⟨_,ho,rfl⟩ ⟨_,ho2,rfl⟩ RX SU PR PJ (P7 _ _)
    (tuple_addW2 t b vs.toArray ws.toArray n n2 dd dd2 sl sl2 (by simpa using hv) (by simpa using hw) (by rw[Li,Li];exact hsz)) ⟨ho,ho2,?_⟩
   rw[e];exact h2
section
variable{X : Cx}
theorem oW{f:L3->L3->Sem L3}{g:PV->PV->Option PV}{r:R2}(h:OpR X f r)
  (hg:∀(p q z:PV),g p q=some z->∃i j,p=.int i/\q=.int j/\∃w:V,(∀K H,Rep K H z w)/\∀H Q,Q w H->r (.int i) (.int j) H Q):OpR X f (rP X.K g):=by
 intro KW s σ H x y v u Q I rx ry ⟨p,q,z,hp,hq,e,k⟩;obtain⟨i,j,rfl,rfl,w,hw,hr⟩:=hg p q z e;cases (show x=.int i from hp);cases (show y=.int j from hq);exact h KW s σ H _ _ v u Q I rx ry (hr H Q (k w H (Same.refl H) (hw _ _)))
theorem BU:OpR X (OA .Sub) (rP X.K Cy):=oW Es fun p q z e=>by
 unfold Cy at e;split at e
 ·rename_i i j
  cases e;exact⟨i,j,rfl,rfl,_,fun _ _=>rfl,fun H Q q=>⟨i,j,rfl,rfl,q⟩⟩
 ·cases e
theorem zb:OpR X (OA .Mult) (rP X.K wJ):=oW Et fun p q z e=>by
 unfold wJ at e;split at e
 ·rename_i i j
  split at e
  ·rename_i hc
   cases e;exact⟨i,j,rfl,rfl,_,fun _ _=>rfl,fun H Q q=>⟨i,j,rfl,rfl,hc.imp (fun h=>⟨by omega,by omega⟩) (fun h=>⟨by omega,by omega⟩),q⟩⟩
  ·cases e
 ·cases e
theorem Ez:OpR X (OA .FloorDiv) (rP X.K Fx):=oW BS fun p q z e=>by
 unfold Fx at e;split at e
 ·rename_i i j
  split at e
  ·rename_i hc
   cases e;exact⟨i,j,rfl,rfl,_,fun _ _=>rfl,fun H Q q=>⟨i,j,rfl,rfl,hc,q⟩⟩
  ·cases e
 ·cases e
theorem cR:OpR X (OA .Mod) (rP X.K dy):=oW Eu fun p q z e=>by
 unfold dy at e;split at e
 ·rename_i i j
  split at e
  ·rename_i hc
   cases e;exact⟨i,j,rfl,rfl,_,fun _ _=>rfl,fun H Q q=>⟨i,j,rfl,rfl,hc,q⟩⟩
  ·cases e
 ·cases e
theorem eC:OpR X (OA .Add) (rP X.K eX):=by
 intro KW s σ H x y v u Q I rx ry ⟨p,q,z,hp,hq,e,k⟩;have hs:=Ly;unfold eX at e;split at e
 ·rename_i i j
  cases e;cases (show x=.int i from hp);cases (show y=.int j from hq);exact Ex KW s σ H _ _ v u Q I rx ry ⟨i,j,rfl,rfl,k _ H (Same.refl H) rfl⟩
 ·rename_i i j
  split at e
  ·rename_i hc
   cases e;cases (show x=.str i from hp);cases (show y=.str j from hq);exact tT KW s σ H _ _ v u Q I rx ry ⟨i,j,rfl,rfl,by omega,k _ H (Same.refl H) rfl⟩
  ·cases e
 ·rename_i ps qs
  split at e
  ·rename_i hc
   cases e;obtain⟨a,xs,rfl,hx,r1⟩:=hp;obtain⟨b,ys,rfl,hy,r2⟩:=hq;cases rx;cases ry;obtain⟨hz,its,n,rv,e1⟩:=hx.is I;obtain⟨hz2,its2,n2,rv2,e2⟩:=hy.is I;have l1:=r1.length;have l2:=r2.length;have l3:=rv.length;have l4:=rv2.length;have ea:its.toArray++its2.toArray=(its++its2).toArray:=by simp
   refine PySem.P.add_list e1 e2 ?_ (by simp only[Li];omega);rw[ea];obtain⟨H',I',sm,rp⟩:=C4 I (rv.append rv2) (by rw[Lp];omega) (r1.append r2) s.toks;exact⟨.ref _,H',I',rfl,k _ H' sm rp⟩
  ·cases e
 ·rename_i ps qs
  split at e
  ·rename_i hc
   cases e;obtain⟨a,xs,rfl,hx,r1⟩:=aN.tup_inv hp;obtain⟨b,ys,rfl,hy,r2⟩:=aN.tup_inv hq;cases rx;cases ry;obtain⟨its,rv,pl,hz⟩:=I.tuple hx;obtain⟨its2,rv2,pl2,hz2⟩:=I.tuple hy;have l1:=r1.length;have l2:=r2.length;have l3:=rv.length;have l4:=rv2.length;refine zJ pl pl2 (fun z=>?_) (fun z=>?_) ?_ (by omega)
   ·subst z
    have:ps=[]:=N7 (by rw[l1,l3];rfl);subst this;exact⟨.ref b,H,I,rfl,k _ H (Same.refl H) hq⟩
   ·subst z
    have:qs=[]:=N7 (by rw[l2,l4];rfl);subst this;rw[Mh] at k;exact⟨.ref a,H,I,rfl,k _ H (Same.refl H) hp⟩
   ·have nf:H s.heap.objs.size=none:=I.fresh
    refine⟨.ref s.heap.objs.size,_,I.laid (t':=s.toks) (o:=.tup (xs++ys)) (fun b ob q=>L5 _ q) (LX _) ?_,rfl,k _ _ (Same.new nf) ⟨_,xs++ys,rfl,ai,(r1.append r2).same (Same.new nf)⟩⟩;exact⟨by rw[Lp];omega,_,rv.append rv2,zT.new _ _⟩
  ·cases e
 ·cases e
end
end PU
namespace PU
open PySem PySem.Spec PyProof.Rows L2
variable[TW]
structure StOk(K:L0)(B:Hp×Hp)(H:Hp)(σ:L2.St)(ρ:PSt):Prop where
 len:ρ.length=σ.length
 same:Same B.1 H
 kp:Kp B.2 H
 vw:View K H σ ρ
 fresh:∀(i:Nat)(p:PV)(a:Addr),ρ[i]?=some (.own p)->σ[i]?=some (some (.ref a))->B.1 a=none
 apart:∀(i j:Nat)(p q:PV)(a:Addr),ρ[i]?=some (.own p)->ρ[j]?=some (.own q)->σ[i]?=some (some (.ref a))->σ[j]?=some (some (.ref a))->i=j
 pinned:∀(i:Nat)(ps:List PV)(a:Addr),ρ[i]?=some (.pin ps a)->B.1 a≠none
section
variable{K : L0}{B : Hp×Hp}{H H' : Hp}{σ : L2.St}{ρ : PSt}{i : Nat}{p q : PV}{v : V}{a : Addr}
theorem StOk.grow(S:StOk K B H σ ρ)(s:Same H H'):StOk K B H' σ ρ:=⟨S.len,S.same.trans s,S.kp.trans (Same.kp s),S.vw.same s,S.fresh,S.apart,S.pinned⟩
theorem bZ{α:Type}{l:List α}{i j:Nat}{x y:α}(h:(l.set i x)[j]?=some y):(j=i/\y=x/\i<l.length)\/(j≠i/\l[j]?=some y):=by
 rw[Qf] at h
 by_cases e:i=j
 ·subst e
  rw[if_pos rfl] at h;split at h
  ·rename_i hl
   cases h;exact .inl ⟨rfl,rfl,hl⟩
  ·cases h
 ·rw[if_neg e] at h
  exact .inr ⟨fun z=>e z.symm,h⟩
theorem bf{α:Type}{l:List α}{i j:Nat}{x:α}(h:j≠i):(l.set i x)[j]?=l[j]?:=by
 rw[Qf,if_neg fun z=>h z.symm]
theorem dO{α:Type}{l:List α}{i:Nat}{x:α}(h:i<l.length):(l.set i x)[i]?=some x:=by
 rw[Qf,if_pos rfl,if_pos h]
theorem StOk.setV(S:StOk K B H σ ρ)(r:Rep K H p v):StOk K B H (σ.set i (some v)) (ρ.set i (.val p)):=by
 refine⟨by simp[S.len],S.same,S.kp,⟨fun j l e=>?_,S.vw.tb⟩,fun j q b e f=>?_,fun j k q q' b e1 e2 f1 f2=>?_,fun j qs b e=>?_⟩
 ·rcases bZ e with⟨rfl,rfl,hl⟩|⟨hj,e⟩
  ·exact⟨v,dO (by rw[← S.len];exact hl),r⟩
  ·rw[bf hj]
   exact S.vw j l e
 ·rcases bZ e with⟨_,z,_⟩|⟨hj,e⟩
  ·cases z
  ·rw[bf hj] at f
   exact S.fresh j q b e f
 ·rcases bZ e1 with⟨_,z,_⟩|⟨hj,e1⟩
  ·cases z
  ·rcases bZ e2 with⟨_,z,_⟩|⟨hk,e2⟩
   ·cases z
   ·rw[bf hj] at f1
    rw[bf hk] at f2;exact S.apart j k q q' b e1 e2 f1 f2
 ·rcases bZ e with⟨_,z,_⟩|⟨hj,e⟩
  ·cases z
  ·exact S.pinned j qs b e
theorem StOk.setN(S:StOk K B H σ ρ)(s:Same H H')(n:H a=none)(r:c5 K H' a p):StOk K B H' (σ.set i (some (.ref a))) (ρ.set i (.own p)):=by
 have other:∀(j:Nat)(q:PV),ρ[j]?=some (.own q)->σ[j]?≠some (some (.ref a)):=fun j q e f=>by
  obtain⟨b,e2,w⟩:=S.vw j _ e;rw[f] at e2;cases e2;cases q with
  | lst ps=>obtain⟨_,w,_⟩:=w;rw[n] at w;cases w
  | dct ks ps=>obtain⟨_,w,_⟩:=w;rw[n] at w;cases w
  | dtt ks ps=>obtain⟨_,w,_⟩:=w;rw[n] at w;cases w
  | _=>exact w
 refine⟨by simp[S.len],S.same.trans s,S.kp.trans (Same.kp s),⟨fun j l e=>?_,s.tabs S.vw.tb⟩,fun j q b e f=>?_,fun j k q q' b e1 e2 f1 f2=>?_,fun j qs b e=>?_⟩
 ·rcases bZ e with⟨rfl,rfl,hl⟩|⟨hj,e⟩
  ·exact⟨a,dO (by rw[← S.len];exact hl),r⟩
  ·rw[bf hj]
   exact(S.vw j l e).same s
 ·rcases bZ e with⟨rfl,_,hl⟩|⟨hj,e⟩
  ·rw[dO (by rw[← S.len];exact hl)] at f
   cases f;exact S.same.free n
  ·rw[bf hj] at f
   exact S.fresh j q b e f
 ·rcases bZ e1 with⟨h1,_,hl⟩|⟨hj,d1⟩
  ·rcases bZ e2 with⟨h2,_,_⟩|⟨hk,d2⟩
   ·rw[h1,h2]
   ·subst h1
    rw[dO (by rw[← S.len];exact hl)] at f1;cases f1;rw[bf hk] at f2;exact absurd f2 (other k q' d2)
  ·rcases bZ e2 with⟨h2,_,hl⟩|⟨hk,d2⟩
   ·subst h2
    rw[dO (by rw[← S.len];exact hl)] at f2;cases f2;rw[bf hj] at f1;exact absurd f1 (other j q d1)
   ·rw[bf hj] at f1
    rw[bf hk] at f2;exact S.apart j k q q' b d1 d2 f1 f2
 ·rcases bZ e with⟨_,z,_⟩|⟨hj,e⟩
  ·cases z
  ·exact S.pinned j qs b e
theorem c5.obj(h:c5 K H a p):∃u,H a=some u/\zm u=false:=by
 cases p with
 | lst ps=>obtain⟨_,w,_⟩:=h;exact⟨_,w,rfl⟩
 | dct ks ps=>obtain⟨_,w,_⟩:=h;exact⟨_,w,rfl⟩
 | dtt ks ps=>obtain⟨_,w,_⟩:=h;exact⟨_,w,rfl⟩
 | _=>exact LJ h
theorem c5.kp(k:Kp H H')(e:H' a=H a)(h:c5 K H a p):c5 K H' a p:=by
 cases p with
 | lst ps=>obtain⟨xs,w,r⟩:=h;exact⟨xs,by rw[e];exact w,r.kp k⟩
 | dct ks ps=>obtain⟨xs,w,z,r⟩:=h;exact⟨xs,by rw[e];exact w,z,r.kp k⟩
 | dtt ks ps=>obtain⟨xs,w,z,r⟩:=h;exact⟨xs,by rw[e];exact w,z,r.kp k⟩
 | _=>exact h
theorem StOk.turn{l':Sl}(S:StOk K B H σ ρ)(e:ρ[i]?=some (.own p))(f:σ[i]?=some (some (.ref a)))(oth:∀b,b≠a->H' b=H b)(hl:Dp K H' (some (some (.ref a))) l')(hn:∀ps b,l'≠.pin ps b:=by intro _ _ h;cases h):StOk K B H' σ (ρ.set i l'):=by
 obtain⟨b,f2,w⟩:=S.vw i _ e;rw[f] at f2;cases f2;obtain⟨u,hu,nf⟩:=w.obj;have fa:=S.fresh i p a e f
 have k:Kp H H':=fun b u' eb fb=>by
  have:b≠a:=fun z=>by
   subst z;rw[hu] at eb;cases eb;rw[nf] at fb;cases fb
  rw[oth b this];exact eb
 have ne:∀(j:Nat)(q:PV)(b:Addr),j≠i->ρ[j]?=some (.own q)->σ[j]?=some (some (.ref b))->b≠a:=fun j q b hj e2 f2 z=>by
  subst z;exact hj (S.apart j i q p b e2 e f2 f)
 refine⟨by simp[S.len],S.same.but fa (fun u h=>(w.nt u h).1) oth,S.kp.trans k,⟨fun j l ej=>?_,S.vw.tb.but w.nt oth⟩,fun j q b ej fj=>?_,fun j m q q' b e1 e2 f1 f2=>?_,fun j qs b e=>?_⟩
 ·rcases bZ ej with⟨rfl,rfl,hl2⟩|⟨hj,ej⟩
  ·rw[f]
   exact hl
  ·have:=S.vw j l ej
   cases l with
   | no=>exact trivial
   | val q=>obtain⟨v,e1,r⟩:=this;exact⟨v,e1,r.kp k⟩
   | own q=>
    obtain⟨b,e1,r⟩:=this;exact⟨b,e1,r.kp k (oth b (ne j q b hj ej e1))⟩
   | pin qs b=>
    exact⟨this.1,this.2.kp k (oth b fun z=>S.pinned j qs b ej (by rw[z];exact fa))⟩
 ·rcases bZ ej with⟨rfl,_,_⟩|⟨hj,ej⟩
  ·rw[f] at fj
   cases fj;exact fa
  ·exact S.fresh j q b ej fj
 ·have fix:∀(j:Nat)(q:PV),(ρ.set i l')[j]?=some (.own q)->∃q',ρ[j]?=some (.own q'):=fun j q ej=>by
   rcases bZ ej with⟨rfl,_,_⟩|⟨hj,ej⟩
   ·exact⟨p,e⟩
   ·exact⟨q,ej⟩
  obtain⟨q1,g1⟩:=fix j q e1;obtain⟨q2,g2⟩:=fix m q' e2;exact S.apart j m q1 q2 b g1 g2 f1 f2
 ·rcases bZ e with⟨_,z,_⟩|⟨hj,e⟩
  ·exact absurd z.symm (hn qs b)
  ·exact S.pinned j qs b e
theorem StOk.rebase{B':Hp}(S:StOk K B H σ ρ)(k:Kp B' H):StOk K (B.1,B') H σ ρ:=⟨S.len,S.same,k,S.vw,S.fresh,S.apart,S.pinned⟩
end
def RS(C:Cn)(B:Hp×Hp)(D:Ends):R Fl->Prop
 | .ok (.next ρ)=>∀σ H,StOk C.X.K B H σ ρ->D.nx σ H
 | .ok (.brk ρ)=>∀σ H,StOk C.X.K B H σ ρ->D.bk σ H
 | .ok (.cont ρ)=>∀σ H,StOk C.X.K B H σ ρ->D.ct σ H
 | .ok (.ret p)=>∀v H,Same B.1 H->Rep C.X.K H p v->D.rt v H
 | .er x=>∀H,Same B.1 H->C.Ac x H
 | .no=>False
def tS(C:Cn)(g:PSt->R Fl):TS:=fun D σ H=>∃ρ B,StOk C.X.K B H σ ρ/\RS C B D (g ρ)
def SV(C:Cn)(st:Stmt)(g:PSt->R Fl):Prop:=PS C.X st (tS C g)
def SVs(C:Cn)(st:List Stmt)(g:PSt->R Fl):Prop:=PSs C.X st (tS C g)
section
variable{C : Cn}{B : Hp×Hp}{D : Ends}{H : Hp}{α : Type}
theorem RS.bind{r:R α}{g:α->R Fl}(h:RS C B D (r >>= g))(s:Same B.1 H):RQ C H r fun a=>RS C B D (g a):=by
 cases r with
 | ok a=>exact h
 | er x=>exact fun H' s'=>h H' (s.trans s')
 | no=>exact h
theorem RS.ofO{o:Option α}{g:α->R Fl}(h:RS C B D (R.ofO o >>= g)):∃a,o=some a/\RS C B D (g a):=by
 cases o with
 | none=>exact LJ h
 | some a=>exact⟨a,rfl,h⟩
end
section
variable{C : Cn}{st : Stmt}{sts a b body : List Stmt}{e tg iter c : Expr}{f fk : PSt → R PV}{g g' : PSt → R Fl}{pos : NJ}{t : PSt → R Bool}
theorem aM:SVs C [] cF:=fun KW s σ H D I ⟨ρ,B,S,h⟩=>ny KW s σ H D I (h σ H S)
theorem a5(h1:SV C st g)(h2:SVs C sts g'):SVs C (st::sts) (aF g g'):=by
 intro KW s σ H D I ⟨ρ,B,S,h⟩;refine fC h1 h2 KW s σ H D I ⟨ρ,B,S,?_⟩;unfold aF at h;cases hg:g ρ with
 | ok fl=>
  rw[hg] at h;cases fl with
  | next ρ'=>exact fun σ' H' S'=>⟨ρ',B,S',h⟩
  | brk ρ'=>exact h
  | cont ρ'=>exact h
  | ret p=>exact h
 | er x=>rw[hg] at h;exact h
 | no=>rw[hg] at h;exact h
theorem a9(h1:SV C st g):SVs C [st] g:=by
 intro KW s σ H D I ⟨ρ,B,S,h⟩;exact nv h1 KW s σ H D I ⟨ρ,B,S,h⟩
theorem yy:SV C (.Break pos) Iz:=fun KW s σ H D I ⟨ρ,B,S,h⟩=>yR KW s σ H D I (h σ H S)
theorem aA(he:EV C e f):SV C (.Return (some e) pos) (cy f):=by
 intro KW s σ H D I ⟨ρ,B,S,h⟩;exact rN he KW s σ H D I ⟨ρ,S.vw,(h.bind S.same).imp fun p _ k v H' s' r=>k v H' (S.same.trans s') r⟩
theorem dj(hc:ET C c t)(ha:SVs C a g)(hb:SVs C b g'):SV C (.If c a b pos) (ifF t g g'):=by
 intro KW s σ H D I ⟨ρ,B,S,h⟩;refine Hq hc ha hb KW s σ H D I ⟨ρ,S.vw,(h.bind S.same).imp fun k _ q H' s'=>?_⟩;cases k with
 | true=>exact Dl ⟨ρ,B,S.grow s',q⟩
 | false=>exact Dm ⟨ρ,B,S.grow s',q⟩
theorem az(i:Nat){x:Str}{pos':NJ}(hN:C.X.N.Nodup)(he:EV C e f)(hs:OB e (some (.Name x pos')) pos.line C.X.env=pure false:=by rfl)
  (hf:C.X.fn x=true\/C.X.env.scope.names.lookup x=some .local:=by first | exact .inl rfl | exact .inr rfl | assumption) (hi:C.X.N[i]?=some x:=by rfl) (hx:Loc C.X.env.scope x:=by first | exact .inl rfl | exact .inr rfl) :
  SV C (.Assign [.Name x pos'] e pos) (cx i f):=by
 intro KW s σ H D I ⟨ρ,B,S,h⟩;exact Ap hN hi hx he hs hf KW s σ H D I ⟨ρ,S.vw,(h.bind S.same).imp fun p _ k v H' s' r=>k _ H' ((S.grow s').setV r)⟩
theorem eY(i:Nat){x:Str}{pos':NJ}(hN:C.X.N.Nodup)(he:EN C e f)(hs:OB e (some (.Name x pos')) pos.line C.X.env=pure false:=by rfl)
  (hf:C.X.fn x=true\/C.X.env.scope.names.lookup x=some .local:=by first | exact .inl rfl | exact .inr rfl | assumption) (hi:C.X.N[i]?=some x:=by rfl) (hx:Loc C.X.env.scope x:=by first | exact .inl rfl | exact .inr rfl) :
  SV C (.Assign [.Name x pos'] e pos) (lH i f):=by
 intro KW s σ H D I ⟨ρ,B,S,h⟩;exact Ap hN hi hx he hs hf KW s σ H D I ⟨ρ,S.vw,(h.bind S.same).imp fun p _ k a H' s' n r=>k _ H' (S.setN s' n r)⟩
theorem Fy{KW:List (Addr×Mi)}{s:L6}{σ:L2.St}{H:Hp}{B:Hp×Hp}{ρ:PSt}(i:Nat)(I:Inv C.X KW σ H s)(S:StOk C.X.K B H σ ρ):∃H',Inv C.X KW σ H' s/\StOk C.X.K B H' σ (ua i ρ):=by
 unfold ua
 split
 ·rename_i p e
  obtain⟨a,f,w⟩:=S.vw i _ e;obtain⟨H',I',rp,oth⟩:=L2.Inv.frz I w;exact⟨H',I',S.turn e f oth ⟨_,rfl,rp⟩⟩
 ·exact⟨H,I,S⟩
theorem SV.frz(i:Nat)(h:SV C st g):SV C st (uB i g):=by
 intro KW s σ H D I ⟨ρ,B,S,q⟩;obtain⟨H',I',S'⟩:=Fy i I S;exact h KW s σ H' D I' ⟨_,B,S',q⟩
def tTg(C:Cn)(h:PV->PSt->Option PSt):TG:=fun v σ H Q=>∃ρ B p ρ',StOk C.X.K B H σ ρ/\Rep C.X.K H p v/\h p ρ=some ρ'/\∀σ',StOk C.X.K B H σ' ρ'->Q σ' H
def TGt(C:Cn)(tg:Expr)(h:PV->PSt->Option PSt):Prop:=PG C.X tg (tTg C h)
def JM(C:Cn)(h:List PV->PSt->Option PSt):TGs:=fun vs σ H Q=>∃ρ B ps ρ',StOk C.X.K B H σ ρ/\au C.X.K H ps vs/\h ps ρ=some ρ'/\∀σ',StOk C.X.K B H σ' ρ'->Q σ' H
def D8(C:Cn)(ts:List Expr)(h:List PV->PSt->Option PSt):Prop:=PGs C.X ts (JM C h)
theorem aG(i:Nat){x:Str}(hN:C.X.N.Nodup)(hf:C.X.fn x=true\/C.X.env.scope.names.lookup x=some .local:=by first | exact .inl rfl | exact .inr rfl | assumption)(hi:C.X.N[i]?=some x:=by rfl)(hx:Loc C.X.env.scope x:=by first | exact .inl rfl | exact .inr rfl) :
  TGt C (.Name x pos) (af i):=by
 intro KW s σ H v u Q I r ⟨ρ,B,p,ρ',S,rp,e,k⟩;cases e;exact gf hN hi hx hf KW s σ H v u Q I r (k _ (S.setV rp))
theorem fX:D8 C [] fV:=by
 intro KW s σ H vs us Q I r ⟨ρ,B,ps,ρ',S,rp,e,k⟩;cases ps with
 | nil=>cases e;cases rp;exact qy KW s σ H _ us Q I r ⟨rfl,k _ S⟩
 | cons _ _=>cases e
theorem bh{es:List Expr}{h:PV->PSt->Option PSt}{h':List PV->PSt->Option PSt}(h1:TGt C e h)(h2:D8 C es h')(hs:(Ma (e::es) C.X.env).map (·.2)=P5 e C.X.env::(Ma es C.X.env).map (·.2):=by rfl):D8 C (e::es) (aD h h'):=by
 intro KW s σ H vs us Q I r ⟨ρ,B,ps,ρ',S,rp,ee,k⟩;cases ps with
 | nil=>cases ee
 | cons p qs=>
  obtain⟨x,xs,rfl,rp1,rp2⟩:=rp;have ee:(h p ρ).bind (fun ρ1=>h' qs ρ1)=some ρ':=ee;obtain⟨ρ1,e1,e2⟩:=LD.mp ee;exact jR h1 h2 hs KW s σ H _ us Q I r ⟨x,xs,rfl,ρ,B,p,ρ1,S,rp1,e1,fun σ1 S1=>⟨ρ1,B,qs,ρ',S1,rp2,e2,k⟩⟩
end
end PU
namespace PU
open PySem PySem.Spec PyProof.Rows L2
variable[TW]
section
variable{C : Cn}{st : Stmt}{sts a b body : List Stmt}{e tg iter c : Expr}{f fk : PSt → R PV}{g g' : PSt → R Fl}{pos : NJ}{t : PSt → R Bool}
theorem jx{es:List Expr}{k n:Nat}{h:List PV->PSt->Option PSt}(hc:C.X.calm=true)(hh:D8 C es h)
  (hn:(Ma es C.X.env).length=n:=by rfl) (hst:(Ma es C.X.env).findIdx? (·.1)=none:=by rfl):TGt C (.Tuple es k pos) (fU n h):=by
 intro KW s σ H v u Q I r ⟨ρ,B,p,ρ',S,rp,e,k⟩;cases p with
 | tup ps=>
  have e:(if ps.length=n then h ps ρ else none)=some ρ':=e
  by_cases hl:ps.length=n
  ·rw[if_pos hl] at e
   obtain⟨a,xs,rfl,hq,r1⟩:=rp;exact vt hc hh hn hst KW s σ H _ u Q I r ⟨a,xs,rfl,tq hq,by rw[← r1.length];exact hl,ρ,B,ps,ρ',S,r1,e,k⟩
  ·rw[if_neg hl] at e
   cases e
 | _=>cases e
def ItP(K:L0)(J:It)(H₁:Hp)(ps:List PV):Prop:=
 ∀(i:Nat)(H:Hp),Kp H₁ H->(i=ps.length->J.stop i H)/\∀p,ps[i]?=some p->J.go i H/\∀x H',J.yld i H x H'->Same H H'/\Rep K H' p x
def tI(C:Cn)(f:PSt->R (List PV)):TI:=fun σ H Q=>∃ρ,View C.X.K H σ ρ/\RQ C H (f ρ) fun ps=>∀J H',Same H H'->ItP C.X.K J H' ps->Q J H'
def EI(C:Cn)(tg iter:Expr)(f:PSt->R (List PV)):Prop:=PI C.X tg iter (tI C f)
theorem iS{α:Type}{l:List α}{i:Nat}{x:α}(h:l[i]?=some x):l.drop i=x::l.drop (i+1):=by
 obtain⟨hl,e⟩:=L4.mp h;rw[Mc hl,e]
theorem cC{fi:PSt->R (List PV)}{h:PV->PSt->Option PSt}(hi:EI C tg iter fi)(hg:TGt C tg h)(hb:SVs C body g)
  (hs:∀x,NK iter C.X.env x=pure x:=by intro _;rfl) (hp:QZ (Ll C.X.prog C.X.w) C.X.A C.X.env C.X.xe:=by exact PK) (hc:C.X.calm=true:=by rfl):SV C (.For tg iter body [] pos) (jL fi h g):=by
 intro KW s σ H D I ⟨ρ,B,S,q⟩;refine vg hp hc hi hg hb hs KW s σ H D I ⟨ρ,S.vw,(q.bind S.same).imp fun ps _ k J H1 s1 it=>?_⟩;refine⟨fun i m σ' H'=>∃ρ',m=ps.length-i/\i<=ps.length/\StOk C.X.K (B.1,H1) H' σ' ρ'/\RS C B D (gL h g (ps.drop i) ρ'),⟨ps.length,ρ,rfl,M0 _,(S.grow s1).rebase (Kp.refl H1),by simpa using k⟩,?_⟩;rintro i m σ' H' ⟨ρ',rfl,hi',S',q'⟩;have back:∀{σ2:L2.St}{H2:Hp}{ρ2:PSt},StOk C.X.K (B.1,H1) H2 σ2 ρ2->StOk C.X.K B H2 σ2 ρ2:=fun {σ2 H2 ρ2} S2=>⟨S2.len,S2.same,(S.kp.trans (Same.kp s1)).trans S2.kp,S2.vw,S2.fresh,S2.apart,S2.pinned⟩;obtain⟨stp,stepp⟩:=it i H' S'.kp
 by_cases hlt:i<ps.length
 ·have ei:ps[i]?=some ps[i]:=by simp[hlt]
  obtain⟨go,yl⟩:=stepp _ ei;rw[iS ei] at q';obtain⟨ρ1,e1,q1⟩:=RS.ofO q';refine .inr ⟨go,fun σ2 H2=>∃ρ2,StOk C.X.K (B.1,H1) H2 σ2 ρ2/\RS C B D (gL h g (ps.drop (i+1)) ρ2),fun σ2 H2 ⟨ρ2,S2,r2⟩=>⟨ps.length-(i+1),by omega,ρ2,rfl,hlt,S2,r2⟩,fun x H2 y=>?_⟩;obtain⟨s2,rp⟩:=yl x H2 y;refine⟨ρ',(B.1,H1),ps[i],ρ1,S'.grow s2,rp,e1,fun σ3 S3=>⟨ρ1,(B.1,H1),S3,?_⟩⟩;cases hgr:g ρ1 with
  | ok fl=>
   rw[hgr] at q1;cases fl with
   | next ρ2=>exact fun σ4 H4 S4=>⟨ρ2,S4,q1⟩
   | cont ρ2=>exact fun σ4 H4 S4=>⟨ρ2,S4,q1⟩
   | brk ρ2=>exact fun σ4 H4 S4=>q1 σ4 H4 (back S4)
   | ret p=>exact q1
  | er x=>rw[hgr] at q1;exact q1
  | no=>rw[hgr] at q1;exact q1
 ·have e:i=ps.length:=by omega
  subst e;rw[Ng] at q';exact .inl ⟨stp rfl,q' σ' H' (back S')⟩
end
end PU
namespace PU
open PySem PySem.Spec PyProof.Rows L2
variable[TW]
def spP(K:L0)(n:Nat)(F:List PV->Option PV):Sp:=fun vs H Q _=>vs.length=n/\uq H/\∃ps p,au K H ps vs/\F ps=some p/\∀v H',Same H H'->Rep K H' p v->Q v H'
structure PF(P:Lf)(w:Ln)(K:L0)(mg:Str->Option L3)(base:Heap)(k:Nat)(x:Str)(F:List PV->Option PV):Prop where
 ex:∃(f:Addr)(fd:Mw)(ps:List Str),FnOk P w K mg base CX0 k f fd ps (spP K ps.length F)/\mg x=some (.ref f)/\NQ K (.ref f)=true/\Binds K fd ps []/\∀qs p,F qs=some p->qs.length=ps.length
section
variable{C : Cn}{e : Expr}{es : List Expr}{fs : PSt → R (List PV)}{x : Str}{k : Nat}{F : List PV → Option PV}{p pos : NJ}
theorem ak(G:PF C.X.prog C.X.w C.X.K C.X.mg C.X.base k x F){kr:Nat}(hr:Room kr C.X.A)(ha:EA C (e::es) fs)
  (hdb:(x == ("__debug__":Str))=false:=by decide) (he:Lc (e::es) C.X.env=(false,MS e C.X.env)::Lc es C.X.env:=by exact c6 rfl) (hpl:(Oc pos (Lc es C.X.env)).any (·.1)=false:=by exact jO rfl) (hk:k<=kr:=by decide) (hg:Gl C.X x:=by exact rfl) :
  EV C (.Call (.Name x p) (e::es) [] pos) (aE fs F):=by
 replace hr:=hr.mono hk;obtain⟨f,fd,ps,a,b,c,d,l⟩:=G.ex;intro KW s σ H Q I ⟨ρ,vw,q⟩;refine vy (dvs:=[]) (ds:=[]) (E:=E0) a hr hg b c d .nil Er ha hdb he hpl KW s σ H Q I ⟨ρ,vw,q.bind.imp fun qs _ k vs H1 s1 r1=>?_⟩;obtain⟨z,ez,k⟩:=k.ofO;rw[Mh];exact⟨by rw[← r1.length];exact l qs z ez,s1.tabs vw.tb,qs,z,r1,ez,fun v H' s' r'=>k v H' (s1.trans s') r'⟩
end
section
variable{P : Lf}{w : Ln}{K : L0}{mg : Str → Option L3}{base : Heap}
abbrev AV(P:Lf)(w:Ln)(K:L0)(mg:Str->Option L3)(base:Heap)(N:List Str)(qual:Str)(sc:Scope)(f:Addr)(cdv:L3)(A:Ls)(outer:List Qa)(s:L6)(H:Hp)(E:XK):Cn:=
 ⟨(AU CX0 P w K mg base N qual sc f cdv A outer s H E).nox,fun _ _=>False⟩
theorem Aw{ps:List PV}{n i:Nat}{p:PV}(e:(start n ps)[i]?=some (.own p)):False:=by
 unfold start at e
 by_cases hi:i<ps.length
 ·rw[Lb (by simpa using hi),LC] at e
  cases h:ps[i]? with
  | none=>rw[h] at e;cases e
  | some p=>rw[h] at e;cases e
 ·rw[Lv (by simpa using hi),M7] at e
  split at e <;> cases e
theorem EG{n i:Nat}{ps qs:List PV}{a:Addr}(e:(start n ps)[i]?=some (.pin qs a)):False:=by
 unfold start at e
 by_cases hi:i<ps.length
 ·rw[Lb (by simpa using hi),LC] at e
  cases h:ps[i]? with
  | none=>rw[h] at e;cases e
  | some p=>rw[h] at e;cases e
 ·rw[Lv (by simpa using hi),M7] at e
  split at e <;> cases e
theorem iy{K:L0}{H:Hp}{N:List Str}{ps:List PV}{vs:List V}(tb:uq H)(r:au K H ps vs):StOk K (H,H) H (L2.start N vs) (start N.length ps):=by
 have hl:=r.length;refine⟨by simp[start,L2.start,hl],Same.refl H,Kp.refl H,⟨fun i l e=>?_,tb⟩,fun i p a e f=>?_,fun i j p q a e1 e2 f1 f2=>?_,fun i qs a e=>?_⟩
 ·unfold start at e
  by_cases hi:i<ps.length
  ·rw[Lb (by simpa using hi),LC] at e
   cases h:ps[i]? with
   | none=>rw[h] at e;cases e
   | some p=>
    rw[h] at e;cases e;obtain⟨v,ev,rp⟩:=r.get h;refine⟨v,?_,rp⟩;unfold L2.start;rw[Lb (by rw[LA,← hl];exact hi),LC,ev];rfl
  ·rw[Lv (by simpa using hi),M7] at e
   split at e
   ·cases e
    exact trivial
   ·cases e
 all_goals exfalso
 ·exact Aw e
 ·exact Aw e1
 ·exact EG e
theorem Ht{x qual:Str}{st:Stmt}{f:Addr}{fd:Mw}{N ps:List Str}{k:Nat}{g:PSt->R Fl}(F:Fun K x qual st f fd)(S:FnScope N ps (a7 st))(hm:mg x=some (.ref f))(hb:Binds K fd ps [])
  (hbody:∀(cdv:L3)(A:Ls)(outer:List Qa)(s:L6)(H:Hp)(E:XK),Room k (A.deeper (OU qual (a7 st) s.heap.objs.size f cdv))->SVs (AV P w K mg base N qual (a7 st) f cdv A outer s H E) (aT st) g) :
  PF P w K mg base (k+1) x (dF ps.length N.length g):=by
 refine⟨f,fd,ps,F.ok S (fun vs H Q E h=>h.1) (fun cdv A outer s H vs Q E hr h=>?_),hm,F.kp,hb,fun qs p h=>?_⟩
 ·obtain⟨hl,tb,qs,p,r,e,k⟩:=h
  refine⟨_,hbody cdv A outer s H E hr,start N.length qs,(H,H),iy tb r,?_⟩;unfold dF at e;rw[if_pos (by rw[r.length];exact hl)] at e;cases hg:g (start N.length qs) with
  | ok fl=>
   rw[hg] at e;cases fl with
   | next ρ=>cases e;exact fun σ H' S'=>k .non H' S'.same rfl
   | ret q=>cases e;exact fun v H' s' r'=>k v H' s' r'
   | brk ρ=>cases e
   | cont ρ=>cases e
  | er x=>rw[hg] at e;cases e
  | no=>rw[hg] at e;cases e
 ·unfold dF at h
  split at h
  ·rename_i hl;exact hl
  ·cases h
end
end PU
namespace PU
open PySem PySem.Spec PyProof.Rows L2
variable[TW]
def b9(X:Cx)(N':List Str)(scope:Scope)(cl:List (Str×Addr))(L:Addr)(s₂:L6)(H₂:Hp)(fp:List Addr):Cx where
 prog:=X.prog
 w:=X.w
 K:=X.K
 mg:=X.mg
 base:=X.base
 A:=X.A
 N:=N'
 s₀:=s₂
 H₀:=H₂
 env:=Q0 scope cl L X.env
 outer:=X.stack
 stack:=X.stack
 ex:=fp
 fn:=fun _=>false
 calm:=true
 pn:=[]
 xe:=fun _ _=>False
abbrev bY(C:Cn)(N':List Str)(scope:Scope)(cl:List (Str×Addr))(L:Addr)(s₂:L6)(H₂:Hp)(fp:List Addr):Cn:=⟨b9 C.X N' scope cl L s₂ H₂ fp,fun _ _=>False⟩
def tTc(C:Cn)(h:Tgt):TG:=fun v σ H Q=>∃ρ p ρ',ρ.length=σ.length/\View C.X.K H σ ρ/\Rep C.X.K H p v/\h p ρ=some ρ'/\∀σ',ρ'.length=σ'.length->View C.X.K H σ' ρ'->Q σ' H
def TCt(C:Cn)(tg:Expr)(h:Tgt):Prop:=PG C.X tg (tTc C h)
def JN(C:Cn)(h:xO):TGs:=fun vs σ H Q=>∃ρ ps ρ',ρ.length=σ.length/\View C.X.K H σ ρ/\au C.X.K H ps vs/\h ps ρ=some ρ'/\∀σ',ρ'.length=σ'.length->View C.X.K H σ' ρ'->Q σ' H
def D9(C:Cn)(ts:List Expr)(h:xO):Prop:=PGs C.X ts (JN C h)
theorem View.setV{K:L0}{H:Hp}{σ:L2.St}{ρ:PSt}{i:Nat}{p:PV}{v:V}(vw:View K H σ ρ)(hl:ρ.length=σ.length)(r:Rep K H p v):View K H (σ.set i (some v)) (ρ.set i (.val p)):=by
 refine⟨fun j l e=>?_,vw.tb⟩;rcases bZ e with⟨rfl,rfl,hl2⟩|⟨hj,e⟩
 ·exact⟨v,dO (by rw[← hl];exact hl2),r⟩
 ·rw[bf hj]
  exact vw j l e
section
variable{C : Cn}{e : Expr}{pos : NJ}
theorem uR(i:Nat){x:Str}(hN:C.X.N.Nodup)(hi:C.X.N[i]?=some x)(hx:Loc C.X.env.scope x)(hf:C.X.fn x=true\/C.X.env.scope.names.lookup x=some .local:=by first | exact .inl rfl | exact .inr rfl | assumption) :
  TCt C (.Name x pos) (af i):=by
 intro KW s σ H v u Q I r ⟨ρ,p,ρ',hl,vw,rp,e,k⟩;cases e;exact gf hN hi hx hf KW s σ H v u Q I r (k _ (by simp[hl]) (vw.setV hl rp))
theorem jd:D9 C [] fV:=by
 intro KW s σ H vs us Q I r ⟨ρ,ps,ρ',hl,vw,rp,e,k⟩;cases ps with
 | nil=>cases e;cases rp;exact qy KW s σ H _ us Q I r ⟨rfl,k _ hl vw⟩
 | cons _ _=>cases e
theorem cn{es:List Expr}{h:Tgt}{h':xO}(h1:TCt C e h)(h2:D9 C es h')(hs:(Ma (e::es) C.X.env).map (·.2)=P5 e C.X.env::(Ma es C.X.env).map (·.2):=by rfl):D9 C (e::es) (aD h h'):=by
 intro KW s σ H vs us Q I r ⟨ρ,ps,ρ',hl,vw,rp,ee,k⟩;cases ps with
 | nil=>cases ee
 | cons p qs=>
  obtain⟨x,xs,rfl,rp1,rp2⟩:=rp;have ee:(h p ρ).bind (fun ρ1=>h' qs ρ1)=some ρ':=ee;obtain⟨ρ1,e1,e2⟩:=LD.mp ee;exact jR h1 h2 hs KW s σ H _ us Q I r ⟨x,xs,rfl,ρ,p,ρ1,hl,vw,rp1,e1,fun σ1 hl1 vw1=>⟨ρ1,qs,ρ',hl1,vw1,rp2,e2,k⟩⟩
theorem lV{es:List Expr}{k n:Nat}{h:xO}(hc:C.X.calm=true)(hh:D9 C es h)
  (hn:(Ma es C.X.env).length=n:=by rfl) (hst:(Ma es C.X.env).findIdx? (·.1)=none:=by rfl):TCt C (.Tuple es k pos) (fU n h):=by
 intro KW s σ H v u Q I r ⟨ρ,p,ρ',hl,vw,rp,e,k⟩;cases p with
 | tup ps=>
  have e:(if ps.length=n then h ps ρ else none)=some ρ':=e
  by_cases hl2:ps.length=n
  ·rw[if_pos hl2] at e
   obtain⟨a,xs,rfl,hq,r1⟩:=rp;exact vt hc hh hn hst KW s σ H _ u Q I r ⟨a,xs,rfl,tq hq,by rw[← r1.length];exact hl2,ρ,ps,ρ',hl,vw,r1,e,k⟩
  ·rw[if_neg hl2] at e
   cases e
 | _=>cases e
end
def yb(n:Nat)(h:Tgt):Prop:=∀p ρ ρ1,h p ρ=some ρ1->ρ1.length=ρ.length/\∀i,n<=i->ρ1[i]?=ρ[i]?
def zS(n:Nat)(h:xO):Prop:=∀p ρ ρ1,h p ρ=some ρ1->ρ1.length=ρ.length/\∀i,n<=i->ρ1[i]?=ρ[i]?
theorem jU{n i:Nat}(h:i<n):yb n (af i):=fun p ρ ρ1 e=>by
 cases e;exact⟨by simp,fun j hj=>bf (by omega)⟩
theorem qH{n:Nat}:zS n fV:=fun ps ρ ρ1 e=>by
 cases ps with
 | nil=>cases e;exact⟨rfl,fun _ _=>rfl⟩
 | cons _ _=>cases e
theorem nN{n:Nat}{h:Tgt}{h':xO}(a:yb n h)(b:zS n h'):zS n (aD h h'):=fun ps ρ ρ2 e=>by
 cases ps with
 | nil=>cases e
 | cons p qs=>
  have e:(h p ρ).bind (fun ρ1=>h' qs ρ1)=some ρ2:=e;obtain⟨ρ1,e1,e2⟩:=LD.mp e;obtain⟨l1,g1⟩:=a p ρ ρ1 e1;obtain⟨l2,g2⟩:=b qs ρ1 ρ2 e2;exact⟨l2.trans l1,fun i hi=>(g2 i hi).trans (g1 i hi)⟩
theorem qG{n m:Nat}{h:xO}(a:zS n h):yb n (fU m h):=fun p ρ ρ1 e=>by
 cases p with
 | tup ps=>
  have e:(if ps.length=m then h ps ρ else none)=some ρ1:=e;split at e
  ·exact a ps ρ ρ1 e
  ·cases e
 | _=>cases e
def ETs(C:Cn)(ifs:List Expr)(t:PSt->R Bool):Prop:=(ifs=[]/\t=jM)\/∃c,ifs=[c]/\ET C c t
theorem qW{C:Cn}:ETs C [] jM:=.inl ⟨rfl,rfl⟩
theorem x6{C:Cn}{c:Expr}{t:PSt->R Bool}(h:ET C c t):ETs C [c] t:=.inr ⟨c,rfl,h⟩
def bQ(cells:List (Str×Addr)):List (Str×Nt)->List (Str×Addr)->List (Str×Addr)
 | [],acc=>acc
 | (n,k)::r,acc=>if (k == .free)=true then (match cells.lookup n with
  | some c=>bQ cells r ((n,c)::acc)
  | none=>bQ cells r acc) else bQ cells r acc
theorem bz{scope:Scope}{env:Qa}(h:∀y∈scope.names,y.2=.free->∃c,env.cells.lookup y.1=some c):closureFor scope env=pure (bQ env.cells scope.names []):=by
 have gen:∀(l:List (Str×Nt))(acc:List (Str×Addr)),(∀y∈l,y.2=.free->∃c,env.cells.lookup y.1=some c)->
   (forIn l acc fun x r=>(match x with | (name,kind)=>if (kind == MB)=true then do let a<- S6 env name;pure (Mn ((name,a)::r)) else pure (Mn r):Sem (ForInStep (List (Str×Addr)))))=pure (bQ env.cells l acc):=by
  intro l
  induction l with
  | nil=>intro acc _;rfl
  | cons y r ih=>
   intro acc hy;obtain⟨n,k⟩:=y;rw[List.forIn_cons];have hr:=fun z hz=>hy z (Lg _ hz)
   by_cases hk:(k == MB)=true
   ·obtain⟨c,hc⟩:=hy (n,k) Le (by simpa using hk)
    have hc:env.cells.lookup n=some c:=hc;have e1:S6 env n=pure c:=by unfold S6;rw[hc]
    simp only[hk,if_true,e1,bQ,hc];exact ih _ hr
   ·simp only[hk,if_false,bQ]
    exact ih _ hr
 have:=gen scope.names [] h;have e:closureFor scope env=((forIn scope.names ([]:List (Str×Addr)) fun x r=>(match x with | (name,kind)=>if (kind == MB)=true then do let a<- S6 env name;pure (Mn ((name,a)::r)) else pure (Mn r):Sem (ForInStep (List (Str×Addr))))) >>= fun cs=>pure cs):=rfl;rw[e,this];rfl
theorem bP{cells:List (Str×Addr)}{x:Str}{c:Addr}:∀{l:List (Str×Nt)}{acc:List (Str×Addr)},(bQ cells l acc).lookup x=some c->cells.lookup x=some c\/acc.lookup x=some c
 | [],acc,h=>.inr h
 | (n,k)::r,acc,h=>by
  unfold bQ at h;split at h
  ·split at h
   ·rename_i d hd
    rcases bP h with z | z
    ·exact .inl z
    ·rw[Lo] at z
     by_cases e:(x == n)=true
     ·rw[e] at z
      cases z;rw[OQ e];exact .inl hd
     ·simp only[On] at e
      rw[e] at z;exact .inr z
   ·exact bP h
  ·exact bP h
theorem iW{cells:List (Str×Addr)}{x:Str}:∀{l:List (Str×Nt)}{acc:List (Str×Addr)},(acc.lookup x).isSome=true->((bQ cells l acc).lookup x).isSome=true
 | [],acc,h=>h
 | (n,k)::r,acc,h=>by
  unfold bQ
  split
  ·split
   ·refine iW ?_
    rw[Lo]
    split
    ·rfl
    ·exact h
   ·exact iW h
  ·exact iW h
theorem sV{cells:List (Str×Addr)}{x:Str}{c:Addr}(hc:cells.lookup x=some c):∀{l:List (Str×Nt)}{acc:List (Str×Addr)},(x,MB)∈l->(bQ cells l acc).lookup x=some c:=by
 have fin:∀{l:List (Str×Nt)}{acc:List (Str×Addr)},(∀d,acc.lookup x=some d->d=c)->((bQ cells l acc).lookup x).isSome=true->(bQ cells l acc).lookup x=some c:=fun {l acc} ha h=>by
  obtain⟨d,hd⟩:=RO.mp h;rcases bP hd with z | z
  ·rw[hc] at z;cases z;exact hd
  ·rw[hd,ha d z]
 intro l
 induction l with
 | nil=>intro acc h;cases h
 | cons y r ih=>
  intro acc h;obtain⟨n,k⟩:=y;have rest:∀acc,(x,MB)∈r->(bQ cells r acc).lookup x=some c:=fun acc hr=>ih hr;rcases LR.mp h with z | z
  ·cases z
   unfold bQ;rw[if_pos (show (MB == MB)=true from rfl),hc];show (bQ cells r ((x,c)::acc)).lookup x=some c;have hs:(((x,c)::acc).lookup x)=some c:=by rw[Lo,beq_self_eq_true]
   exact fin (fun d hd=>by rw[hs] at hd;cases hd;rfl) (iW (by rw[hs];rfl))
  ·unfold bQ
   split
   ·split
    ·exact rest _ z
    ·exact rest _ z
   ·exact rest _ z
theorem gQ{env:Qa}{x:Str}:∀{names:List (Str×Nt)},names.lookup x=some .free->
  (names.map fun (n,k)=>if (k == MB && env.scope.kind == .function && env.kindOf n == some .cell) then (n,Q2) else (n,k)).lookup x=some .cell ∨
  (names.map fun (n,k)=>if (k == MB && env.scope.kind == .function && env.kindOf n == some .cell) then (n,Q2) else (n,k)).lookup x=some .free
 | [],h=>by simp at h
 | (n,k)::r,h=>by
  have ih:=@gQ env x r;cases hx:x == n with
  | true=>
   simp only[Lo,hx] at h;cases h
   by_cases hc:(MB == MB && env.scope.kind == .function && env.kindOf n == some .cell)=true
   ·left
    simp only[L8,hc,if_true,Lo,hx]
   ·right
    simp only[On] at hc;simp only[L8,hc,M9,if_false,Lo,hx]
  | false=>
   simp only[Lo,hx] at h
   by_cases hc:(k == MB && env.scope.kind == .function && env.kindOf n == some .cell)=true
   ·simp only[L8,hc,if_true,Lo,hx]
    exact ih h
   ·simp only[On] at hc
    simp only[L8,hc,Lo,M9,if_false,hx];exact ih h
theorem gB{prog:Lf}{w:Ln}{A:Ls}{R:RZ->L6->Prop}{s:L6}{elt target iter:Expr}{ifs:List Expr}{scope:Scope}{pos:NJ}{it acc:L3}{env:Qa}(I:Nat->L6->Prop)
  (turn:∀n s,I n s->LY (Ll prog w) A (P4 it) (fun r s₁=>match r with
   | none=>R (.ok .next) s₁
   | some v=>LY (Ll prog w) A (QF target it v) (fun _ s₁=>LY (Ll prog w) A (P5 target env v) (fun _ s₂=>
     LY (Ll prog w) A (forIn ifs true fun c r=>if r=true then do let ok<- isTrue c env (MS c env);pure (Mn ok) else pure (Mn r)) (fun ok s₃=>
      if ok=true then LY (Ll prog w) A (MS elt env) (fun x s₄=>
       LY (Ll prog w) A (call (.builtin "list.append") [acc,x]) (fun _ s₅=>∃m,m<n/\I m s₅) (fun _ _=>False) s₄) (fun _ _=>False) s₃
      else ∃m,m<n/\I m s₃) (fun _ _=>False) s₂) (fun _ _=>False) s₁) (fun _ _=>False) s₁) (fun _ _=>False) s)
  (n:Nat) (h:I n s) :
  OF (Ll prog w) A (.compLoop (.ListComp elt [⟨target,iter,ifs,0⟩] scope pos) 0 it acc env) R s:=by
 refine codeAny_loop rfl I (fun n s hI=>?_) n h;show LY _ A ((compTurn (.ListComp elt [⟨target,iter,ifs,0⟩] scope pos) 0 it acc env).onRaise (fun x=>do noteFrame x env;theTreesLotGoes x)) _ _ s;refine wpAny_noted ?_;rw[compTurn_list];refine L1 (Qm (L1 (N8 (turn n s hI) (fun r s₁ h₁=>?_) fun _ _ h'=>h'.elim)));cases r with
 | none=>exact L9 h₁
 | some v=>
  refine L1 (N8 h₁ (fun _ s₁ h₁=>?_) fun _ _ h'=>h'.elim);refine L1 (N8 h₁ (fun _ s₂ h₂=>L1 (N8 h₂ (fun ok s₃ h₃=>?_) fun _ _ h'=>h'.elim)) fun _ _ h'=>h'.elim);cases ok with
  | false=>exact L9 ⟨rfl,h₃⟩
  | true=>
   exact L1 (L1 (N8 h₃ (fun x s₄ h₄=>L1 (N8 h₄ (fun _ s₅ h₅=>L9 (L9 ⟨rfl,h₅⟩)) fun _ _ h'=>h'.elim)) fun _ _ h'=>h'.elim))
end PU
namespace PU
open PySem PySem.Spec PyProof.Rows L2
variable[TW]
structure CompOk(NX:List Str)(scX:Scope)(scope:Scope)(N':List Str)(nt:Nat)(idx:List Nat):Prop where
 kind:scope.kind=.function
 cell:∀y∈scope.names,y.2≠.cell
 names:∀y∈scope.names,y.2=.local->scope.names.lookup y.1=some .local
 free:∀y∈scope.names,y.2=.free->scX.names.lookup y.1=some .cell\/scX.names.lookup y.1=some .free
 len:N'.length=nt+idx.length
 ix:(idx.zip (N'.drop nt)).all (fun p=>decide (NX[p.1]?=some p.2) && decide (scope.names.lookup p.2=some .free))=true
theorem CompOk.at{NX:List Str}{scX:Scope}{scope:Scope}{N':List Str}{nt:Nat}{idx:List Nat}(O:CompOk NX scX scope N' nt idx){k:Nat}{x:Str}(h:N'[nt+k]?=some x) :
  ∃i,idx[k]?=some i/\NX[i]?=some x/\scope.names.lookup x=some .free:=by
 have hk:k<idx.length:=by
  have:=(L4.mp h).1;have:=O.len;omega
 have e1:idx[k]?=some idx[k]:=by simp[hk]
 have e2:(N'.drop nt)[k]?=some x:=by rw[List.getElem?_drop];exact h
 have e3:(idx.zip (N'.drop nt))[k]?=some (idx[k],x):=by
  rw[Rb];exact⟨e1,e2⟩
 have:=Nh.mp O.ix _ (LM e3);simp only[MH,decide_eq_true_eq] at this;exact⟨_,e1,this.1,this.2⟩
section
variable{C : Cn}{elt tg iter : Expr}{ifs : List Expr}{scope : Scope}{pos : NJ}{N' : List Str}{nt : Nat}{idx : List Nat}{h : Tgt}{t : PSt → R Bool}{fe : PSt → R PV}
theorem ju{KW:List (Addr×Mi)}{σ:L2.St}{H₂:Hp}{s₂:L6}{J:It}{fp:List Addr}{it:Addr}{tn:Nat->Heap->Prop}{ρ:PSt}(O:CompOk C.X.N C.X.env.scope scope N' nt idx)(hc:C.X.calm=true)
  (I:Inv C.X KW σ H₂ s₂) (T:Turn C.X.prog C.X.w C.X.K tg J fp it tn) (st:tn 0 s₂.heap) (hf:∀b∈fp,oE C.X KW H₂ b) (vw:View C.X.K H₂ σ ρ)
  {L D:Addr} {h₁:Heap} {tk:Nat} (hD:D=s₂.heap.objs.size) (hL:s₂.heap.objs.size<=L) (hDL:D≠L) (ns:h₁.Ns L (fun _=>none)) (keep:∀b o,s₂.heap.get? b=some o->h₁.get? b=some o)
  (acc:h₁.get? D=some { cls:=.type "list",data:=.seq ([]:List L3).toArray }) :
  ∃σ',Inv (b9 C.X N' scope (bQ C.X.env.cells scope.names []) L s₂ H₂ fp) [] σ' (upd H₂ D (.lst [])) { s₂ with heap:=h₁,toks:=tk }/\View C.X.K (upd H₂ D (.lst [])) σ' (ba nt idx ρ)/\(ba nt idx ρ).length=σ'.length/\
   ∀b∈fp,b<s₂.heap.objs.size:=by
 have fl:∀b∈fp,b<s₂.heap.objs.size:=fun b hb=>by
  obtain⟨o,e,_⟩:=T.obj 0 _ st b hb;exact LF e
 have nD:H₂ D=none:=by rw[hD];exact I.fresh
 have frC:∀y∈scope.names,y.2=.free->∃c,C.X.env.cells.lookup y.1=some c:=fun y hy hk=>I.ok.has y.1 (O.free y hy hk)
 have clS:∀x c,(bQ C.X.env.cells scope.names []).lookup x=some c->C.X.env.cells.lookup x=some c:=fun x c e=>by
  rcases bP e with z | z
  ·exact z
  ·cases z
 have cne:∀x c,(bQ C.X.env.cells scope.names []).lookup x=some c->c<s₂.heap.objs.size:=fun x c e=>by
  obtain⟨v,q⟩:=I.cell x c (clS x c e);exact q.lt
 refine⟨M3 nt none++idx.map (fun i=>(σ[i]?).getD none),⟨⟨I.ok.mod,O.kind,I.ok.glob,I.ok.blt,hL,fun x y c e1 e2=>I.ok.inj x y c (clS x c e1) (clS y c e2),fun x hx=>?_,(fun x c z=>absurd (show false=true from z) LK),fun _=>I.ok.hd hc,I.ok.frames,.inl rfl,
  fun b hb=>⟨LO (LQ (fl b hb) hL),fun x c e=>(hf b hb).2.2.2.2.1 x c (clS x c e)⟩,I.bs,MC I.ok.bsz I.sz,fun b o e hb=>?_,fun b hb z=>?_,I.stack,I.stkFree⟩,
  rfl,I.bare,Un.laid keep (SE hD.symm) nD,⟨_,ns,fun i x v hN hσ hv=>?_⟩,fun x c e=>?_,?_,fun x c e=>?_,fun p hp=>absurd (show p∈([]:List (Addr×Mi)) from hp) (by simp),?_,?_⟩,?_,?_,fl⟩
 ·-- has
  have hx:(Sv scope C.X.env).names.lookup x=some .cell\/(Sv scope C.X.env).names.lookup x=some .free:=hx
  have:scope.names.lookup x=some .free:=by
   have gen:∀(l:List (Str×Nt)),(∀y∈l,y.2≠.cell)->((l.map fun (n,k)=>if (k == MB && C.X.env.scope.kind == .function && C.X.env.kindOf n == some .cell) then (n,Q2) else (n,k)).lookup x=some .cell ∨
     (l.map fun (n,k)=>if (k == MB && C.X.env.scope.kind == .function && C.X.env.kindOf n == some .cell) then (n,Q2) else (n,k)).lookup x=some .free)->l.lookup x=some .free:=by
    intro l
    induction l with
    | nil=>intro _ z;simp at z
    | cons y r ih=>
     intro hy z;obtain⟨n,k⟩:=y;have hk:k≠.cell:=hy (n,k) Le;have ih:=ih fun y' hy'=>hy y' (Lg _ hy');rw[Lo]
     by_cases hc':(k == MB && C.X.env.scope.kind == .function && C.X.env.kindOf n == some .cell)=true
     ·simp only[L8,hc',if_true,Lo] at z
      cases hx':x == n with
      | true=>
       have:k=.free:=by
        simp only[MH] at hc';exact OQ hc'.1.1
       rw[this]
      | false=>
       rw[hx'] at z;exact ih z
     ·simp only[On] at hc'
      simp only[L8,hc',M9,if_false,Lo] at z;cases hx':x == n with
      | true=>
       rw[hx'] at z;rcases z with z | z
       ·cases z;exact absurd rfl hk
       ·cases z;rfl
      | false=>
       rw[hx'] at z;exact ih z
   exact gen scope.names O.cell hx
  obtain⟨c,e⟩:=frC (x,.free) (Lw this) rfl;exact⟨c,sV e (Lw this)⟩
 ·-- noex
  obtain⟨e1,e2⟩:=I.bs b o e;obtain⟨g1,g2,g3,g4,_⟩:=hf b hb;rcases g4 with z | z
  ·exact I.ok.noex b o e z
  ·exact absurd (LF (I.ok.bs b o e).1) (Pq.mpr z)
 ·-- exfs
  obtain⟨g1,g2,g3,_⟩:=hf b hb;exact(LR.mp (I.stkSub b z)).elim g2 g3
 ·-- loc
  by_cases hi:i<nt
  ·rw[Lb (by simpa using hi),M7,if_pos hi] at hσ
   cases hσ
  ·obtain⟨k,rfl⟩:∃k,i=nt+k:=⟨i-nt,by omega⟩
   have hN:N'[nt+k]?=some x:=hN;obtain⟨j,ej,ex,el⟩:=O.at hN;rw[Lv (by simp),My,Rt,LC,ej] at hσ;have hσ:some ((σ[j]?).getD none)=some (some v):=hσ
   have hσ:σ[j]?=some (some v):=by
    cases q:σ[j]? with
    | none=>rw[q] at hσ;cases hσ
    | some z=>rw[q] at hσ;cases hσ;rfl
   obtain⟨m,hn,hl⟩:=I.loc;have hfr:=O.free (x,.free) (Lw el) rfl;obtain⟨u,ru,lk⟩:=hl j x v ex hσ (by rcases hfr with z | z;exact .inr (.inl z);exact .inr (.inr z));refine⟨u,ru,.inr ?_⟩;rcases lk with⟨z,_⟩|⟨_,c,ec,hcell⟩
   ·exfalso
    have z:C.X.env.scope.names.lookup x=some .local:=z;rcases hfr with q | q <;> (rw[show C.X.env.scope.names.lookup x=_ from q] at z;cases z)
   ·refine⟨gQ (env:=C.X.env) el,c,sV ec (Lw el),?_⟩
    obtain⟨o,ho,hd⟩:=hcell;exact⟨o,keep c o ho,hd⟩
 ·obtain⟨v,o,ho,hd⟩:=I.cell x c (clS x c e)
  exact⟨v,o,keep c o ho,hd⟩
 ·-- free
  show upd H₂ D _ L=none;rw[aj (MU hDL)];exact I.hok.fresh hL
 ·show upd H₂ D _ c=none
  rw[aj (by rw[hD];exact LO (cne x c e))];exact I.freeC x c (clS x c e)
 ·exact I.hok.laid keep (SE hD.symm) ⟨by simp,[],0,.nil,acc⟩
 ·show _=N'.length
  rw[O.len];simp
 ·refine⟨fun i l e=>?_,(Same.new (o:=.lst []) nD).tabs vw.tb⟩
  unfold ba at e
  by_cases hi:i<nt
  ·rw[Lb (by simpa using hi),M7,if_pos hi] at e
   cases e;exact trivial
  ·obtain⟨k,rfl⟩:∃k,i=nt+k:=⟨i-nt,by omega⟩
   rw[Lv (by simp),My,Rt,LC] at e ⊢;cases ej:idx[k]? with
   | none=>rw[ej] at e;cases e
   | some j=>
    rw[ej] at e;have e:some (roS ρ[j]?)=some l:=e;cases e;cases q:ρ[j]? with
    | none=>exact trivial
    | some l'=>
     have:=(vw j l' q).same (Same.new (o:=.lst []) nD);cases l' with
     | no=>exact trivial
     | val p=>
      obtain⟨v,ev,r⟩:=this;exact⟨v,by show some ((σ[j]?).getD none)=_;rw[ev];rfl,r⟩
     | own p=>exact trivial
     | pin qs a=>exact trivial
 ·simp[ba]
theorem mF{ρ:PSt}{p:PV}{ps rest:List PV}(e:bL h t fe ρ (p::ps)=.ok rest):∃ρ1 b,h p ρ=some ρ1/\t ρ1=.ok b/\
  ((b=true/\∃q r,fe ρ1=.ok q/\bL h t fe ρ ps=.ok r/\rest=q::r)\/(b=false/\bL h t fe ρ ps=.ok rest)):=by
 unfold bL at e;cases h1:h p ρ with
 | none=>rw[h1] at e;cases e
 | some ρ1=>
  rw[h1] at e;simp only[R.ofO_some,R.ok_bind] at e;cases h2:t ρ1 with
  | ok b=>
   rw[h2] at e;simp only[R.ok_bind] at e;refine⟨ρ1,b,rfl,h2,?_⟩;cases b with
   | true=>
    rw[if_pos rfl] at e;cases h3:fe ρ1 with
    | ok q=>
     rw[h3] at e;simp only[R.ok_bind] at e;cases h4:bL h t fe ρ ps with
     | ok r=>
      rw[h4] at e;cases e;exact .inl ⟨rfl,q,r,rfl,rfl,rfl⟩
     | er x=>rw[h4] at e;cases e
     | no=>rw[h4] at e;cases e
    | er x=>rw[h3] at e;cases e
    | no=>rw[h3] at e;cases e
   | false=>
    rw[if_neg LK] at e;exact .inr ⟨rfl,e⟩
  | er x=>rw[h2] at e;cases e
  | no=>rw[h2] at e;cases e
theorem View.weak{K:L0}{H:Hp}{σ:L2.St}{ρ ρ1:PSt}{n:Nat}(vw:View K H σ ρ1)(low:∀i,n<=i->ρ1[i]?=ρ[i]?)(no:∀i l,i<n->ρ[i]?=some l->l=.no):View K H σ ρ:=by
 refine⟨fun i l e=>?_,vw.tb⟩
 by_cases hi:i<n
 ·rw[no i l hi e];exact trivial
 ·exact vw i l (by rw[low i (by omega)];exact e)
theorem lA{idx:List Nat}{nt:Nat}{ρ:PSt}{i:Nat}{l:Sl}(hi:i<nt)(e:(ba nt idx ρ)[i]?=some l):l=.no:=by
 unfold ba at e;rw[Lb (by simpa using hi),M7,if_pos hi] at e;cases e;rfl
theorem lz{idx:List Nat}{nt:Nat}{ρ:PSt}{i:Nat}{p:PV}(e:(ba nt idx ρ)[i]?=some (.own p)):False:=by
 unfold ba at e
 by_cases hi:i<nt
 ·rw[Lb (by simpa using hi),M7,if_pos hi] at e
  cases e
 ·rw[Lv (by simpa using hi),LC] at e
  cases q:idx[i-(M3 nt Sl.no).length]? with
  | none=>rw[q] at e;cases e
  | some j=>
   rw[q] at e;have e:some (roS ρ[j]?)=some (Sl.own p):=e;unfold roS at e;split at e <;> cases e
theorem ly{idx:List Nat}{nt:Nat}{ρ:PSt}{i:Nat}{p:List PV}{a:Addr}(e:(ba nt idx ρ)[i]?=some (.pin p a)):False:=by
 unfold ba at e
 by_cases hi:i<nt
 ·rw[Lb (by simpa using hi),M7,if_pos hi] at e
  cases e
 ·rw[Lv (by simpa using hi),LC] at e
  cases q:idx[i-(M3 nt Sl.no).length]? with
  | none=>rw[q] at e;cases e
  | some j=>
   rw[q] at e;have e:some (roS ρ[j]?)=some (Sl.pin p a):=e;unfold roS at e;split at e <;> cases e
theorem View.noOwn{K:L0}{H H':Hp}{σ:L2.St}{ρ:PSt}(vw:View K H σ ρ)(no:∀(i:Nat)(p:PV),ρ[i]?≠some (Sl.own p))(np:∀(i:Nat)(ps:List PV)(a:Addr),ρ[i]?≠some (Sl.pin ps a))(k:Kp H H')(tb:uq H'):View K H' σ ρ:=by
 refine⟨fun i l e=>?_,tb⟩;have:=vw i l e;cases l with
 | no=>exact trivial
 | val p=>obtain⟨v,ev,r⟩:=this;exact⟨v,ev,r.kp k⟩
 | own p=>exact absurd e (no i p)
 | pin ps a=>exact absurd e (np i ps a)
theorem q8{KW:List (Addr×Mi)}{σ:L2.St}{H₂:Hp}{s₂:L6}{J:It}{fp:List Addr}{it:Addr}{tn:Nat->Heap->Prop}{ρ:PSt}{ps qs:List PV}{RR:L3->Addr->RZ->L6->Prop}{E:L3->L6->Prop}
  (O:CompOk C.X.N C.X.env.scope scope N' nt idx) (hc:C.X.calm=true)
  (hg:∀cl L s H fp,TCt (bY C N' scope cl L s H fp) tg h) (hlow:yb nt h) (ht:∀cl L s H fp,ETs (bY C N' scope cl L s H fp) ifs t) (he:∀cl L s H fp,EV (bY C N' scope cl L s H fp) elt fe)
  (I:Inv C.X KW σ H₂ s₂) (T:Turn C.X.prog C.X.w C.X.K tg J fp it tn) (st:tn 0 s₂.heap) (hf:∀b∈fp,oE C.X KW H₂ b) (vw:View C.X.K H₂ σ ρ) (ip:ItP C.X.K J H₂ ps)
  (hq:bL h t fe (ba nt idx ρ) ps=.ok qs) (hz:qs.length<=sizeLine)
  (hRR:∀D L σ' H' s' xs,Inv (b9 C.X N' scope (bQ C.X.env.cells scope.names []) L s₂ H₂ fp) [] σ' H' s'->Same H₂ H'->H₂ D=none->H' D=some (.lst xs)->au C.X.K H' qs xs->s₂.heap.objs.size<=L->RR (.ref D) L (.ok .next) s') :
  LY (Ll C.X.prog C.X.w) C.X.A (Ro []) (fun acc s₃=>LY (Ll C.X.prog C.X.w) C.X.A (S5 scope C.X.env.globals (bQ C.X.env.cells scope.names []) [] C.X.env.qual none .none (some C.X.env)) (fun cenv s₄=>
   OF (Ll C.X.prog C.X.w) C.X.A (.compStart (.ListComp elt [⟨tg,iter,ifs,0⟩] scope pos) 0 (.ref it) acc { cenv with scope:=Sv scope C.X.env }) (RR acc cenv.locals) s₄) E s₃) E s₂:=by
 refine Mu (P2 O.cell (by intro y hy;simp at hy) (fun h₁ hns₁ hsb₁=>?_) O.kind);dsimp only at hns₁ hsb₁ ⊢;generalize hG:s₂.heap.push { cls:=.type "list",dict:=none,data:=.seq ([]:List L3).toArray }=G at hns₁ hsb₁ ⊢;have hC:G.objs.size=s₂.heap.objs.size+1:=by rw[← hG,OZ]
 have hDL:s₂.heap.objs.size≠G.objs.size:=by rw[hC];exact LO (Pj _)
 have keep:∀b o,s₂.heap.get? b=some o->h₁.get? b=some o:=fun b o e=>
  hsb₁.extBut b o (by rw[hC];exact LO (NA (LF e))) (L5 _ (hG▸L5 _ e))
 have acc:h₁.get? s₂.heap.objs.size=some { cls:=.type "list",data:=.seq ([]:List L3).toArray }:=hsb₁.extBut _ _ hDL (L5 _ (hG▸LZ _ rfl));have nD:H₂ s₂.heap.objs.size=none:=I.fresh;have hGe:s₂.heap.objs.size<=G.objs.size:=by rw[hC];exact Oy _
 obtain⟨σ0,I0,vw0,hl0,fl⟩:=ju O hc I T st hf vw (L:=G.objs.size) (tk:=s₂.toks+([]:List (Str×L3)).length) rfl hGe hDL (by simpa using hns₁) keep acc
 have fpk:∀{H':Hp}{pins':List (Addr×Mi)},(∀b∈fp,H' b=none)->(∀p∈pins',p.1 ∉ fp)->∀b∈fp,oE (b9 C.X N' scope (bQ C.X.env.cells scope.names []) G.objs.size s₂ H₂ fp) pins' H' b:=fun {H' pins'} hn hp b hb=>by
  obtain⟨g1,g2,g3,g4,g5,g6⟩:=hf b hb;refine⟨hn b hb,LO (LQ (fl b hb) hGe),fun z=>?_,.inl hb,fun x c e=>?_,fun p hp' z=>?_⟩
  ·exact(LR.mp (I.stkSub b z)).elim g2 g3
  ·rcases bP e with z | z
   ·exact g5 x c z
   ·cases z
  ·subst z
   exact hp p ((show p∈([]:List (Addr×Mi))++pins' from hp')) hb
 have loop:OF (Ll C.X.prog C.X.w) C.X.A (.compLoop (.ListComp elt [⟨tg,iter,ifs,0⟩] scope pos) 0 (.ref it) (.ref s₂.heap.objs.size) (Q0 scope (bQ C.X.env.cells scope.names []) G.objs.size C.X.env))
   (RR (.ref s₂.heap.objs.size) G.objs.size) { s₂ with heap:=h₁,toks:=s₂.toks+([]:List (Str×L3)).length }:=by
  refine gB (fun n s=>∃i σ' H' xs dn rest,n=ps.length-i/\i<=ps.length/\Inv (b9 C.X N' scope (bQ C.X.env.cells scope.names []) G.objs.size s₂ H₂ fp) [] σ' H' s/\tn i s.heap/\(∀b∈fp,H' b=none)/\Same H₂ H'/\
   H' s₂.heap.objs.size=some (.lst xs)/\au C.X.K H' dn xs/\View C.X.K H' σ' (ba nt idx ρ)/\(ba nt idx ρ).length=σ'.length/\bL h t fe (ba nt idx ρ) (ps.drop i)=.ok rest/\dn++rest=qs) ?_ ps.length
   ⟨0,σ0,_,[],[],qs,rfl,M0 _,I0,T.keep _ _ _ st fun b _ o e=>keep b o e,fun b hb=>?_,Same.new nD,ai,au.nil,vw0,hl0,by simpa using hq,rfl⟩
  ·rintro n s ⟨i,σ',H',xs,dn,rest,rfl,hi,I',st',fr',sm',hD',rp',vw',hl',e',ea⟩
   obtain⟨stp,stepp⟩:=ip i H' (Same.kp sm')
   by_cases hlt:i<ps.length
   ·have ei:ps[i]?=some ps[i]:=by simp[hlt]
    obtain⟨go,yl⟩:=stepp _ ei;rw[iS ei] at e';obtain⟨ρ1,b,e1,e2,e3⟩:=mF e';obtain⟨l1,low1⟩:=hlow _ _ _ e1;refine thn (T.item (b9 C.X N' scope (bQ C.X.env.cells scope.names []) G.objs.size s₂ H₂ fp) rfl rfl rfl rfl i [] s σ' H' _ I' (fpk fr' (by simp)) st' go) fun r s1 ⟨u,hr,h4⟩=>?_;subst hr;refine thn h4 fun _ s2 ⟨x,H3,I3,r3,y3,st3,fr3⟩=>?_;obtain⟨sm3,rp3⟩:=yl x H3 y3;have I3':=I3.pinned (fpk fr3 (by simp)) (T.obj _ _ st3);refine thn (hg _ _ _ _ _ _ s2 σ' H3 x u (fun σ4 H4=>H4=H3/\ρ1.length=σ4.length/\View C.X.K H4 σ4 ρ1) I3' r3 ⟨_,_,ρ1,hl',vw'.same sm3,rp3,e1,fun σ4 hl4 vw4=>⟨rfl,hl4,vw4⟩⟩) fun _ s4 ⟨σ4,H4,I4,q4⟩=>?_;obtain⟨rfl,hl4,vw4⟩:=q4
    have tests:LY (Ll C.X.prog C.X.w) C.X.A (forIn ifs true fun c r=>if r=true then do let ok<- isTrue c (Q0 scope (bQ C.X.env.cells scope.names []) G.objs.size C.X.env) (MS c (Q0 scope (bQ C.X.env.cells scope.names []) G.objs.size C.X.env));pure (Mn ok) else pure (Mn r))
      (TP (b9 C.X N' scope (bQ C.X.env.cells scope.names []) G.objs.size s₂ H₂ fp) ([]++gO fp s2.heap) σ4 (fun b' H5=>b'=b/\Same H4 H5)) (fun _ _=>False) s4:=by
     rcases ht (bQ C.X.env.cells scope.names []) G.objs.size s₂ H₂ fp with⟨ez,et⟩|⟨c,ez,et⟩
     ·subst ez
      subst et;cases e2;exact Rm ⟨H4,I4,rfl,Same.refl _⟩
     ·subst ez
      exact wpAny_tests_one (et _ s4 σ4 H4 _ I4 ⟨ρ1,vw4,by rw[e2];exact fun H' s'=>⟨rfl,s'⟩⟩)
    refine thn tests fun b' s5 ⟨H5,I5,eb,sm5⟩=>?_;subst eb
    have fin:∀{H7:Hp}{s7:L6},Inv (b9 C.X N' scope (bQ C.X.env.cells scope.names []) G.objs.size s₂ H₂ fp) ([]++gO fp s2.heap) σ4 H7 s7->Inv (b9 C.X N' scope (bQ C.X.env.cells scope.names []) G.objs.size s₂ H₂ fp) [] σ4 H7 s7/\tn (i+1) s7.heap/\∀b∈fp,H7 b=none:=fun {H7 s7} I7=>by
     refine⟨I7.unpinned,T.keep _ _ _ st3 fun b hb o e=>(I7.pin (b,o) (La _ (La _ (cD hb e)))).1,fun b hb=>?_⟩;obtain⟨o,e,_⟩:=T.obj _ _ st3 b hb;exact(I7.pin (b,o) (La _ (La _ (cD hb e)))).2.1
    have sm25:Same H₂ H5:=(sm'.trans sm3).trans sm5;have smd:Same H' H5:=sm3.trans sm5;have vw5:View C.X.K H5 σ4 (ba nt idx ρ):=View.weak (vw4.same sm5) low1 fun i l hi e=>lA hi e;have hl5:(ba nt idx ρ).length=σ4.length:=by rw[← l1];exact hl4
    rcases e3 with⟨rfl,q,r,e4,e5,rfl⟩|⟨rfl,e4⟩
    ·rw[if_pos rfl]
     refine thn (he _ _ _ _ _ _ s5 σ4 H5 (fun v H6=>Same H5 H6/\Rep C.X.K H6 q v) I5 ⟨ρ1,vw4.same sm5,by rw[e4];exact fun v H' s' r=>⟨s',r⟩⟩) fun u6 s6 ⟨v,H6,I6,r6,sm6,rp6⟩=>?_;have hD6:H6 s₂.heap.objs.size=some (.lst xs):=sm6 _ _ (smd _ _ hD')
     have hx:xs.length<sizeLine:=by
      have a1:=rp'.length;have a2:qs.length=dn.length+(r.length+1):=by rw[← ea];simp
      omega
     refine thn (gn (X:=b9 C.X N' scope (bQ C.X.env.cells scope.names []) G.objs.size s₂ H₂ fp) _ s6 σ4 H6 (.ref s₂.heap.objs.size) [v] (.ref s₂.heap.objs.size) [u6] (fun _ H7=>H7=upd H6 s₂.heap.objs.size (.lst (xs++[v]))) I6 rfl (.cons r6 .nil) ⟨_,xs,v,rfl,rfl,hD6,hx,rfl⟩) fun _ s7 ⟨_,H7,I7,_,e7⟩=>?_;subst e7;obtain⟨J7,st7,fr7⟩:=fin I7;have kp7:Kp H6 (upd H6 s₂.heap.objs.size (.lst (xs++[v]))):=Kp.upd hD6 rfl;refine⟨ps.length-(i+1),by omega,i+1,σ4,_,xs++[v],dn++[q],r,rfl,hlt,J7,st7,fr7,(sm25.trans sm6).but nD (fun u h=>by rw[hD6] at h;cases h;rfl) (fun b hb=>aj hb),ai,?_,?_,hl5,e5,by rw[← ea];simp⟩
     ·exact au.append (au.kp kp7 _ ((rp'.same smd).same sm6)) (au.cons (Rep.kp kp7 _ rp6) au.nil)
     ·exact(vw5.same sm6).noOwn (fun i p e=>lz e) (fun i p a e=>ly e) kp7 ((vw5.same sm6).tb.but (fun u h=>by rw[hD6] at h;cases h;exact⟨rfl,rfl⟩) (fun b hb=>aj hb))
    ·rw[if_neg LK]
     obtain⟨J7,st7,fr7⟩:=fin I5;exact⟨ps.length-(i+1),by omega,i+1,σ4,H5,xs,dn,rest,rfl,hlt,J7,st7,fr7,sm25,smd _ _ hD',rp'.same smd,vw5,hl5,e4,ea⟩
   ·have e:i=ps.length:=by omega
    subst e;rw[Ng] at e';cases e';rw[Mh] at ea;subst ea;refine thn (T.done (b9 C.X N' scope (bQ C.X.env.cells scope.names []) G.objs.size s₂ H₂ fp) rfl rfl rfl rfl ps.length [] s σ' H' _ I' (fpk fr' (by simp)) st' (stp rfl)) fun r s1 ⟨hr,I1⟩=>?_;subst hr;exact hRR _ _ σ' H' s1 xs I1 sm' nD hD' rp' hGe
  ·show upd H₂ _ _ b=none
   rw[aj (LO (fl b hb))];exact(hf b hb).1
 exact Q7 loop (T.self _ 0 _ _ _ (T.keep _ _ _ st fun b _ o e=>keep b o e) loop)
end
end PU
namespace PU
open PySem PySem.Spec PyProof.Rows L2
variable[TW]
section
variable{C : Cn}{elt tg iter : Expr}{ifs : List Expr}{scope : Scope}{pos : NJ}{N' : List Str}{nt : Nat}{idx : List Nat}{fi : PSt → R (List PV)}{h : Tgt}{t : PSt → R Bool}{fe : PSt → R PV}
theorem iU{KW:List (Addr×Mi)}{σ σ':L2.St}{H₂ H':Hp}{s₂ s':L6}{fp:List Addr}{cl:List (Str×Addr)}{L:Addr}(I:Inv C.X KW σ H₂ s₂)(hf:∀b∈fp,oE C.X KW H₂ b)
  (I':Inv (b9 C.X N' scope cl L s₂ H₂ fp) [] σ' H' s'):Inv C.X KW σ H' s':=
 I.call' (ch:=fp) I'.os I'.base I'.hok I'.bare fun b hb=>by
  obtain⟨g1,g2,g3,g4,g5,g6⟩:=hf b hb;exact⟨g4,g2,g5,g6⟩
theorem BY{α:Type}{H:Hp}{r:R α}{k:α->Prop}(q:RQ C H (BZ r) k):∃a,r=.ok a/\k a:=by
 cases r with
 | ok a=>exact⟨a,rfl,q⟩
 | er x=>exact LJ q
 | no=>exact LJ q
theorem iT{KW:List (Addr×Mi)}{σ:L2.St}{H:Hp}{s:L6}{L:Addr}{h':Heap}(I:Inv C.X KW σ H s)(hn:H L=none)(hL:L≠C.X.env.locals)(h1:C.X.s₀.heap.objs.size<=L)(h2:∀x c,C.X.env.cells.lookup x=some c->c≠L)
  (h3:∀p∈C.X.pn++KW,p.1≠L) (sb:OG L s.heap h'):Inv C.X KW σ H { s with heap:=h' }:=
 I.turned (t':=s.toks) (fun b o hb e=>(sb.2 b hb).trans e) hn hL (.inr h1) h2 h3
theorem jr(O:CompOk C.X.N C.X.env.scope scope N' nt idx)(hi:EI C tg iter fi)
  (hg:∀cl L s H fp,TCt (bY C N' scope cl L s H fp) tg h) (he:∀cl L s H fp,EV (bY C N' scope cl L s H fp) elt fe)
  (hs:∀x,NK iter C.X.env x=pure x:=by intro _;rfl) (hc:C.X.calm=true:=by rfl) (hlow:yb nt h:=by repeat' (first | exact qH | exact jU (by decide) | apply qG | apply nN)) (ht:∀cl L s H fp,ETs (bY C N' scope cl L s H fp) ifs t:=by exact fun _ _ _ _ _=>qW):EN C (.ListComp elt [⟨tg,iter,ifs,0⟩] scope pos) (ff fi h t fe nt idx):=by
 intro KW s σ H Q I ⟨ρ,vw,q⟩;rw[eval_ListComp];refine OX (use:=none) rfl hs (bz fun y hy hk=>I.ok.has y.1 (O.free y hy hk)) O.kind O.names ?_
 refine thn (hi KW s σ H (fun J H'=>∃ps qs,Same H H'/\ItP C.X.K J H' ps/\bL h t fe (ba nt idx ρ) ps=.ok qs/\qs.length<=sizeLine/\∀a H'',Same H H''->H a=none->c5 C.X.K H'' a (.lst qs)->Q (.ref a) H'') I
  ⟨ρ,vw,q.bind.imp fun ps _ k J H' s' ip=>?_⟩) fun v s1 h1=>thn h1 fun itv s2 h2=>?_
 ·obtain⟨qs,e1,k⟩:=BY k.bind
  obtain⟨z,k⟩:=kU k;exact⟨ps,qs,s',ip,e1,z,k⟩
 ·obtain⟨it,fp,tn,J,H2,e,I2,T,st2,f2,ps,qs,sm,ip,e1,hz,k⟩:=h2
  subst e;refine q8 O hc hg hlow ht he I2 T st2 f2 (vw.same sm) ip e1 hz fun D L σ' H' s' xs I' sm' nD hD rp hL=>?_;obtain⟨m,hn,_⟩:=id I'.loc;have IB:=iU I2 f2 I';refine⟨m,hn,fun h' sb=>⟨.ref D,H',iT IB I'.free ?_ (MC I2.sz hL) ?_ ?_ sb,rfl,k D H' (sm.trans sm') (sm.free nD) ⟨xs,hD,rp⟩⟩⟩
  ·exact MQ (LQ I2.lt hL)
  ·intro x c ec z
   obtain⟨v,qc⟩:=I2.cell x c ec;have z:c=L:=z;exact M6 _ (LQ (z▸qc.lt) hL)
  ·intro p hp z
   have z:p.1=L:=z;exact M6 _ (LQ (z▸LF (I2.pin p hp).1) hL)
theorem RS.bind'{C:Cn}{B:Hp×Hp}{D:Ends}{H:Hp}{fi:PSt->R (List PV)}{h:Tgt}{t:PSt->R Bool}{fe:PSt->R PV}{nt:Nat}{idx:List Nat}{ρ:PSt}{g:PV->Sl}{i:Nat}
  (q:RS C B D (ff fi h t fe nt idx ρ >>= fun p=>.ok (.next (ρ.set i (g p))))) (s:Same B.1 H) :
  RQ C H (fi ρ) fun ps=>∃qs,bL h t fe (ba nt idx ρ) ps=.ok qs/\qs.length<=sizeLine/\∀σ' H'',StOk C.X.K B H'' σ' (ρ.set i (g (.lst qs)))->D.nx σ' H'':=by
 unfold ff at q;rw[R.bind_assoc] at q;refine(q.bind s).imp fun ps _ k=>?_;rw[R.bind_assoc] at k;cases hc:bL h t fe (ba nt idx ρ) ps with
 | ok qs=>
  rw[hc] at k;have k:RS C B D ((gR qs >>= fun qs=>R.ok (.lst qs)) >>= fun p=>.ok (.next (ρ.set i (g p)))):=k;unfold gR at k
  by_cases hz:qs.length<=16777216
  ·rw[if_pos hz] at k
   exact⟨qs,rfl,by rw[Ly];exact hz,k⟩
  ·rw[if_neg hz] at k
   exact LJ k
 | er x=>rw[hc] at k;exact LJ k
 | no=>rw[hc] at k;exact LJ k
theorem mL(own:Bool)(i:Nat){x:Str}{px:NJ}{spos:NJ}(hN:C.X.N.Nodup)(O:CompOk C.X.N C.X.env.scope scope N' nt idx)(hi:EI C tg iter fi)
  (hg:∀cl L s H fp,TCt (bY C N' scope cl L s H fp) tg h) (he:∀cl L s H fp,EV (bY C N' scope cl L s H fp) elt fe)
  (hsw:OB (.ListComp elt [⟨tg,iter,ifs,0⟩] scope pos) (some (.Name x px)) spos.line C.X.env=pure true:=by rfl)
  (hs:∀x,NK iter C.X.env x=pure x:=by intro _;rfl)
  (hf:C.X.fn x=true\/C.X.env.scope.names.lookup x=some .local:=by first | exact .inl rfl | exact .inr rfl | assumption) (hc:C.X.calm=true:=by rfl) (hlow:yb nt h:=by repeat' (first | exact qH | exact jU (by decide) | apply qG | apply nN)) (ht:∀cl L s H fp,ETs (bY C N' scope cl L s H fp) ifs t:=by exact fun _ _ _ _ _=>qW) (hi':C.X.N[i]?=some x:=by rfl) (hx:Loc C.X.env.scope x:=by first | exact .inl rfl | exact .inr rfl) :
  SV C (.Assign [.Name x px] (.ListComp elt [⟨tg,iter,ifs,0⟩] scope pos) spos) ((if own=true then lH else cx) i (ff fi h t fe nt idx)):=by
 intro KW s σ H D I ⟨ρ,B,S,q⟩;rw[QH _ _ _ _ hsw];refine L1 (Qm (L1 ?_));show LY _ C.X.A (do let _<- SW (.ListComp elt [⟨tg,iter,ifs,0⟩] scope pos) scope C.X.env _ (Ro []) false (MS iter C.X.env) (some (P5 (.Name x px) C.X.env))) _ _ s
 refine L1 (N8 (OX (use:=some (P5 (.Name x px) C.X.env)) (Q:=fun _ s'=>SP C.X KW D .next s') rfl hs (bz fun y hy hk=>I.ok.has y.1 (O.free y hy hk)) O.kind O.names ?_)
  (fun _ s' hq=>L9 (L9 hq)) fun _ _ e=>e)
 have q':RS C B D (ff fi h t fe nt idx ρ >>= fun p=>.ok (.next (ρ.set i (if own=true then .own p else .val p)))):=by
  cases own with
  | true=>exact q
  | false=>exact q
 refine thn (hi KW s σ H (fun J H'=>∃ps qs,Same H H'/\ItP C.X.K J H' ps/\bL h t fe (ba nt idx ρ) ps=.ok qs/\qs.length<=sizeLine/\∀σ' H'',StOk C.X.K B H'' σ' (ρ.set i (if own=true then .own (.lst qs) else .val (.lst qs)))->D.nx σ' H'') I
  ⟨ρ,S.vw,(RS.bind' q' S.same).imp fun ps _ k J H' s' ip=>?_⟩) fun v s1 h1=>thn h1 fun itv s2 h2=>?_
 ·obtain⟨qs,e1,z,k⟩:=k
  exact⟨ps,qs,s',ip,e1,z,k⟩
 ·obtain⟨it,fp,tn,J,H2,e,I2,T,st2,f2,ps,qs,sm,ip,e1,hz,k⟩:=h2
  subst e;refine q8 O hc hg hlow ht he I2 T st2 f2 (S.vw.same sm) ip e1 hz fun Da L σ' H' s' xs I' sm' nD hD rp hL=>?_;obtain⟨m,⟨o,es,ep,ho,hrest⟩,_⟩:=id I'.loc;have IB:=iU I2 f2 I';have nL:L≠C.X.env.locals:=MQ (LQ I2.lt hL)
  have nC:∀x c,C.X.env.cells.lookup x=some c->c≠L:=fun x c ec z=>by
   obtain⟨v,qc⟩:=I2.cell x c ec;have z:c=L:=z;exact M6 _ (LQ (z▸qc.lt) hL)
  have nP:∀p∈C.X.pn++KW,p.1≠L:=fun p hp z=>by
   have z:p.1=L:=z;exact M6 _ (LQ (z▸LF (I2.pin p hp).1) hL)
  have IP:Inv C.X (KW++[(L,o)]) σ H' s':=IB.pins_of fun p hp=>by
   rcases Lh.mp hp with z | z
   ·exact IB.pin p (La _ z)
   ·have:p=(L,o):=by simpa using z
    subst this;exact⟨ho,I'.free,nL,I2.nofs hL,fun v z=>by rw[hrest.1] at z;cases z⟩
  have S2:=S.grow (sm.trans sm')
  have fin:∀{H3:Hp}{v:V},Inv C.X (KW++[(L,o)]) σ H3 s'->v=.ref Da->(∀σ3,σ3=σ.set i (some v)->D.nx σ3 H3)->
    LY (Ll C.X.prog C.X.w) C.X.A (P5 (.Name x px) C.X.env (.ref Da)) (fun _ s''=>∃m,s''.heap.Ns L m/\∀h',OG L s''.heap h'->SP C.X KW D .next { s'' with heap:=h' }) C.X.xe s':=fun {H3 v} I3 ev k3=>by
   refine thn (gf hN hi' hx hf (KW++[(L,o)]) s' σ H3 v (.ref Da) (fun σ4 H4=>σ4=σ.set i (some v)/\H4=H3) I3 (by subst ev;rfl) ⟨rfl,rfl⟩) fun _ s4 ⟨σ4,H4,I4,e4,e5⟩=>?_;have hp:=I4.pin (L,o) (by simp);have IU:Inv C.X KW σ4 H4 s4:=I4.unpinned;refine⟨m,⟨o,es,ep,hp.1,hrest⟩,fun h' sb=>⟨σ4,H4,iT IU hp.2.1 nL (MC I2.sz hL) nC nP sb,?_⟩⟩;subst e5;exact k3 σ4 e4
  cases own with
  | true=>
   exact fin IP rfl fun σ3 e3=>by
    subst e3;exact k _ _ (S.setN (sm.trans sm') (sm.free nD) ⟨xs,hD,rp⟩)
  | false=>
   obtain⟨H3,I3,rp3,oth⟩:=L2.Inv.frz (a:=Da) (p:=.lst qs) IP ⟨xs,hD,rp⟩;refine fin I3 rfl fun σ3 e3=>?_;subst e3;exact k _ _ ((S.grow ((sm.trans sm').but (sm.free nD) (fun u h=>by rw[hD] at h;cases h;rfl) oth)).setV rp3)
end
end PU
namespace PU
open PySem PySem.Spec PyProof.Rows L2 PySem.SeqAt
variable[TW]
section
variable{X : Cx}{KW : List (Addr×Mi)}{σ : L2.St}{H : Hp}{s : L6}
theorem jz{a:Addr}{xs ys:List V}(I:Inv X KW σ H s)(h1:SqT X.K H a xs)(h2:SqO X.K H a ys):False:=by
 obtain⟨its,_,⟨o,e,c,_⟩,_⟩:=I.tuple h1;obtain⟨_,its2,n,_,e2⟩:=h2.is I;rw[e] at e2;cases e2;have c:Nk "list"=Nk "tuple":=c;exact absurd c (by decide)
theorem Bo{a:Addr}{xs ys:List V}(I:Inv X KW σ H s)(h1:SqO X.K H a xs)(h2:SqO X.K H a ys):xs=ys:=I.list_inj h1.l h2.l
mutual
theorem iD(I:Inv X KW σ H s):∀(p q:PV)(v:V)(b:Bool),aN X.K H p v->aN X.K H q v->bE p q=some b->b=true
 | .non,q,v,b,h1,h2,e=>by
  cases (show v=.non from h1);cases q with
  | non=>simpa [bE] using e.symm
  | bl j=>cases (show V.non=.bl j from h2)
  | int j=>cases (show V.non=.int j from h2)
  | str j=>cases (show V.non=.str j from h2)
  | tup qs=>obtain⟨a,xs,z,_⟩:=aN.tup_inv h2;cases z
  | lst qs=>obtain⟨a,xs,z,_⟩:=aN.lst_inv h2;cases z
  | _=>simp[bE] at e
 | .bl i,q,v,b,h1,h2,e=>by
  cases (show v=.bl i from h1);cases q with
  | bl j=>cases (show V.bl i=.bl j from h2);simpa [bE] using e.symm
  | non=>cases (show V.bl i=.non from h2)
  | int j=>cases (show V.bl i=.int j from h2)
  | str j=>cases (show V.bl i=.str j from h2)
  | tup qs=>obtain⟨a,xs,z,_⟩:=aN.tup_inv h2;cases z
  | lst qs=>obtain⟨a,xs,z,_⟩:=aN.lst_inv h2;cases z
  | _=>simp[bE] at e
 | .int i,q,v,b,h1,h2,e=>by
  cases (show v=.int i from h1);cases q with
  | int j=>cases (show V.int i=.int j from h2);simpa [bE] using e.symm
  | bl j=>cases (show V.int i=.bl j from h2)
  | non=>cases (show V.int i=.non from h2)
  | str j=>cases (show V.int i=.str j from h2)
  | tup qs=>obtain⟨a,xs,z,_⟩:=aN.tup_inv h2;cases z
  | lst qs=>obtain⟨a,xs,z,_⟩:=aN.lst_inv h2;cases z
  | _=>simp[bE] at e
 | .str i,q,v,b,h1,h2,e=>by
  cases (show v=.str i from h1);cases q with
  | str j=>cases (show V.str i=.str j from h2);simpa [bE] using e.symm
  | bl j=>cases (show V.str i=.bl j from h2)
  | non=>cases (show V.str i=.non from h2)
  | int j=>cases (show V.str i=.int j from h2)
  | tup qs=>obtain⟨a,xs,z,_⟩:=aN.tup_inv h2;cases z
  | lst qs=>obtain⟨a,xs,z,_⟩:=aN.lst_inv h2;cases z
  | _=>simp[bE] at e
 | .tup ps,q,v,b,h1,h2,e=>by
  obtain⟨a,xs,rfl,g1,r1⟩:=aN.tup_inv h1;cases q with
  | tup qs=>
   obtain⟨a2,ys,z,g2,r2⟩:=aN.tup_inv h2;cases z;cases I.tuple_inj g1 g2;exact kD I ps qs xs b r1 r2 (by simpa [bE] using e)
  | lst qs=>
   obtain⟨a2,ys,z,g2,r2⟩:=aN.lst_inv h2;cases z;exact(jz I g1 g2).elim
  | non=>cases (show V.ref a=.non from h2)
  | bl j=>cases (show V.ref a=.bl j from h2)
  | int j=>cases (show V.ref a=.int j from h2)
  | str j=>cases (show V.ref a=.str j from h2)
  | _=>simp[bE] at e
 | .lst ps,q,v,b,h1,h2,e=>by
  obtain⟨a,xs,rfl,g1,r1⟩:=aN.lst_inv h1;cases q with
  | lst qs=>
   obtain⟨a2,ys,z,g2,r2⟩:=aN.lst_inv h2;cases z;cases Bo I g1 g2;exact kD I ps qs xs b r1 r2 (by simpa [bE] using e)
  | tup qs=>
   obtain⟨a2,ys,z,g2,r2⟩:=aN.tup_inv h2;cases z;exact(jz I g2 g1).elim
  | non=>cases (show V.ref a=.non from h2)
  | bl j=>cases (show V.ref a=.bl j from h2)
  | int j=>cases (show V.ref a=.int j from h2)
  | str j=>cases (show V.ref a=.str j from h2)
  | _=>simp[bE] at e
 | .dct _ _,_,_,_,_,_,e=>by simp[bE] at e
 | .dtt _ _,_,_,_,_,_,e=>by simp[bE] at e
 | .fn _ _,_,_,_,_,_,e=>by simp[bE] at e
theorem kD(I:Inv X KW σ H s):∀(ps qs:List PV)(xs:List V)(b:Bool),au X.K H ps xs->au X.K H qs xs->cQ ps qs=some b->b=true
 | [],qs,xs,b,r1,r2,e=>by
  cases r1;cases qs with
  | nil=>simpa [cQ] using e.symm
  | cons q qs=>obtain⟨x,r,z,_⟩:=r2;cases z
 | p::ps,qs,xs,b,r1,r2,e=>by
  obtain⟨x,r,rfl,h1,t1⟩:=r1;cases qs with
  | nil=>cases (show x::r=[] from r2)
  | cons q qs=>
   obtain⟨x2,r2',z,h2,t2⟩:=r2;cases z;simp only[cQ] at e;obtain⟨b1,e1,e⟩:=LD.mp e;obtain⟨b2,e2,e⟩:=LD.mp e;cases e;rw[iD I p q x b1 h1.o h2.o e1,kD I ps qs r b2 t1 t2 e2];rfl
end
theorem m8{p q:PV}{ps qs:List PV}{j:Nat}:hV (p::ps) (q::qs) (j+1)=hV ps qs j:=by simp[hV]
theorem jS:∀(ps qs:List PV)(b:Bool),cQ ps qs=some b->((L7 (min ps.length qs.length)).all (hV ps qs) && ps.length == qs.length)=b
 | [],[],b,e=>by simp[cQ] at e;simp[e]
 | [],_::_,b,e=>by simp[cQ] at e;simp[e]
 | _::_,[],b,e=>by simp[cQ] at e;simp[e]
 | p::ps,q::qs,b,e=>by
  simp only[cQ] at e;obtain⟨b1,e1,e⟩:=LD.mp e;obtain⟨b2,e2,e⟩:=LD.mp e;cases e;have ih:=jS ps qs b2 e2;have hm:min (p::ps).length (q::qs).length=min ps.length qs.length+1:=by simp only[Lj];omega
  rw[hm,Pn,Nz,List.all_map];have h0:hV (p::ps) (q::qs) 0=b1:=by simp[hV,e1]
  have hs:(hV (p::ps) (q::qs) ∘ Nat.succ)=hV ps qs:=by funext j;exact m8
  rw[h0,hs,← ih,Lj,Lj];simp[Bool.and_assoc]
theorem nF:∀{ps:List PV}{j:Nat}{p:PV},ps[j]?=some p->z7 p<=dU ps
 | [],_,_,h=>by simp at h
 | p::ps,0,_,h=>by simp at h;subst h;simp only[dU];omega
 | p::ps,j+1,q,h=>by
  have:=nF (ps:=ps) (j:=j) (p:=q) (by simpa using h);simp only[dU];omega
mutual
theorem sP(I:Inv X KW σ H s):∀(p q:PV)(A:Ls)(v u:V)(v' u':L3)(b:Bool),aN X.K H p v->aN X.K H q u->RelV v v'->RelV u u'->bE p q=some b->A.units+z7 p<cLine->EqAt A s v' u' b
 | .non,q,A,v,u,v',u',b,h1,h2,e1,e2,e,hu=>by
  cases (show v=.non from h1);cases e1;have hu:=OV (Pk _ _) hu;cases q with
  | non=>cases (show u=.non from h2);cases e2;simp[bE] at e;subst e;exact EqAt.same _
  | bl j=>cases (show u=.bl j from h2);cases e2;simp[bE] at e;subst e;exact EqAt.none_bool j
  | int j=>cases (show u=.int j from h2);obtain⟨t,rfl⟩:=e2;simp[bE] at e;subst e;exact EqAt.none_int j t
  | str j=>cases (show u=.str j from h2);obtain⟨t,rfl⟩:=e2;simp[bE] at e;subst e;exact EqAt.none_str j t
  | tup qs=>obtain⟨a,xs,rfl,g,_⟩:=aN.tup_inv h2;cases e2;obtain⟨its,_,pl,_⟩:=I.tuple g;simp[bE] at e;subst e;exact EqAt.none_tuple pl hu
  | lst qs=>obtain⟨a,xs,rfl,g,_⟩:=aN.lst_inv h2;cases e2;obtain⟨its,_,pl,_⟩:=I.list g.l;simp[bE] at e;subst e;exact EqAt.none_list pl.isList hu
  | _=>simp[bE] at e
 | .bl i,q,A,v,u,v',u',b,h1,h2,e1,e2,e,hu=>by
  cases (show v=.bl i from h1);cases e1;have hu:=OV (Pk _ _) hu;cases q with
  | non=>cases (show u=.non from h2);cases e2;simp[bE] at e;subst e;exact EqAt.bool_none i
  | bl j=>cases (show u=.bl j from h2);cases e2;simp only[bE,Nj] at e;subst e;exact EqAt.bool_bool i j
  | int j=>cases (show u=.int j from h2);obtain⟨t,rfl⟩:=e2;simp only[bE,Nj] at e;subst e;exact EqAt.bool_int i j t
  | str j=>cases (show u=.str j from h2);obtain⟨t,rfl⟩:=e2;simp[bE] at e;subst e;exact EqAt.bool_str i j t
  | tup qs=>obtain⟨a,xs,rfl,g,_⟩:=aN.tup_inv h2;cases e2;obtain⟨its,_,pl,_⟩:=I.tuple g;simp[bE] at e;subst e;exact EqAt.bool_tuple i pl hu
  | lst qs=>obtain⟨a,xs,rfl,g,_⟩:=aN.lst_inv h2;cases e2;obtain⟨its,_,pl,_⟩:=I.list g.l;simp[bE] at e;subst e;exact EqAt.bool_list i pl.isList hu
  | _=>simp[bE] at e
 | .int i,q,A,v,u,v',u',b,h1,h2,e1,e2,e,hu=>by
  cases (show v=.int i from h1);obtain⟨t',rfl⟩:=e1;have hu:=OV (Pk _ _) hu;cases q with
  | non=>cases (show u=.non from h2);cases e2;simp[bE] at e;subst e;exact EqAt.int_none i t'
  | bl j=>cases (show u=.bl j from h2);cases e2;simp only[bE,Nj] at e;subst e;exact EqAt.int_bool i t' j
  | int j=>cases (show u=.int j from h2);obtain⟨t,rfl⟩:=e2;simp only[bE,Nj] at e;subst e;exact EqAt.int_int i t' j t
  | str j=>cases (show u=.str j from h2);obtain⟨t,rfl⟩:=e2;simp[bE] at e;subst e;exact EqAt.int_str i t' j t
  | tup qs=>obtain⟨a,xs,rfl,g,_⟩:=aN.tup_inv h2;cases e2;obtain⟨its,_,pl,_⟩:=I.tuple g;simp[bE] at e;subst e;exact EqAt.int_tuple i t' pl hu
  | lst qs=>obtain⟨a,xs,rfl,g,_⟩:=aN.lst_inv h2;cases e2;obtain⟨its,_,pl,_⟩:=I.list g.l;simp[bE] at e;subst e;exact EqAt.int_list i t' pl.isList hu
  | _=>simp[bE] at e
 | .str i,q,A,v,u,v',u',b,h1,h2,e1,e2,e,hu=>by
  cases (show v=.str i from h1);obtain⟨t',rfl⟩:=e1;have hu:=OV (Pk _ _) hu;cases q with
  | non=>cases (show u=.non from h2);cases e2;simp[bE] at e;subst e;exact EqAt.str_none i t'
  | bl j=>cases (show u=.bl j from h2);cases e2;simp[bE] at e;subst e;exact EqAt.str_bool i t' j
  | int j=>cases (show u=.int j from h2);obtain⟨t,rfl⟩:=e2;simp[bE] at e;subst e;exact EqAt.str_int i t' j t
  | str j=>cases (show u=.str j from h2);obtain⟨t,rfl⟩:=e2;simp only[bE,Nj] at e;subst e;exact EqAt.str_str i t' j t
  | tup qs=>obtain⟨a,xs,rfl,g,_⟩:=aN.tup_inv h2;cases e2;obtain⟨its,_,pl,_⟩:=I.tuple g;simp[bE] at e;subst e;exact EqAt.str_tuple i t' pl hu
  | lst qs=>obtain⟨a,xs,rfl,g,_⟩:=aN.lst_inv h2;cases e2;obtain⟨its,_,pl,_⟩:=I.list g.l;simp[bE] at e;subst e;exact EqAt.str_list i t' pl.isList hu
  | _=>simp[bE] at e
 | .tup ps,q,A,v,u,v',u',b,h1,h2,e1,e2,e,hu=>by
  obtain⟨a,xs,rfl,g1,r1⟩:=aN.tup_inv h1;cases e1;obtain⟨its,rv,pl,_⟩:=I.tuple g1;simp only[z7] at hu;have hu0:A.units<cLine:=by omega
  cases q with
  | non=>cases (show u=.non from h2);cases e2;simp[bE] at e;subst e;exact EqAt.tuple_none pl hu0
  | bl j=>cases (show u=.bl j from h2);cases e2;simp[bE] at e;subst e;exact EqAt.tuple_bool j pl hu0
  | int j=>cases (show u=.int j from h2);obtain⟨t,rfl⟩:=e2;simp[bE] at e;subst e;exact EqAt.tuple_int j t pl hu0
  | str j=>cases (show u=.str j from h2);obtain⟨t,rfl⟩:=e2;simp[bE] at e;subst e;exact EqAt.tuple_str j t pl hu0
  | lst qs=>obtain⟨a2,ys,rfl,g,_⟩:=aN.lst_inv h2;cases e2;obtain⟨its2,_,pl2,_⟩:=I.list g.l;simp[bE] at e;subst e;exact EqAt.tuple_list pl pl2.isList hu0
  | tup qs=>
   by_cases hv:V.ref a=u
   ·subst hv
    rw[iD I _ _ _ b h1 h2 e];cases e2;exact EqAt.same _
   ·obtain⟨a2,ys,rfl,g2,r2⟩:=aN.tup_inv h2
    cases e2;obtain⟨its2,rv2,pl2,_⟩:=I.tuple g2;have l1:=r1.length;have l2:=r2.length;have l3:=rv.length;have l4:=rv2.length;have e':cQ ps qs=some b:=by simpa [bE] using e
    rw[← jS ps qs b e',show ps.length=its.toArray.size by simp;omega,show qs.length=its2.toArray.size by simp;omega];refine EqAt.of_refs (fun z=>hv (by rw[z])) (RcAt.tuples pl pl2 hu0 fun j j1 j2=>?_);have:=l9 I ps qs A.in1 xs ys its its2 b r1 r2 rv rv2 e' (by show A.units+1+_<_;omega) j (by simpa using j1) (by simpa using j2);simpa using this
  | _=>simp[bE] at e
 | .lst ps,q,A,v,u,v',u',b,h1,h2,e1,e2,e,hu=>by
  obtain⟨a,xs,rfl,g1,r1⟩:=aN.lst_inv h1;cases e1;obtain⟨its,rv,pl,_⟩:=I.list g1.l;simp only[z7] at hu;have hu0:A.units<cLine:=by omega
  cases q with
  | non=>cases (show u=.non from h2);cases e2;simp[bE] at e;subst e;exact EqAt.list_none pl.isList hu0
  | bl j=>cases (show u=.bl j from h2);cases e2;simp[bE] at e;subst e;exact EqAt.list_bool j pl.isList hu0
  | int j=>cases (show u=.int j from h2);obtain⟨t,rfl⟩:=e2;simp[bE] at e;subst e;exact EqAt.list_int j t pl.isList hu0
  | str j=>cases (show u=.str j from h2);obtain⟨t,rfl⟩:=e2;simp[bE] at e;subst e;exact EqAt.list_str j t pl.isList hu0
  | tup qs=>obtain⟨a2,ys,rfl,g,_⟩:=aN.tup_inv h2;cases e2;obtain⟨its2,_,pl2,_⟩:=I.tuple g;simp[bE] at e;subst e;exact EqAt.list_tuple pl.isList pl2 hu0
  | lst qs=>
   by_cases hv:V.ref a=u
   ·subst hv
    rw[iD I _ _ _ b h1 h2 e];cases e2;exact EqAt.same _
   ·obtain⟨a2,ys,rfl,g2,r2⟩:=aN.lst_inv h2
    cases e2;obtain⟨its2,rv2,pl2,_⟩:=I.list g2.l;have l1:=r1.length;have l2:=r2.length;have l3:=rv.length;have l4:=rv2.length;have e':cQ ps qs=some b:=by simpa [bE] using e
    have hp:=jS ps qs b e';refine EqAt.of_refs (fun z=>hv (by rw[z])) ?_
    by_cases hl:ps.length=qs.length
    ·have hb:(L7 its.toArray.size).all (hV ps qs)=b:=by
      rw[← hp,hl,Nat.min_self,beq_self_eq_true,Rl,show its.toArray.size=qs.length by simp;omega]
     rw[← hb];refine RcAt.lists pl.isList pl2.isList (by simp;omega) hu0 fun j j1 j2=>?_;have:=l9 I ps qs A.in1 xs ys its its2 b r1 r2 rv rv2 e' (by show A.units+1+_<_;omega) j (by simpa using j1) (by simpa using j2);simpa using this
    ·have hb:b=false:=by
      rw[← hp,beq_eq_false_iff_ne.mpr hl,Q4]
     rw[hb];exact RcAt.lists_lengths pl.isList pl2.isList (by simp;omega) hu0
  | _=>simp[bE] at e
 | .dct _ _,_,_,_,_,_,_,_,_,_,_,_,e,_=>by simp[bE] at e
 | .dtt _ _,_,_,_,_,_,_,_,_,_,_,_,e,_=>by simp[bE] at e
 | .fn _ _,_,_,_,_,_,_,_,_,_,_,_,e,_=>by simp[bE] at e
theorem l9(I:Inv X KW σ H s):∀(ps qs:List PV)(A:Ls)(xs ys:List V)(vs ws:List L3)(b:Bool),au X.K H ps xs->au X.K H qs ys->Vals xs vs->Vals ys ws->cQ ps qs=some b->A.units+dU ps<cLine->
  ∀j (h1:j<vs.length) (h2:j<ws.length),EqAt A s vs[j] ws[j] (hV ps qs j)
 | [],qs,A,xs,ys,vs,ws,b,r1,r2,rv,rw',e,hu,j,h1,h2=>by
  cases r1;cases rv;exact absurd h1 (RC _)
 | p::ps,[],A,xs,ys,vs,ws,b,r1,r2,rv,rw',e,hu,j,h1,h2=>by
  cases r2;cases rw';exact absurd h2 (RC _)
 | p::ps,q::qs,A,xs,ys,vs,ws,b,r1,r2,rv,rw',e,hu,j,h1,h2=>by
  obtain⟨x,r,rfl,p1,t1⟩:=r1;obtain⟨y,r',rfl,p2,t2⟩:=r2;cases rv with
  | cons a1 c1=>
   cases rw' with
   | cons a2 c2=>
    simp only[cQ] at e;obtain⟨b1,e1,e⟩:=LD.mp e;obtain⟨b2,e2,e⟩:=LD.mp e;simp only[dU] at hu;cases j with
    | zero=>
     have:hV (p::ps) (q::qs) 0=b1:=by simp[hV,e1]
     rw[this];exact sP I p q A x y _ _ b1 p1.o p2.o a1 a2 e1 (by omega)
    | succ j=>
     rw[m8];exact l9 I ps qs A r r' _ _ b2 t1 t2 c1 c2 e2 (by omega) j (SD h1) (SD h2)
end
end
end PU
namespace PU
open PySem PySem.Spec PyProof.Rows L2 PySem.SeqAt PySem.Calls PyProof.V
variable[TW]
def EqW(P:Lf)(w:Ln)(A:Ls)(s:L6)(y x:L3)(b:Bool):Prop:=∀(E:L3->L6->Prop)(Q:Bool->L6->Prop),Q b s->LY (Ll P w) A (eqBool y x) Q E s
theorem EqW.of{P:Lf}{w:Ln}{A:Ls}{s:L6}{y x:L3}{b:Bool}(h:EqAt A s y x b):EqW P w A s y x b:=fun E Q q=>h P w E Q q
section
variable{P : Lf}{w : Ln}{κ : Type}[DecidableEq κ]{kd : KeyKind P w κ}{A : Ls}{E : L3 → L6 → Prop}{s : L6}
inductive HitW (P:Lf) (w:Ln) (A:Ls) (s:L6) (other:List (κ×L3)):List (κ×L3)->Bool->Prop
 | done:HitW P w A s other [] true
 | lacks {k:κ} {v:L3} {t:List (κ×L3)}:Mp other k=none->HitW P w A s other ((k,v)::t) false
 | meets {k:κ} {v y:L3} {t:List (κ×L3)} {e b:Bool}:Mp other k=some y->EqW P w A s v y e->HitW P w A s other t b->HitW P w A s other ((k,v)::t) (e && b)
theorem HitW.split{other:List (κ×L3)}{k:κ}{v:L3}{t:List (κ×L3)}{b:Bool}(h:HitW P w A s other ((k,v)::t) b) :
  (Mp other k=none/\b=false)\/∃y e c,Mp other k=some y/\EqW P w A s v y e/\HitW P w A s other t c/\b=(e && c):=by
 cases h with
 | lacks n=>exact .inl ⟨n,rfl⟩
 | meets y1 y2 y3=>exact .inr ⟨_,_,_,y1,y2,y3,rfl⟩
theorem tF{nm:String}{d1 d2:Addr}{l1 l2:List (κ×L3)}{r:Bool}{Q:Bool->L6->Prop}(n1:(d1 == MA)=false)(n2:(d2 == MA)=false)(D1:s.heap.DictOf kd d1 l1)(D2:s.heap.DictOf kd d2 l2)
  (hh:l1.length=l2.length->HitW P w A s l2 l1 r) (q:Q (l1.length == l2.length && r) s):LY (Ll P w) A (Qo nm d1 d2) Q E s:=by
 obtain⟨o1,es1,c1,get1,_,dat1,ks1,prs1,_⟩:=D1;obtain⟨o2,es2,c2,get2,_,dat2,ks2,prs2,_⟩:=D2;have len1:l1.length=es1.size:=by rw[← prs1.length];exact Nc
 have len2:l2.length=es2.size:=by rw[← prs2.length];exact Nc
 have seek:∀k,findBy kd.is es2 k=Mp l2 k:=fun k=>by
  rw[← prs2.find k];clear len2 prs2 ks2 dat2 get2;cases es2;simp[findBy]
 rw[len1,len2] at q;unfold Qo Builtin.Dict.showsAll;rw[if_neg (by rw[n1];exact LK),if_neg (by rw[n2];exact LK)];refine L1 (L9 (L1 (L9 (L1 (OE get1 dat1 ?_)))));dsimp only;refine L1 (OE get2 dat2 ?_)
 by_cases sz:es1.size=es2.size
 case neg=>
  rw[if_pos (by simpa using sz)];have no:(es1.size == es2.size)=false:=by simpa using sz
  rw[no,RU] at q;exact L1 (Q5 (L9 q))
 case pos=>
  have q':Q r s:=by simpa [sz] using q
  have hh':=hh (by rw[len1,len2];exact sz);rw[if_neg (by rw[sz];simp)];refine L1 (QD get1 dat1 (L1 ?_));rw[Std.Legacy.Range.forIn_eq_forIn_range'];simp only[Std.Legacy.Range.size,Nat.sub_zero,Nat.add_sub_cancel,Nat.div_one];refine wpAny_forIn_list _ (fun todo z s'=>s'=s/\z=(none,())/\∃j,todo=List.range' j (es1.size-j)/\j<=es1.size/\HitW P w A s l2 (l1.drop j) r) _ ?_ ?_ _ _ ⟨rfl,rfl,0,by simp,M0 _,hh'⟩
  ·rintro x todo z s' ⟨rfl,rfl,j,et,hj,rest⟩
   have lt:j<es1.size:=by
    rcases Oe j es1.size with g | g
    ·exact g
    ·rw[Nat.sub_eq_zero_of_le g] at et;simp at et
   have e1:es1.size-j=(es1.size-(j+1))+1:=by omega
   rw[e1,List.range'_succ] at et;injection et with ex et;subst ex;refine L1 (OE get1 dat1 ?_);rw[Mt lt];have lt':x<l1.length:=by rw[len1];exact lt
   obtain⟨k,v,ekv⟩:∃k v,l1[x]=(k,v):=⟨_,_,rfl⟩;have cut:l1.drop x=(k,v)::l1.drop (x+1):=by rw[← ekv];exact Mc lt'
   obtain⟨isk,isv⟩:=prs1.get? (i:=x) (e:=es1[x]) (k:=k) (v:=v) (by rw[Rz];exact Mt lt) (by rw[LU lt',ekv]);obtain⟨k',isk',hs⟩:=ks1 es1[x] (Array.getElem_mem lt);have ek:k'=k:=kd.inj _ _ _ isk' isk;rw[ek] at hs;rw[cut] at rest;show LY _ _ (holding [es1[x].key,es1[x].val] _ >>= _) _ _ _;rw[hs];refine L1 (Mj (L1 (wpAny_dictFind_of isk get2 dat2 ks2 ?_)));cases at2:es2.findIdx? fun e=>kd.is k e.key with
   | none=>
    have nn:Mp l2 k=none:=by rw[← seek k,findBy_of_findIdx?,at2]
    rcases rest.split with⟨_,er⟩|⟨y,_,_,hy,_⟩
    ·rw[er] at q'
     refine L9 ?_;show LY _ _ (if (!false)=true then _ else _) _ _ _;rw[if_pos (by decide)];exact L9 (L9 q')
    ·rw[nn] at hy;cases hy
   | some m=>
    obtain⟨mlt,_,_⟩:=Array.findIdx?_eq_some_iff_getElem.mp at2
    have vv:Mp l2 k=some es2[m].val:=by
     rw[← seek k,findBy_of_findIdx?,at2];simp[Mt mlt]
    refine L1 (OE get2 dat2 ?_);rw[Mt mlt];rcases rest.split with⟨nn,_⟩|⟨y,e,c,hy,he,ht,er⟩
    ·rw[vv] at nn;cases nn
    ·have ey:es2[m].val=y:=M4 (vv.symm.trans hy)
     rw[← ey,← isv] at he;refine Mj (he _ _ ?_);cases e with
     | false=>
      rw[er,RU] at q';show LY _ _ (if (!false)=true then _ else _) _ _ _;rw[if_pos (by decide)];exact L9 (L9 q')
     | true=>
      rw[Ri] at er;rw[← er] at ht;show LY _ _ (if (!true)=true then _ else _) _ _ _;rw[if_neg (by decide)];refine L1 (QD get1 dat1 ?_);rw[if_neg (by simp)];exact L9 ⟨rfl,rfl,x+1,et,lt,ht⟩
  ·rintro z s' ⟨rfl,rfl,j,et,hj,rest⟩
   have ej:j=es1.size:=by
    rcases Oe j es1.size with g | g
    ·have e1:es1.size-j=(es1.size-(j+1))+1:=by omega
     rw[e1,List.range'_succ] at et;cases et
    ·exact Nat.le_antisymm hj g
   refine L9 ?_;rw[ej,← len1,Ng] at rest;cases rest;exact q'
theorem jZ{d1 d2:Addr}{l1 l2:List (κ×L3)}{r:Bool}{Q:L3->L6->Prop}(n1:(d1 == MA)=false)(n2:(d2 == MA)=false)(D1:s.heap.DictOf kd d1 l1)(D2:s.heap.DictOf kd d2 l2)(hu:A.units<cLine)
  (hh:l1.length=l2.length->HitW P w A.in1 s l2 l1 r) (q:Q (.bool (l1.length == l2.length && r)) s):LY (Ll P w) A (richCompare .Eq (.ref d1) (.ref d2)) Q E s:=by
 refine wpAny_richCompare_same_room (op:=.Eq) D1.typeIs D2.typeIs Rn (OO Rn D1.typeIs PySem.F.entry_dict_eq ?_ (PySem.F.args_dict_eq_2 _ _)) hu;show LY _ _ (QV "__eq__" ⟨[.ref d1,.ref d2],[]⟩ >>= _) _ _ s;unfold QV;refine L1 (L1 (QG D1.typeIs ?_));show LY _ _ (pure (M1 d1,M1 d2)) _ _ s;refine L9 (L1 (Pz (T:="dict") D2.typeIs PySem.F.sub_dict_dict ?_));simp only[Bool.not_true,M9,if_false];refine L1 (L9 (L1 (L9 (L1 (tF n1 n2 D1 D2 hh (L9 ⟨_,rfl,(fun z=>nomatch z),?_⟩))))));simpa using q
end
section
variable{X : Cx}{KW : List (Addr×Mi)}{σ : L2.St}{H : Hp}{s : L6}
theorem lQ{kvs:List (Key×V)}{vs:List (Key×L3)}(r:KV kvs vs)(k:Key):(jI kvs k=none/\Mp vs k=none)\/∃v u,jI kvs k=some v/\Mp vs k=some u/\RelV v u:=by
 induction r with
 | nil=>exact .inl ⟨rfl,rfl⟩
 | @cons p q ps qs h t ih=>
  obtain⟨h1,h2⟩:=h
  by_cases e:p.1=k
  ·refine .inr ⟨p.2,q.2,ir e,?_,h2⟩
   simp[Mp,NC,← h1,e]
  ·rw[fq e]
   have e2:Mp (q::qs) k=Mp qs k:=by simp[Mp,NC,← h1,e]
   rw[e2];exact ih
theorem mh{k:Key}:∀{ks:List Key}{ps:List PV}{kvs:List (Key×V)},kvs.map (·.1)=ks->ps.length=kvs.length->bK ks ps k=none->jI kvs k=none
 | [],_,kvs,e,_,_=>by
  have:kvs=[]:=by simpa using e
  subst this;rfl
 | j::ks,[],kvs,e,hl,_=>by
  have:kvs.length=0:=by simpa using hl.symm
  have:kvs=[]:=N7 this;subst this;cases e
 | j::ks,p::ps,kv::kvs,e,hl,h=>by
  have e1:kv.1=j:=by simpa using congrArg QO e
  have e2:kvs.map (·.1)=ks:=by simpa using congrArg Qr e
  have h:(if j=k then some p else bK ks ps k)=none:=h;split at h
  ·cases h
  ·rename_i hn
   rw[fq (by rw[e1];exact hn)];exact mh e2 (by simpa using hl) h
 | j::ks,p::ps,[],e,_,_=>by cases e
theorem iI{K:L0}{H:Hp}{k:Key}:∀{ks:List Key}{ps:List PV}{kvs:List (Key×V)}{p:PV},kvs.map (·.1)=ks->au K H ps (kvs.map (·.2))->bK ks ps k=some p->∃v,jI kvs k=some v/\Rep K H p v
 | _,_,[],_,h1,h2,e=>by
  subst h1;simp only[Nm,bK] at e;cases e
 | _,[],kv::kvs,_,h1,h2,e=>by
  cases h2
 | _,q::ps,kv::kvs,p,h1,h2,e=>by
  subst h1;obtain⟨x,r,ex,hx,ht⟩:=h2;simp only[L8,Ni] at ex;obtain⟨rfl,rfl⟩:=ex;simp only[L8,bK] at e
  by_cases hk:kv.1=k
  ·rw[if_pos hk] at e
   cases e;exact⟨kv.2,ir hk,hx⟩
  ·rw[if_neg hk] at e
   rw[fq hk];exact iI rfl ht e
theorem nZ(A:Ls)(eqf:PV->PV->Option Bool)(I:Inv X KW σ H s){ls:List Key}{qs:List PV}{kvs2:List (Key×V)}{vs2:List (Key×L3)}(e2:kvs2.map (·.1)=ls)(r2:au X.K H qs (kvs2.map (·.2)))(kv2:KV kvs2 vs2) :
  ∀(ks:List Key)(ps:List PV)(kvs1:List (Key×V))(vs1:List (Key×L3))(b:Bool),kvs1.map (·.1)=ks->au X.K H ps (kvs1.map (·.2))->KV kvs1 vs1->kT eqf ks ps ls qs=some b->
   (∀p∈ps,∀(q:PV)(v u:V)(v' u':L3)(c:Bool),aN X.K H p v->aN X.K H q u->RelV v v'->RelV u u'->eqf p q=some c->EqW X.prog X.w A s v' u' c)->HitW X.prog X.w A s vs2 vs1 b
 | [],[],kvs1,vs1,b,e1,r1,kv1,h,_=>by
  have:kvs1=[]:=by simpa using e1
  subst this;cases kv1;have h:some true=some b:=h;cases h;exact .done
 | k::ks,p::ps,kvs1,vs1,b,e1,r1,kv1,h,he=>by
  cases kvs1 with
  | nil=>cases e1
  | cons kv kvs=>
   have ek:kv.1=k:=by simpa using congrArg QO e1
   have et:kvs.map (·.1)=ks:=by simpa using congrArg Qr e1
   obtain⟨x,r,ex,rp,rt⟩:=r1;have exx:kv.2=x:=by simpa using congrArg QO ex
   have err:kvs.map (·.2)=r:=by simpa using congrArg Qr ex
   cases kv1 with
   | @cons _ q _ qs' hd tl=>
    obtain⟨k',u1⟩:=q;obtain⟨h1,h2⟩:=hd;have h1:kv.1=k':=h1;have h2:RelV kv.2 u1:=h2;subst err;rw[← h1,ek];unfold kT at h;cases hl:bK ls qs k with
    | none=>
     rw[hl] at h;have h:some false=some b:=h;cases h;have:=mh e2 (by rw[r2.length,LA]) hl;rcases lQ kv2 k with⟨_,z⟩|⟨v,u,z,_⟩
     ·exact .lacks z
     ·rw[this] at z;cases z
    | some q2=>
     rw[hl] at h;have h:((eqf p q2).bind fun a=>(kT eqf ks ps ls qs).bind fun b=>some (a && b))=some b:=h;obtain⟨c1,g1,h⟩:=LD.mp h;obtain⟨c2,g2,h⟩:=LD.mp h;cases h;obtain⟨v2,ev2,rp2⟩:=iI e2 r2 hl;rcases lQ kv2 k with⟨z,_⟩|⟨v,u,z,z2,z3⟩
     ·rw[ev2] at z;cases z
     ·rw[ev2] at z
      cases z;exact .meets z2 (he p Le q2 kv.2 v2 u1 u c1 (exx▸rp.o) rp2.o h2 z3 g1) (nZ A eqf I e2 r2 kv2 ks ps kvs qs' c2 et rt tl g2 fun p' hp'=>he p' (Lg _ hp'))
 | [],_::_,_,_,_,_,_,_,h,_=>by cases h
 | _::_,[],_,_,_,_,_,_,h,_=>by cases h
theorem vS{k:Key}{r:PV}:∀(ks:List Key)(ps:List PV),ks.length=ps.length->k ∉ ks->∀(ls:List Key)(qs:List PV),bK (ks++k::ls) (ps++r::qs) k=some r
 | [],[],_,_,ls,qs=>by
  show (if k=k then some r else _)=_;rw[if_pos rfl]
 | j::ks,p::ps,hl,hn,ls,qs=>by
  show (if j=k then some p else bK (ks++k::ls) (ps++r::qs) k)=_;rw[if_neg (fun e=>hn (by rw[e];exact Le))];exact vS ks ps (by simpa using hl) (fun h=>hn (Lg _ h)) ls qs
 | [],_::_,h,_,_,_=>by simp at h
 | _::_,[],h,_,_,_=>by simp at h
theorem ph{P:Lf}{w:Ln}{κ:Type}[DecidableEq κ]{kd:KeyKind P w κ}:∀{es:List DictEntry}{l1 l2:List (κ×L3)},Pairs kd es l1->Pairs kd es l2->l1=l2
 | _,_,_,.nil,.nil=>rfl
 | _,_,_,.cons a b c,.cons a' b' c'=>by
  rw[ph c c'];have h1:=kd.inj _ _ _ a a';have h2:=b.symm.trans b';rw[RL h1 h2]
theorem ue{P:Lf}{w:Ln}{κ:Type}[DecidableEq κ]{kd:KeyKind P w κ}{h:Heap}{a:Addr}{l1 l2:List (κ×L3)}(d1:h.DictOf kd a l1)(d2:h.DictOf kd a l2):l1=l2:=by
 obtain⟨o1,es1,c1,get1,_,dat1,_,prs1,_⟩:=d1;obtain⟨o2,es2,c2,get2,_,dat2,_,prs2,_⟩:=d2;rw[get1] at get2;cases get2;rw[dat1] at dat2;cases dat2;exact ph prs1 prs2
theorem AB:∀{l1 l2:List (Key×V)}{vs:List (Key×L3)},KV l1 vs->KV l2 vs->l1=l2
 | _,_,_,.nil,.nil=>rfl
 | _,_,_,.cons a c,.cons a' c'=>by
  rw[AB c c'];rw[RL (a.1.trans a'.1.symm) (RelV.inj a.2 a'.2)]
theorem vZ:∀{l:List (Key×V)}{vs:List (Key×L3)},KV l vs->l.map (·.1)=vs.map (·.1)
 | _,_,.nil=>rfl
 | _,_,.cons a c=>by rw[L8,L8,vZ c,a.1]
theorem pQ(eqf:PV->PV->Option Bool)(he:∀(p q:PV)(v:V)(c:Bool),Rep X.K H p v->Rep X.K H q v->eqf p q=some c->c=true):∀(kvs kvs0:List (Key×V))(qs0 qs ps:List PV)(b:Bool),
  ((kvs0++kvs).map (·.1)).Nodup->au X.K H qs0 (kvs0.map (·.2))->au X.K H qs (kvs.map (·.2))->au X.K H ps (kvs.map (·.2))->kT eqf (kvs.map (·.1)) ps ((kvs0++kvs).map (·.1)) (qs0++qs)=some b->b=true
 | [],kvs0,qs0,qs,ps,b,nd,r0,rq,rp,h=>by
  have:ps=[]:=N7 (by rw[rp.length];rfl);subst this;have h:some true=some b:=h;cases h;rfl
 | kv::kvs,kvs0,qs0,[],ps,b,nd,r0,rq,rp,h=>by
  have:=rq.length;simp at this
 | kv::kvs,kvs0,qs0,q::qs,[],b,nd,r0,rq,rp,h=>by
  have:=rp.length;simp at this
 | kv::kvs,kvs0,qs0,q::qs,p::ps,b,nd,r0,rq,rp,h=>by
  obtain⟨x,r,ex,rp1,rpt⟩:=rp;obtain⟨y,r',ey,rq1,rqt⟩:=rq;have exx:kv.2=x:=by simpa using congrArg QO ex
  have err:kvs.map (·.2)=r:=by simpa using congrArg Qr ex
  have eyy:kv.2=y:=by simpa using congrArg QO ey
  have err':kvs.map (·.2)=r':=by simpa using congrArg Qr ey
  subst exx eyy err;rw[← err'] at rqt
  have nk:kv.1 ∉ kvs0.map (·.1):=fun z=>by
   rw[Ld,MI] at nd;exact nd.2.2 _ z _ (by simp) rfl
  have lk:bK ((kvs0++kv::kvs).map (·.1)) (qs0++q::qs) kv.1=some q:=by
   rw[Ld,L8];exact vS _ _ (by rw[LA,r0.length,LA]) nk _ _
  rw[L8] at h;unfold kT at h;rw[lk] at h;have h:((eqf p q).bind fun a=>(kT eqf (kvs.map (·.1)) ps ((kvs0++kv::kvs).map (·.1)) (qs0++q::qs)).bind fun b=>some (a && b))=some b:=h;obtain⟨c1,g1,h⟩:=LD.mp h;obtain⟨c2,g2,h⟩:=LD.mp h;cases h;rw[he p q kv.2 c1 rp1 rq1 g1];have:=pQ eqf he kvs (kvs0++[kv]) (qs0++[q]) qs ps c2 (by simpa using nd) (by rw[Ld];exact r0.append (au.cons rq1 au.nil)) rqt rpt (by simpa using g2);rw[this];rfl
theorem vx(hw:X.w=TW.w)(I:Inv X KW σ H s):∀(n:Nat)(p q:PV)(v:V)(b:Bool),aN X.K H p v->aN X.K H q v->xV n p q=some b->b=true:=by
 intro n
 induction n with
 | zero=>
  intro p q v b h1 h2 e;have e:bE p q=some b:=by cases p <;> exact e
  exact iD I p q v b h1 h2 e
 | succ n ih=>
  intro p q v b h1 h2 e
  by_cases hd:∃ks ps ls qs,p=.dct ks ps/\q=.dct ls qs
  ·obtain⟨ks,ps,ls,qs,rfl,rfl⟩:=hd
   have e:(if ks.length=ls.length then kT (xV n) ks ps ls qs else some false)=some b:=e;obtain⟨a1,kvs1,rfl,d1,k1,r1⟩:=h1;obtain⟨a2,kvs2,ea,d2,k2,r2⟩:=h2;cases ea;obtain⟨_,n1,vs1,kv1,D1⟩:=DkR.at hw I d1;obtain⟨_,n2,vs2,kv2,D2⟩:=DkR.at hw I d2;have:=ue D1 D2;subst this;have:=AB kv1 kv2;subst this;subst k1;subst k2;rw[if_pos rfl] at e;obtain⟨_,_,_,_,_,_,_,_,nd⟩:=D1;exact pQ (xV n) (fun p q v c g1 g2 g=>ih p q v c g1.o g2.o g) kvs1 [] [] qs ps b (by rw[Nv,vZ kv1];exact nd) au.nil r2 r1 (by simpa using e)
  ·have e:bE p q=some b:=by
    rw[← e];cases p with
    | dct ks ps=>
     cases q with
     | dct ls qs=>exact absurd ⟨ks,ps,ls,qs,rfl,rfl⟩ hd
     | _=>rfl
    | _=>rfl
   exact iD I p q v b h1 h2 e
theorem CG(hw:X.w=TW.w)(I:Inv X KW σ H s):∀(n:Nat)(p q:PV)(A:Ls)(v u:V)(v' u':L3)(b:Bool),aN X.K H p v->aN X.K H q u->RelV v v'->RelV u u'->xV n p q=some b->A.units+z7 p<cLine->EqW X.prog X.w A s v' u' b:=by
 intro n
 induction n with
 | zero=>
  intro p q A v u v' u' b h1 h2 e1 e2 e hu;have e:bE p q=some b:=by cases p <;> exact e
  exact .of (sP I p q A v u v' u' b h1 h2 e1 e2 e hu)
 | succ n ih=>
  intro p q A v u v' u' b h1 h2 e1 e2 e hu
  by_cases hd:∃ks ps ls qs,p=.dct ks ps/\q=.dct ls qs
  ·obtain⟨ks,ps,ls,qs,rfl,rfl⟩:=hd
   have e0:=e;have h10:=h1;have h20:=h2;have e:(if ks.length=ls.length then kT (xV n) ks ps ls qs else some false)=some b:=e;obtain⟨a1,kvs1,rfl,d1,k1,r1⟩:=h1;obtain⟨a2,kvs2,rfl,d2,k2,r2⟩:=h2;cases e1;cases e2;obtain⟨_,n1,vs1,kv1,D1⟩:=DkR.at hw I d1;obtain⟨_,n2,vs2,kv2,D2⟩:=DkR.at hw I d2;have l1:vs1.length=ks.length:=by rw[← k1,LA];exact(M5 kv1).symm
   have l2:vs2.length=ls.length:=by rw[← k2,LA];exact(M5 kv2).symm
   simp only[z7] at hu;have hu0:A.units<cLine:=by omega
   have dep:∀p∈ps,z7 p<=dU ps:=fun p hp=>by
    obtain⟨j,hj⟩:=Mg.mp hp;exact nF hj
   by_cases same:a1=a2
   ·subst same
    rw[vx hw I (n+1) _ _ _ b h10 h20 e0];exact .of (EqAt.same _)
   ·intro E Q hq
    unfold eqBool;refine Mj (wpAny_ite_split (fun hab=>absurd (by have:=OQ hab;injection this) same) fun _=>L1 ?_)
    by_cases hl:ks.length=ls.length
    ·rw[if_pos hl] at e
     refine jZ (r:=b) n1 n2 D1 D2 hu0 (fun _=>nZ A.in1 (xV n) I k2 r2 kv2 ks ps kvs1 vs1 b k1 r1 kv1 e fun p hp q v u v' u' c g1 g2 g3 g4 g5=>ih p q A.in1 v u v' u' c g1 g2 g3 g4 g5 ?_) (Nd ?_)
     ·have:=dep p hp
      show A.units+1+_<_;omega
     ·have:(vs1.length == vs2.length)=true:=by rw[l1,l2,hl];simp
      rw[this,Ri];exact hq
    ·rw[if_neg hl] at e
     cases e;refine jZ (r:=false) n1 n2 D1 D2 hu0 (fun z=>absurd (by rw[← l1,← l2];exact z) hl) (Nd ?_);rw[Q4];exact hq
  ·have e:bE p q=some b:=by
    rw[← e];cases p with
    | dct ks ps=>
     cases q with
     | dct ls qs=>exact absurd ⟨ks,ps,ls,qs,rfl,rfl⟩ hd
     | _=>rfl
    | _=>rfl
   exact .of (sP I p q A v u v' u' b h1 h2 e1 e2 e hu)
end
end PU
namespace PU
open PySem PySem.Spec PyProof.Rows L2 PySem.SeqAt
variable[TW]
theorem bU{K:L0}{H:Hp}{p:PV}{v:V}(h:mq p=true)(r:aN K H p v):v=scV p:=by
 cases p with
 | non=>exact r
 | bl b=>exact r
 | int i=>exact r
 | str x=>exact r
 | _=>cases h
section
variable{X : Cx}
theorem rD{KW:List (Addr×Mi)}{σ:L2.St}{H:Hp}{s:L6}{ps qs:List PV}{v u:V}{v' u':L3}{b:Bool}(hu:X.A.units+64<cLine)(I:Inv X KW σ H s)(e:cQ ps qs=some b)(hd:dU ps<=60) :
  (aN X.K H (.tup ps) v->aN X.K H (.tup qs) u->RelV v v'->RelV u u'->RcAt X.A s v' u' b/\RcNeAt X.A s v' u' (!b))/\
  (aN X.K H (.lst ps) v->aN X.K H (.lst qs) u->RelV v v'->RelV u u'->RcAt X.A s v' u' b/\RcNeAt X.A s v' u' (!b)):=by
 have hu0:X.A.units<cLine:=by omega
 have hp:=jS ps qs b e;constructor
 ·intro h1 h2 e1 e2
  obtain⟨a,xs,rfl,g1,r1⟩:=aN.tup_inv h1;obtain⟨a2,ys,rfl,g2,r2⟩:=aN.tup_inv h2;cases e1;cases e2;obtain⟨its,rv,pl,_⟩:=I.tuple g1;obtain⟨its2,rv2,pl2,_⟩:=I.tuple g2;have l1:=r1.length;have l2:=r2.length;have l3:=rv.length;have l4:=rv2.length
  have each:∀j (j1:j<its.toArray.size) (j2:j<its2.toArray.size),EqAt X.A.in1 s its.toArray[j] its2.toArray[j] (hV ps qs j):=fun j j1 j2=>by
   have:=l9 I ps qs X.A.in1 xs ys its its2 b r1 r2 rv rv2 e (by show X.A.units+1+_<_;omega) j (by simpa using j1) (by simpa using j2);simpa using this
  rw[← hp,show ps.length=its.toArray.size by simp;omega,show qs.length=its2.toArray.size by simp;omega];exact⟨RcAt.tuples pl pl2 hu0 each,RcNeAt.tuples pl pl2 hu0 each⟩
 ·intro h1 h2 e1 e2
  obtain⟨a,xs,rfl,g1,r1⟩:=aN.lst_inv h1;obtain⟨a2,ys,rfl,g2,r2⟩:=aN.lst_inv h2;cases e1;cases e2;obtain⟨its,rv,pl,_⟩:=I.list g1.l;obtain⟨its2,rv2,pl2,_⟩:=I.list g2.l;have l1:=r1.length;have l2:=r2.length;have l3:=rv.length;have l4:=rv2.length
  have each:∀j (j1:j<its.toArray.size) (j2:j<its2.toArray.size),EqAt X.A.in1 s its.toArray[j] its2.toArray[j] (hV ps qs j):=fun j j1 j2=>by
   have:=l9 I ps qs X.A.in1 xs ys its its2 b r1 r2 rv rv2 e (by show X.A.units+1+_<_;omega) j (by simpa using j1) (by simpa using j2);simpa using this
  by_cases hl:ps.length=qs.length
  ·have hb:(L7 its.toArray.size).all (hV ps qs)=b:=by
    rw[← hp,hl,Nat.min_self,beq_self_eq_true,Rl,show its.toArray.size=qs.length by simp;omega]
   rw[← hb];exact⟨RcAt.lists pl.isList pl2.isList (by simp;omega) hu0 each,RcNeAt.lists pl.isList pl2.isList (by simp;omega) hu0 each⟩
  ·have hb:b=false:=by
    rw[← hp,beq_eq_false_iff_ne.mpr hl,Q4]
   rw[hb];exact⟨RcAt.lists_lengths pl.isList pl2.isList (by simp;omega) hu0,RcNeAt.lists_lengths pl.isList pl2.isList (by simp;omega) hu0⟩
theorem qj(hu:X.A.units+64<cLine)(hw:X.w=TW.w:=by rfl):OpR X (Lz .Eq) (rP X.K gEq):=by
 intro KW s σ H x y v u Q I rx ry ⟨p,q,z,hp,hq,e,k⟩;unfold gEq at e;split at e
 ·rename_i ks ps ls qs
  split at e
  ·rename_i hd
   obtain⟨b,eb,ez⟩:=LB.mp e;subst ez;have eb:(if ks.length=ls.length then kT (xV 2) ks ps ls qs else some false)=some b:=eb;obtain⟨a1,kvs1,rfl,d1,k1,r1⟩:=hp;obtain⟨a2,kvs2,rfl,d2,k2,r2⟩:=hq;cases rx;cases ry;obtain⟨_,n1,vs1,kv1,D1⟩:=DkR.at hw I d1;obtain⟨_,n2,vs2,kv2,D2⟩:=DkR.at hw I d2;have l1:vs1.length=ks.length:=by rw[← k1,LA];exact(M5 kv1).symm
   have l2:vs2.length=ls.length:=by rw[← k2,LA];exact(M5 kv2).symm
   have fin:EP X KW σ Q (.bool b) s:=⟨.bl b,H,I,rfl,k _ H (Same.refl H) rfl⟩;have hu0:X.A.units<cLine:=by omega
   by_cases hl:ks.length=ls.length
   ·rw[if_pos hl] at eb
    refine jZ (r:=b) n1 n2 D1 D2 hu0 (fun _=>nZ X.A.in1 (xV 2) I k2 r2 kv2 ks ps kvs1 vs1 b k1 r1 kv1 eb fun p hp q v u v' u' c g1 g2 g3 g4 g5=>CG hw I 2 p q X.A.in1 v u v' u' c g1 g2 g3 g4 g5 ?_) ?_
    ·obtain⟨j,hj⟩:=Mg.mp hp
     have:=nF hj;show X.A.units+1+_<_;omega
    ·have:(vs1.length == vs2.length)=true:=by rw[l1,l2,hl];simp
     rw[this,Ri];exact fin
   ·rw[if_neg hl] at eb
    cases eb;refine jZ (r:=false) n1 n2 D1 D2 hu0 (fun z=>absurd (by rw[← l1,← l2];exact z) hl) ?_;rw[Q4];exact fin
  ·cases e
 ·split at e
  ·rename_i hd
   obtain⟨b,eb,ez⟩:=LB.mp e;subst ez;exact((rD hu I eb hd).1 hp hq rx ry).1 _ _ _ _ ⟨.bl b,H,I,rfl,k _ H (Same.refl H) rfl⟩
  ·cases e
 ·split at e
  ·rename_i hd
   obtain⟨b,eb,ez⟩:=LB.mp e;subst ez;exact((rD hu I eb hd).2 hp hq rx ry).1 _ _ _ _ ⟨.bl b,H,I,rfl,k _ H (Same.refl H) rfl⟩
  ·cases e
 ·split at e
  ·rename_i hc
   obtain⟨h1,h2,h3⟩:=hc;cases e;rw[bU h1 hp] at rx;rw[bU h2 hq] at ry;exact HC KW s σ H _ _ v u Q I rx ry ⟨h3,k _ H (Same.refl H) rfl⟩
  ·cases e
theorem GC(hu:X.A.units+64<cLine):OpR X (Lz .NotEq) (rP X.K gNe):=by
 intro KW s σ H x y v u Q I rx ry ⟨p,q,z,hp,hq,e,k⟩;unfold gNe at e;split at e
 ·split at e
  ·rename_i hd
   obtain⟨b,eb,ez⟩:=LB.mp e;subst ez;exact((rD hu I eb hd).1 hp hq rx ry).2 _ _ _ _ ⟨.bl (!b),H,I,rfl,k _ H (Same.refl H) rfl⟩
  ·cases e
 ·split at e
  ·rename_i hd
   obtain⟨b,eb,ez⟩:=LB.mp e;subst ez;exact((rD hu I eb hd).2 hp hq rx ry).2 _ _ _ _ ⟨.bl (!b),H,I,rfl,k _ H (Same.refl H) rfl⟩
  ·cases e
 ·split at e
  ·rename_i hc
   obtain⟨h1,h2,h3⟩:=hc;cases e;rw[bU h1 hp] at rx;rw[bU h2 hq] at ry;exact Hy KW s σ H _ _ v u Q I rx ry ⟨h3,k _ H (Same.refl H) rfl⟩
  ·cases e
theorem Ey:OpR X (Lz .Lt) (rP X.K gLt):=by
 intro KW s σ H x y v u Q I rx ry ⟨p,q,z,hp,hq,e,k⟩;unfold gLt at e;split at e
 ·rename_i i j
  cases e;cases (show x=.int i from hp);cases (show y=.int j from hq);exact Hz KW s σ H _ _ v u Q I rx ry ⟨i,j,rfl,rfl,k _ H (Same.refl H) rfl⟩
 ·rename_i i j
  cases e;cases (show x=.str i from hp);cases (show y=.str j from hq);exact vC KW s σ H _ _ v u Q I rx ry ⟨i,j,rfl,rfl,k _ H (Same.refl H) rfl⟩
 ·cases e
theorem Jh:OpR X (Lz .Gt) (rP X.K gGt):=oW HB fun p q z e=>by
 unfold gGt at e;split at e
 ·rename_i i j
  cases e;exact⟨i,j,rfl,rfl,_,fun _ _=>rfl,fun H Q q=>⟨i,j,rfl,rfl,q⟩⟩
 ·cases e
theorem K7:OpR X (Lz .LtE) (rP X.K gLe):=by
 intro KW s σ H x y v u Q I rx ry ⟨p,q,z,hp,hq,e,k⟩;unfold gLe at e;split at e
 ·rename_i i j
  cases e;cases (show x=.int i from hp);cases (show y=.int j from hq);exact HA KW s σ H _ _ v u Q I rx ry ⟨i,j,rfl,rfl,k _ H (Same.refl H) rfl⟩
 ·rename_i i j
  cases e;cases (show x=.str i from hp);cases (show y=.str j from hq);obtain⟨t,rfl⟩:=rx;obtain⟨t',rfl⟩:=ry;exact PySem.P.le_str ⟨.bl _,H,I,rfl,k _ H (Same.refl H) rfl⟩
 ·cases e
theorem vd{K:L0}{H:Hp}{p:PV}{v:V}(r:aN K H p v):decide (v=.non)=Co p:=by
 cases p with
 | non=>cases (show v=.non from r);rfl
 | bl b=>cases (show v=.bl b from r);rfl
 | int b=>cases (show v=.int b from r);rfl
 | str b=>cases (show v=.str b from r);rfl
 | tup ps=>obtain⟨a,xs,rfl,_⟩:=aN.tup_inv r;rfl
 | lst ps=>obtain⟨a,xs,rfl,_⟩:=aN.lst_inv r;rfl
 | dct ks ps=>obtain⟨a,kvs,rfl,_⟩:=r;rfl
 | dtt ks ps=>obtain⟨a,kvs,rfl,_⟩:=r;rfl
 | fn L cs=>obtain⟨f,_,_,_,_,_,rfl,_⟩:=(show Rep K H (.fn L cs) v from r);rfl
theorem BV:OpR X (Lz .Is) (rP X.K qS):=by
 intro KW s σ H x y v u Q I rx ry ⟨p,q,z,hp,hq,e,k⟩;unfold qS at e;split at e
 ·cases e
  cases (show y=.non from hq);refine Ew KW s σ H _ _ v u Q I rx ry ⟨rfl,?_⟩;rw[vd hp];exact k _ H (Same.refl H) rfl
 ·cases e
theorem Au:OpR X (Lz .IsNot) (rP X.K u3):=by
 intro KW s σ H x y v u Q I rx ry ⟨p,q,z,hp,hq,e,k⟩;unfold u3 at e;split at e
 ·cases e
  cases (show y=.non from hq);refine BR KW s σ H _ _ v u Q I rx ry ⟨rfl,?_⟩;rw[vd hp];exact k _ H (Same.refl H) rfl
 ·cases e
end
end PU
namespace PU
open PySem PySem.Spec PyProof.Rows L2 PySem.SeqAt
variable[TW]
theorem de{K:L0}{H:Hp}{p:PV}{v:V}{k:Key}(e:ft p=some k)(r:aN K H p v):v=kV k:=by
 cases p with
 | int i=>cases e;exact r
 | str i=>cases e;exact r
 | _=>cases e
theorem rH{K:L0}{H:Hp}{ps:List PV}{xs:List V}{i:Int}{p:PV}(r:au K H ps xs)(e:atI ps i=some p):∃v,atI xs i=some v/\Rep K H p v:=by
 unfold atI at e ⊢;rw[← r.length];obtain⟨j,ej,e2⟩:=LD.mp e;obtain⟨v,ev,rp⟩:=r.get e2;exact⟨v,by rw[ej];exact ev,rp⟩
section
variable{X : Cx}
theorem ixP(hu:X.A.units+64<cLine)(hw:X.w=TW.w:=by rfl):IxR X (rP X.K gIx):=by
 intro value slice KW s σ H x y v u Q I rx ry ⟨p,q,z,hp,hq,e,k⟩ hs;have h16:=Ly;unfold gIx at e;split at e
 ·rename_i ps i
  obtain⟨a,xs,rfl,g,r⟩:=aN.lst_inv hp;cases (show y=.int i from hq);obtain⟨w,ew,rp⟩:=rH r e;exact wq value slice KW s σ H _ _ v u Q I rx ry ⟨a,xs,i,w,rfl,rfl,g.l,ew,k w H (Same.refl H) rp⟩ hs
 ·rename_i ps i
  obtain⟨a,xs,rfl,g,r⟩:=aN.tup_inv hp;cases (show y=.int i from hq);obtain⟨w,ew,rp⟩:=rH r e;exact AH value slice KW s σ H _ _ v u Q I rx ry ⟨a,xs,i,w,rfl,rfl,g,ew,k w H (Same.refl H) rp⟩ hs
 ·rename_i t i
  split at e
  ·rename_i hl
   obtain⟨c,ec,ez⟩:=LB.mp e;subst ez;cases (show x=.str t from hp);cases (show y=.int i from hq);exact AI value slice KW s σ H _ _ v u Q I rx ry ⟨t,i,c,rfl,rfl,by omega,ec,k _ H (Same.refl H) rfl⟩ hs
  ·cases e
 ·rename_i ks ps
  obtain⟨kk,ek,e⟩:=LD.mp e;obtain⟨a,kvs,rfl,g,e1,r⟩:=hp;cases rx;have hy:=de ek hq;subst hy;obtain⟨w,ew,rp⟩:=iI e1 r e;obtain⟨zz,hd,vs,rel,dd⟩:=DkR.at hw I g;obtain⟨w',hw,rw'⟩:=oD.some_of (v:=w) (o:=Mp vs kk) (by rw[← ew];exact rel.val kk);exact tail_any dd.typeIs R4.lookup (wpAny_getItem_of (lM ry) dd.mapOf hw ⟨w,H,I.tok _,rw',k w H (Same.refl H) rp⟩) hs
 ·cases e
theorem lG{K:L0}{H:Hp}:∀{qs:List PV}{xs:List V},qs.all mq=true->au K H qs xs->xs=qs.map scV/\xs.all lN=true
 | [],_,_,r=>by cases r;exact⟨rfl,rfl⟩
 | q::qs,_,h,⟨x,t,e,h1,h2⟩=>by
  subst e;simp only[Nz,MH] at h;obtain⟨e1,e2⟩:=lG h.2 h2;have hx:=bU h.1 h1.o;refine⟨by rw[L8,hx,e1],?_⟩;rw[Nz,e2,Rl,hx];cases q <;> first | rfl | cases h.1
theorem mT{p:PV}(h:mq p=true):lN (scV p)=true:=by
 cases p <;> first | rfl | cases h
theorem Jf(hu:X.A.units+64<cLine)(hw:X.w=TW.w:=by rfl):OpR X (Lz .In) (rP X.K gIn):=by
 intro KW s σ H x y v u Q I rx ry ⟨p,q,z,hp,hq,e,k⟩;unfold gIn at e;split at e
 ·rename_i i j
  cases e;cases (show x=.str i from hp);cases (show y=.str j from hq);exact vD KW s σ H _ _ v u Q I rx ry ⟨i,j,rfl,rfl,k _ H (Same.refl H) rfl⟩
 ·rename_i qs _
  split at e
  ·rename_i hc
   cases e;obtain⟨a,xs,rfl,g,r⟩:=aN.lst_inv hq;obtain⟨e1,e2⟩:=lG hc.2 r;refine pB KW s σ H _ _ v u Q I rx ry ⟨a,xs,rfl,.inl g.l,by rw[bU hc.1 hp];exact mT hc.1,e2,?_⟩;rw[bU hc.1 hp,e1];exact k _ H (Same.refl H) rfl
  ·cases e
 ·rename_i qs _
  split at e
  ·rename_i hc
   cases e;obtain⟨a,xs,rfl,g,r⟩:=aN.tup_inv hq;obtain⟨e1,e2⟩:=lG hc.2 r;refine pB KW s σ H _ _ v u Q I rx ry ⟨a,xs,rfl,.inr g,by rw[bU hc.1 hp];exact mT hc.1,e2,?_⟩;rw[bU hc.1 hp,e1];exact k _ H (Same.refl H) rfl
  ·cases e
 ·rename_i ks ps _
  obtain⟨kk,ek,ez⟩:=LB.mp e;subst ez;obtain⟨a,kvs,rfl,g,e1,r⟩:=hq;cases ry;have hx:=de ek hp;subst hx;obtain⟨zz,hd,vs,rel,dd⟩:=DkR.at hw I g;refine wpAny_in_of (lM rx) hd dd.mapOf ?_;rw[← (rel.val kk).isSome_eq,← iu];refine⟨.bl _,H,I.tok _,rfl,k _ H (Same.refl H) ?_⟩;subst e1;rw[NO];rfl
 ·cases e
theorem vE(hu:X.A.units+64<cLine)(hw:X.w=TW.w:=by rfl):OpR X (Lz .NotIn) (rP X.K dX):=by
 intro KW s σ H x y v u Q I rx ry ⟨p,q,z,hp,hq,e,k⟩;have e:=e;obtain⟨z0,e1,ez⟩:=LD.mp e;clear e;have e:=e1;clear e1;unfold gIn at e;split at e
 ·rename_i i j _
  cases e;cases ez;cases (show x=.str i from hp);cases (show y=.str j from hq);exact pA KW s σ H _ _ v u Q I rx ry ⟨i,j,rfl,rfl,k _ H (Same.refl H) rfl⟩
 ·rename_i qs _
  split at e
  ·rename_i hc
   cases e;cases ez;obtain⟨a,xs,rfl,g,r⟩:=aN.lst_inv hq;obtain⟨e1,e2⟩:=lG hc.2 r;refine jD KW s σ H _ _ v u Q I rx ry ⟨a,xs,rfl,.inl g.l,by rw[bU hc.1 hp];exact mT hc.1,e2,?_⟩;rw[bU hc.1 hp,e1];exact k _ H (Same.refl H) rfl
  ·cases e
 ·rename_i qs _
  split at e
  ·rename_i hc
   cases e;cases ez;obtain⟨a,xs,rfl,g,r⟩:=aN.tup_inv hq;obtain⟨e1,e2⟩:=lG hc.2 r;refine jD KW s σ H _ _ v u Q I rx ry ⟨a,xs,rfl,.inr g,by rw[bU hc.1 hp];exact mT hc.1,e2,?_⟩;rw[bU hc.1 hp,e1];exact k _ H (Same.refl H) rfl
  ·cases e
 ·rename_i ks ps _
  obtain⟨kk,ek,ez'⟩:=LB.mp e;subst ez';cases ez;obtain⟨a,kvs,rfl,g,e1,r⟩:=hq;cases ry;have hx:=de ek hp;subst hx;obtain⟨zz,hd,vs,rel,dd⟩:=DkR.at hw I g;refine wpAny_notIn_of (lM rx) hd dd.mapOf ?_;rw[← (rel.val kk).isSome_eq,← iu];refine⟨.bl _,H,I.tok _,rfl,k _ H (Same.refl H) ?_⟩;subst e1;rw[NO];rfl
 ·cases e
theorem Bh(hw:X.w=TW.w):Jz X (fun v H Q=>∃p b,aN X.K H p v/\xR p=some b/\Q b H):=by
 intro KW s σ H x v Q I rx ⟨p,b,rp,e,q⟩;have h16:=Ly;cases p with
 | non=>
  cases (show x=.non from rp);cases e;exact lU KW s σ H _ v Q I rx ⟨_,rfl,q⟩
 | bl i=>
  cases (show x=.bl i from rp);cases e;exact lU KW s σ H _ v Q I rx ⟨_,rfl,q⟩
 | int i=>
  cases (show x=.int i from rp);cases e;exact lU KW s σ H _ v Q I rx ⟨_,rfl,q⟩
 | str i=>
  cases (show x=.str i from rp);simp only[xR] at e;split at e
  ·cases e
   exact lU KW s σ H _ v Q I rx ⟨_,⟨by omega,rfl⟩,q⟩
  ·cases e
 | tup ps=>
  obtain⟨a,xs,rfl,g,r⟩:=aN.tup_inv rp;cases e;have:ps.isEmpty=xs.isEmpty:=by have:=r.length;cases ps <;> cases xs <;> simp_all
  exact lU KW s σ H _ v Q I rx ⟨_,.inr (.inl ⟨xs,g,by rw[this]⟩),q⟩
 | lst ps=>
  obtain⟨a,xs,rfl,g,r⟩:=aN.lst_inv rp;cases e;have:ps.isEmpty=xs.isEmpty:=by have:=r.length;cases ps <;> cases xs <;> simp_all
  exact lU KW s σ H _ v Q I rx ⟨_,.inl ⟨xs,g.l,by rw[this]⟩,q⟩
 | dct ks ps=>
  obtain⟨a,kvs,rfl,g,e1,r⟩:=rp;cases rx;cases e;obtain⟨hz,hS,vs,rel,m⟩:=DkR.at hw I g;have hlen:kvs.length=vs.length:=M5 rel;refine wpAny_truthy_dict hS m (by omega) ⟨H,I.tok _,?_⟩;rw[mw rel];subst e1;have:(kvs.map (·.1)).isEmpty=kvs.isEmpty:=by cases kvs <;> rfl
  rw[this] at q;exact q
 | dtt ks ps=>cases e
 | fn L cs=>cases e
end
section
variable{C : Cn}{a b c e : Expr}{f fa fb fc : PSt → R PV}{t u : PSt → R Bool}{rest : List Expr}{pos : NJ}
theorem fN(ha:EO C a f)(he:∀whole,isTrue a C.X.env whole=(do let v<- whole;standAt a.pos;holding [v] (truthy v)):=by intro _;rfl)(hw:C.X.w=TW.w:=by rfl):ET C a (cH f):=by
 intro KW s σ H Q I ⟨ρ,vw,q⟩;refine isTrue_plain (thn (ha KW s σ H (fun v H'=>∃p b,aN C.X.K H' p v/\xR p=some b/\Q b H') I ⟨ρ,vw,q.bind.imp fun p _ k v H' s' r=>?_⟩) fun v s1 ⟨x,H1,I1,r1,q1⟩=>Bh hw KW s1 σ H1 x v Q I1 r1 q1) (he _);obtain⟨b,eb,k⟩:=k.ofO;exact⟨p,b,r,eb,k H' s'⟩
def sx(g:PV->PV->Option PV):Prop:=∀p q z,g p q=some z->∃b,z=.bl b
theorem aR{op:CmpOp}{g:PV->PV->Option PV}(ho:OpR C.X (Lz op) (rP C.X.K g))(hg:sx g)(ha:EO C a fa)(hb:EO C b fb)(hm:P1 op b=false:=by first | exact Av _ | with_unfolding_all rfl):ET C (.Compare a [op] [b] pos) (cH (ab fa fb g)):=by
 intro KW s σ H Q I ⟨ρ,vw,q⟩;refine BD ho ha hb hm KW s σ H Q I ?_;refine t2 vw (g:=g) (q.bind.imp fun p e k v H' s' r=>?_) fun _ _ _ _ h=>h
 have:∃b,p=.bl b:=by
  unfold ab at e;cases h1:fa ρ with
  | ok x=>
   rw[h1] at e;cases h2:fb ρ with
   | ok y=>
    rw[h2] at e;cases h3:g x y with
    | some z=>
     simp only[R.ok_bind,h3,R.ofO_some] at e;cases e;exact hg x y _ h3
    | none=>simp only[R.ok_bind,h3,R.ofO_none] at e;cases e
   | er x=>rw[h2] at e;cases e
   | no=>rw[h2] at e;cases e
  | er x=>rw[h1] at e;cases e
  | no=>rw[h1] at e;cases e
 obtain⟨b,rfl⟩:=this;cases (show v=.bl b from r);exact⟨b,rfl,k H' s'⟩
theorem EW.et(h:EW C e t):ET C e t:=PW.pt h
theorem qV(ha:ET C a t):EW C (.BoolOp .And [a] pos) t:=BB ha
theorem wZ(ha:ET C a t):EW C (.BoolOp .Or [a] pos) t:=E9 ha
theorem sN(ha:ET C a t)(hb:EW C (.BoolOp .And (b::rest) pos) u):EW C (.BoolOp .And (a::b::rest) pos) (B4 t u):=by
 intro wh KW s σ H Q I ⟨ρ,vw,q⟩;refine Ea ha hb wh KW s σ H Q I ⟨ρ,vw,q.bind.imp fun c _ k H' s'=>?_⟩;cases c with
 | true=>exact Dl ⟨ρ,vw.same s',(k.same s').imp fun b _ k2 H2 s2=>k2 H2 (s'.trans s2)⟩
 | false=>exact Dm (k H' s')
theorem zw(ha:ET C a t)(hb:EW C (.BoolOp .Or (b::rest) pos) u):EW C (.BoolOp .Or (a::b::rest) pos) (orB t u):=by
 intro wh KW s σ H Q I ⟨ρ,vw,q⟩;refine Hm ha hb wh KW s σ H Q I ⟨ρ,vw,q.bind.imp fun c _ k H' s'=>?_⟩;cases c with
 | true=>exact Dl (k H' s')
 | false=>exact Dm ⟨ρ,vw.same s',(k.same s').imp fun b _ k2 H2 s2=>k2 H2 (s'.trans s2)⟩
theorem FF(ha:ET C a t):ET C (.UnaryOp .Not a pos) (EF t):=by
 intro KW s σ H Q I ⟨ρ,vw,q⟩;exact Ec ha KW s σ H Q I ⟨ρ,vw,q.bind.imp fun c _ k H' s'=>k H' s'⟩
theorem FE{op}(h:EV C a f):EV C (.BoolOp op [a] pos) f:=Ej h
theorem AM(ha:EV C a fa)(hb:EV C (.BoolOp .And (b::rest) pos) fb):EV C (.BoolOp .And (a::b::rest) pos) (G5 fa fb):=by
 intro KW s σ H Q I ⟨ρ,vw,q⟩;refine Ep ha hb KW s σ H Q I ⟨ρ,vw,q.bind.imp fun p _ k v H' s' r=>?_⟩;cases p with
 | bl c=>
  cases (show v=.bl c from r);refine⟨c,rfl,?_⟩;cases c with
  | true=>exact Dl ⟨ρ,vw.same s',(RQ.same k s').imp fun z _ k2 v2 H2 s2 r2=>k2 v2 H2 (s'.trans s2) r2⟩
  | false=>exact Dm (k _ H' s' rfl)
 | _=>exact LJ k
theorem CB(hc:ET C c t)(ha:EV C a fa)(hb:EV C b fb):EV C (.IfExp c a b pos) (ifV t fa fb):=by
 intro KW s σ H Q I ⟨ρ,vw,q⟩;refine yW hc ha hb KW s σ H Q I ⟨ρ,vw,q.bind.imp fun c _ k H' s'=>?_⟩;cases c with
 | true=>exact Dl ⟨ρ,vw.same s',(RQ.same k s').imp fun z _ k2 v2 H2 s2 r2=>k2 v2 H2 (s'.trans s2) r2⟩
 | false=>exact Dm ⟨ρ,vw.same s',(RQ.same k s').imp fun z _ k2 v2 H2 s2 r2=>k2 v2 H2 (s'.trans s2) r2⟩
end
theorem cB:sx gEq:=fun p q z e=>by
 unfold gEq at e;split at e
 ·split at e
  ·obtain⟨b,_,ez⟩:=LB.mp e
   exact⟨b,ez.symm⟩
  ·cases e
 ·split at e
  ·obtain⟨b,_,ez⟩:=LB.mp e
   exact⟨b,ez.symm⟩
  ·cases e
 ·split at e
  ·obtain⟨b,_,ez⟩:=LB.mp e
   exact⟨b,ez.symm⟩
  ·cases e
 ·split at e
  ·cases e
   exact⟨_,rfl⟩
  ·cases e
theorem qN:sx gNe:=fun p q z e=>by
 unfold gNe at e;split at e
 ·split at e
  ·obtain⟨b,_,ez⟩:=LB.mp e;exact⟨_,ez.symm⟩
  ·cases e
 ·split at e
  ·obtain⟨b,_,ez⟩:=LB.mp e;exact⟨_,ez.symm⟩
  ·cases e
 ·split at e
  ·cases e;exact⟨_,rfl⟩
  ·cases e
theorem nW:sx gLt:=fun p q z e=>by unfold gLt at e;split at e <;> cases e <;> exact⟨_,rfl⟩
theorem Cq:sx gLe:=fun p q z e=>by unfold gLe at e;split at e <;> cases e <;> exact⟨_,rfl⟩
theorem wx:sx gGt:=fun p q z e=>by unfold gGt at e;split at e <;> cases e <;> exact⟨_,rfl⟩
theorem nX:sx qS:=fun p q z e=>by unfold qS at e;split at e <;> cases e <;> exact⟨_,rfl⟩
theorem wu:sx gIn:=fun p q z e=>by
 unfold gIn at e;split at e
 ·cases e;exact⟨_,rfl⟩
 ·split at e <;> cases e;exact⟨_,rfl⟩
 ·split at e <;> cases e;exact⟨_,rfl⟩
 ·obtain⟨b,_,ez⟩:=LB.mp e;exact⟨_,ez.symm⟩
 ·cases e
theorem mx:sx dX:=fun p q z e=>by
 obtain⟨z0,e,ez⟩:=LD.mp e;cases z0 <;> cases ez
 exact⟨_,rfl⟩
end PU
namespace PU
open PySem PySem.Spec PyProof.Rows L2 PySem.SeqAt
variable[TW]
def r1(K:L0)(g:PV->Option PV):List V->Hp->VK->Prop:=fun vs H Q=>∃v p z,vs=[v]/\aN K H p v/\g p=some z/\∀w H',Same H H'->Rep K H' z w->Q w H'
def rn1(K:L0)(g:PV->Option PV):List V->Hp->VK->Prop:=fun vs H Q=>∃v p z,vs=[v]/\aN K H p v/\g p=some z/\∀a H',Same H H'->H a=none->c5 K H' a z->Q (.ref a) H'
section
variable{C : Cn}{e : Expr}{f : PSt → R PV}{g : PV → Option PV}{x : Str}{p pos : NJ}{id T : String}
theorem t1{σ:L2.St}{H:Hp}{Q:VK}{ρ:PSt}(vw:View C.X.K H σ ρ)(q:RQ C H (un1 f g ρ) fun p=>∀v H',Same H H'->Rep C.X.K H' p v->Q v H'):tCB (r1 C.X.K g) (tA1 C f) σ H Q:=by
 refine⟨ρ,vw,q.bind.imp fun p _ k v H1 s1 r1=>?_⟩;obtain⟨z,ez,k⟩:=k.ofO;exact⟨v,p,z,rfl,r1,ez,fun w H' s' r'=>k w H' (s1.trans s') r'⟩
theorem tn1{σ:L2.St}{H:Hp}{Q:VK}{ρ:PSt}(vw:View C.X.K H σ ρ)(q:RQ C H (un1 f g ρ) fun p=>∀a H',Same H H'->H a=none->c5 C.X.K H' a p->Q (.ref a) H'):tCB (rn1 C.X.K g) (tA1 C f) σ H Q:=by
 refine⟨ρ,vw,q.bind.imp fun p _ k v H1 s1 r1=>?_⟩;obtain⟨z,ez,k⟩:=k.ofO;exact⟨v,p,z,rfl,r1,ez,fun a H' s' n' r'=>k a H' (s1.trans s') (s1.free n') r'⟩
theorem og (hc:gM C.X (.builtin id) (r1 C.X.K g)) (hg:Gl C.X x) (hm:C.X.mg x=none) (hv:O1 x=some (.builtin id)) (ha:EO C e f) (hn:x≠"__name__":=by decide) (hdb:(x == ("__debug__":Str))=false:=by decide)
  (hs:Lc [e] C.X.env=[(false,MS e C.X.env)]:=by exact bj rfl):EV C (.Call (.Name x p) [e] [] pos) (un1 f g):=by
 intro KW s σ H Q I ⟨ρ,vw,q⟩;exact yZ hc hg hm hv (sQ ha hs) hn hdb hs (by rfl) KW s σ H Q I (t1 vw q)
theorem FD (hc:gM C.X (.type T) (r1 C.X.K g)) (hg:Gl C.X x) (hm:C.X.mg x=none) (hv:O1 x=some (.type T)) (ha:EO C e f) (hn:x≠"__name__":=by decide) (hdb:(x == ("__debug__":Str))=false:=by decide)
  (hs:Lc [e] C.X.env=[(false,MS e C.X.env)]:=by exact bj rfl):EV C (.Call (.Name x p) [e] [] pos) (un1 f g):=by
 intro KW s σ H Q I ⟨ρ,vw,q⟩;exact pd hc hg hm hv (sQ ha hs) hn hdb hs (by rfl) KW s σ H Q I (t1 vw q)
theorem ud (hc:gM C.X (.type T) (rn1 C.X.K g)) (hg:Gl C.X x) (hm:C.X.mg x=none) (hv:O1 x=some (.type T)) (ha:EO C e f) (hn:x≠"__name__":=by decide) (hdb:(x == ("__debug__":Str))=false:=by decide)
  (hs:Lc [e] C.X.env=[(false,MS e C.X.env)]:=by exact bj rfl):EN C (.Call (.Name x p) [e] [] pos) (un1 f g):=by
 intro KW s σ H Q I ⟨ρ,vw,q⟩;exact pd hc hg hm hv (sQ ha hs) hn hdb hs (by rfl) KW s σ H Q I (tn1 vw q)
end
section
variable{X : Cx}
theorem zK (hw:X.w=TW.w:=by rfl):gM X (.builtin "len") (r1 X.K l7):=by
 intro KW s σ H xs us Q I r ⟨v,p,z,e1,rp,ez,k⟩;have h16:=Ly;subst e1;cases p with
 | lst ps=>
  obtain⟨a,xs,rfl,g,rr⟩:=aN.lst_inv rp;cases ez;exact oz KW s σ H _ us Q I r ⟨_,_,rfl,.inl ⟨xs,g.l,rfl⟩,by rw[← rr.length];exact k _ H (Same.refl H) rfl⟩
 | tup ps=>
  obtain⟨a,xs,rfl,g,rr⟩:=aN.tup_inv rp;cases ez;exact oz KW s σ H _ us Q I r ⟨_,_,rfl,.inr ⟨xs,g,rfl⟩,by rw[← rr.length];exact k _ H (Same.refl H) rfl⟩
 | str x=>
  simp only[l7] at ez;split at ez
  ·cases ez
   cases (show v=.str x from rp);exact oz KW s σ H _ us Q I r ⟨_,_,rfl,⟨by omega,rfl⟩,k _ H (Same.refl H) rfl⟩
  ·cases ez
 | dct ks ps=>
  obtain⟨a,kvs,rfl,g,e1,rr⟩:=rp;cases ez;obtain⟨u,rfl,ru⟩:=vals1 r;cases ru;obtain⟨hz,hS,vs,rel,m⟩:=DkR.at hw I g;have hlen:kvs.length=vs.length:=M5 rel;subst e1;rw[LA,hlen] at k;exact call_len_dict hS m (by omega) ⟨.int vs.length,H,I.tok _,⟨_,rfl⟩,k _ H (Same.refl H) rfl⟩
 | _=>cases ez
theorem cInt:gM X (.type "int") (r1 X.K GF):=by
 intro KW s σ H xs us Q I r ⟨v,p,z,e1,rp,ez,k⟩;subst e1;cases p with
 | int i=>cases ez;cases (show v=.int i from rp);exact qa KW s σ H _ us Q I r (.inl ⟨i,rfl,k _ H (Same.refl H) rfl⟩)
 | bl i=>cases ez;cases (show v=.bl i from rp);exact qa KW s σ H _ us Q I r (.inr ⟨i,rfl,k _ H (Same.refl H) rfl⟩)
 | _=>cases ez
theorem FW:gM X (.type "tuple") (r1 X.K sC):=by
 intro KW s σ H xs us Q I r ⟨v,p,z,e1,rp,ez,k⟩;subst e1;cases p with
 | lst ps=>
  obtain⟨a,xs,rfl,g,rr⟩:=aN.lst_inv rp;cases ez;exact iY KW s σ H _ us Q I r ⟨a,xs,rfl,.inl ⟨g.l,fun l hl=>k _ _ (Same.new hl) ⟨l,xs,rfl,ai,rr.same (Same.new hl)⟩⟩⟩
 | tup ps=>
  obtain⟨a,xs,rfl,g,rr⟩:=aN.tup_inv rp;cases ez;exact iY KW s σ H _ us Q I r ⟨a,xs,rfl,.inr ⟨g,k _ H (Same.refl H) rp⟩⟩
 | _=>cases ez
end
section
variable{C : Cn}{e tg : Expr}{f : PSt → R PV}{pos : NJ}
theorem Ck{K:L0}{H:Hp}{a:Addr}{xs:List V}{ps:List PV}(g:SqF K H a xs)(r:au K H ps xs):ItP K (Itl K a) H ps:=fun i H' k=>by
 have g':=(k.sqF g).l.l;have r':=au.kp k ps r;have hl:=r'.length;refine⟨fun h=>⟨xs,g',by omega⟩,fun p e=>?_⟩;obtain⟨x,ex,rp⟩:=r'.get e
 exact⟨⟨xs,x,g',ex⟩,fun y H2 ⟨eh,hy⟩=>by
  subst eh;have:=hy xs g';rw[ex] at this;cases this;exact⟨Same.refl _,rp⟩⟩
theorem Fo{K:L0}{H:Hp}{a:Addr}{xs:List V}{ps:List PV}(g:SqT K H a xs)(r:au K H ps xs):ItP K (Itt K a) H ps:=fun i H' k=>by
 have g':=k.sqT g;have r':=au.kp k ps r;have hl:=r'.length;refine⟨fun h=>⟨xs,g',by omega⟩,fun p e=>?_⟩;obtain⟨x,ex,rp⟩:=r'.get e
 exact⟨⟨xs,x,g',ex⟩,fun y H2 ⟨eh,hy⟩=>by
  subst eh;have:=hy xs g';rw[ex] at this;cases this;exact⟨Same.refl _,rp⟩⟩
theorem sr{K:L0}{H:Hp}{lo:Int}{n:Nat}:ItP K (Itr lo n) H (c7 lo n):=fun i H' k=>by
 refine⟨fun h=>?_,fun p e=>?_⟩
 ·have:n<=i:=by simp[c7] at h;omega
  exact this
 ·unfold c7 at e
  rw[LC] at e
  have hi:i<n:=by
   by_cases hi:i<n
   ·exact hi
   ·rw[MP (by simpa using hi)] at e
    cases e
  rw[Ms hi] at e;cases e;exact⟨hi,fun y H2 ⟨eh,hy⟩=>by subst eh hy;exact⟨Same.refl _,rfl⟩⟩
theorem iR {p:NJ} (hg:Gl C.X "range") (hm:C.X.mg "range"=none) (he:EV C e f) (hs:Lc [e] C.X.env=[(false,MS e C.X.env)]:=by exact bj rfl):EI C tg (.Call (.Name "range" p) [e] [] pos) (Bu f):=by
 intro KW s σ H Rk I ⟨ρ,vw,q⟩;refine vp hg hm (bM he fT hs) hs KW s σ H Rk I ⟨ρ,vw,q.bind.imp fun p _ k v H1 s1 r1=>?_⟩;cases p with
 | int j=>
  cases (show v=.int j from r1)
  by_cases hj:j.natAbs<1000000000
  ·have k:RQ C H (if j.natAbs<1000000000 then R.ok (c7 0 j.toNat) else R.no) fun ps=>∀J H',Same H H'->ItP C.X.K J H' ps->Rk J H':=k
   rw[if_pos hj] at k;exact⟨j,rfl,by omega,by omega,k _ H1 s1 sr⟩
  ·have k:RQ C H (if j.natAbs<1000000000 then R.ok (c7 0 j.toNat) else R.no) fun ps=>∀J H',Same H H'->ItP C.X.K J H' ps->Rk J H':=k
   rw[if_neg hj] at k;exact LJ k
 | _=>exact LJ k
end
section
variable{C : Cn}{e : Expr}{f : PSt → R PV}{pos apos cpos : NJ}
theorem dm(i:Nat){x:Str}{np:NJ}(he:EV C e f)(hs:Lc [e] C.X.env=[(false,MS e C.X.env)]:=by exact bj rfl)
  (hb:OY (.Name x np) "append" C.X.env (MS (.Name x np) C.X.env)=MS (.Name x np) C.X.env:=by rfl) (hline:(apos.endLine == cpos.line)=true:=by rfl)
  (hd:(x == ("__debug__":Str))=false:=by decide) (hcd:(x == ("__classdict__":Str))=false:=by decide) (hN:C.X.N[i]?=some x:=by rfl) (hv:Vis C.X.env.scope x:=by first | exact .inl rfl | exact .inr (.inl rfl) | exact .inr (.inr rfl)):SV C (.Expr (.Call (.Attribute (.Name x np) "append" apos) [e] [] cpos) pos) (qh i f):=by
 intro KW s σ H D I ⟨ρ,B,S,q⟩;unfold qh at q;split at q
 ·rename_i ps e1
  obtain⟨a,e2,xs,hx,rr⟩:=S.vw i _ e1;refine qx (z6 RH Pf R9 gn (dS hN hv hd hcd) (bM he fT hs) hb (by rw[hs];rfl) hline hs (by rfl)) (by rfl) KW s σ H D I ?_;refine⟨_,e2,.inl ⟨rfl,xs,SqL.of hx⟩,ρ,S.vw,(RS.bind q S.same).imp fun p _ q' v H1 s1 r1=>?_⟩
  by_cases hl:ps.length<16777216
  ·rw[if_pos hl] at q'
   refine⟨a,xs,v,rfl,rfl,s1 _ _ hx,by rw[Ly,← rr.length];exact hl,?_⟩;refine q' σ _ ((S.grow s1).turn e1 e2 (fun b hb=>aj hb) ?_);have kp:Kp H1 (upd H1 a (.lst (xs++[v]))):=Kp.upd (s1 _ _ hx) rfl;exact⟨a,rfl,xs++[v],ai,au.append (au.kp kp _ (rr.same s1)) (au.cons (Rep.kp kp _ r1) au.nil)⟩
  ·rw[if_neg hl] at q'
   exact LJ q'
 ·exact LJ q
end
end PU
namespace PU
open PySem PySem.Spec PyProof.Rows L2 PySem.SeqAt
variable[TW]
section
variable{C : Cn}
theorem av(i:Nat){x:Str}{pos:NJ}(hN:C.X.N[i]?=some x:=by rfl)(hv:Vis C.X.env.scope x:=by first | exact Ow rfl | exact Ov (Ow rfl) | exact Ov (Ov rfl))
  (hd:(x == ("__debug__":Str))=false:=by decide) (hcd:(x == ("__classdict__":Str))=false:=by decide):EV C (.Name x pos) (getV i):=x4 i hN hv hd hcd
theorem qX(i:Nat){x:Str}{pos:NJ}(hN:C.X.N[i]?=some x:=by rfl)(hv:Vis C.X.env.scope x:=by first | exact Ow rfl | exact Ov (Ow rfl) | exact Ov (Ov rfl))
  (hd:(x == ("__debug__":Str))=false:=by decide) (hcd:(x == ("__classdict__":Str))=false:=by decide):EO C (.Name x pos) (gS i):=FH i hN hv hd hcd
variable{a b c : Expr}{fa fb fc : PSt → R PV}{pos : NJ}
end
end PU
namespace PU
open PySem PySem.Spec PyProof.Rows L2 PySem.SeqAt
variable[TW]
section
variable{X : Cx}{KW : List (Addr×Mi)}{σ : L2.St}{H : Hp}{s : L6}
theorem _root_.L2.Inv.turnedL{wr:List Addr}{h':Heap}{t':Nat}(I:L2.Inv X KW σ H s)(k:∀b o,b ∉ wr->s.heap.get? b=some o->h'.get? b=some o)(hw:∀b∈wr,oE X KW H b):L2.Inv X KW σ H { s with heap:=h',toks:=t' }:=by
 have nw:∀b u,H b=some u->b ∉ wr:=fun b u e z=>by rw[(hw b z).1] at e;cases e
 refine I.step (g':=s.gens) (d':=s.drawn) (ch:=wr) (fun b hb=>?_) (fun b o _ _ hc e _=>k b o hc e) (fun b o _ _ hc e _=>⟨o.slots,k b o hc e⟩) (fun _ _ _ _ n=>n)
  (fun b o hc e=>⟨o,k b o hc e⟩) (fun _ _ e=>e) (fun _ _ _ e=>e) (fun b ps e=>⟨#[],by rw[e];simp⟩) (fun m hm=>?_) (fun b u e=>?_) I.bare
 ·obtain⟨g1,g2,g3,g4,g5,g6⟩:=hw b hb
  exact⟨g4,g2,g5,g6⟩
 ·obtain⟨o,es,ep,ho,r⟩:=hm
  exact⟨o,es,ep,k _ o (fun z=>(hw _ z).2.1 rfl) ho,r⟩
 ·refine(I.hok b u e).stay (fun c v hc q=>k c v ?_ q) (fun _ q=>q) fun _ _ q=>q
  rcases hc with z | z
  ·rw[z];exact nw b u e
  ·exact nw c _ z
theorem _root_.L2.Inv.tupled{wr:List Addr}{h':Heap}{t':Nat}{T:Addr}{vals:List L3}{xs:List V}(I:L2.Inv X KW σ H s)(k:∀b o,b ∉ wr->s.heap.get? b=some o->h'.get? b=some o)(hw:∀b∈wr,oE X KW H b)(hws:∀b∈wr,b<s.heap.objs.size)
  (hT:s.heap.objs.size<=T) (ht:h'.IsTuple T vals.toArray) (rv:Vals xs vals) (hz:xs.length<=sizeLine) (hnr:¬ ∀v∈vals,∃b,v=M1 b):L2.Inv X KW σ (upd H T (.tup xs)) { s with heap:=h',toks:=t' }:=by
 have nw:∀b u,H b=some u->b ∉ wr:=fun b u e z=>by rw[(hw b z).1] at e;cases e
 have nT:H T=none:=I.hok.fresh hT;have neT:∀b u,H b=some u->b≠T:=fun b u e=>bc e nT
 have lo:∀b o,s.heap.get? b=some o->b≠T:=fun b o e z=>by
  subst z;exact absurd (LF e) (Pq.mpr hT)
 have hlt:X.env.locals≠T:=fun z=>absurd I.lt (by rw[z];exact Pq.mpr hT)
 refine I.step (g':=s.gens) (d':=s.drawn) (ch:=wr) (fun b hb=>?_) (fun b o _ _ hc e _=>k b o hc e) (fun b o _ _ hc e _=>⟨o.slots,k b o hc e⟩) (fun b o _ e n=>by rw[aj (lo b o e)];exact n)
  (fun b o hc e=>⟨o,k b o hc e⟩) (fun b xs e=>by rw[aj (neT _ _ e)];exact e) (fun b o u e=>by rw[aj (neT _ _ e)];exact e) (fun b ps e=>⟨#[],by rw[aj (neT _ _ e),e];simp⟩) (fun m hm=>?_) (fun b u e=>?_) I.bare
 ·obtain⟨g1,g2,g3,g4,g5,g6⟩:=hw b hb
  exact⟨g4,g2,g5,g6⟩
 ·obtain⟨o,es,ep,ho,r⟩:=hm
  exact⟨o,es,ep,k _ o (fun z=>(hw _ z).2.1 rfl) ho,r⟩
 ·by_cases hb:b=T
  ·subst hb
   rw[ai] at e;cases e;obtain⟨o,e1,e2,e3⟩:=ht;exact⟨hz,vals,rv,o,e1,e2,e3,fun h=>absurd h hnr⟩
  ·rw[aj hb] at e
   refine(I.hok b u e).stay (fun c v hc q=>k c v ?_ q) (fun c q=>by rw[aj (neT _ _ q)];exact q) fun c ys q=>by rw[aj (neT _ _ q)];exact q
   rcases hc with z | z
   ·rw[z];exact nw b u e
   ·exact nw c _ z
end
theorem uQ{P:Lf}{w:Ln}{K:L0}{elts:List Expr}{kk:Nat}{tp:NJ}{it:Addr}{fp wr:List Addr}{n:Nat}{own:Nat->Heap->Prop}{J:It}
  (W:∀(X:Cx)(KW:List (Addr×Mi))(σ:L2.St)(H:Hp)(s:L6)(i:Nat),X.prog=P->X.w=w->X.K=K->X.calm=true->L2.Inv X KW σ H s->own i s.heap->J.go i H\/J.stop i H->
   ∃(more:List Addr)(Pt:Nat->Array L3->Prop)(St:Nat->Heap->Prop)(Mid:Nat->Addr->Heap->Prop),WalksT P w X.A it more wr n Pt St Mid/\St i s.heap/\(∀j h,St j h->own j h)/\
    ∀vals,Pt i vals->∃xs,Vals xs vals.toList/\xs.length<=sizeLine/\(¬ ∀v∈vals.toList,∃b,v=M1 b)/\∀T,H T=none->J.yld i H (.ref T) (upd H T (.tup xs)))
  (hI:it∈fp) (hwr:∀b∈wr,b∈fp)
  (obj:∀i h,own i h->∀b∈fp,∃o,h.get? b=some o/\∀v,o.data≠.cell v) (keep:∀i h h',own i h->(∀b∈fp,∀o,h.get? b=some o->h'.get? b=some o)->own i h')
  (hgo:∀i H,J.go i H->i<n) (hstop:∀i H,J.stop i H->i=n)
  (self:∀(A:Ls)(i:Nat)(s:L6)(Q:L3->L6->Prop)(E:L3->L6->Prop),own i s.heap->Q (.ref it) s->LY (Ll P w) A (pyIter (.ref it)) Q E s) :
  Turn P w K (.Tuple elts kk tp) J fp it own where
 mem:=hI
 obj:=obj
 keep:=keep
 item:=by
  intro X hP hw hK hc i KW s σ H E I hf st hg;obtain⟨more,Pt,St,Mid,W',st',ofSt,hval⟩:=W X KW σ H s i hP hw hK hc I st (.inl hg);subst hP hw hK;refine W'.item i s _ _ (hgo i H hg) st' fun T vals h' tk hPt hT hTup hMid hk=>?_;obtain⟨xs,rv,hz,hnr,hy⟩:=hval vals hPt;have nT:H T=none:=I.hok.fresh hT;have hfw:∀b∈wr,oE X KW H b:=fun b hb=>hf b (hwr b hb)
  have hws:∀b∈wr,b<s.heap.objs.size:=fun b hb=>by
   obtain⟨o,e,_⟩:=obj i _ st b (hwr b hb);exact LF e
  have I1:L2.Inv X KW σ (upd H T (.tup xs)) { s with heap:=h',toks:=tk }:=I.tupled (vals:=vals.toList) hk hfw hws hT (by simpa using hTup) rv hz hnr;refine⟨_,rfl,W'.go elts kk tp i T _ _ _ hMid fun h'' st'' hk''=>?_⟩
  have fne:∀b∈fp,upd H T (.tup xs) b=none:=fun b hb=>by
   obtain⟨o,e,_⟩:=obj i _ st b hb;rw[aj (LO (LQ (LF e) hT))];exact(hf b hb).1
  have I2:L2.Inv X KW σ (upd H T (.tup xs)) { s with heap:=h'',toks:=tk }:=L2.Inv.turnedL (s:={ s with heap:=h',toks:=tk }) (wr:=wr) (t':=tk) I1 hk'' fun b hb=>⟨fne b (hwr b hb),(hfw b hb).2⟩;exact⟨.ref T,_,I2,rfl,hy T nT,ofSt _ _ st'',fne⟩
 done:=by
  intro X hP hw hK hc i KW s σ H E I hf st hg;obtain⟨more,Pt,St,Mid,W',st',ofSt,hval⟩:=W X KW σ H s i hP hw hK hc I st (.inr hg);subst hP hw hK;have e:=hstop i H hg;subst e;refine W'.done s _ _ st' fun h' tk hk=>⟨rfl,?_⟩;exact I.turnedL hk fun b hb=>hf b (hwr b hb)
 self:=self
def oB(n:Nat)(Gd:Hp->Prop)(xs:List (List V)):It:=
 ⟨fun i H=>i<n/\Gd H,fun i H x H'=>∃T ys,x=.ref T/\H T=none/\xs[i]?=some ys/\H'=upd H T (.tup ys),fun i H=>i=n/\Gd H⟩
theorem qL{K:L0}{H₁:Hp}{n:Nat}{Gd:Hp->Prop}{xs:List (List V)}{pss:List (List PV)}(hn:pss.length=n)(hg:∀H,Kp H₁ H->Gd H)(r:∀(i:Nat)(ps:List PV)(ys:List V),pss[i]?=some ps->xs[i]?=some ys->au K H₁ ps ys) :
  ItP K (oB n Gd xs) H₁ (pss.map PV.tup):=fun i H k=>by
 refine⟨fun h=>⟨by rw[h,LA,hn],hg H k⟩,fun p e=>?_⟩;rw[LC] at e;cases hp:pss[i]? with
 | none=>rw[hp] at e;cases e
 | some ps=>
  rw[hp] at e;cases e;have hi:i<n:=by rw[← hn];exact(L4.mp hp).1
  refine⟨⟨hi,hg H k⟩,fun x H' ⟨T,ys,ex,nT,ey,eH⟩=>?_⟩;subst ex eH;refine⟨Same.new nT,T,ys,rfl,ai,?_⟩;exact(au.kp k ps (r i ps ys hp ey)).same (Same.new nT)
end PU
namespace PU
open PySem PySem.Spec PyProof.Rows L2 PySem.SeqAt
variable[TW]
theorem gV:O1 "enumerate"=some (.type "enumerate"):=by decide +kernel
def oO(x:Str):List V:=x.cps.toList.map fun c=>.str ⟨#[c]⟩
theorem tx{K:L0}{H:Hp}(x:Str):au K H (fY x) (oO x):=by
 unfold fY oO
 induction x.cps.toList with
 | nil=>rfl
 | cons c r ih=>exact⟨_,_,rfl,rfl,ih⟩
def Dj(xs:List V):List (List V):=(L7 xs.length).zipWith (fun (i:Nat) x=>[.int (i:Int),x]) xs
theorem nM{α β:Type}(f:Nat->α->β)(l:List α)(i:Nat):((L7 l.length).zipWith f l)[i]?=l[i]?.map (f i):=by
 rw[Mz]
 by_cases hi:i<l.length
 ·rw[Ms hi]
  simp[hi]
 ·rw[MP (by simpa using hi)]
  simp[hi]
theorem nK{K:L0}{H:Hp}{ps:List PV}{xs:List V}(r:au K H ps xs):∀(i:Nat)(qs:List PV)(ys:List V),(rV ps)[i]?=some qs->(Dj xs)[i]?=some ys->au K H qs ys:=fun i qs ys h1 h2=>by
 unfold rV at h1;unfold Dj at h2;rw[nM] at h1 h2;cases e:ps[i]? with
 | none=>rw[e] at h1;cases h1
 | some p=>
  rw[e] at h1;obtain⟨x,ex,rp⟩:=r.get e;rw[ex] at h2;cases h1;cases h2;exact⟨_,_,rfl,rfl,_,_,rfl,rp,rfl⟩
theorem iE(ps:List PV):(rV ps).length=ps.length:=by simp[rV]
section
variable{P : Lf}{w : Ln}{K : L0}{elts : List Expr}{kk : Nat}{tp : NJ}
theorem lT(a it e:Addr)(xs:List V)(hne:e≠it)(hae:a≠e)(hai:a≠it) :
  Turn P w K (.Tuple elts kk tp) (oB xs.length (fun H=>SqL K H a xs) (Dj xs)) [e,it] e (fun i h=>(∃old,IsEnum h e it i old)/\h.IsListIter it a i):=by
 refine uQ (wr:=[e,it]) (n:=xs.length) (fun X KW σ H s i hP hw hK hc I st hg=>?_) (by simp) (fun b hb=>hb) (fun i h st b hb=>?_) (fun i h h' st k=>?_) (fun i H h=>h.1) (fun i H h=>h.1) fun A i s Q E st h=>Oo st.1.choose_spec h
 ·subst hP hw hK
  have hq:SqL X.K H a xs:=by rcases hg with h | h <;> exact h.2
  obtain⟨its,rv,pl,hz⟩:=I.list hq;have hl:=rv.length;have W:=SY (A:=X.A) (Draws.list (prog:=X.prog) (w:=X.w) (A:=X.A.in1) (I.ok.hd hc) it a hai its.toArray) e hne (by simp[hne,MU hae]) (by simp);rw[show its.toArray.size=xs.length by simp[hl]] at W;refine⟨_,_,_,_,W,⟨st.1,st.2,pl.isList⟩,fun j h st=>⟨st.1,st.2.1⟩,fun vals hv=>?_⟩;obtain⟨t,x,hx,rfl⟩:=hv;have hx:its[i]?=some x:=by simpa using hx
  have hi:i<xs.length:=by rw[hl];exact(L4.mp hx).1
  have e1:xs[i]?=some xs[i]:=by simp[hi]
  obtain⟨u,eu,ru⟩:=rv.get e1;rw[hx] at eu;cases eu;refine⟨[.int i,xs[i]],.cons ⟨t,rfl⟩ (.cons ru .nil),by show 2<=sizeLine;decide,fun z=>(by obtain⟨b,z⟩:=z _ Le;cases z),fun T hT=>⟨T,_,rfl,hT,?_,rfl⟩⟩;unfold Dj;rw[nM,e1];rfl
 ·obtain⟨⟨old,he⟩,o,ho,hc,hd⟩:=st
  rcases LR.mp hb with rfl | hb
  ·exact⟨_,he,fun v z=>by cases (show Qy _=QA v from z)⟩
  ·have:b=it:=by simpa using hb
   subst this;exact⟨o,ho,fun v z=>by rw[hd] at z;cases z⟩
 ·obtain⟨⟨old,he⟩,hi⟩:=st
  exact⟨⟨old,k e (by simp) _ he⟩,hi.at fun o x=>k it (by simp) o x⟩
theorem xh{prog:Lf}{w:Ln}{A:Ls}(hh:A.handled=none)(it:Addr)(x:Str)(t:Tok) :
  Draws prog w A it [it] x.cps.size (fun i v=>∃c u,x.cps[i]?=some c/\v=.str ⟨#[c]⟩ u) (fun i h=>h.IsStrIter it (OM x) x t i):=by
 unfold OM
 split
 ·exact Draws.strAscii hh it x t
 ·exact Draws.strWide hh it x t
theorem t9(it e:Addr)(x:Str)(t:Tok)(hne:e≠it) :
  Turn P w K (.Tuple elts kk tp) (oB x.cps.size (fun _=>True) (Dj (oO x))) [e,it] e (fun i h=>(∃old,IsEnum h e it i old)/\h.IsStrIter it (OM x) x t i):=by
 refine uQ (wr:=[e,it]) (n:=x.cps.size) (fun X KW σ H s i hP hw hK hc I st hg=>?_) (by simp) (fun b hb=>hb) (fun i h st b hb=>?_) (fun i h h' st k=>?_) (fun i H h=>h.1) (fun i H h=>h.1) fun A i s Q E st h=>Oo st.1.choose_spec h
 ·subst hP hw hK
  refine⟨_,_,_,_,SY (A:=X.A) (xh (A:=X.A.in1) (I.ok.hd hc) it x t) e hne (by simp[hne]) (by simp),⟨st.1,st.2⟩,fun j h st=>⟨st.1,st.2⟩,fun vals hv=>?_⟩;obtain⟨t',v,⟨c,u,hc',rfl⟩,rfl⟩:=hv
  have e1:(oO x)[i]?=some (.str ⟨#[c]⟩):=by
   unfold oO;rw[LC];simp[hc']
  refine⟨[.int i,.str ⟨#[c]⟩],.cons ⟨t',rfl⟩ (.cons ⟨u,rfl⟩ .nil),by show 2<=sizeLine;decide,fun z=>(by obtain⟨b,z⟩:=z _ Le;cases z),fun T hT=>⟨T,_,rfl,hT,?_,rfl⟩⟩;unfold Dj;rw[nM,e1];rfl
 ·obtain⟨⟨old,he⟩,o,ho,hc,hd⟩:=st
  rcases LR.mp hb with rfl | hb
  ·exact⟨_,he,fun v z=>by cases (show Qy _=QA v from z)⟩
  ·have:b=it:=by simpa using hb
   subst this;exact⟨o,ho,fun v z=>by rw[hd] at z;cases z⟩
 ·obtain⟨⟨old,he⟩,o,ho,r⟩:=st
  exact⟨⟨old,k e (by simp) _ he⟩,o,k it (by simp) o ho,r⟩
end
theorem oj {C:Cn} {e:Expr} {elts:List Expr} {kk:Nat} {tp p pos:NJ} {f:PSt->R PV} (hg:Gl C.X "enumerate") (hm:C.X.mg "enumerate"=none) (he:EV C e f) (hs:Lc [e] C.X.env=[(false,MS e C.X.env)]:=by exact bj rfl) :
  EI C (.Tuple elts kk tp) (.Call (.Name "enumerate" p) [e] [] pos) (uc f):=by
 intro KW s σ H Rk I ⟨ρ,vw,q⟩
 refine Call_ (jE I hg hm gV (ML (thn ((bM he fT hs) pos KW s σ H (fun vs H'=>∃v p ps,vs=[v]/\Same H H'/\Rep C.X.K H' p v/\oh p=some ps/\∀J H2,Same H' H2->ItP C.X.K J H2 ps->Rk J H2) I ⟨ρ,vw,q.bind.imp fun p _ k v H' s' r=>?_⟩)
  fun us s1 ⟨vs,H1,I1,r1,v,p,ps,ev,sm,rp,ep,k⟩=>?_) hs rfl))
 ·obtain⟨ps,ep,k⟩:=k.ofO
  exact⟨v,p,ps,rfl,s',r,ep,fun J H2 s2 it=>k J H2 (s'.trans s2) it⟩
 ·subst ev
  obtain⟨u,rfl,ru⟩:=vals1 r1;have hne:s1.heap.objs.size+1≠s1.heap.objs.size:=Pi _
  have fp:∀{h':Heap},(∀b o,s1.heap.get? b=some o->h'.get? b=some o)->L2.Inv C.X KW σ H1 { s1 with heap:=h' }/\∀b∈[s1.heap.objs.size+1,s1.heap.objs.size],oE C.X KW H1 b:=fun {h'} hk=>by
   refine⟨I1.kept (t':=s1.toks) hk,fun b hb=>?_⟩
   have hb:s1.heap.objs.size<=b:=by
    simp only[LR,Mk,or_false] at hb;rcases hb with rfl | rfl
    ·exact Oy _
    ·exact LX _
   exact I1.fpOk hb (I1.hok.fresh hb)
  cases p with
  | lst qs=>
   cases ep;obtain⟨a,xs,rfl,g,rr⟩:=rp;cases ru;obtain⟨its,rv,pl,hz⟩:=I1.list g.l.l;have ha:a<s1.heap.objs.size:=by obtain⟨o,n,ho,_⟩:=pl;exact LF ho
   refine call_enumerate_list pl.isList fun h' he' hi' hsz hk=>Oo he' ?_;obtain⟨I2,hf⟩:=fp hk;refine⟨_,_,_,_,H1,rfl,I2,lT a s1.heap.objs.size (s1.heap.objs.size+1) xs hne (LO (NA ha)) (LO ha),⟨⟨_,he'⟩,hi'⟩,hf,k _ H1 (Same.refl H1) ?_⟩;exact qL (by rw[iE,rr.length]) (fun H2 k2=>(k2.sqF g).l.l) (nK rr)
  | str x=>
   cases ep;cases (show v=.str x from rp);obtain⟨t,rfl⟩:=ru;refine call_enumerate_str fun h' he' hi' hsz hk=>Oo he' ?_;obtain⟨I2,hf⟩:=fp hk;refine⟨_,_,_,_,H1,rfl,I2,t9 s1.heap.objs.size (s1.heap.objs.size+1) x t hne,⟨⟨_,he'⟩,hi'⟩,hf,k _ H1 (Same.refl H1) ?_⟩;exact qL (by rw[iE];simp[fY]) (fun H2 k2=>trivial) (nK (tx x))
  | _=>cases ep
end PU
namespace PU
open PySem PySem.Spec PyProof.Rows L2 PySem.SeqAt
variable[TW]
def vz(kvs:List (Key×V)):List (List V):=kvs.map fun kv=>[kV kv.1,kv.2]
theorem so{K:L0}{H:Hp}(k:Key):Rep K H (xX k) (kV k):=by
 cases k <;> rfl
theorem tP{K:L0}{H:Hp}:∀{kvs:List (Key×V)}{ps:List PV},au K H ps (kvs.map (·.2))->∀(i:Nat)(qs:List PV)(ys:List V),(jC (kvs.map (·.1)) ps)[i]?=some qs->(vz kvs)[i]?=some ys->au K H qs ys:=fun {kvs ps} r i qs ys h1 h2=>by
 unfold jC at h1;unfold vz at h2;rw[Mz,LC] at h1;rw[LC] at h2;cases e:kvs[i]? with
 | none=>rw[e] at h2;cases h2
 | some kv=>
  rw[e] at h1 h2;cases h2;obtain⟨p,ep,rp⟩:=r.getV (i:=i) (x:=kv.2) (by rw[LC,e];rfl);rw[ep] at h1;cases h1;exact⟨_,_,rfl,so kv.1,_,_,rfl,rp,rfl⟩
section
variable{P : Lf}{w : Ln}{K : L0}{elts : List Expr}{kk : Nat}{tp : NJ}
theorem m7{kvs:List (Key×V)}{vs:List (Key×L3)}(rel:KV kvs vs):∀{i:Nat}{a:Key×V}{b:Key×L3},kvs[i]?=some a->vs[i]?=some b->a.1=b.1/\RelV a.2 b.2:=by
  induction rel with
  | nil=>intro i a b h _;simp at h
  | cons h t ih=>
   intro i a b h1 h2;cases i with
   | zero=>simp at h1 h2;subst h1 h2;exact h
   | succ i=>exact ih (by simpa using h1) (by simpa using h2)
def zU(K:L0)(H:Hp)(d:Addr)(o:Mi)(kvs:List (Key×V)):Prop:=H d=some (.frz o (.dK kvs))\/(K.lookup d=some o/\xP K d kvs)
theorem zU.at{X:Cx}{KW:List (Addr×Mi)}{σ:L2.St}{H:Hp}{s:L6}{d:Addr}{o:Mi}{kvs:List (Key×V)}{es:Array DictEntry}{ep:Nat}(hw:X.w=TW.w)(I:L2.Inv X KW σ H s)(h:zU X.K H d o kvs)(ho:o.data=.dict es ep) :
  ∃vs,KV kvs vs/\s.heap.DictAt (ah X.prog X.w) d vs ep/\s.heap.get? d=some o/\o.ExactDict:=by
 rcases h with hq | ⟨hk,_,_,o2,es2,ep2,e,x,d2,r⟩
 ·obtain⟨e0,z,_,vs,rel,o',es',ep',e1,x1,d1,rest⟩:=I.hok d _ hq
  rw[e0] at e1;cases e1;rw[ho] at d1;cases d1;exact⟨vs,rel,⟨o,es,e0,x1,ho,rest⟩,e0,x1⟩
 ·rw[hk] at e
  cases e;rw[ho] at d2;cases d2;obtain⟨vs,rel,rest⟩:=r X.prog;rw[← hw] at rest;exact⟨vs,rel,⟨o,es,I.kIn _ _ hk,x,ho,rest⟩,I.kIn _ _ hk,x⟩
end
end PU
namespace PU
open PySem PySem.Spec PyProof.Rows L2 PySem.SeqAt
variable[TW]
section
variable{P : Lf}{w : Ln}{K : L0}{tg : Expr}
def B7(K:L0)(d:Addr)(o:Mi)(kvs:List (Key×V)):It:=
 ⟨fun i H=>i<kvs.length/\zU K H d o kvs,fun i H x H'=>H'=H/\∃kv,kvs[i]?=some kv/\x=kV kv.1,fun i H=>i=kvs.length/\zU K H d o kvs⟩
theorem zU.kp{H H':Hp}{d:Addr}{o:Mi}{kvs:List (Key×V)}(k:Kp H H')(h:zU K H d o kvs):zU K H' d o kvs:=by
 rcases h with h | h
 ·exact .inl (k _ _ h rfl)
 ·exact .inr h
theorem Cm{H:Hp}{d:Addr}{o:Mi}{kvs:List (Key×V)}{ks:List Key}(g:zU K H d o kvs)(e:kvs.map (·.1)=ks):ItP K (B7 K d o kvs) H (ks.map xX):=fun i H' k=>by
 subst e;refine⟨fun h=>⟨by simpa using h,g.kp k⟩,fun p ep=>?_⟩;rw[LC,LC] at ep;cases hk:kvs[i]? with
 | none=>rw[hk] at ep;cases ep
 | some kv=>
  rw[hk] at ep;cases ep;refine⟨⟨(L4.mp hk).1,g.kp k⟩,fun x H2 ⟨eh,kv',e1,e2⟩=>?_⟩;rw[hk] at e1;cases e1;subst eh e2;exact⟨Same.refl _,so kv.1⟩
theorem uP(d it:Addr)(o:Mi)(es:Array DictEntry)(ep:Nat)(ho:o.data=.dict es ep)(kvs:List (Key×V))(hw:w=TW.w):Turn P w K tg (B7 K d o kvs) [it] it (fun i h=>h.IsKeyIter it d i kvs.length ep) where
 mem:=by simp
 obj:=fun i h st b hb=>by
  have e:b=it:=by simpa using hb
  subst e;obtain⟨o,e,c,dd⟩:=st;exact⟨o,e,fun v z=>by rw[dd] at z;cases z⟩
 keep:=fun i h h' st k=>st.at fun o e=>k it (by simp) o e
 item:=by
  intro X hP hw hK hc i KW s σ H E I hf st hg;subst hP hw hK;obtain⟨hi,hq⟩:=hg;obtain⟨vs,rel,dat,_,_⟩:=hq.at hw I ho;have hl:kvs.length=vs.length:=M5 rel;obtain⟨f0,f1,f2,f3,f4,f5⟩:=hf it (by simp);have eg:vs[i]?=some vs[i]:=by simp[← hl,hi]
  have egk:kvs[i]?=some kvs[i]:=by simp[hi]
  obtain⟨hk1,hk2⟩:kvs[i].1=vs[i].1/\RelV kvs[i].2 vs[i].2:=m7 rel egk eg;rw[hl] at st;refine wpAny_pyNext_dict_item st dat (k:=vs[i].1) (v:=vs[i].2) eg fun key h' hkey st' sb=>?_;have I1:Inv X KW σ H { s with heap:=h' }:=I.turned (t':=s.toks) (fun b o hb e=>(sb.2 b hb).trans e) f0 f1 f3 f4 f5;obtain⟨oi,e,c,dd⟩:=id st'
  have rk:RelV (kV kvs[i].1) key:=by
   rw[hk1];rcases aY hkey with⟨j,t,e1,e2⟩|⟨y,t,e1,e2⟩
   ·rw[e1,e2];exact⟨t,rfl⟩
   ·rw[e1,e2];exact⟨t,rfl⟩
  exact⟨key,rfl,wD (s:={ s with heap:=h' }) e c dd (by decide) ⟨kV kvs[i].1,H,I1,rk,⟨rfl,_,egk,rfl⟩,by rw[hl];exact st',fun b hb=>(hf b hb).1⟩⟩
 done:=by
  intro X hP hw hK hc i KW s σ H E I hf st hg;subst hP hw hK;obtain⟨hi,hq⟩:=hg;obtain⟨vs,rel,dat,_,_⟩:=hq.at hw I ho;have hl:kvs.length=vs.length:=M5 rel;obtain⟨f0,f1,f2,f3,f4,f5⟩:=hf it (by simp);rw[hl] at st;exact wpAny_pyNext_dict_end (I.ok.hd hc) st dat (by simp[← hl,hi]) fun h' eb=>⟨rfl,I.turned (t':=s.toks) (fun b o hb e=>eb b o hb e) f0 f1 f3 f4 f5⟩
 self:=fun _ _ _ _ _ st h=>wpAny_pyIter_keyiter st h
def xQ(x:Str):It:=⟨fun i _=>i<x.cps.size,fun i H y H'=>H'=H/\∃c,x.cps[i]?=some c/\y=.str ⟨#[c]⟩,fun i _=>i=x.cps.size⟩
theorem zk{H:Hp}{x:Str}:ItP K (xQ x) H (fY x):=fun i H' k=>by
 refine⟨fun h=>show i=x.cps.size by simpa [fY] using h,fun p ep=>?_⟩;unfold fY at ep;rw[LC] at ep;cases hk:x.cps.toList[i]? with
 | none=>rw[hk] at ep;cases ep
 | some c=>
  rw[hk] at ep;cases ep;refine⟨show i<x.cps.size by simpa using (L4.mp hk).1,fun y H2 ⟨eh,c',e1,e2⟩=>?_⟩
  have:c'=c:=by
   rw[Rz] at hk;rw[hk] at e1;exact(M4 e1).symm
  subst this eh e2;exact⟨Same.refl _,rfl⟩
theorem oF{A:Ls}(hh:A.handled=none)(it:Addr)(x:Str)(t:Tok):Walks P w A it [it] [it] x.cps.size (SignAt x) (fun i h=>h.IsStrIter it (OM x) x t i):=by
 unfold OM
 split
 ·exact Walks.strAscii hh it x t
 ·exact Walks.strWide hh it x t
theorem qr (x:Str):["enumerate","zip","dict_itemiterator","dict_reverseitemiterator","odict_iterator","itertools.zip_longest","itertools.pairwise"].contains (OM x)=false:=by
 unfold OM
 split <;> decide
theorem t7(it:Addr)(x:Str)(t:Tok):Turn P w K tg (xQ x) [it] it (fun i h=>h.IsStrIter it (OM x) x t i) where
 mem:=by simp
 obj:=fun i h st b hb=>by
  have e:b=it:=by simpa using hb
  subst e;obtain⟨o,e,c,dd⟩:=st;exact⟨o,e,fun v z=>by rw[dd] at z;cases z⟩
 keep:=fun i h h' st k=>by
  obtain⟨o,e,r⟩:=st;exact⟨o,k it (by simp) o e,r⟩
 item:=by
  intro X hP hw hK hc i KW s σ H E I hf st hg;subst hP hw hK;obtain⟨f0,f1,f2,f3,f4,f5⟩:=hf it (by simp);have W:=oF (P:=X.prog) (w:=X.w) (I.ok.hd hc) it x t;refine W.item i s _ _ hg st fun v h' tk hv st' kk=>?_;obtain⟨c,u,ec,rfl⟩:=hv;have I1:Inv X KW σ H { s with heap:=h',toks:=tk }:=I.turned (fun b o hb e=>kk b o (by simpa using hb) e) f0 f1 f3 f4 f5;obtain⟨oi,e,cc,dd⟩:=id st';exact⟨_,rfl,wD (s:={ s with heap:=h',toks:=tk }) e cc dd (qr x) ⟨.str ⟨#[c]⟩,H,I1,⟨u,rfl⟩,⟨rfl,c,ec,rfl⟩,st',fun b hb=>(hf b hb).1⟩⟩
 done:=by
  intro X hP hw hK hc i KW s σ H E I hf st hg;subst hP hw hK;obtain⟨f0,f1,f2,f3,f4,f5⟩:=hf it (by simp);have W:=oF (P:=X.prog) (w:=X.w) (I.ok.hd hc) it x t;have hg:i=x.cps.size:=hg;subst hg;refine W.done s _ _ st fun h' tk hk=>⟨rfl,I.turned (fun b o hb e=>hk b o (by simpa using hb) e) f0 f1 f3 f4 f5⟩
 self:=fun A i s Q E st h=>by
  unfold OM at st;split at st
  ·exact wpAny_pyIter_striter_ascii st h
  ·exact wpAny_pyIter_striter_wide st h
end
section
variable{C : Cn}{e tg : Expr}{f : PSt → R PV}
theorem cV(he:EV C e f)(hw:C.X.w=TW.w:=by rfl):EI C tg e (itF f):=by
 intro KW s σ H R I ⟨ρ,vw,q⟩;refine thn (he KW s σ H (fun v H'=>∃p ps,Same H H'/\Rep C.X.K H' p v/\eD p=some ps/\∀J H2,Same H' H2->ItP C.X.K J H2 ps->R J H2) I ⟨ρ,vw,q.bind.imp fun p _ k v H' s' r=>?_⟩) fun v s1 ⟨x,H1,I1,r1,p,ps,sm,rp,ep,k⟩=>?_
 ·obtain⟨ps,ep,k⟩:=k.ofO
  exact⟨p,ps,s',r,ep,fun J H2 s2 it=>k J H2 (s'.trans s2) it⟩
 ·cases p with
  | lst qs=>
   cases ep;obtain⟨a,xs,rfl,g,rr⟩:=rp;cases r1;obtain⟨its,rv,pl,hz⟩:=I1.list g.l.l;refine wpAny_pyIter_list pl.isList ?_;refine⟨s1.heap.objs.size,[s1.heap.objs.size],_,_,H1,rfl,I1.kept (t':=s1.toks) fun b o e=>L5 _ e,uO a _,⟨_,LZ _ rfl,rfl,rfl⟩,fun b hb=>?_,k _ H1 (Same.refl H1) (Ck g rr)⟩;have e:b=s1.heap.objs.size:=by simpa using hb
   subst e;exact I1.fpOk (LX _) (I1.hok.fresh (LX _))
  | tup qs=>
   cases ep;obtain⟨a,xs,rfl,g,rr⟩:=rp;cases r1;obtain⟨its,rv,pl,hz⟩:=I1.tuple (tq g);refine wpAny_pyIter_tuple (show s1.heap.IsTuple a its.toArray from pl) ?_;refine⟨s1.heap.objs.size,[s1.heap.objs.size],_,_,H1,rfl,I1.kept (t':=s1.toks) fun b o e=>L5 _ e,t6 a _,⟨_,LZ _ rfl,rfl,rfl⟩,fun b hb=>?_,k _ H1 (Same.refl H1) (Fo (tq g) rr)⟩;have e:b=s1.heap.objs.size:=by simpa using hb
   subst e;exact I1.fpOk (LX _) (I1.hok.fresh (LX _))
  | dct ks qs=>
   cases ep;obtain⟨a,kvs,rfl,g,ek,rr⟩:=rp;cases r1
   obtain⟨o,es,ep,ho,hq,hs⟩:∃o es ep,o.data=.dict es ep/\zU C.X.K H1 a o kvs/\(a == MA)=false:=by
    rcases g with⟨o,g⟩ | g
    ·obtain⟨e0,z,hs,vs,rel,o',es',ep',e1,x1,d1,rest⟩:=I1.hok a _ g
     rw[e0] at e1;cases e1;exact⟨o,es',ep',d1,.inl g,hs⟩
    ·obtain⟨_,hs,o,es,ep,e,x,d,r⟩:=id g
     exact⟨o,es,ep,d,.inr ⟨e,g⟩,hs⟩
   obtain⟨vs,rel,dat,_,_⟩:=hq.at hw I1 ho;have hl:kvs.length=vs.length:=M5 rel;refine wpAny_pyIter_dict hs dat ?_;refine⟨s1.heap.objs.size,[s1.heap.objs.size],_,_,H1,rfl,I1.kept (t':=s1.toks) fun b o e=>L5 _ e,uP a _ o es ep ho kvs hw,⟨_,LZ _ rfl,rfl,by rw[hl];rfl⟩,fun b hb=>?_,k _ H1 (Same.refl H1) (Cm hq ek)⟩;have e:b=s1.heap.objs.size:=by simpa using hb
   subst e;exact I1.fpOk (LX _) (I1.hok.fresh (LX _))
  | str y=>
   cases ep;cases (show x=.str y from rp);obtain⟨t,rfl⟩:=r1;refine wpAny_pyIter_strU ?_;refine⟨s1.heap.objs.size,[s1.heap.objs.size],_,_,H1,rfl,I1.kept (t':=s1.toks) fun b o e=>L5 _ e,t7 _ y t,⟨_,LZ _ rfl,rfl,rfl⟩,fun b hb=>?_,k _ H1 (Same.refl H1) zk⟩;have e:b=s1.heap.objs.size:=by simpa using hb
   subst e;exact I1.fpOk (LX _) (I1.hok.fresh (LX _))
  | _=>cases ep
end
end PU
namespace PU
open PySem PySem.Spec PyProof.Rows L2 PySem.SeqAt
variable[TW]
theorem sO{C:Cn}{e:Expr}{f:PSt->R PV}{pos:NJ}(h:EV C e f):EV C (.UnaryOp .USub e pos) (un1 f y7):=by
 intro KW s σ H Q I ⟨ρ,vw,q⟩;refine Hu DQ h KW s σ H Q I ⟨ρ,vw,q.bind.imp fun p _ k v H1 s1 r1=>?_⟩;obtain⟨z,ez,k⟩:=k.ofO;cases p with
 | int i=>cases ez;cases (show v=.int i from r1);exact⟨i,rfl,k _ H1 s1 rfl⟩
 | _=>cases ez
def rM1(K:L0)(g:PV->PV->Option PV):V->List V->Hp->VK->Prop:=fun v vs H Q=>∃p q z u,vs=[u]/\aN K H p v/\aN K H q u/\g p q=some z/\∀w H',Same H H'->Rep K H' z w->Q w H'
structure StrM(name:Str)(id:String):Prop where
 slot:Slot "str" name id
 ty:typeOf (.builtin id)=pure (.type "method_descriptor")
theorem CA{C:Cn}{o e:Expr}{fo fe:PSt->R PV}{g:PV->PV->Option PV}{name:Str}{id:String}{apos cpos:NJ}(S:StrM name id)(hm:MtR C.X id (rM1 C.X.K g))(ho:EV C o fo)(he:EO C e fe)
  (hbase:OY o name C.X.env (MS o C.X.env)=MS o C.X.env:=by rfl) (hline:(apos.endLine == cpos.line)=true:=by rfl) (hs:Lc [e] C.X.env=[(false,MS e C.X.env)]:=by exact bj rfl) :
  EV C (.Call (.Attribute o name apos) [e] [] cpos) (qE fo fe g):=by
 intro KW s σ H Q I ⟨ρ,vw,q⟩;refine z6 PySem.F.plainAttrs_str S.slot S.ty hm ho (sQ he hs) hbase (by rw[hs];rfl) hline hs (by rfl) KW s σ H Q I ⟨ρ,vw,q.bind.imp fun p _ k v H1 s1 r1=>?_⟩;cases p with
 | str x=>
  cases (show v=.str x from r1);have k:RQ C H (fe ρ >>= fun q=>R.ofO (g (.str x) q)) fun p=>∀v H',Same H H'->Rep C.X.K H' p v->Q v H':=k;refine⟨rfl,ρ,vw.same s1,(k.bind.same s1).imp fun p2 _ k2 u H2 s2 r2=>?_⟩;obtain⟨z,ez,k3⟩:=k2.ofO;exact⟨.str x,p2,z,u,rfl,rfl,r2,ez,fun w H3 s3 r3=>k3 w H3 ((s1.trans s2).trans s3) r3⟩
 | _=>exact LJ k
theorem jw{K:L0}{H:Hp}:∀{ps:List PV}{xs:List V}{us:List L3}{ys:List Str},jG ps=some ys->au K H ps xs->Vals xs us->StrsAre us ys
 | [],_,_,_,e,r,rv=>by cases e;cases r;cases rv;exact .nil
 | p::ps,_,_,_,e,⟨x,t,ex,h1,h2⟩,rv=>by
  subst ex;cases p with
  | str y=>
   obtain⟨r,er,ez⟩:=LB.mp (show (jG ps).map (y::·)=some _ from e);subst ez;cases (show x=.str y from h1);cases rv with
   | cons a b=>
    obtain⟨tt,rfl⟩:=a;exact .cons y tt (jw er h2 b)
  | _=>cases e
theorem E2:StrM "join" "str.join":=⟨PySem.F.slot_str_join,PySem.F.type_str_join⟩
theorem EX {X:Cx}:MtR X "str.join" (rM1 X.K qR):=by
 intro KW s σ H x xs v us Q I rx rs ⟨p,q,z,u,e1,rp,rq,ez,k⟩;subst e1;obtain⟨u',rfl,ru⟩:=vals1 rs;unfold qR at ez;split at ez
 ·rename_i y ps
  obtain⟨ys,ey,ez⟩:=LD.mp ez;split at ez
  ·rename_i hl
   cases ez;cases (show x=.str y from rp);obtain⟨t,rfl⟩:=rx;obtain⟨a,zs,rfl,g,rr⟩:=aN.lst_inv rq;cases ru;obtain⟨_,its,n,rv,e⟩:=g.is I;exact join_list (items:=its.toArray) ⟨_,e,rfl,_,rfl⟩ (jw ey rr (by simpa using rv)) hl fun t' k'=>⟨.str _,H,I.tok _,⟨_,rfl⟩,k _ H (Same.refl H) rfl⟩
  ·cases ez
 ·rename_i y ps
  obtain⟨ys,ey,ez⟩:=LD.mp ez;split at ez
  ·rename_i hl
   cases ez;cases (show x=.str y from rp);obtain⟨t,rfl⟩:=rx;obtain⟨a,zs,rfl,g,rr⟩:=aN.tup_inv rq;cases ru;obtain⟨its,rv,pl,_⟩:=I.tuple g;exact join_tuple (items:=its.toArray) pl (jw ey rr (by simpa using rv)) hl fun t' k'=>⟨.str _,H,I.tok _,⟨_,rfl⟩,k _ H (Same.refl H) rfl⟩
  ·cases ez
 ·cases ez
end PU
namespace PU
open PySem PySem.Spec PyProof.Rows L2 PySem.SeqAt
variable[TW]
def K4(K:L0):V->Option Int->Option Int->Hp->VK->Prop:=fun v lo hi H Q=>∃p z,aN K H p v/\gSl p lo hi=some z/\∀w H',Same H H'->Rep K H' z w->Q w H'
def tOI(C:Cn)(f:PSt->R (Option Int)):TO:=fun σ H Q=>∃ρ,View C.X.K H σ ρ/\RQ C H (f ρ) fun o=>∀H',Same H H'->Q o H'
def EOI(C:Cn)(e:Option Expr)(f:PSt->R (Option Int)):Prop:=PO C.X e (tOI C f)
theorem ot{K:L0}{H:Hp}{ps:List PV}{xs:List V}(r:au K H ps xs)(lo hi:Option Int):au K H (lI ps lo hi) (zG xs lo hi):=by
 unfold lI zG;rw[r.length];exact(r.drop _).take _
section
variable{C : Cn}{e : Expr}{f : PSt → R PV}{lo hi : Option Expr}{l h : PSt → R (Option Int)}{pos p2 : NJ}
theorem eQ:EOI C none f9:=fun KW s σ H Q I ⟨ρ,vw,q⟩=>BJ KW s σ H Q I (q H (Same.refl H))
theorem dz(he:EV C e f):EOI C (some e) (ij f):=by
 intro KW s σ H Q I ⟨ρ,vw,q⟩;refine BI he KW s σ H Q I ⟨ρ,vw,q.bind.imp fun p _ k v H1 s1 r1=>?_⟩;cases p with
 | int i=>cases (show v=.int i from r1);exact⟨i,rfl,k H1 s1⟩
 | _=>exact LJ k
theorem slP{X:Cx}:SlR X (K4 X.K):=by
 intro KW s σ H x v vl vu lo hi sl Q I rx hs pl pu ⟨p,z,rp,ez,k⟩;cases p with
 | lst ps=>
  cases ez;obtain⟨a,xs,rfl,g,rr⟩:=aN.lst_inv rp;obtain⟨T,id,h1,h2,h3⟩:=Bp KW s σ H _ v vl vu lo hi sl (fun w H'=>∃b,w=.ref b/\H b=none/\H'=upd H b (.lst (zG xs lo hi))) I rx hs pl pu ⟨a,xs,rfl,g.l,fun b hb=>⟨b,rfl,hb,rfl⟩⟩;refine⟨T,id,h1,h2,thn h3 fun u s' ⟨w,H',I',rw',b,ew,nb,eH⟩=>?_⟩;subst ew eH;obtain⟨H2,I2,rp2,oth⟩:=L2.Inv.frz (a:=b) (p:=.lst (lI ps lo hi)) I' ⟨_,ai,(ot rr lo hi).same (Same.new nb)⟩;refine⟨.ref b,H2,I2,rw',k _ H2 (.of fun c o ec=>?_) rp2⟩;have hc:=bc ec nb;rw[oth c hc,aj hc];exact ec
 | tup ps=>
  simp only[gSl] at ez;obtain⟨a,xs,rfl,g,rr⟩:=aN.tup_inv rp
  by_cases hw:HT.sIx ps.length 0 lo=0/\HT.sIx ps.length ps.length hi=ps.length
  ·rw[if_pos hw] at ez
   cases ez
  ·rw[if_neg hw] at ez
   cases ez;exact Af KW s σ H _ v vl vu lo hi sl Q I rx hs pl pu ⟨a,xs,rfl,g,by rw[← rr.length];exact hw,fun b hb=>k _ _ (Same.new hb) ⟨b,_,rfl,ai,(ot rr lo hi).same (Same.new hb)⟩⟩
 | _=>cases ez
theorem o8(ha:EO C e f)(hl:EOI C lo l)(hh:EOI C hi h):EV C (.Subscript e (.Slice lo hi none p2) pos) (lY f l h):=by
 intro KW s σ H Q I ⟨ρ,vw,q⟩;refine nE slP ha hl hh KW s σ H Q I ⟨ρ,vw,q.bind.imp fun p _ k v H1 s1 r1=>⟨ρ,vw.same s1,(k.bind.same s1).imp fun o1 _ k2 H2 s2=>⟨ρ,(vw.same s1).same s2,(k2.bind.same (s1.trans s2)).imp fun o2 _ k3 H3 s3=>?_⟩⟩⟩;obtain⟨z,ez,k4⟩:=k3.ofO;exact⟨p,z,(r1.same s2).same s3,ez,fun w H4 s4 r4=>k4 w H4 (((s1.trans s2).trans s3).trans s4) r4⟩
end
theorem oV{K:L0}{H:Hp}{k:Key}{p:PV}{v:V}(rp:Rep K H p v):∀{kvs:List (Key×V)}{ps:List PV},au K H ps (kvs.map (·.2))->au K H (jJ (kvs.map (·.1)) ps k p) ((kvs.map fun kv=>if kv.1=k then (kv.1,v) else kv).map (·.2))
 | [],ps,r=>by
  cases ps with
  | nil=>rfl
  | cons q qs=>obtain⟨x,t,e,_⟩:=r;cases e
 | kv::kvs,ps,r=>by
  cases ps with
  | nil=>cases r
  | cons q qs=>
   obtain⟨x,t,e,h1,h2⟩:=r;simp only[L8,Ni] at e;obtain⟨rfl,rfl⟩:=e;have ih:=oV (k:=k) rp h2;simp only[L8,jJ,MX]
   by_cases hk:kv.1=k
   ·rw[if_pos hk,if_pos hk];exact⟨_,_,rfl,rp,ih⟩
   ·rw[if_neg hk,if_neg hk];exact⟨_,_,rfl,h1,ih⟩
theorem rK{K:L0}{H:Hp}{kvs:List (Key×V)}{ps:List PV}{k:Key}{p:PV}{v:V}(rr:au K H ps (kvs.map (·.2)))(rp:Rep K H p v) :
  ∃ks' ps',jA (kvs.map (·.1)) ps k p=.dct ks' ps'/\(putK kvs k v).map (·.1)=ks'/\au K H ps' ((putK kvs k v).map (·.2)):=by
 unfold jA;have e:((kvs.map (·.1)).any fun j=>decide (j=k))=(kvs.any fun kv=>decide (kv.1=k)):=by rw[NO];rfl
 rw[e];unfold putK
 split
 ·refine⟨_,_,rfl,?_,oV rp rr⟩
  rw[LV];apply NH;intro kv _;simp only[NF]
  split <;> rfl
 ·refine⟨_,_,rfl,by simp,?_⟩
  rw[Ld];exact au.append rr ⟨_,_,rfl,rp,rfl⟩
theorem nr{K:L0}{H:Hp}{a:Addr}{kvs:List (Key×V)}{ps:List PV}{k:Key}{p:PV}{v:V}(rr:au K H ps (kvs.map (·.2)))(rp:Rep K H p v)(ha:H a=some (.dK (putK kvs k v))):c5 K H a (jA (kvs.map (·.1)) ps k p):=by
 obtain⟨ks',ps',e,e1,e2⟩:=rK (k:=k) rr rp;rw[e];exact⟨_,ha,e1,e2⟩
theorem lW{C:Cn}(i:Nat){x:Str}{ke e:Expr}{fk fv:PSt->R PV}{np pos' pos:NJ}(hu:C.X.A.units+64<cLine)(hk:EV C ke fk)(hv:EV C e fv)(hN:C.X.N[i]?=some x:=by rfl)(hvis:Vis C.X.env.scope x:=by first | exact Ow rfl | exact Ov (Ow rfl))
  (hs:OB e (some (.Subscript (.Name x np) ke pos')) pos.line C.X.env=pure false:=by rfl) (hd:(x == ("__debug__":Str))=false:=by decide) (hcd:(x == ("__classdict__":Str))=false:=by decide) :
  SV C (.Assign [.Subscript (.Name x np) ke pos'] e pos) (ux i fk fv):=by
 intro KW s σ H D I ⟨ρ,B,S,q⟩;unfold ux at q;split at q
 ·rename_i ks ps e1
  obtain⟨a,e2,kvs,hx,ek,rr⟩:=S.vw i _ e1;refine vh (by omega) (dS hN hvis hd hcd) hk hv hs KW s σ H D I ⟨ρ,S.vw,(q.bind S.same).imp fun p _ q1 v H1 s1 r1=>⟨_,e2,ρ,S.vw.same s1,(q1.bind (S.same.trans s1)).imp fun kp _ q2 y H2 s2 r2=>?_⟩⟩;obtain⟨k,e3,q3⟩:=RS.ofO q2
  by_cases hl:ks.length<16777216
  ·rw[if_pos hl] at q3
   have hy:=de e3 r2.o;subst hy;subst ek;have hx2:H2 a=some (.dK kvs):=s2 _ _ (s1 _ _ hx);refine⟨a,_,rfl,B8.k hx2 (by rw[Ly];simpa using hl),?_⟩;have kp:Kp H2 (upd H2 a (.dK (putK kvs k v))):=Kp.upd hx2 rfl;refine q3 σ _ (((S.grow s1).grow s2).turn e1 e2 (fun b hb=>aj hb) ⟨a,rfl,?_⟩);exact nr (au.kp kp _ ((rr.same s1).same s2)) (Rep.kp kp _ (r1.same s2)) ai
  ·rw[if_neg hl] at q3
   exact LJ q3
 ·exact LJ q
theorem lg{C:Cn}{pos:NJ}:EN C (.Dict [] [] pos) newD:=fun KW s σ H Q I ⟨ρ,vw,q⟩=>yY KW s σ H Q I fun p hp=>q p _ (Same.new hp) hp ⟨[],ai,rfl,rfl⟩
def ja(K:L0)(H:Hp):List (Key×PV)->List (Key×V)->Prop
 | [],xs=>xs=[]
 | kp::r,xs=>∃v t,xs=(kp.1,v)::t/\Rep K H kp.2 v/\ja K H r t
theorem ja.kp{K:L0}{H H':Hp}(k:Kp H H'):∀{kps:List (Key×PV)}{xs:List (Key×V)},ja K H kps xs->ja K H' kps xs
 | [],_,h=>h
 | kp::r,_,⟨v,t,e,h1,h2⟩=>⟨v,t,e,Rep.kp k _ h1,ja.kp k h2⟩
def ED(C:Cn)(pos:NJ)(ks:List (Option Expr))(vs:List Expr)(f:PSt->R (List (Key×PV))):Prop:=∃trs,PPs C.X pos ks vs trs/\
 ∀σ H Q,(∃ρ,View C.X.K H σ ρ/\RQ C H (f ρ) fun kps=>∀kvs H',Same H H'->ja C.X.K H' kps kvs->Q (kvs.map fun kv=>(kV kv.1,kv.2)) H')->rA trs σ H Q
theorem AR{C:Cn}{pos:NJ}:ED C pos [] [] EK:=⟨[],vi,fun σ H Q ⟨ρ,vw,q⟩=>q [] H (Same.refl H) rfl⟩
theorem jt{C:Cn}{pos:NJ}{k v:Expr}{ks:List (Option Expr)}{vs:List Expr}{fk fv:PSt->R PV}{f:PSt->R (List (Key×PV))}(hk:EV C k fk)(hv:EV C v fv)(h:ED C pos ks vs f):ED C pos (some k::ks) (v::vs) (ou fk fv f):=by
 obtain⟨trs,hp,ht⟩:=h;refine⟨_,rO hk hv hp,fun σ H Q ⟨ρ,vw,q⟩=>⟨ρ,vw,q.bind.imp fun kp _ q1 x H1 s1 r1=>?_⟩⟩
 obtain⟨kk,ek,q1⟩:∃kk,ft kp=some kk/\RQ C H (fv ρ >>= fun p=>f ρ >>= fun r=>R.ok ((kk,p)::r)) _:=by
  cases h:ft kp with
  | none=>rw[h] at q1;exact LJ q1
  | some kk=>rw[h] at q1;exact⟨kk,rfl,q1⟩
 refine⟨ρ,vw.same s1,(q1.bind.same s1).imp fun p _ q2 y H2 s2 r2=>ht σ H2 _ ⟨ρ,(vw.same s1).same s2,(q2.bind.same (s1.trans s2)).imp fun kps _ q3 kvs H3 s3 r3=>?_⟩⟩;have hx:=de ek r1.o;subst hx;exact q3 ((kk,y)::kvs) H3 ((s1.trans s2).trans s3) ⟨y,kvs,rfl,r2.same s3,r3⟩
def uo(d:PV)(kp:Key×PV):PV:=match d with
 | .dct ks ps=>jA ks ps kp.1 kp.2
 | d=>d
theorem iG(kps:List (Key×PV)):eJ kps=kps.foldl uo (.dct [] []):=rfl
theorem iF{K:L0}{H:Hp}:∀{kps:List (Key×PV)}{kvs acc:List (Key×V)}{ps:List PV},ja K H kps kvs->au K H ps (acc.map (·.2))->
  ∃ks' ps',kps.foldl uo (PV.dct (acc.map (·.1)) ps)=PV.dct ks' ps'/\(cZ acc kvs).map (·.1)=ks'/\au K H ps' ((cZ acc kvs).map (·.2))
 | [],kvs,acc,ps,h,r=>by cases h;exact⟨_,_,rfl,rfl,r⟩
 | kp::kps,kvs,acc,ps,⟨v,t,e,h1,h2⟩,r=>by
  subst e;obtain⟨ks',ps',g,g1,g2⟩:=rK (k:=kp.1) r h1;obtain⟨ks2,ps2,f,f1,f2⟩:=iF (acc:=putK acc kp.1 v) h2 g2;refine⟨ks2,ps2,?_,f1,f2⟩;rw[MM]
  have:uo (PV.dct (acc.map (·.1)) ps) kp=PV.dct ((putK acc kp.1 v).map (·.1)) ps':=by
   show jA _ _ _ _=_;rw[g,g1]
  rw[this];exact f
theorem ja.length{K:L0}{H:Hp}:∀{kps:List (Key×PV)}{xs:List (Key×V)},ja K H kps xs->kps.length=xs.length
 | [],_,h=>by cases h;rfl
 | kp::r,_,⟨v,t,e,h1,h2⟩=>by subst e;simp[ja.length h2]
theorem xa{C:Cn}{pos:NJ}{ks:List (Option Expr)}{vs:List Expr}{f:PSt->R (List (Key×PV))}(h:ED C pos ks vs f)(hall:ks.all (·.isSome)=true:=by rfl)(hl:ks.length=vs.length:=by rfl)(h0:ks≠[]:=by exact fun z=>nomatch z)
  (h15:ks.length<=15:=by decide):EN C (.Dict ks vs pos) (xl f):=by
 obtain⟨trs,hp,ht⟩:=h;intro KW s σ H Q I ⟨ρ,vw,q⟩;refine BM hp hall hl h0 h15 KW s σ H Q I fun p hn=>ht σ _ _ ⟨ρ,vw.same (Same.new hn),(q.bind.same (Same.new hn)).imp fun kps _ q1 kvs H3 s3 r3=>?_⟩;have sm:Same H H3:=(Same.new hn).trans s3;have e3:H3 p=some (.dK []):=s3 _ _ ai
 by_cases hk:kps.length<=15
 ·rw[if_pos hk] at q1
  refine⟨e3,kvs,rfl,by rw[← r3.length];exact hk,?_⟩;have kp:Kp H3 (upd H3 p (.dK (cZ [] kvs))):=Kp.upd e3 rfl;obtain⟨ks',ps',g,g1,g2⟩:=iF (acc:=[]) (ps:=[]) (ja.kp kp r3) au.nil;refine q1 p _ (sm.but hn (fun u h=>by rw[e3] at h;cases h;rfl) (fun b hb=>aj hb)) hn ?_
  ·rw[iG]
   have g:kps.foldl uo (PV.dct [] [])=PV.dct ks' ps':=g;rw[g];exact⟨_,ai,g1,g2⟩
 ·rw[if_neg hk] at q1
  exact LJ q1
end PU
namespace PU
open PySem PySem.Spec PyProof.Rows L2 PySem.SeqAt
variable[TW]
structure Con(K:L0)(mg:Str->Option L3)(x:Str)(c:PV):Prop where
 ex:∃v u,mg x=some u/\RelV v u/\∀H,Rep K H c v
theorem mC {C:Cn} {x:Str} {c:PV} {pos:NJ} (hg:Gl C.X x) (h:Con C.X.K C.X.mg x c) (hd:(x == ("__debug__":Str))=false:=by decide):EV C (.Name x pos) (kP c):=by
 obtain⟨v,u,hm,r,rp⟩:=h.ex;exact CC hg hm r rp hd
def FI(p:Params)(e:Str×Tok×L3):DictEntry:={ hash:=PyData.keyHash p e.1,key:=.str e.1 e.2.1,val:=e.2.2 }
omit [TW] in
theorem tY(w:Ln)(x:Str):PyData.keyHash w.params x=hashStr w x:=rfl
omit [TW] in
theorem m6{P:Lf}{w:Ln}:∀(es:List (Str×Tok×L3)),Pairs (ah P w) (es.map (FI w.params)) (es.map fun e=>((Na e.1:Key),e.2.2))
 | []=>.nil
 | e::es=>.cons (fH P w e.1 e.2.1) rfl (m6 es)
omit [TW] in
theorem w6:∀{xs:List V}{es:List (Str×Tok×L3)},Vals xs (es.map (·.2.2))->KV ((es.map fun e=>(Na e.1:Key)).zip xs) (es.map fun e=>((Na e.1:Key),e.2.2))
 | [],[],_=>.nil
 | x::xs,e::es,r=>by
  cases r with
  | cons a b=>exact .cons ⟨rfl,a⟩ (w6 b)
 | [],_::_,r=>by cases r
 | _::_,[],r=>by cases r
omit [TW] in
theorem con_dct{w:Ln}{tabs:List Addr}{qual:Nat->Nat->Str}{K:L0}{h:Heap}{mg:Str->Option L3}{x:Str}{a:Addr}{o:Mi}(es:List (Str×Tok×L3)){ep:Nat}{ps:List PV}{xs:List V}(X:K.In h)(G:h.Ns mainGlobals mg)
  (n1:Md K mainGlobals x=some (some (.ref a))) (n2:K.lookup a=some o) (n3:o={ cls:=.type "dict",data:=.dict (es.map (FI w.params)).toArray ep }) (hs:(a == MA)=false)
  (nd:(es.map (·.1)).Nodup) (hz:es.length<=sizeLine) (vals:Vals xs (es.map (·.2.2))) (reps:∀H,@au ⟨w,tabs,qual⟩ K H ps xs):@Con ⟨w,tabs,qual⟩ K mg x (.dct (es.map fun e=>.inr e.1) ps):=by
 letI:TW:=⟨w,tabs,qual⟩
 have hl:xs.length=es.length:=by rw[vals.length,LA]
 have e1:((es.map fun e=>(Na e.1:Key)).zip xs).map (·.1)=es.map fun e=>.inr e.1:=Qt (by rw[LA];omega);have e2:((es.map fun e=>(Na e.1:Key)).zip xs).map (·.2)=xs:=Qs (by rw[LA];omega);refine⟨.ref a,_,P6 X G n1,rfl,fun H=>⟨a,(es.map fun e=>(Na e.1:Key)).zip xs,rfl,.inr ⟨?_,hs,o,_,_,n2,?_,by rw[n3],fun P=>⟨es.map fun e=>((Na e.1:Key),e.2.2),w6 vals,?_,?_,?_⟩⟩,e1,by rw[e2];exact reps H⟩⟩
 ·rw[Nw,LA,hl]
  omega
 ·rw[n3]
  exact⟨rfl,rfl,rfl⟩
 ·intro e he
  have he:e∈es.map (FI w.params):=by simpa using he
  obtain⟨z,_,rfl⟩:=LG.mp he;exact⟨.inr z.1,fH P w z.1 z.2.1,tY w z.1⟩
 ·have e3:(es.map (FI w.params)).toArray.toList=es.map (FI w.params):=by simp
  rw[e3];exact m6 (P:=P) (w:=w) es
 ·rw[LV]
  have:((·.1) ∘ fun e:Str×Tok×L3=>((Na e.1:Key),e.2.2))=Na ∘ (·.1):=rfl;rw[this,← LV];exact Pw _ (fun a b hab e=>hab (Nf e)) nd
theorem HH{P:Lf}{w:Ln}{K:L0}{mg:Str->Option L3}{base:Heap}{x qual:Str}{st:Stmt}{f:Addr}{fd:Mw}{N ps:List Str}{k:Nat}{g:PSt->R Fl}(F:Fun K x qual st f fd)(S:FnScope N ps (a7 st))
  (hbody:∀(cdv:L3)(A:Ls)(outer:List Qa)(s:L6)(H:Hp)(E:XK),Room k (A.deeper (OU qual (a7 st) s.heap.objs.size f cdv))->SVs (AV P w K mg base N qual (a7 st) f cdv A outer s H E) (aT st) g) :
  FnOk P w K mg base CX0 (k+1) f fd ps (spP K ps.length (dF ps.length N.length g)):=by
 refine F.ok S (fun vs H Q E h=>h.1) (fun cdv A outer s H vs Q E hr h=>?_);obtain⟨hl,tb,qs,p,r,e,k⟩:=h;refine⟨_,hbody cdv A outer s H E hr,start N.length qs,(H,H),iy tb r,?_⟩;unfold dF at e;rw[if_pos (by rw[r.length];exact hl)] at e;cases hg:g (start N.length qs) with
 | ok fl=>
  rw[hg] at e;cases fl with
  | next ρ=>cases e;exact fun σ H' S'=>k .non H' S'.same rfl
  | ret q=>cases e;exact fun v H' s' r'=>k v H' s' r'
  | brk ρ=>cases e
  | cont ρ=>cases e
 | er x=>rw[hg] at e;cases e
 | no=>rw[hg] at e;cases e
theorem tB{K:L0}{H:Hp}{a:Addr}{ns:List Int}(h:SqF K H a (ns.map V.int)):au K H [.lst (ns.map .int)] [.ref a]:=by
 have:∀l:List Int,au K H (l.map PV.int) (l.map V.int):=by
  intro l
  induction l with
  | nil=>rfl
  | cons x l ih=>exact⟨_,_,rfl,rfl,ih⟩
 exact⟨_,_,rfl,⟨a,_,rfl,h,this ns⟩,rfl⟩
end PU
namespace PU
open PySem PySem.Spec PyProof.Rows L2 PySem.SeqAt
section
variable{P : Lf}{w : Ln}{A : Ls}{E : L3 → L6 → Prop}{s : L6}{it a : Addr}{i n ep slot : Nat}
def Tells(P:Lf)(w:Ln)(s:L6)(a:Addr)(slot i ep:Nat)(r:Option (L3×Nat)):Prop:=∀(A:Ls)(E:L3->L6->Prop)(Q:Option (L3×Nat)->L6->Prop),Q r s->LY (Ll P w) A (setNext a slot i ep) Q E s
end
end PU
section
namespace PU
def whF(t:PSt->R Bool)(g:PSt->R Fl):Nat->PSt->R Fl
 | 0,_=>.no
 | n+1,ρ=>t ρ >>= fun b=>if b=true then g ρ >>= fun fl=>(match fl with
  | .next ρ2=>whF t g n ρ2
  | .cont ρ2=>whF t g n ρ2
  | .brk ρ2=>.ok (.next ρ2)
  | .ret q=>.ok (.ret q)) else .ok (.next ρ)
def whS(n:Nat)(t:PSt->R Bool)(g:PSt->R Fl):PSt->R Fl:=whF t g n
end PU
namespace PU
open PySem PySem.Spec PyProof.Rows L2 PySem.SeqAt
variable[TW]
theorem mK{C:Cn}{c:Expr}{body:List Stmt}{t:PSt->R Bool}{g:PSt->R Fl}{pos:NJ}(n:Nat)(hc:ET C c t)(hb:SVs C body g)(hp:QZ (Ll C.X.prog C.X.w) C.X.A C.X.env C.X.xe:=by exact PK):SV C (.While c body [] pos) (whS n t g):=by
 intro KW s σ H D I ⟨ρ,B,S,q⟩;refine yP hp hc hb KW s σ H D I ⟨fun m σ' H'=>∃ρ',StOk C.X.K B H' σ' ρ'/\RS C B D (whF t g m ρ'),⟨n,ρ,S,q⟩,?_⟩;rintro m σ' H' ⟨ρ',S',q'⟩;cases m with
 | zero=>exact LJ q'
 | succ m=>
  have q':RS C B D (t ρ' >>= fun b=>if b=true then g ρ' >>= fun fl=>(match fl with
   | .next ρ2=>whF t g m ρ2
   | .cont ρ2=>whF t g m ρ2
   | .brk ρ2=>.ok (.next ρ2)
   | .ret q=>.ok (.ret q)) else .ok (.next ρ')):=q'
  refine⟨ρ',S'.vw,(q'.bind S'.same).imp fun b _ k H1 s1=>?_⟩;cases b with
  | false=>
   rw[if_neg LK] at k ⊢;exact k σ' H1 (S'.grow s1)
  | true=>
   rw[if_pos rfl] at k ⊢;refine⟨fun σ2 H2=>∃ρ2,StOk C.X.K B H2 σ2 ρ2/\RS C B D (whF t g m ρ2),fun σ2 H2 z=>⟨m,Pj m,z⟩,ρ',B,S'.grow s1,?_⟩;cases hgr:g ρ' with
   | ok fl=>
    rw[hgr] at k;cases fl with
    | next ρ2=>exact fun σ4 H4 S4=>⟨ρ2,S4,k⟩
    | cont ρ2=>exact fun σ4 H4 S4=>⟨ρ2,S4,k⟩
    | brk ρ2=>exact fun σ4 H4 S4=>k σ4 H4 S4
    | ret p=>exact k
   | er x=>rw[hgr] at k;exact k
   | no=>rw[hgr] at k;exact k
end PU
end
namespace PU
open PySem PySem.Spec PyProof.Rows L2 PySem.SeqAt
variable[TW]
theorem yt{K:L0}{H:Hp}{p q z:PV}{x u:V}{v:L3}{us:List L3}{g:PV->PV->Option PV}(hg:∀p q z,g p q=some z->∃a b,p=.str a/\q=.str b)(rx:RelV x v)(rs:Vals [u] us)(rp:aN K H p x)(rq:aN K H q u)(ez:g p q=some z) :
  ∃a b t t2,p=.str a/\q=.str b/\v=.str a t/\us=[.str b t2]:=by
 obtain⟨a,b,rfl,rfl⟩:=hg p q z ez;obtain⟨u',rfl,ru⟩:=vals1 rs;cases (show x=.str a from rp);cases (show u=.str b from rq);obtain⟨t,rfl⟩:=rx;obtain⟨t2,rfl⟩:=ru;exact⟨a,b,t,t2,rfl,rfl,rfl,rfl⟩
end PU
namespace PU
open PySem PySem.Spec PyProof.Rows L2 PySem.SeqAt
variable[TW]
theorem lj {C:Cn} {tg a b:Expr} {f f2:PSt->R PV} {p pos:NJ} (hg:Gl C.X "range") (hm:C.X.mg "range"=none) (ha:EV C a f) (hb:EV C b f2) (hs:Lc [a,b] C.X.env=[(false,MS a C.X.env),(false,MS b C.X.env)]:=by rfl)
  (hs2:Lc [b] C.X.env=[(false,MS b C.X.env)]:=by exact bj rfl):EI C tg (.Call (.Name "range" p) [a,b] [] pos) (Dh f f2):=by
 intro KW s σ H Rk I ⟨ρ,vw,q⟩;refine vo hg hm (bM ha (bM hb fT hs2) (by rw[hs,hs2])) hs hs2 KW s σ H Rk I ⟨ρ,vw,q.bind.imp fun p _ k v H1 s1 r1=>⟨ρ,vw.same s1,(k.bind.same s1).imp fun p2 _ k2 v2 H2 s2 r2=>?_⟩⟩;cases p with
 | int i=>
  cases p2 with
  | int j=>
   cases (show v=.int i from r1);cases (show v2=.int j from r2);have k2:RQ C H (if i.natAbs<1000000000/\j.natAbs<1000000000 then R.ok (c7 i (j-i).toNat) else R.no) fun ps=>∀J H',Same H H'->ItP C.X.K J H' ps->Rk J H':=k2
   by_cases hj:i.natAbs<1000000000/\j.natAbs<1000000000
   ·rw[if_pos hj] at k2
    exact⟨i,j,rfl,⟨by omega,by omega,by omega,by omega⟩,k2 _ H2 (s1.trans s2) sr⟩
   ·rw[if_neg hj] at k2
    exact LJ k2
  | _=>exact LJ k2
 | _=>exact LJ k2
end PU
section
namespace PU
def Cp:PV->Bool
 | .dct _ _=>true
 | _=>false
end PU
namespace PU
open PySem PySem.Spec PyProof.Rows L2 PySem.SeqAt
variable[TW]
theorem mf{K:L0}{H:Hp}{k:Key}:∀{ks:List Key}{ps:List PV}{kvs:List (Key×V)},kvs.map (·.1)=ks->au K H ps (kvs.map (·.2))->bK ks ps k=none->jI kvs k=none
 | _,_,[],h1,h2,e=>rfl
 | _,[],kv::kvs,h1,h2,e=>by
  cases h2
 | _,q::ps,kv::kvs,h1,h2,e=>by
  subst h1;obtain⟨x,r,ex,hx,ht⟩:=h2;simp only[L8,Ni] at ex;obtain⟨rfl,rfl⟩:=ex;simp only[L8,bK] at e
  by_cases hk:kv.1=k
  ·rw[if_pos hk] at e
   cases e
  ·rw[if_neg hk] at e
   rw[fq hk];exact mf rfl ht e
end PU
end
namespace PU
open PySem PySem.Spec PyProof.Rows L2 PySem.SeqAt
theorem mM:isSubtype (.type "dict") (.type "dict")=pure true:=by rw[isSubtype_type];kernel_rfl
section
variable{P : Lf}{w : Ln}{A : Ls}{E : L3 → L6 → Prop}{s : L6}{d : Addr}{kvs : List (Key×L3)}{ep : Nat}
theorem pI{Q:L3->L6->Prop}(hh:A.handled=none)(hd:(d == MA)=false)(m:s.heap.DictAt (ah P w) d kvs ep)(hz:kvs.length<=sizeLine)
  (q:∀(h':Heap) (tk:Nat) (acc:Array L3) (c:Nat),(∀b o,s.heap.get? b=some o->h'.get? b=some o)->h'.get? s.heap.objs.size=some { cls:=.type "list",data:=.seq acc c }->
   ItemsOf (fun i v=>∃k x,kvs[i]?=some (k,x)/\(ah P w).is k v=true) acc kvs.length->Q (.ref s.heap.objs.size) { s with heap:=h',toks:=tk }):LY (Ll P w) A (call (.type "list") [.ref d]) Q E s:=by
 have ld:d<s.heap.objs.size:=by obtain⟨o,es,ho,_⟩:=m;exact LF ho
 refine QS (Q₁:=fun obj s₁=>obj=.ref s.heap.objs.size/\s₁={ s with heap:=s.heap.push { cls:=.type "list",data:=.seq #[] } }) Rp (RE _) RJ (code_list_new _ ⟨rfl,rfl⟩) fun obj s₁ h₁=>?_;obtain⟨rfl,rfl⟩:=h₁;have g0:(s.heap.push { cls:=.type "list",data:=.seq #[] }).get? s.heap.objs.size=some { cls:=.type "list",data:=.seq #[] }:=LZ _ rfl;refine⟨⟨_,g0,rfl⟩,RA _ _,?_⟩;show LY _ _ (do let old<- OJ (.ref s.heap.objs.size);Qk (.ref s.heap.objs.size) (fun _=>#[]);letGo old.toList.reverse;Mf (.ref s.heap.objs.size) (.ref d) .none) _ _ _;refine L1 ?_;unfold OJ;refine L1 (wpAny_seqItems g0 rfl (L9 ?_));show LY _ _ (updateSeq s.heap.objs.size (fun _=>#[]) >>= fun _=>letGo (#[]:Array L3).toList.reverse >>= fun _=>Mf (.ref s.heap.objs.size) (.ref d) .none) _ _ _;refine L1 (O8 g0 rfl ?_ (M0 _) (M0 _));have g1:=Mx (Lu (fun _=>(#[]:Array L3))) g0 rfl
 have k1:∀b o,s.heap.get? b=some o->((s.heap.push { cls:=.type "list",data:=.seq #[] }).update s.heap.objs.size (Lu (fun _=>(#[]:Array L3)))).get? b=some o:=
  fun b o e=>(MW _ _ (MQ (LF e))).trans (L5 _ e)
 have z1:((s.heap.push { cls:=.type "list",data:=.seq #[] }).update s.heap.objs.size (Lu (fun _=>(#[]:Array L3)))).objs.size=s.heap.objs.size+1:=by rw[Heap.size_update,OZ]
 refine L1 (wpAny_letGo ?_);generalize (s.heap.push { cls:=.type "list",data:=.seq #[] }).update s.heap.objs.size (Lu (fun _=>(#[]:Array L3)))=h1 at g1 k1 z1 ⊢
 have m1:h1.DictAt (ah P w) d kvs ep:=by
  obtain⟨o,es,ho,r⟩:=m;exact⟨o,es,k1 _ _ ho,r⟩
 have t1:({ s with heap:=h1 }:L6).TypeIs (.ref d) "dict":=m1.dictOf.typeIs;unfold Mf;refine L1 (NT (T:="dict") t1 ?_)
 have r1:Qb (.ref s.heap.objs.size) (.ref d)=false:=by
  show (s.heap.objs.size == d)=false;simpa using MQ ld
 have r2:(Nk "dict" == Nk "list")=false:=by decide
 have r3:(Nk "dict" == Nk "tuple")=false:=by decide
 simp only[r1,r2,r3,Rj,M9,if_false];refine L1 (wpAny_pyIter_dict (knd:=ah P w) (s:={ s with heap:=h1 }) hd m1 ?_);refine L1 (Mj ?_)
 have m2:(h1.push { cls:=.type "dict_keyiterator",data:=.fields #[.ref d,.int 0 0,.int kvs.length 0,.int ep 0] }).DictAt (ah P w) d kvs ep:=by
  obtain⟨o,es,ho,r⟩:=m1;exact⟨o,es,L5 _ ho,r⟩
 have t2:=(show ({ s with heap:=h1.push { cls:=.type "dict_keyiterator",data:=.fields #[.ref d,.int 0 0,.int kvs.length 0,.int ep 0] } }:L6).TypeIs (.ref d) "dict" from m2.dictOf.typeIs);unfold QL;refine L1 (wpAny_specialOf (T:="dict") (v:=.ref d) t2 PySem.F.slot_dict_len.lookup ?_)
 wp_delta
 refine L1 (Pz (T:="dict") (v:=.ref d) (b:=true) t2 mM ?_);show LY _ _ (typeOf (M1 d) >>= _) _ _ _;refine L1 (NT (T:="dict") (v:=.ref d) t2 (L9 ?_));rw[if_pos (by decide)];refine L1 (Q5 (L1 ?_));unfold Qn;have nI:h1.objs.size≠s.heap.objs.size:=by rw[z1];exact Pi _
 have gL2:(h1.push { cls:=.type "dict_keyiterator",data:=.fields #[.ref d,.int 0 0,.int kvs.length 0,.int ep 0] }).get? s.heap.objs.size=some _:=L5 _ g1;have gI2:(h1.push { cls:=.type "dict_keyiterator",data:=.fields #[.ref d,.int 0 0,.int kvs.length 0,.int ep 0] }).get? h1.objs.size=some _:=LZ _ rfl;have k2:∀b o,s.heap.get? b=some o->(h1.push { cls:=.type "dict_keyiterator",data:=.fields #[.ref d,.int 0 0,.int kvs.length 0,.int ep 0] }).get? b=some o:=fun b o e=>L5 _ (k1 b o e);refine L1 (O8 gL2 rfl ?_ (M0 _) (by show 1<=_;rw[Ly];decide));have g3:=Mx (Lu (·.push Mo)) gL2 rfl;refine O8 g3 rfl ?_ (by show 1<=_;rw[Ly];decide) (M0 _);have g4:=Mx (Lu (·.pop)) g3 rfl
 have k4:∀b ob,b≠s.heap.objs.size->(h1.push { cls:=.type "dict_keyiterator",data:=.fields #[.ref d,.int 0 0,.int kvs.length 0,.int ep 0] }).get? b=some ob->(((h1.push { cls:=.type "dict_keyiterator",data:=.fields #[.ref d,.int 0 0,.int kvs.length 0,.int ep 0] }).update s.heap.objs.size (Lu (·.push Mo))).update s.heap.objs.size (Lu (·.pop))).get? b=some ob:=fun b ob hb e=>
  (MW _ _ (MU hb)).trans ((MW _ _ (MU hb)).trans e)
 show LY _ _ _ _ _ { s with heap:=(((h1.push { cls:=.type "dict_keyiterator",data:=.fields #[.ref d,.int 0 0,.int kvs.length 0,.int ep 0] }).update s.heap.objs.size (Lu (·.push Mo))).update s.heap.objs.size (Lu (·.pop))) };generalize ((h1.push { cls:=.type "dict_keyiterator",data:=.fields #[.ref d,.int 0 0,.int kvs.length 0,.int ep 0] }).update s.heap.objs.size (Lu (·.push Mo))).update s.heap.objs.size (Lu (·.pop))=h4 at g4 k4 ⊢;have nd:d≠s.heap.objs.size:=LO ld;have ndI:d≠h1.objs.size:=by rw[z1];exact LO (NA ld)
 have st4:h4.IsKeyIter h1.objs.size d 0 kvs.length ep/\h4.DictAt (ah P w) d kvs ep:=by
  refine⟨⟨_,k4 _ _ nI gI2,rfl,rfl⟩,?_⟩;obtain⟨o,es,ho,r⟩:=m2;exact⟨o,es,k4 _ _ nd ho,r⟩
 have nL:s.heap.objs.size ∉ [h1.objs.size,d]:=fun z=>by
  rcases LR.mp z with e | z
  ·exact nI e.symm
  ·exact nd (LH.mp z).symm
 have W:∀A':Ls,A'.handled=none->Walks P w A' h1.objs.size [h1.objs.size,d] [h1.objs.size] kvs.length _ _:=fun A' hA=>Walks.dictKeys (knd:=ah P w) hA h1.objs.size d ndI kvs ep;refine L9 ⟨Po NU _,codeAny_extend_loopS (W A.in1.in1 hh).toS hz _ nL _ kvs.length 0 _ _ _ rfl (M0 _) st4 g4 (ItemsOf.nil _) fun s' acc c mm gA it'=>?_⟩;rw[Moved.eq_with mm];refine⟨rfl,q s'.heap s'.toks acc c (fun b o e=>mm.heap b o (fun hb=>?_) (k4 b o (LO (LF e)) (k2 b o e))) gA it'⟩;have lt:=LF e;rcases LR.mp hb with z | z
 ·exact absurd lt (z▸M6 _)
 ·rw[LH.mp z,z1] at lt
  exact absurd lt (Pq.mpr (Oy _))
end
end PU
section
namespace PU
def wK:PV->Option PV
 | .lst ps=>some (.lst ps)
 | .tup ps=>some (.lst ps)
 | .dct ks _=>some (.lst (ks.map xX))
 | _=>none
end PU
namespace PU
open PySem PySem.Spec PyProof.Rows L2 PySem.SeqAt
variable[TW]
theorem pN{K:L0}{H:Hp}:∀ks:List Key,au K H (ks.map xX) (ks.map kV)
 | []=>rfl
 | k::ks=>by
  refine⟨kV k,ks.map kV,rfl,?_,pN ks⟩;cases k <;> exact rfl
omit [TW] in
theorem w9{P:Lf}{w:Ln}{k:Key}{v:L3}(h:(ah P w).is k v=true):RelV (kV k) v:=by
 rcases aY (show qK k v=true from h) with⟨i,t,rfl,rfl⟩|⟨x,t,rfl,rfl⟩
 ·exact⟨t,rfl⟩
 ·exact⟨t,rfl⟩
omit [TW] in
theorem uJ{P:Lf}{w:Ln}:∀(kvs:List (Key×L3))(us:List L3),us.length=kvs.length->(∀(i:Nat)(v:L3),us[i]?=some v->∃k x,kvs[i]?=some (k,x)/\(ah P w).is k v=true)->Vals ((kvs.map (·.1)).map kV) us
 | [],us,hl,_=>by
  cases us with
  | nil=>exact .nil
  | cons a r=>cases hl
 | kv::kvs,us,hl,h=>by
  cases us with
  | nil=>cases hl
  | cons a r=>
   obtain⟨k,x,e,hk⟩:=h 0 a rfl;cases e;exact .cons (w9 hk) (uJ kvs r (by simpa using hl) fun i v e=>h (i+1) v e)
theorem FX {X:Cx} (hc:X.calm=true:=by rfl) (hw:X.w=TW.w:=by rfl):gM X (.type "list") (rn1 X.K wK):=by
 intro KW s σ H xs us Q I r ⟨v,p,z,e1,rp,ez,k⟩;subst e1;cases p with
 | lst ps=>
  obtain⟨a,xs,rfl,g,rr⟩:=aN.lst_inv rp;cases ez;exact jF KW s σ H _ us Q I r ⟨a,xs,rfl,.inl g.l,fun l hl=>k _ _ (Same.new hl) hl ⟨xs,ai,rr.same (Same.new hl)⟩⟩
 | tup ps=>
  obtain⟨a,xs,rfl,g,rr⟩:=aN.tup_inv rp;cases ez;exact jF KW s σ H _ us Q I r ⟨a,xs,rfl,.inr g,fun l hl=>k _ _ (Same.new hl) hl ⟨xs,ai,rr.same (Same.new hl)⟩⟩
 | dct ks ps=>
  obtain⟨a,kvs,rfl,g,e1,rr⟩:=rp;cases ez;obtain⟨u,rfl,ru⟩:=vals1 r;cases ru;obtain⟨hz,hS,vs,rel,o,es,ep,ho,x1,d1,rest⟩:=DkR.at hw I g;have hl:kvs.length=vs.length:=M5 rel
  have hk:kvs.map (·.1)=vs.map (·.1):=by
   clear hl hz e1 rr g rest
   induction rel with
   | nil=>rfl
   | cons a b ih=>rw[L8,L8,ih,a.1]
  refine pI (kvs:=vs) (ep:=ep) (I.ok.hd hc) hS ⟨o,es,ho,x1,d1,rest⟩ (by omega) fun h' tk acc c keep gA it'=>?_;obtain⟨i1,i2⟩:=it'
  have rv:Vals (ks.map kV) acc.toList:=by
   rw[← e1,hk];exact uJ (P:=X.prog) (w:=X.w) vs acc.toList (by simpa using i1) fun i v e=>i2 i v (by simpa using e)
  have hlk:ks.length=kvs.length:=by rw[← e1,LA]
  have I2:=I.laid (a:=s.heap.objs.size) (o:=.lst (ks.map kV)) (h':=h') (t':=tk) keep (LX _) ⟨by rw[LA];omega,acc.toList,c,rv,by rw[Array.toArray_toList];exact gA⟩;have nf:H s.heap.objs.size=none:=I.fresh;exact⟨.ref _,_,I2,rfl,k _ _ (Same.new nf) nf ⟨_,ai,pN ks⟩⟩
 | _=>cases ez
end PU
end
section
namespace PU
def rY(fo fe fd:PSt->R PV)(g:PV->PV->PV->Option PV):PSt->R PV:=fun ρ=>fo ρ >>= fun p=>if Cp p=true then fe ρ >>= fun q=>fd ρ >>= fun y=>R.ofO (g p q y) else .no
def u9:PV->PV->PV->Option PV
 | .dct ks ps,q,y=>(ft q).bind fun k=>some ((bK ks ps k).getD y)
 | _,_,_=>none
end PU
namespace PU
open PySem PySem.Spec PyProof.Rows L2 PySem.SeqAt
variable[TW]
theorem CD{C:Cn}{o e d:Expr}{fo fe fd:PSt->R PV}{apos cpos:NJ}(ho:EO C o fo)(he:EV C e fe)(hd:EV C d fd)(hw:C.X.w=TW.w:=by rfl)
  (hbase:OY o "get" C.X.env (MS o C.X.env)=MS o C.X.env:=by rfl) (hline:(apos.endLine == cpos.line)=true:=by rfl) (hs:Lc [e,d] C.X.env=[(false,MS e C.X.env),(false,MS d C.X.env)]:=by rfl) (hs2:Lc [d] C.X.env=[(false,MS d C.X.env)]:=by exact bj rfl) :
  EV C (.Call (.Attribute o "get" apos) [e,d] [] cpos) (rY fo fe fd u9):=by
 intro KW s σ H Q I ⟨ρ,vw,q⟩;refine Sr hbase (by rw[hs];rfl) hline rfl (thn (ho KW s σ H (fun v H1=>∃p,aN C.X.K H1 p v/\Same H H1/\RQ C H (if Cp p=true then fe ρ >>= fun q=>fd ρ >>= fun y=>R.ofO (u9 p q y) else .no) fun p=>∀v H',Same H H'->Rep C.X.K H' p v->Q v H') I ⟨ρ,vw,q.bind.imp fun p _ k v H1 s1 r1=>⟨p,r1,s1,k⟩⟩) fun v s1 ⟨x,H1,I1,r1,p,ro,sm,k⟩=>?_);cases p with
 | dct ks ps=>
  have ro':=ro;obtain⟨a,kvs,rfl,g,e1,r⟩:=ro;cases r1;obtain⟨hz,hdd,vs,rel,dd⟩:=DkR.at hw I1 g;have k:RQ C H (fe ρ >>= fun q=>fd ρ >>= fun y=>R.ofO (u9 (.dct ks ps) q y)) fun p=>∀v H',Same H H'->Rep C.X.K H' p v->Q v H':=k;refine⟨"dict","dict.get",PH,Rg,PySem.F.type_dict_get,dd.typeIs,dd.mapOf.noDict,?_⟩
  have hA:=(bM he (bM hd fT hs2) (by rw[hs,hs2])) cpos KW s1 σ H1 (fun xs H2=>∃q y z u x,xs=[u,x]/\Rep C.X.K H2 q u/\Rep C.X.K H2 y x/\u9 (.dct ks ps) q y=some z/\Same H1 H2/\∀v H',Same H H'->Rep C.X.K H' z v->Q v H') I1 ⟨ρ,vw.same sm,(k.bind.same sm).imp fun q _ k2 u H2 s2 r2=>⟨ρ,vw.same (sm.trans s2),(k2.bind.same (sm.trans s2)).imp fun y _ k4 x H3 s3 r3=>by
   obtain⟨z,ez,k3⟩:=k4.ofO;exact⟨q,y,z,u,x,rfl,r2.same s3,r3,ez,s2.trans s3,k3⟩⟩⟩
  rw[hs] at hA ⊢;refine Pg rfl (SB ?_);refine thn hA fun us s2 ⟨xs,H2,I2,r2,q,y,z,u,x,eu,rq,ry,ez,s2',k3⟩=>?_;subst eu
  obtain⟨u',x',rfl,ru,rx⟩:∃u' x',us=[u',x']/\RelV u u'/\RelV x x':=by
   cases r2 with
   | cons a b=>
    obtain⟨x',e,rx⟩:=vals1 b;subst e;exact⟨_,x',rfl,a,rx⟩
  obtain⟨kk,ek,ez⟩:=LD.mp (show (ft q).bind (fun k=>some ((bK ks ps k).getD y))=some z from ez);cases ez;have hy:=de ek rq.o;subst hy;obtain⟨a2,kvs2,ea,g2,e2,rr2⟩:=ro'.same s2';cases ea;obtain⟨_,hd2,vs2,rel2,dd2⟩:=DkR.at hw I2 g2;refine Sx Rg dd2.typeIs PySem.F.entry_dict_get (PySem.F.args_dict_get_3 _ _ _) (meets_dict_get_default (ah C.X.prog C.X.w) a (lM ru) hd2 x') ⟨_,dd2.mapOf,?_⟩;cases el:bK ks ps kk with
  | some p'=>
   obtain⟨w,ew,rp⟩:=iI e2 rr2 el;obtain⟨w',hw',rw'⟩:=oD.some_of (v:=w) (o:=Mp vs2 kk) (by rw[← ew];exact rel2.val kk);rw[hw'];rw[el] at k3;exact⟨w,H2,I2.tok _,rw',k3 w H2 (sm.trans s2') rp⟩
  | none=>
   have ew:=mf (k:=kk) e2 rr2 el;have hn:Mp vs2 kk=none:=oD.none_of (by rw[← ew];exact rel2.val kk);rw[hn];rw[el] at k3;exact⟨x,H2,I2.tok _,rx,k3 x H2 (sm.trans s2') ry⟩
 | _=>exact LJ k
end PU
end
section
namespace PU
open PySem
def mz:PV->PV->Option PV
 | .str x,.str y=>match N5 x y 0 x.length 1 with
  | i::_=>some (.int i)
  | []=>none
 | _,_=>none
end PU
namespace PU
open PySem PySem.Spec PyProof.Rows L2 PySem.SeqAt
variable[TW]
theorem E4:StrM "index" "str.index":=⟨PySem.F.slot_str_index,PySem.F.type_str_index⟩
theorem EY {X:Cx}:MtR X "str.index" (rM1 X.K mz):=by
 intro KW s σ H x xs v us Q I rx rs ⟨p,q,z,u,e1,rp,rq,ez,k⟩;subst e1;obtain⟨a,b,t,t2,rfl,rfl,rfl,rfl⟩:=yt (g:=mz) (fun p q z e=>by unfold mz at e;split at e;exact⟨_,_,rfl,rfl⟩;cases e) rx rs rp rq ez
 have ez:(match N5 a b 0 a.length 1 with
  | i::_=>some (PV.int i)
  | []=>none)=some z:=ez
 cases ho:N5 a b 0 a.length 1 with
 | nil=>rw[ho] at ez;cases ez
 | cons i r=>
  rw[ho] at ez;cases ez;exact SC.index ho ⟨.int _,H,I.tok _,⟨_,rfl⟩,k _ H (Same.refl H) rfl⟩
end PU
end
namespace PU
open PySem PySem.Spec PyProof.Rows L2 PySem.SeqAt
theorem con_str{w:Ln}{tabs:List Addr}{qual:Nat->Nat->Str}{K:L0}{h:Heap}{mg:Str->Option L3}{x:Str}{i:Str}{t:Tok}(X:K.In h)(G:h.Ns mainGlobals mg)(n1:Md K mainGlobals x=some (some (.str i t))):@Con ⟨w,tabs,qual⟩ K mg x (.str i):=by
 letI:TW:=⟨w,tabs,qual⟩
 exact⟨.str i,.str i t,P6 X G n1,⟨t,rfl⟩,fun H=>rfl⟩
end PU
namespace PU
open PySem PySem.Spec PyProof.Rows L2 PySem.SeqAt
variable[TW]
theorem zx{C:Cn}{a b c:Expr}{fa fb fc:PSt->R PV}{pos:NJ}{op op':CmpOp}{g g':PV->PV->Option PV}(ho:OpR C.X (Lz op) (rP C.X.K g))(ho':OpR C.X (Lz op') (rP C.X.K g'))(hg:sx g)(hg':sx g')(ha:EO C a fa)(hb:EO C b fb)(hc:EO C c fc)
  (hm:lastMarks [op,op'] [b,c]=false:=by with_unfolding_all rfl):ET C (.Compare a [op,op'] [b,c] pos) (cH (sW fa fb fc g g')):=by
 intro KW s σ H Q I ⟨ρ,vw,q⟩;refine yO ho ho' ha hb hc hm KW s σ H Q I ?_;have q1:=q.bind;refine⟨ρ,vw,q1.bind.imp fun p _ k v H1 s1 r1=>⟨ρ,vw.same s1,(k.bind.same s1).imp fun p2 _ k2 u H2 s2 r2=>?_⟩⟩;obtain⟨z,ez,k3⟩:=k2.bind.ofO;obtain⟨bb,rfl⟩:=hg _ _ _ ez;refine⟨p,p2,.bl bb,r1.same s2,r2,ez,fun w H3 s3 r3=>?_⟩;cases (show w=.bl bb from r3);refine⟨bb,rfl,?_⟩;have s13:=(s1.trans s2).trans s3;cases bb with
 | true=>
  refine Dl ⟨ρ,vw.same s13,?_⟩;refine(RQ.same (RQ.bind k3) s13).imp fun p3 _ k4 w4 H4 s4 r4=>?_;obtain⟨z2,ez2,k5⟩:=k4.ofO;obtain⟨b2,rfl⟩:=hg' _ _ _ ez2;refine⟨p2,p3,.bl b2,(r2.same s3).same s4,r4,ez2,fun w5 H5 s5 r5=>?_⟩;cases (show w5=.bl b2 from r5);obtain⟨b3,eb,k6⟩:=k5.ofO;cases eb;exact⟨b2,rfl,k6 H5 ((s13.trans s4).trans s5)⟩
 | false=>
  have k3:RQ C H (R.ofO (xR (.bl false))) (fun b=>∀H',Same H H'->Q b H'):=k3;obtain⟨b3,eb,k6⟩:=RQ.ofO k3;cases eb;exact Dm ⟨false,rfl,k6 H3 s13⟩
end PU
namespace PU
open PySem PySem.Spec PyProof.Rows L2 PySem.SeqAt
def wI:PV->Option Int->Option Int->Option PV
 | .str x,lo,hi=>if x.length<=16777216 then some (.str (Mm x lo hi)) else none
 | .lst ps,lo,hi=>gSl (.lst ps) lo hi
 | .tup ps,lo,hi=>gSl (.tup ps) lo hi
 | _,_,_=>none
def gN(f:PSt->R PV)(l h:PSt->R (Option Int)):PSt->R PV:=fun ρ=>f ρ >>= fun p=>l ρ >>= fun lo=>h ρ >>= fun hi=>R.ofO (wI p lo hi)
variable[TW]
def K6(K:L0):V->Option Int->Option Int->Hp->VK->Prop:=fun v lo hi H Q=>∃p z,aN K H p v/\wI p lo hi=some z/\∀w H',Same H H'->Rep K H' z w->Q w H'
theorem slA{X:Cx}:SlR X (K6 X.K):=by
 intro KW s σ H x v vl vu lo hi sl Q I rx hs pl pu ⟨p,z,rp,ez,k⟩;cases p with
 | lst ps=>exact slP KW s σ H x v vl vu lo hi sl Q I rx hs pl pu ⟨_,z,rp,ez,k⟩
 | tup ps=>exact slP KW s σ H x v vl vu lo hi sl Q I rx hs pl pu ⟨_,z,rp,ez,k⟩
 | str y=>
  simp only[wI] at ez;split at ez
  ·rename_i hz
   cases ez;cases (show x=.str y from rp);obtain⟨t,rfl⟩:=rx;have fin:∀(lo hi:Option Int) t' kk,(∀w H',Same H H'->Rep X.K H' (.str (Mm y lo hi)) w->Q w H')->EP X KW σ Q (.str (Mm y lo hi) t') { s with toks:=kk }:=fun lo hi t' kk k=>⟨.str _,H,I.tok _,⟨t',rfl⟩,k _ H (Same.refl H) rfl⟩;obtain⟨o,e1,e2,e3⟩:=hs;have hz:y.length<=sizeLine:=by rw[Ly];exact hz
   refine⟨"str",_,PySem.F.slot_str_getitem.lookup,typeIs_str _ _ _,?_⟩;cases pl with
   | none=>
    cases pu with
    | none=>exact Of (l:=none) (u:=none) (st:=none) ⟨o,e1,e2,e3⟩ rfl (QE ⟨MC (Ox y _ _) hz,fun t' kk=>fin none none t' kk k⟩)
    | int j uj=>exact Of (l:=none) (u:=some (j,uj)) (st:=none) ⟨o,e1,e2,e3⟩ rfl (QE ⟨MC (Ox y _ _) hz,fun t' kk=>fin none (some j) t' kk k⟩)
   | int i ui=>
    cases pu with
    | none=>exact Of (l:=some (i,ui)) (u:=none) (st:=none) ⟨o,e1,e2,e3⟩ rfl (QE ⟨MC (Ox y _ _) hz,fun t' kk=>fin (some i) none t' kk k⟩)
    | int j uj=>exact Of (l:=some (i,ui)) (u:=some (j,uj)) (st:=none) ⟨o,e1,e2,e3⟩ rfl (QE ⟨MC (Ox y _ _) hz,fun t' kk=>fin (some i) (some j) t' kk k⟩)
  ·cases ez
 | _=>cases ez
theorem dZ{C:Cn}{e:Expr}{f:PSt->R PV}{lo hi:Option Expr}{l h:PSt->R (Option Int)}{pos p2:NJ}(ha:EO C e f)(hl:EOI C lo l)(hh:EOI C hi h):EV C (.Subscript e (.Slice lo hi none p2) pos) (gN f l h):=by
 intro KW s σ H Q I ⟨ρ,vw,q⟩;refine nE slA ha hl hh KW s σ H Q I ⟨ρ,vw,q.bind.imp fun p _ k v H1 s1 r1=>⟨ρ,vw.same s1,(k.bind.same s1).imp fun o1 _ k2 H2 s2=>⟨ρ,(vw.same s1).same s2,(k2.bind.same (s1.trans s2)).imp fun o2 _ k3 H3 s3=>?_⟩⟩⟩;obtain⟨z,ez,k4⟩:=k3.ofO;exact⟨p,z,(r1.same s2).same s3,ez,fun w H4 s4 r4=>k4 w H4 (((s1.trans s2).trans s3).trans s4) r4⟩
end PU
namespace PU
open PySem PySem.Spec PyProof.Rows L2 PySem.SeqAt
def uD(ps qs:List PV):List (List PV):=ps.zipWith (fun a b=>[a,b]) qs
def ic:PV->Bool
 | .non | .bl _ | .int _ | .str _=>true
 | _=>false
def Dc(f g:PSt->R PV):PSt->R (List PV):=fun ρ=>f ρ >>= fun p=>g ρ >>= fun q=>(match p,q with
 | .lst ps,.lst qs=>if (ps.all ic || qs.all ic)=true then .ok ((uD ps qs).map .tup) else .no
 | _,_=>.no)
variable[TW]
section
variable{P : Lf}{w : Ln}{K : L0}{elts : List Expr}{kk : Nat}{tp : NJ}
def Ga(xs ys:List V):List (List V):=xs.zipWith (fun a b=>[a,b]) ys
theorem sI{x:V}{u:L3}(r:RelV x u)(h:∀b,x≠.ref b):¬ ∃b,u=M1 b:=fun ⟨b,e⟩=>by
 subst e;cases x with
 | ref a=>exact h a rfl
 | non=>cases r
 | bl b=>cases r
 | ty n=>cases r
 | int i=>obtain⟨t,r⟩:=r;cases r
 | str i=>obtain⟨t,r⟩:=r;cases r
 | byt i=>obtain⟨t,r⟩:=r;cases r
 | flt i=>obtain⟨t,r⟩:=r;cases r
theorem zu{K:L0}{H:Hp}{p:PV}{x:V}(hf:ic p=true)(r:Rep K H p x):∀b,x≠.ref b:=fun b e=>by
 subst e;cases p with
 | non=>cases (show V.ref b=_ from r)
 | bl _=>cases (show V.ref b=_ from r)
 | int _=>cases (show V.ref b=_ from r)
 | str _=>cases (show V.ref b=_ from r)
 | _=>cases hf
theorem pW{K:L0}{H:Hp}{ps:List PV}{xs:List V}(hf:ps.all ic=true)(r:au K H ps xs):∀x∈xs,∀b,x≠.ref b:=fun x hx=>by
 obtain⟨i,hi⟩:=Mg.mp hx;have hl:=r.length;have hlt:i<ps.length:=by rw[hl];exact(L4.mp hi).1
 have e1:ps[i]?=some ps[i]:=by simp[hlt]
 obtain⟨y,ey,ry⟩:=r.get e1;rw[hi] at ey;cases ey;exact zu (Nh.mp hf _ (Ml hlt)) ry
theorem yu(z TI TO i1 i2 a b:Addr)(D:ZipApart z TI TO i1 i2 a b)(xs ys:List V)(hfl:(∀x∈xs,∀b,x≠V.ref b)\/(∀y∈ys,∀b,y≠V.ref b)) :
  Turn P w K (.Tuple elts kk tp) (oB (min xs.length ys.length) (fun H=>SqL K H a xs/\SqL K H b ys) (Ga xs ys)) [z,TI,TO,i1,i2] z
   (fun i h=>IsZip h z TI TO .none/\IsPair h TI (.ref i1) (.ref i2)/\(∃a b,IsPair h TO a b)/\h.IsListIter i1 a i/\h.IsListIter i2 b i):=by
 refine uQ (wr:=[z,TO,i1,i2]) (n:=min xs.length ys.length) (fun X KW σ H s i hP hw hK hc I st hg=>?_) (by simp) (fun b hb=>by simp at hb ⊢;rcases hb with rfl | rfl | rfl | rfl <;> simp) (fun i h st b hb=>?_) (fun i h h' st k=>?_) (fun i H h=>h.1) (fun i H h=>h.1) fun A i s Q E st h=>wpAny_pyIter_zip st.1 h
 ·subst hP hw hK
  obtain⟨hq1,hq2⟩:SqL X.K H a xs/\SqL X.K H b ys:=by rcases hg with h | h <;> exact h.2
  obtain⟨its1,rv1,pl1,hz1⟩:=I.list hq1;obtain⟨its2,rv2,pl2,hz2⟩:=I.list hq2;have hl1:=rv1.length;have hl2:=rv2.length;have W:=WalksT.zip2 (prog:=X.prog) (w:=X.w) (A:=X.A) (I.ok.hd hc) z TI TO i1 i2 a b D its1.toArray its2.toArray;rw[show min its1.toArray.size its2.toArray.size=min xs.length ys.length by simp[hl1,hl2]] at W;refine⟨_,_,_,_,W,⟨st.1,st.2.1,st.2.2.1,st.2.2.2.1,st.2.2.2.2,pl1.isList,pl2.isList⟩,fun j h st=>⟨st.1,st.2.1,st.2.2.1,st.2.2.2.1,st.2.2.2.2.1⟩,fun vals hv=>?_⟩;obtain⟨x,y,hx,hy,rfl⟩:=hv;have hx:its1[i]?=some x:=by simpa using hx
  have hy:its2[i]?=some y:=by simpa using hy
  have h1:i<xs.length:=by rw[hl1];exact(L4.mp hx).1
  have h2:i<ys.length:=by rw[hl2];exact(L4.mp hy).1
  have e1:xs[i]?=some xs[i]:=by simp[h1]
  have e2:ys[i]?=some ys[i]:=by simp[h2]
  obtain⟨u,eu,ru⟩:=rv1.get e1;rw[hx] at eu;cases eu;obtain⟨v,ev,rv⟩:=rv2.get e2;rw[hy] at ev;cases ev;refine⟨[xs[i],ys[i]],.cons ru (.cons rv .nil),by show 2<=sizeLine;decide,fun z=>?_,fun T hT=>⟨T,_,rfl,hT,?_,rfl⟩⟩
  ·rcases hfl with g | g
   ·exact sI ru (g _ (Ml h1)) (z _ Le)
   ·exact sI rv (g _ (Ml h2)) (z _ (Lg _ Le))
  unfold Ga;rw[Mz,e1,e2]
 ·obtain⟨hz,hTI,⟨u,v,hTO⟩,⟨o1,ho1,_,hd1⟩,o2,ho2,_,hd2⟩:=st
  simp only[LR,Mk,or_false] at hb;rcases hb with rfl | rfl | rfl | rfl | rfl
  ·exact⟨_,hz,fun v z=>by cases (show Qy _=QA v from z)⟩
  ·exact⟨_,hTI,fun v z=>by cases (show Data.seq _ _=QA v from z)⟩
  ·exact⟨_,hTO,fun v z=>by cases (show Data.seq _ _=QA v from z)⟩
  ·exact⟨o1,ho1,fun v z=>by rw[hd1] at z;cases z⟩
  ·exact⟨o2,ho2,fun v z=>by rw[hd2] at z;cases z⟩
 ·obtain⟨hz,hTI,⟨u,v,hTO⟩,h1,h2⟩:=st
  exact⟨k z (by simp) _ hz,k TI (by simp) _ hTI,⟨u,v,k TO (by simp) _ hTO⟩,h1.at fun o x=>k i1 (by simp) o x,h2.at fun o x=>k i2 (by simp) o x⟩
end
theorem yc{K:L0}{H:Hp}{ps qs:List PV}{xs ys:List V}(r1:au K H ps xs)(r2:au K H qs ys):∀(i:Nat)(zs:List PV)(ws:List V),(uD ps qs)[i]?=some zs->(Ga xs ys)[i]?=some ws->au K H zs ws:=fun i zs ws h1 h2=>by
 unfold uD at h1;unfold Ga at h2;rw[Mz] at h1 h2;cases e:ps[i]? with
 | none=>rw[e] at h1;cases h1
 | some p=>
  cases e2:qs[i]? with
  | none=>rw[e,e2] at h1;cases h1
  | some q=>
   rw[e,e2] at h1;obtain⟨x,ex,rp⟩:=r1.get e;obtain⟨y,ey,rq⟩:=r2.get e2;rw[ex,ey] at h2;cases h1;cases h2;exact⟨_,_,rfl,rp,_,_,rfl,rq,rfl⟩
theorem xc {C:Cn} {e e2:Expr} {elts:List Expr} {kk:Nat} {tp p pos:NJ} {f g:PSt->R PV} (hg:Gl C.X "zip") (hm:C.X.mg "zip"=none) (he:EV C e f) (he2:EV C e2 g)
  (hs:Lc [e,e2] C.X.env=[(false,MS e C.X.env),(false,MS e2 C.X.env)]:=by exact yz rfl rfl) (hs2:Lc [e2] C.X.env=[(false,MS e2 C.X.env)]:=by exact bj rfl) :
  EI C (.Tuple elts kk tp) (.Call (.Name "zip" p) [e,e2] [] pos) (Dc f g):=by
 intro KW s σ H Rk I ⟨ρ,vw,q⟩
 refine Call_ (jE I hg hm PyProof.Rows.boot_zip (ML (thn ((bM he (bM he2 fT hs2) (by rw[hs,hs2])) pos KW s σ H (fun vs H'=>∃v u ps qs,vs=[v,u]/\Same H H'/\Rep C.X.K H' (.lst ps) v/\Rep C.X.K H' (.lst qs) u/\(ps.all ic || qs.all ic)=true/\∀J H2,Same H' H2->ItP C.X.K J H2 ((uD ps qs).map .tup)->Rk J H2) I ⟨ρ,vw,q.bind.imp fun p _ k v H1 s1 r1=>⟨ρ,vw.same s1,(k.bind.same s1).imp fun p2 _ k2 u H2 s2 r2=>?_⟩⟩)
  fun us s1 ⟨vs,H1,I1,r1,v,u,ps,qs,ev,sm,rp,rq,hfl,k⟩=>?_) (by rw[hs,hs2]) (by rw[hs2];rfl)))
 ·cases p with
  | lst ps=>
   cases p2 with
   | lst qs=>
    by_cases hfl:(ps.all ic || qs.all ic)=true
    ·simp only[if_pos hfl] at k2
     exact⟨v,u,ps,qs,rfl,s1.trans s2,r1.same s2,r2,hfl,fun J H3 s3 it=>k2 J H3 ((s1.trans s2).trans s3) it⟩
    ·simp only[if_neg hfl] at k2
     exact LJ k2
   | _=>exact LJ k2
  | _=>exact LJ k2
 ·subst ev
  obtain⟨w1,w2,rfl,rw1,rw2⟩:=vals2 r1;obtain⟨a,xs,rfl,g1,rr1⟩:=rp;obtain⟨b,ys,rfl,g2,rr2⟩:=rq;cases rw1;cases rw2;obtain⟨its1,rv1,pl1,hz1⟩:=I1.list g1.l.l;obtain⟨its2,rv2,pl2,hz2⟩:=I1.list g2.l.l;have ha:a<s1.heap.objs.size:=by obtain⟨o,n,ho,_⟩:=pl1;exact LF ho
  have hb:b<s1.heap.objs.size:=by obtain⟨o,n,ho,_⟩:=pl2;exact LF ho
  have hfl2:(∀x∈xs,∀b,x≠V.ref b)\/(∀y∈ys,∀b,y≠V.ref b):=by
   cases hA:ps.all ic with
   | true=>exact .inl (pW hA rr1)
   | false=>
    rw[hA,Bool.false_or] at hfl;exact .inr (pW hfl rr2)
  refine call_zip_2 pl1.isList pl2.isList fun h' z1 z2 z3 z4 z5 hsz hk=>wpAny_pyIter_zip z1 ?_;refine⟨_,[s1.heap.objs.size+4,s1.heap.objs.size+2,s1.heap.objs.size+3,s1.heap.objs.size,s1.heap.objs.size+1],_,_,H1,rfl,I1.kept (t':=s1.toks) hk,yu (s1.heap.objs.size+4) (s1.heap.objs.size+2) (s1.heap.objs.size+3) s1.heap.objs.size (s1.heap.objs.size+1) a b (zipApart_new ha hb) xs ys hfl2,⟨z1,z2,⟨_,_,z3⟩,z4,z5⟩,fun c hc=>?_,k _ H1 (Same.refl H1) ?_⟩
  ·have hc:s1.heap.objs.size<=c:=by
    simp only[LR,Mk,or_false] at hc;rcases hc with rfl | rfl | rfl | rfl | rfl <;> omega
   exact I1.fpOk hc (I1.hok.fresh hc)
  ·refine qL ?_ (fun H2 k2=>⟨(k2.sqF g1).l.l,(k2.sqF g2).l.l⟩) (yc rr1 rr2)
   unfold uD;rw[List.length_zipWith,rr1.length,rr2.length]
end PU
namespace PU
open PySem PySem.Spec PyProof.Rows L2
variable[TW]
def spN(K:L0)(n:Nat)(F:List PV->Option PV):Sp:=fun vs H Q _=>vs.length=n/\uq H/\∃ps p,au K H ps vs/\F ps=some p/\∀a H',Same H H'->H a=none->c5 K H' a p->Q (.ref a) H'
structure PFN(P:Lf)(w:Ln)(K:L0)(mg:Str->Option L3)(base:Heap)(k:Nat)(x:Str)(F:List PV->Option PV):Prop where
 ex:∃(f:Addr)(fd:Mw)(ps:List Str),FnOk P w K mg base CX0 k f fd ps (spN K ps.length F)/\mg x=some (.ref f)/\NQ K (.ref f)=true/\Binds K fd ps []/\∀qs p,F qs=some p->qs.length=ps.length
section
variable{C : Cn}{e : Expr}{es : List Expr}{fs : PSt → R (List PV)}{x : Str}{k : Nat}{F : List PV → Option PV}{p pos : NJ}
theorem ie(G:PFN C.X.prog C.X.w C.X.K C.X.mg C.X.base k x F){kr:Nat}(hr:Room kr C.X.A)(ha:EA C (e::es) fs)
  (hdb:(x == ("__debug__":Str))=false:=by decide) (he:Lc (e::es) C.X.env=(false,MS e C.X.env)::Lc es C.X.env:=by exact c6 rfl) (hpl:(Oc pos (Lc es C.X.env)).any (·.1)=false:=by exact jO rfl) (hk:k<=kr:=by decide) (hg:Gl C.X x:=by exact rfl) :
  EN C (.Call (.Name x p) (e::es) [] pos) (aE fs F):=by
 replace hr:=hr.mono hk;obtain⟨f,fd,ps,a,b,c,d,l⟩:=G.ex;intro KW s σ H Q I ⟨ρ,vw,q⟩;refine vy (dvs:=[]) (ds:=[]) (E:=E0) a hr hg b c d .nil Er ha hdb he hpl KW s σ H Q I ⟨ρ,vw,q.bind.imp fun qs _ k vs H1 s1 r1=>?_⟩;obtain⟨z,ez,k⟩:=k.ofO;rw[Mh];exact⟨by rw[← r1.length];exact l qs z ez,s1.tabs vw.tb,qs,z,r1,ez,fun v H' s' n' r'=>k v H' (s1.trans s') (s1.free n') r'⟩
end
section
variable{P : Lf}{w : Ln}{K : L0}{mg : Str → Option L3}{base : Heap}
theorem Eg{x qual:Str}{st:Stmt}{f:Addr}{fd:Mw}{N ps:List Str}{k:Nat}{e:Expr}{rp:NJ}{fe:PSt->R PV}(F:Fun K x qual st f fd)(S:FnScope N ps (a7 st))(hm:mg x=some (.ref f))(hb:Binds K fd ps [])
  (hd:aT st=[.Return (some e) rp])
  (hbody:∀(cdv:L3)(A:Ls)(outer:List Qa)(s:L6)(H:Hp)(E:XK),Room k (A.deeper (OU qual (a7 st) s.heap.objs.size f cdv))->EN (AV P w K mg base N qual (a7 st) f cdv A outer s H E) e fe) :
  PFN P w K mg base (k+1) x (dF ps.length N.length (cy fe)):=by
 refine⟨f,fd,ps,F.ok S (fun vs H Q E h=>h.1) (fun cdv A outer s H vs Q E hr h=>?_),hm,F.kp,hb,fun qs p h=>?_⟩
 ·obtain⟨hl,tb,qs,p,r,e0,k⟩:=h
  rw[hd];refine⟨_,nv (rN (hbody cdv A outer s H E hr)),start N.length qs,(iy tb r).vw,?_⟩;unfold dF at e0;rw[if_pos (by rw[r.length];exact hl)] at e0;unfold cy at e0;cases hg:fe (start N.length qs) with
  | ok q=>rw[hg] at e0;cases e0;exact fun a H' s' n' w'=>k a H' s' n' w'
  | er x=>rw[hg] at e0;cases e0
  | no=>rw[hg] at e0;cases e0
 ·unfold dF at h
  split at h
  ·rename_i hl;exact hl
  ·cases h
end
def ItS(K:L0)(J:It)(H₁:Hp)(ps:List PV):Prop:=
 ∀(i:Nat)(H:Hp),Same H₁ H->(i=ps.length->J.stop i H)/\∀p,ps[i]?=some p->J.go i H/\∀x H',J.yld i H x H'->Same H H'/\Rep K H' p x
def tIS(C:Cn)(f:PSt->R (List PV)):TI:=fun σ H Q=>∃ρ,View C.X.K H σ ρ/\RQ C H (f ρ) fun ps=>∀J H',Same H H'->ItS C.X.K J H' ps->Q J H'
def EIS(C:Cn)(tg iter:Expr)(f:PSt->R (List PV)):Prop:=PI C.X tg iter (tIS C f)
theorem Same.sqO{K:L0}{H H':Hp}(k:Same H H'){a:Addr}{xs:List V}(h:SqO K H a xs):SqO K H' a xs:=by
 rcases h with (h | ⟨o,h⟩) | h
 ·exact .inl (.inl (k _ _ h))
 ·exact .inl (.inr ⟨o,k _ _ h⟩)
 ·exact .inr h
section
variable{C : Cn}{elt tg iter : Expr}{ifs : List Expr}{scope : Scope}{pos : NJ}{N' : List Str}{nt : Nat}{idx : List Nat}{fi : PSt → R (List PV)}{h : Tgt}{t : PSt → R Bool}{fe : PSt → R PV}
theorem uh{KW:List (Addr×Mi)}{σ:L2.St}{H₂:Hp}{s₂:L6}{J:It}{fp:List Addr}{it:Addr}{tn:Nat->Heap->Prop}{ρ:PSt}{ps qs:List PV}{RR:L3->Addr->RZ->L6->Prop}{E:L3->L6->Prop}
  (O:CompOk C.X.N C.X.env.scope scope N' nt idx) (hc:C.X.calm=true)
  (hg:∀cl L s H fp,TCt (bY C N' scope cl L s H fp) tg h) (hlow:yb nt h) (ht:∀cl L s H fp,ETs (bY C N' scope cl L s H fp) ifs t) (he:∀cl L s H fp,EV (bY C N' scope cl L s H fp) elt fe)
  (I:Inv C.X KW σ H₂ s₂) (T:Turn C.X.prog C.X.w C.X.K tg J fp it tn) (st:tn 0 s₂.heap) (hf:∀b∈fp,oE C.X KW H₂ b) (vw:View C.X.K H₂ σ ρ) (ip:ItS C.X.K J H₂ ps)
  (hq:bL h t fe (ba nt idx ρ) ps=.ok qs) (hz:qs.length<=sizeLine)
  (hRR:∀D L σ' H' s' xs,Inv (b9 C.X N' scope (bQ C.X.env.cells scope.names []) L s₂ H₂ fp) [] σ' H' s'->Same H₂ H'->H₂ D=none->H' D=some (.lst xs)->au C.X.K H' qs xs->s₂.heap.objs.size<=L->RR (.ref D) L (.ok .next) s') :
  LY (Ll C.X.prog C.X.w) C.X.A (Ro []) (fun acc s₃=>LY (Ll C.X.prog C.X.w) C.X.A (S5 scope C.X.env.globals (bQ C.X.env.cells scope.names []) [] C.X.env.qual none .none (some C.X.env)) (fun cenv s₄=>
   OF (Ll C.X.prog C.X.w) C.X.A (.compStart (.ListComp elt [⟨tg,iter,ifs,0⟩] scope pos) 0 (.ref it) acc { cenv with scope:=Sv scope C.X.env }) (RR acc cenv.locals) s₄) E s₃) E s₂:=by
 refine Mu (P2 O.cell (by intro y hy;simp at hy) (fun h₁ hns₁ hsb₁=>?_) O.kind);dsimp only at hns₁ hsb₁ ⊢;generalize hG:s₂.heap.push { cls:=.type "list",dict:=none,data:=.seq ([]:List L3).toArray }=G at hns₁ hsb₁ ⊢;have hC:G.objs.size=s₂.heap.objs.size+1:=by rw[← hG,OZ]
 have hDL:s₂.heap.objs.size≠G.objs.size:=by rw[hC];exact LO (Pj _)
 have keep:∀b o,s₂.heap.get? b=some o->h₁.get? b=some o:=fun b o e=>
  hsb₁.extBut b o (by rw[hC];exact LO (NA (LF e))) (L5 _ (hG▸L5 _ e))
 have acc:h₁.get? s₂.heap.objs.size=some { cls:=.type "list",data:=.seq ([]:List L3).toArray }:=hsb₁.extBut _ _ hDL (L5 _ (hG▸LZ _ rfl));have nD:H₂ s₂.heap.objs.size=none:=I.fresh;have hGe:s₂.heap.objs.size<=G.objs.size:=by rw[hC];exact Oy _
 obtain⟨σ0,I0,vw0,hl0,fl⟩:=ju O hc I T st hf vw (L:=G.objs.size) (tk:=s₂.toks+([]:List (Str×L3)).length) rfl hGe hDL (by simpa using hns₁) keep acc
 have fpk:∀{H':Hp}{pins':List (Addr×Mi)},(∀b∈fp,H' b=none)->(∀p∈pins',p.1 ∉ fp)->∀b∈fp,oE (b9 C.X N' scope (bQ C.X.env.cells scope.names []) G.objs.size s₂ H₂ fp) pins' H' b:=fun {H' pins'} hn hp b hb=>by
  obtain⟨g1,g2,g3,g4,g5,g6⟩:=hf b hb;refine⟨hn b hb,LO (LQ (fl b hb) hGe),fun z=>?_,.inl hb,fun x c e=>?_,fun p hp' z=>?_⟩
  ·exact(LR.mp (I.stkSub b z)).elim g2 g3
  ·rcases bP e with z | z
   ·exact g5 x c z
   ·cases z
  ·subst z
   exact hp p ((show p∈([]:List (Addr×Mi))++pins' from hp')) hb
 have loop:OF (Ll C.X.prog C.X.w) C.X.A (.compLoop (.ListComp elt [⟨tg,iter,ifs,0⟩] scope pos) 0 (.ref it) (.ref s₂.heap.objs.size) (Q0 scope (bQ C.X.env.cells scope.names []) G.objs.size C.X.env))
   (RR (.ref s₂.heap.objs.size) G.objs.size) { s₂ with heap:=h₁,toks:=s₂.toks+([]:List (Str×L3)).length }:=by
  refine gB (fun n s=>∃i σ' H' xs dn rest,n=ps.length-i/\i<=ps.length/\Inv (b9 C.X N' scope (bQ C.X.env.cells scope.names []) G.objs.size s₂ H₂ fp) [] σ' H' s/\tn i s.heap/\(∀b∈fp,H' b=none)/\Same H₂ H'/\
   H' s₂.heap.objs.size=some (.lst xs)/\au C.X.K H' dn xs/\View C.X.K H' σ' (ba nt idx ρ)/\(ba nt idx ρ).length=σ'.length/\bL h t fe (ba nt idx ρ) (ps.drop i)=.ok rest/\dn++rest=qs) ?_ ps.length
   ⟨0,σ0,_,[],[],qs,rfl,M0 _,I0,T.keep _ _ _ st fun b _ o e=>keep b o e,fun b hb=>?_,Same.new nD,ai,au.nil,vw0,hl0,by simpa using hq,rfl⟩
  ·rintro n s ⟨i,σ',H',xs,dn,rest,rfl,hi,I',st',fr',sm',hD',rp',vw',hl',e',ea⟩
   obtain⟨stp,stepp⟩:=ip i H' sm'
   by_cases hlt:i<ps.length
   ·have ei:ps[i]?=some ps[i]:=by simp[hlt]
    obtain⟨go,yl⟩:=stepp _ ei;rw[iS ei] at e';obtain⟨ρ1,b,e1,e2,e3⟩:=mF e';obtain⟨l1,low1⟩:=hlow _ _ _ e1;refine thn (T.item (b9 C.X N' scope (bQ C.X.env.cells scope.names []) G.objs.size s₂ H₂ fp) rfl rfl rfl rfl i [] s σ' H' _ I' (fpk fr' (by simp)) st' go) fun r s1 ⟨u,hr,h4⟩=>?_;subst hr;refine thn h4 fun _ s2 ⟨x,H3,I3,r3,y3,st3,fr3⟩=>?_;obtain⟨sm3,rp3⟩:=yl x H3 y3;have I3':=I3.pinned (fpk fr3 (by simp)) (T.obj _ _ st3);refine thn (hg _ _ _ _ _ _ s2 σ' H3 x u (fun σ4 H4=>H4=H3/\ρ1.length=σ4.length/\View C.X.K H4 σ4 ρ1) I3' r3 ⟨_,_,ρ1,hl',vw'.same sm3,rp3,e1,fun σ4 hl4 vw4=>⟨rfl,hl4,vw4⟩⟩) fun _ s4 ⟨σ4,H4,I4,q4⟩=>?_;obtain⟨rfl,hl4,vw4⟩:=q4
    have tests:LY (Ll C.X.prog C.X.w) C.X.A (forIn ifs true fun c r=>if r=true then do let ok<- isTrue c (Q0 scope (bQ C.X.env.cells scope.names []) G.objs.size C.X.env) (MS c (Q0 scope (bQ C.X.env.cells scope.names []) G.objs.size C.X.env));pure (Mn ok) else pure (Mn r))
      (TP (b9 C.X N' scope (bQ C.X.env.cells scope.names []) G.objs.size s₂ H₂ fp) ([]++gO fp s2.heap) σ4 (fun b' H5=>b'=b/\Same H4 H5)) (fun _ _=>False) s4:=by
     rcases ht (bQ C.X.env.cells scope.names []) G.objs.size s₂ H₂ fp with⟨ez,et⟩|⟨c,ez,et⟩
     ·subst ez
      subst et;cases e2;exact Rm ⟨H4,I4,rfl,Same.refl _⟩
     ·subst ez
      exact wpAny_tests_one (et _ s4 σ4 H4 _ I4 ⟨ρ1,vw4,by rw[e2];exact fun H' s'=>⟨rfl,s'⟩⟩)
    refine thn tests fun b' s5 ⟨H5,I5,eb,sm5⟩=>?_;subst eb
    have fin:∀{H7:Hp}{s7:L6},Inv (b9 C.X N' scope (bQ C.X.env.cells scope.names []) G.objs.size s₂ H₂ fp) ([]++gO fp s2.heap) σ4 H7 s7->Inv (b9 C.X N' scope (bQ C.X.env.cells scope.names []) G.objs.size s₂ H₂ fp) [] σ4 H7 s7/\tn (i+1) s7.heap/\∀b∈fp,H7 b=none:=fun {H7 s7} I7=>by
     refine⟨I7.unpinned,T.keep _ _ _ st3 fun b hb o e=>(I7.pin (b,o) (La _ (La _ (cD hb e)))).1,fun b hb=>?_⟩;obtain⟨o,e,_⟩:=T.obj _ _ st3 b hb;exact(I7.pin (b,o) (La _ (La _ (cD hb e)))).2.1
    have sm25:Same H₂ H5:=(sm'.trans sm3).trans sm5;have smd:Same H' H5:=sm3.trans sm5;have vw5:View C.X.K H5 σ4 (ba nt idx ρ):=View.weak (vw4.same sm5) low1 fun i l hi e=>lA hi e;have hl5:(ba nt idx ρ).length=σ4.length:=by rw[← l1];exact hl4
    rcases e3 with⟨rfl,q,r,e4,e5,rfl⟩|⟨rfl,e4⟩
    ·rw[if_pos rfl]
     refine thn (he _ _ _ _ _ _ s5 σ4 H5 (fun v H6=>Same H5 H6/\Rep C.X.K H6 q v) I5 ⟨ρ1,vw4.same sm5,by rw[e4];exact fun v H' s' r=>⟨s',r⟩⟩) fun u6 s6 ⟨v,H6,I6,r6,sm6,rp6⟩=>?_;have hD6:H6 s₂.heap.objs.size=some (.lst xs):=sm6 _ _ (smd _ _ hD')
     have hx:xs.length<sizeLine:=by
      have a1:=rp'.length;have a2:qs.length=dn.length+(r.length+1):=by rw[← ea];simp
      omega
     refine thn (gn (X:=b9 C.X N' scope (bQ C.X.env.cells scope.names []) G.objs.size s₂ H₂ fp) _ s6 σ4 H6 (.ref s₂.heap.objs.size) [v] (.ref s₂.heap.objs.size) [u6] (fun _ H7=>H7=upd H6 s₂.heap.objs.size (.lst (xs++[v]))) I6 rfl (.cons r6 .nil) ⟨_,xs,v,rfl,rfl,hD6,hx,rfl⟩) fun _ s7 ⟨_,H7,I7,_,e7⟩=>?_;subst e7;obtain⟨J7,st7,fr7⟩:=fin I7;have kp7:Kp H6 (upd H6 s₂.heap.objs.size (.lst (xs++[v]))):=Kp.upd hD6 rfl;refine⟨ps.length-(i+1),by omega,i+1,σ4,_,xs++[v],dn++[q],r,rfl,hlt,J7,st7,fr7,(sm25.trans sm6).but nD (fun u h=>by rw[hD6] at h;cases h;rfl) (fun b hb=>aj hb),ai,?_,?_,hl5,e5,by rw[← ea];simp⟩
     ·exact au.append (au.kp kp7 _ ((rp'.same smd).same sm6)) (au.cons (Rep.kp kp7 _ rp6) au.nil)
     ·exact(vw5.same sm6).noOwn (fun i p e=>lz e) (fun i p a e=>ly e) kp7 ((vw5.same sm6).tb.but (fun u h=>by rw[hD6] at h;cases h;exact⟨rfl,rfl⟩) (fun b hb=>aj hb))
    ·rw[if_neg LK]
     obtain⟨J7,st7,fr7⟩:=fin I5;exact⟨ps.length-(i+1),by omega,i+1,σ4,H5,xs,dn,rest,rfl,hlt,J7,st7,fr7,sm25,smd _ _ hD',rp'.same smd,vw5,hl5,e4,ea⟩
   ·have e:i=ps.length:=by omega
    subst e;rw[Ng] at e';cases e';rw[Mh] at ea;subst ea;refine thn (T.done (b9 C.X N' scope (bQ C.X.env.cells scope.names []) G.objs.size s₂ H₂ fp) rfl rfl rfl rfl ps.length [] s σ' H' _ I' (fpk fr' (by simp)) st' (stp rfl)) fun r s1 ⟨hr,I1⟩=>?_;subst hr;exact hRR _ _ σ' H' s1 xs I1 sm' nD hD' rp' hGe
  ·show upd H₂ _ _ b=none
   rw[aj (LO (fl b hb))];exact(hf b hb).1
 exact Q7 loop (T.self _ 0 _ _ _ (T.keep _ _ _ st fun b _ o e=>keep b o e) loop)
end
end PU
namespace PU
open PySem PySem.Spec PyProof.Rows L2
variable[TW]
def RN(C:Cn)(B:Hp×Hp)(D:Ends):R Fl->Prop
 | .ok (.ret p)=>∀a H,Same B.1 H->B.1 a=none->c5 C.X.K H a p->D.rt (.ref a) H
 | _=>False
def tSN(C:Cn)(g:PSt->R Fl):TS:=fun D σ H=>∃ρ B,StOk C.X.K B H σ ρ/\RN C B D (g ρ)
def SVN(C:Cn)(st:List Stmt)(g:PSt->R Fl):Prop:=PSs C.X st (tSN C g)
section
variable{C : Cn}{st : Stmt}{sts : List Stmt}{e : Expr}{f : PSt → R PV}{g g' : PSt → R Fl}{pos : NJ}
theorem Bl(he:EN C e f):SVN C [.Return (some e) pos] (cy f):=by
 intro KW s σ H D I ⟨ρ,B,S,h⟩;refine nv (rN he) KW s σ H D I ⟨ρ,S.vw,?_⟩;unfold cy at h;cases hf:f ρ with
 | ok p=>rw[hf] at h;exact fun a H' s' n' w'=>h a H' (S.same.trans s') (S.same.free n') w'
 | er x=>rw[hf] at h;exact LJ h
 | no=>rw[hf] at h;exact LJ h
theorem eE(hn:∀ρ p,g ρ≠.ok (.ret p))(h1:SV C st g)(h2:SVN C sts g'):SVN C (st::sts) (aF g g'):=by
 intro KW s σ H D I ⟨ρ,B,S,h⟩;refine fC h1 h2 KW s σ H D I ⟨ρ,B,S,?_⟩;unfold aF at h;cases hg:g ρ with
 | ok fl=>
  rw[hg] at h;cases fl with
  | next ρ'=>exact fun σ' H' S'=>⟨ρ',B,S',h⟩
  | brk ρ'=>exact LJ h
  | cont ρ'=>exact LJ h
  | ret p=>exact absurd hg (hn ρ p)
 | er x=>rw[hg] at h;exact LJ h
 | no=>rw[hg] at h;exact LJ h
omit [TW] in
theorem fZ(i:Nat)(f:PSt->R PV)(ρ:PSt)(p:PV):cx i f ρ≠.ok (.ret p):=by
 unfold cx;cases f ρ with
 | ok q=>intro h;cases h
 | er x=>intro h;cases h
 | no=>intro h;cases h
end
section
variable{P : Lf}{w : Ln}{K : L0}{mg : Str → Option L3}{base : Heap}
omit [TW] in
theorem zB(f:PSt->R PV)(ρ:PSt):(∃p,cy f ρ=.ok (.ret p))\/∀fl,cy f ρ≠.ok fl:=by
 unfold cy;cases f ρ with
 | ok q=>exact .inl ⟨q,rfl⟩
 | er x=>exact .inr fun fl h=>by cases h
 | no=>exact .inr fun fl h=>by cases h
omit [TW] in
theorem zA(i:Nat)(f:PSt->R PV)(g:PSt->R Fl)(h:∀ρ,(∃p,g ρ=.ok (.ret p))\/∀fl,g ρ≠.ok fl)(ρ:PSt):(∃p,aF (cx i f) g ρ=.ok (.ret p))\/∀fl,aF (cx i f) g ρ≠.ok fl:=by
 unfold aF cx;cases f ρ with
 | ok q=>exact h _
 | er x=>exact .inr fun fl h=>by cases h
 | no=>exact .inr fun fl h=>by cases h
end
end PU
namespace PU
open PySem PySem.Spec PyProof.Rows L2
variable[TW]
def qF(i:Nat)(fk fv:PSt->R PV):PSt->R Fl:=fun ρ=>match ρ[i]? with
 | some (.own (.lst ps))=>fv ρ >>= fun p=>fk ρ >>= fun kp=>(match kp with
  | .int j=>if 0<=j/\j<ps.length then .ok (.next (ρ.set i (.own (.lst (ps.set j.toNat p))))) else .no
  | _=>.no)
 | _=>.no
omit [TW] in
theorem Vals.setAt{v:V}{u:L3}(ru:RelV v u):∀{xs:List V}{its:List L3}(n:Nat),Vals xs its->Vals (xs.set n v) (its.set n u)
 | _,_,n,.nil=>.nil
 | _,_,0,.cons r rs=>.cons ru rs
 | _,_,n+1,.cons r rs=>.cons r (Vals.setAt ru n rs)
omit [TW] in
theorem mQ {prog:Lf} {w:Ln} {A:Ls} {E:L3->L6->Prop} {s:L6} {l:Addr} {items:Array L3} {n:Nat} {k:Int} {t:Tok} {v:L3} {Q:Unit->L6->Prop} (ho:s.heap.get? l=some { cls:=.type "list",data:=.seq items n }) (h0:0<=k) (hfit:k<2 ^ 63) (hn:k<items.size)
  (hQ:Q () { s with heap:=s.heap.update l (Lu (·.setIfInBounds k.toNat v)) }):LY (Ll prog w) A (setItem (.ref l) (.int k t) v) Q E s:=by
 have hl:s.heap.IsList l items:=⟨_,ho,rfl,n,rfl⟩;unfold setItem
 try with_reducible refine Mj ?_
 first | refine L1 (L9 ?_) | skip
 refine L1 (R7 hl.typeIs (by decide) ?_)
 refine L1 (Nq (name:=LI "__setitem__") hl.typeIs R3
  (OO R3 hl.typeIs PySem.F.entry_list_setitem ?_ (PySem.F.args_list_setitem_3 _ _ _)))
 show LY _ _ (Builtin.List.listSubscript? (.int k t) >>= _) _ _ s;refine L1 (wpAny_listSubscript_int (fitsIndex_of h0 hfit) ?_);clear hfit;obtain⟨j,rfl⟩:=Ry h0;have hj:j<items.size:=by omega
 have hx':items[j]?=some items[j]:=Mt hj;show LY _ _ ((seqItemAt l j >>= fun r=>pure (r.map (j,·))) >>= _) _ _ s;refine L1 (L1 (wpAny_seqItemAt ho rfl (L9 ?_)));rw[hx'];show LY _ _ (setSeqItemAt l j v >>= _) _ _ s;refine L1 (wpAny_setSeqItemAt ho rfl ?_)
 first
  | exact L1 (L9 (L9 ⟨.none,rfl,L9 hQ⟩))
  | exact L9 ⟨.none,rfl,L9 hQ⟩
theorem Bn{C:Cn}(i:Nat){x:Str}{ke e:Expr}{fk fv:PSt->R PV}{np pos' pos:NJ}(hk:EV C ke fk)(hv:EV C e fv)(hN:C.X.N[i]?=some x:=by rfl)(hvis:Vis C.X.env.scope x:=by first | exact Ow rfl | exact Ov (Ow rfl))
  (hs:OB e (some (.Subscript (.Name x np) ke pos')) pos.line C.X.env=pure false:=by rfl) (hd:(x == ("__debug__":Str))=false:=by decide) (hcd:(x == ("__classdict__":Str))=false:=by decide) :
  SV C (.Assign [.Subscript (.Name x np) ke pos'] e pos) (qF i fk fv):=by
 intro KW s σ H D I ⟨ρ,B,S,q⟩;unfold qF at q;split at q
 ·rename_i ps e1
  obtain⟨a,e2,xs,hx,rr⟩:=S.vw i _ e1
  refine Ss (thn (hv KW s σ H (fun v H1=>∃p,Same H H1/\Rep C.X.K H1 p v/\RQ C H1 (fk ρ) (fun kp=>RS C B D (match kp with
   | .int j=>if 0<=j/\j<ps.length then R.ok (.next (ρ.set i (.own (.lst (ps.set j.toNat p))))) else .no
   | _=>.no))) I ⟨ρ,S.vw,(RS.bind q S.same).imp fun p _ q1 v H1 s1 r1=>⟨p,s1,r1,RS.bind q1 (S.same.trans s1)⟩⟩) fun uv s1 ⟨v,H1,I1,rv,p,sm1,rp1,q1⟩=>?_) hs
  refine thn ((dS hN hvis hd hcd) KW s1 σ H1 (fun u H2=>u=.ref a/\H2=H1) I1 ⟨_,e2,rfl,rfl⟩) fun u s2 ⟨x2,H2,I2,rx,ex2,eh2⟩=>?_;subst ex2 eh2;refine thn (hk KW s2 σ H2 (fun y H3=>∃j:Int,Same H2 H3/\y=.int j/\RS C B D (if 0<=j/\j<ps.length then R.ok (.next (ρ.set i (.own (.lst (ps.set j.toNat p))))) else .no)) I2 ⟨ρ,S.vw.same sm1,q1.imp fun kp _ q2 y H3 s3 r3=>?_⟩) fun iv s3 ⟨y,H3,I3,ry,j,sm3,ey,q3⟩=>?_
  ·cases kp with
   | int j=>exact⟨j,s3,r3,q2⟩
   | _=>exact LJ q2
  ·subst ey
   cases rx;obtain⟨t,rfl⟩:=ry
   by_cases hj:0<=j/\j<ps.length
   ·rw[if_pos hj] at q3
    have hx3:H3 a=some (.lst xs):=sm3 _ _ (sm1 _ _ hx);obtain⟨z,its,n,r,hl,eo⟩:=I3.lstM hx3;obtain⟨m,rfl⟩:=Ry hj.1;have hm:m<ps.length:=by have:=hj.2;omega
    have hps:=rr.length;have hsz:=Ly;refine mQ eo hj.1 (by omega) (by rw[Li];omega) ?_;have I4:=I3.lset (its':=its.set m uv) (ys:=xs.set m v) (t':=s3.toks) (f:=fun y=>y.setIfInBounds m uv) hx3 eo (by simp) (Vals.setAt rv m r) (by rw[Ny];exact z);refine⟨σ,_,I4,q3 σ _ (((S.grow sm1).grow sm3).turn e1 e2 (fun b hb=>aj hb) ?_)⟩;have kp:Kp H3 (upd H3 a (.lst (xs.set m v))):=Kp.upd hx3 rfl;exact⟨a,rfl,xs.set m v,ai,au.set m (au.kp kp _ ((rr.same sm1).same sm3)) (Rep.kp kp _ (rp1.same sm3))⟩
   ·rw[if_neg hj] at q3
    exact LJ q3
 ·exact LJ q
end PU
namespace PU
open PySem PySem.Spec PyProof.Rows L2 PySem.SeqAt
theorem kc:Qv (.type "tuple") "keys"=pure none:=by rw[typeLookup_type,builtinLookup_eq_fast];kernel_rfl
theorem j7{prog:Lf}{w:Ln}{A:Ls}{E:L3->L6->Prop}{s:L6}{a:Addr}{o:Mi}{xs:Array L3}{k:Nat}{name:Str}{Q:Option L3->L6->Prop}
  (hx:s.heap.get? a=some o) (hc:o.cls=.type "tuple") (hdat:o.data=.seq xs k) (hd:o.dict=none) (hmiss:Qv (.type "tuple") name=pure none) (hname:(["__module__","__name__","__qualname__","__doc__","__annotations__"]:List Str).contains name=false) (hA:A.handled=none)
  (h:∀h' tk e,Heap.NewExcOf s.heap h' e "AttributeError"->Q none { s with heap:=h',toks:=tk }) (hsz:name.length+100<=sizeLine:=by size_fits) :
  LY (Ll prog w) A (getAttr? (.ref a) name) Q E s:=by
 obtain⟨c,dct,dat,sl⟩:=o;simp only at hc hdat hd;subst hc hdat hd;obtain⟨hp,g,d,tk,os⟩:=s;have hT:∀tk',(⟨hp,g,d,tk',os⟩:L6).TypeIs (.ref a) "tuple":=fun _=>⟨_,hx,rfl⟩;have f1:=sub_AttributeError;have f3:=PQ.lookup;have f4:=PQ.bind (.ref a);have f5:=am_tuple_getattr_none;unfold getAttr? getAttrBy? getAttrBy
 repeat (any_goals (first | assumption | exact hT _ | ((with_reducible show LY _ _ (call (Value.builtin "tuple.__getattribute__") _ _) _ _ _);refine call_meets PQ (hT _) am_entry_tuple_getattribute (F.args_tuple_getattribute_2 _ _) (meets_getattribute_miss_tuple a xs k sl name _ hmiss hname hsz) ⟨hx,hA,fun h' tk' e hx'=>?_⟩) | wp_step))
 obtain⟨t',u',he⟩:=hx'.there;show LY _ _ (PM _ _ _ _ _ _ _) _ _ _;unfold PM
 repeat (any_goals (first | assumption | wp_step))
 exact h _ _ _ hx'.of
theorem d9:entryFor table "dict.update.loop"=some Pm.«dict.update.loop»:=entryFor_of_tree (by kernel_rfl)
section
variable{prog : Lf}{w : Ln}{K : Type}[DecidableEq K]{knd : KeyKind prog w K}{A : Ls}
def storeAll(acc:List (K×L3))(l:List (K×L3)):List (K×L3):=l.foldl (fun a p=>RV a p.1 p.2) acc
theorem rj{R:RZ->L6->Prop}{h0:Heap}{d it a:Addr}{items:Array L3}{kvs:List (K×L3)}{result:L3}(hh:A.handled=none)(hda:a≠d)(hia:a≠it)(hdi:d≠it)(ha:h0.IsTuple a items)(hn:items.size=kvs.length)
  (hp:∀(j:Nat)(x:L3),items[j]?=some x->∃(p:Addr)(key:L3)(k:K)(v:L3),x=.ref p/\kvs[j]?=some (k,v)/\p≠d/\p≠it/\h0.IsTuple p #[key,v]/\knd.is k key=true) :
  ∀(m i:Nat)(s:L6)(acc:List (K×L3)),m=items.size-i->i<=items.size->(∀b o,b≠d->b≠it->h0.get? b=some o->s.heap.get? b=some o)->s.heap.IsTupleIter it a i->s.heap.DictOf knd d acc->acc.length+m<=sizeLine->
   (∀h' tk,(∀b o,b≠d->b≠it->h0.get? b=some o->h'.get? b=some o)->h'.DictOf knd d (storeAll acc (kvs.drop i))->R (.ok (.ret result)) { s with heap:=h',toks:=tk })->
   OF (Ll prog w) A (.builtin "dict.update.loop" ⟨[.ref d,.ref it,ON (i:Int),result],[]⟩) R s
 | 0,i,s,acc,hm,hi,hk,hit,hd,hz,hR=>by
  have e:i=items.size:=by omega
  have hq:s.heap.IsTuple a items:=ha.at fun o e=>hk a o hda hia e;refine Nb d9 ?_;unfold Pm.«dict.update.loop»;show LY _ _ (P4 (.ref it) >>= _) _ _ s;refine L1 (So (by exact hh) hit hq (by rw[e];simp) fun h' eb=>?_);have hd':h'.DictOf knd d acc:=hd.extBut eb hdi;show LY _ _ (Qd d [] >>= _) _ _ _;refine L1 (L9 (L9 (hR h' s.toks (fun b o hb1 hb2 q=>eb b o hb2 (hk b o hb1 hb2 q)) ?_)));rw[e,hn,Ng];exact hd'
 | m+1,i,s,acc,hm,hi,hk,hit,hd,hz,hR=>by
  have hlt:i<items.size:=by omega
  have hq:s.heap.IsTuple a items:=ha.at fun o e=>hk a o hda hia e;have hx:items[i]?=some items[i]:=by simp[hlt]
  obtain⟨p,key,k,v,ex,ek,h1,h2,h3,h4⟩:=hp i _ hx;refine Nb d9 ?_;unfold Pm.«dict.update.loop»;show LY _ _ (P4 (.ref it) >>= _) _ _ s;refine L1 (Se hit hq hx fun h' hit' sb=>?_);rw[ex];have hd':h'.DictOf knd d acc:=hd.extBut sb.extBut hdi;have hpt:h'.IsTuple p #[key,v]:=h3.at fun o e=>(sb.2 p h2).trans (hk p o h1 h2 e);obtain⟨op,hop,hcp,np,hdp⟩:=id hpt;dsimp only;refine L1 (Mj (L1 (wpAny_tryCatch ?_)));unfold Qp;refine L1 (NT hpt.typeIs ?_);rw[if_pos (by decide)];refine L1 ?_
  have hsi:LY (Ll prog w) (A.under (Code.builtin "dict.update.loop" ⟨[.ref d,.ref it,ON (i:Int),result],[]⟩)) (seqItems? (.ref p)) (fun r s'=>r=some #[key,v]/\s'={ s with heap:=h' }) (fun _ _=>False) { s with heap:=h' }:=by
   repeat (any_goals (first | assumption | wp_step))
   rw[hdp];exact L9 ⟨rfl,rfl⟩
  refine N8 hsi (fun r s' hr=>?_) fun _ _ h=>h.elim;obtain⟨rfl,rfl⟩:=hr;refine L9 ?_;show LY _ _ (holding [key,v] (dictSet d key v)) _ _ _;refine Mj (wpAny_dictSet_pairs h4 hd' (fun h'' hd'' sb'=>?_) (by omega));refine L9 ⟨Code.quiet_builtin _ (by decide +kernel),?_⟩;have ei:((i:Int)+1)=((i+1:Nat):Int):=by omega
  rw[ei];have hlen:=stored_length_le acc k v;refine rj hh hda hia hdi ha hn hp m (i+1) _ (RV acc k v) (by omega) hlt (fun b o hb1 hb2 q=>?_) ?_ hd'' (by omega) fun h3 tk hk3 hd3=>hR h3 tk hk3 ?_
  ·exact(sb'.2 b hb1).trans ((sb.2 b hb2).trans (hk b o hb1 hb2 q))
  ·exact hit'.at fun o e=>(sb'.2 it (MU hdi)).trans e
  ·have hdr:kvs.drop i=(k,v)::kvs.drop (i+1):=by
    obtain⟨hl,e⟩:=L4.mp ek;rw[Mc hl,e]
   rw[hdr];exact hd3
theorem lC {E:L3->L6->Prop} {s:L6} {a:Addr} {o:Mi} {items:Array L3} {n0:Nat} {kvs:List (K×L3)} {Q:L3->L6->Prop} (hA:A.handled=none) (hx:s.heap.get? a=some o) (hc:o.cls=.type "tuple") (hdat:o.data=.seq items n0) (hdn:o.dict=none)
  (hn:items.size=kvs.length) (hz:kvs.length<=sizeLine)
  (hp:∀(j:Nat)(x:L3),items[j]?=some x->∃(p:Addr)(key:L3)(k:K)(v:L3),x=.ref p/\kvs[j]?=some (k,v)/\s.heap.IsTuple p #[key,v]/\knd.is k key=true)
  (h:∀h' tk,(∀b o,s.heap.get? b=some o->h'.get? b=some o)->h'.DictOf knd s.heap.objs.size (storeAll [] kvs)->Q (.ref s.heap.objs.size) { s with heap:=h',toks:=tk }) :
  LY (Ll prog w) A (call (.type "dict") [.ref a]) Q E s:=by
 refine QS (Q₁:=fun obj s₁=>obj=.ref s.heap.objs.size/\s₁={ s with heap:=s.heap.push { cls:=.type "dict",data:=.dict #[] } }) F.kt_called_dict (T3 _) F.entry_dict_init (kt_code_dict_new _ ⟨rfl,rfl⟩) ?_;rintro obj s₁ ⟨rfl,rfl⟩;have hnew:(s.heap.push { cls:=.type "dict",data:=.dict #[] }).DictOf knd s.heap.objs.size []:=P9 s.heap;have hx':(s.heap.push { cls:=.type "dict",data:=.dict #[] }).get? a=some o:=L5 _ hx;have hT:Q9 { s with heap:=s.heap.push { cls:=.type "dict",data:=.dict #[] } } (.ref a) "tuple":=⟨o,hx',hc⟩;refine⟨hnew.typeIs,F.args_dict_init_2 _ _,?_⟩;unfold Pm.«dict.__init__»;refine L1 ?_;unfold Qc;refine L1 (QG hnew.typeIs ?_);show LY _ _ (pure (s.heap.objs.size,[M1 a])) _ _ _;refine L9 ?_;show LY _ _ (OD "dict.__init__" s.heap.objs.size (.ref a) [] .none) _ _ _;unfold OD;refine L1 (NT hT ?_);rw[if_pos (by decide)];refine L1 (j7 hx' hc hdat hdn kc (by decide +kernel) (by exact hA) fun h1 tk1 e1 ne=>?_);have k1:∀b u,(s.heap.push { cls:=.type "dict",data:=.dict #[] }).get? b=some u->h1.get? b=some u:=fun b u q=>ne.keeps b u q;rw[if_pos (show (none:Option L3).isNone=true from rfl)];have ht:h1.IsTuple a items:=⟨o,k1 a o hx',hc,n0,hdat⟩;refine L1 (Q5 (L1 (wpAny_pyIter_tuple ht ?_)))
 have sD:s.heap.objs.size<h1.objs.size:=by
  obtain⟨od,_,_,hod,_⟩:=hnew;exact LF (k1 _ _ hod)
 have k2:∀b u,s.heap.get? b=some u->(h1.push { cls:=.type "tuple_iterator",data:=.fields #[.ref a,.int 0 0] }).get? b=some u:=fun b u q=>L5 _ (k1 b u (L5 _ q));refine L9 ⟨Code.quiet_builtin _ (by decide +kernel),?_⟩;have lts:∀b u,s.heap.get? b=some u->b≠s.heap.objs.size/\b≠h1.objs.size:=fun b u q=>⟨LO (LF q),LO (Od (LF q) sD)⟩;refine rj (knd:=knd) (h0:=h1.push { cls:=.type "tuple_iterator",data:=.fields #[.ref a,.int 0 0] }) (kvs:=kvs) (by exact hA) (lts a o hx).1 (lts a o hx).2 (LO sD) (ht.push _) hn (fun j x hj=>?_) items.size 0 _ [] (by omega) (M0 _) (fun b u _ _ q=>q) ⟨_,LZ _ rfl,rfl,rfl⟩ ?_ (by simp;omega) fun h' tk hk' hd'=>?_
 ·obtain⟨p,key,k,v,e1,e2,e3,e4⟩:=hp j x hj
  obtain⟨op,hop,r⟩:=id e3;exact⟨p,key,k,v,e1,e2,(lts p op hop).1,(lts p op hop).2,⟨op,k2 p op hop,r⟩,e4⟩
 ·obtain⟨od,es,ep,hod,r⟩:=hnew
  exact⟨od,es,ep,L5 _ (k1 _ _ hod),r⟩
 ·exact⟨rfl,h h' tk (fun b u q=>hk' b u (lts b u q).1 (lts b u q).2 (k2 b u q)) hd'⟩
end
end PU
namespace PU
open PySem L2
def f6:List PV->Option (List (Key×PV))
 | []=>some []
 | .tup [.str k,v]::r=>(f6 r).map fun l=>(.inr k,v)::l
 | _=>none
def pR:PV->Option PV
 | .tup ps=>if ps.length<=1000 then (f6 ps).map eJ else none
 | _=>none
end PU
namespace PU
open PySem PySem.Spec PyProof.Rows L2 PySem.SeqAt
variable[TW]
theorem nG{X:Cx}{KW:List (Addr×Mi)}{σ:L2.St}{H:Hp}{s:L6}(I:L2.Inv X KW σ H s):∀{ps:List PV}{kps:List (Key×PV)}{xs:List V}{its:List L3},f6 ps=some kps->au X.K H ps xs->Vals xs its->
  ∃(kvs:List (Key×V))(vs:List (Key×L3)),ja X.K H kps kvs/\KV kvs vs/\its.length=vs.length/\∀(j:Nat)(x:L3),its[j]?=some x->∃(p:Addr)(key:L3)(k:Key)(v:L3),x=.ref p/\vs[j]?=some (k,v)/\s.heap.IsTuple p #[key,v]/\(ah X.prog X.w).is k key=true
 | [],kps,xs,its,e,r,rv=>by
  cases e;cases r;cases rv;exact⟨[],[],rfl,.nil,rfl,fun j x h=>by simp at h⟩
 | p::ps,kps,xs,its,e,r,rv=>by
  obtain⟨x,t,rfl,r1,r2⟩:=r;cases rv with
  | cons ru rv=>
  unfold f6 at e;split at e
  ·rename_i h;cases h
  ·rename_i k v r' h
   cases h;obtain⟨l,el,ez⟩:=LB.mp e;cases ez;obtain⟨kvs,vs,q1,q2,q3,q4⟩:=nG I el r2 rv;obtain⟨a,ys,rfl,g,rr⟩:=r1;obtain⟨y1,t1,rfl,h1,y2,t2,rfl,h2,h3⟩:=rr;cases h3;cases h1;cases ru;obtain⟨its2,rv2,pl,hz⟩:=I.tuple (tq g);cases rv2 with
   | cons ra rv2=>
   cases rv2 with
   | cons rb rv2=>
   cases rv2;obtain⟨tk,rfl⟩:=ra;refine⟨(.inr k,y2)::kvs,(.inr k,_)::vs,⟨y2,kvs,rfl,h2,q1⟩,.cons ⟨rfl,rb⟩ q2,by simp[q3],fun j x hj=>?_⟩;cases j with
   | zero=>
    simp at hj;subst hj;exact⟨a,_,_,_,rfl,rfl,pl,fH _ _ _ _⟩
   | succ j=>
    obtain⟨p,key,k',v',e1,e2,e3,e4⟩:=q4 j x (by simpa using hj);exact⟨p,key,k',v',e1,by simpa using e2,e3,e4⟩
  ·cases e
omit [TW] in
theorem eF{K:Type}[DecidableEq K]:∀(l acc:List (K×L3)),(storeAll acc l).length<=acc.length+l.length
 | [],acc=>by simp[storeAll]
 | p::l,acc=>by
  have h1:=eF l (RV acc p.1 p.2);have h2:=stored_length_le acc p.1 p.2;have e:storeAll acc (p::l)=storeAll (RV acc p.1 p.2) l:=rfl;rw[e,Lj];omega
theorem AY {X:Cx} (hc:X.calm=true:=by rfl) (hw:X.w=TW.w:=by rfl):gM X (.type "dict") (rn1 X.K pR):=by
 intro KW s σ H xs us Q I r ⟨v,p,z,e1,rp,ez,k⟩;subst e1;cases p with
 | tup ps=>
  have ez:(if ps.length<=1000 then (f6 ps).map eJ else none)=some z:=ez
  by_cases hlen:ps.length<=1000
  ·rw[if_pos hlen] at ez
   obtain⟨kps,ek,rfl⟩:=LB.mp ez;obtain⟨a,xs,rfl,g,rr⟩:=rp;obtain⟨u,rfl,ru⟩:=vals1 r;cases ru;obtain⟨its,rv,⟨o,ho,hcl,⟨n0,hdat⟩,hdn⟩,hz⟩:=I.tupleX (tq g);obtain⟨kvs,vs,q1,q2,q3,q4⟩:=nG I ek rr rv;have hl1:=rr.length;have hl2:=rv.length;have hs:=Ly;refine lC (knd:=ah X.prog X.w) (kvs:=vs) (I.ok.hd hc) ho hcl hdat (hdn fun v hv=>(by obtain⟨j,hj⟩:=Mg.mp hv;obtain⟨p,_,_,_,e,_⟩:=q4 j v (by simpa using hj);exact⟨p,e⟩)) (by rw[Li];exact q3) (by omega) (fun j x hj=>q4 j x (by simpa using hj)) fun h' tk keep D'=>?_;have nf:H s.heap.objs.size=none:=I.fresh
   have hne:(s.heap.objs.size == MA)=false:=by
    have hb:=I.big;refine beq_eq_false_iff_ne.mpr fun e=>?_;rw[e] at hb;exact M6 _ hb
   have hm:KV (cZ [] kvs) (storeAll [] vs):=KV.merge q2 .nil
   have hml:(cZ [] kvs).length<=sizeLine:=by
    have a1:(cZ [] kvs).length=(storeAll [] vs).length:=M5 hm;have a2:=eF vs [];simp only[NB] at a2;omega
   have I2:=I.laid (a:=s.heap.objs.size) (o:=.dK (cZ [] kvs)) (h':=h') (t':=tk) keep (LX _) ⟨hml,hne,_,hm,D'⟩;have kp:Kp H (upd H s.heap.objs.size (.dK (cZ [] kvs))):=Same.kp (Same.new nf);obtain⟨ks',ps',g1,g2,g3⟩:=iF (acc:=[]) (ps:=[]) (ja.kp kp q1) au.nil;refine⟨.ref _,_,I2,rfl,k _ _ (Same.new nf) nf ?_⟩;rw[iG];have g1:kps.foldl uo (PV.dct [] [])=PV.dct ks' ps':=g1;rw[g1];exact⟨_,ai,g2,g3⟩
  ·rw[if_neg hlen] at ez
   cases ez
 | _=>cases ez
end PU
namespace PU
open PySem PySem.Spec PyProof.Rows L2 PySem.SeqAt
def jo:List PV->Option (List Int)
 | []=>some []
 | .int i::r=>(jo r).map (i::·)
 | _=>none
def ltL:List Int->List Int->Bool
 | x::xs,y::ys=>if x=y then ltL xs ys else decide (x<y)
 | _,_=>false
def Fw:PV->PV->Option PV
 | .tup [.int i,.lst ps],.tup [.int j,.lst qs]=>
  (match jo ps,jo qs with
  | some xs,some ys=>if i=j/\¬ xs.length=ys.length then none else some (.bl (if i=j then ltL xs ys else decide (i<j)))
  | _,_=>none)
 | _,_=>none
section
open AutoSeq1 (wpAny_loadPart')
open MeetsSeq MeetsSeq2 MeetsSeq3
def fm(A:Ls)(s:L6)(y x:L3)(b:Bool):Prop:=
 ∀(prog:Lf)(w:Ln)(E:L3->L6->Prop)(Q:L3->L6->Prop),Q (.bool b) s->LY (Ll prog w) A (richCompare .Lt y x) Q E s
def ltR(e l:Nat->Bool):List Nat->Bool
 | []=>false
 | i::r=>if e i=true then ltR e l r else l i
theorem vM(l b:Addr)(items items2:Array L3)(n n2:Nat)(dd dd2:Option Addr)(sl sl2:Array (Option L3))(hsz:items.size=items2.size)(e lt:Nat->Bool)(k:Nat) :
  ∀i:Nat,items.size-i=k->Meets (Pm.«list.__eq__.loop» ⟨[.ref l,.ref b,ON i,ON 0],[]⟩)
   (fun A R s=>s.heap.get? l=some { cls:=.type "list",dict:=dd,data:=.seq items n,slots:=sl }/\s.heap.get? b=some { cls:=.type "list",dict:=dd2,data:=.seq items2 n2,slots:=sl2 }/\
    (∀j (h1:j<items.size) (h2:j<items2.size),EqAt A.in1 s items[j] items2[j] (e j)/\fm A.in1 s items[j] items2[j] (lt j))/\
    R (.ok (.ret (.bool (ltR e lt ((L7 items.size).drop i))))) s):=by
 induction k with
 | zero=>
  intro i hk prog w A R s h;obtain⟨hp,g,d,tk,os⟩:=s;obtain⟨hl,hb,he,h⟩:=h
  wp_walk using Mb hl,Mb hb
  have hi1:items[((i:Nat):Int).toNat]?=none:=by simp;omega
  have hi2:items2[((i:Nat):Int).toNat]?=none:=by simp;omega
  have hd:(L7 items.size).drop i=[]:=by simp;omega
  rw[hd] at h;rw[hi1,hi2]
  wp_walk using Mb hl,Mb hb
  show R (.ok (.ret (.bool (decide (items.size<items2.size))))) _;rw[hsz];simpa [ltR] using h
 | succ k ih=>
  intro i hk prog w A R s h;obtain⟨hp,g,d,tk,os⟩:=s;obtain⟨hl,hb,he,h⟩:=h
  wp_walk using Mb hl,Mb hb
  have hlt:i<items.size:=by omega
  have hlt2:i<items2.size:=by omega
  have hi1:items[((i:Nat):Int).toNat]?=some items[i]:=by simp[hlt]
  have hi2:items2[((i:Nat):Int).toNat]?=some items2[i]:=by simp[hlt2]
  have hd:(L7 items.size).drop i=i::(L7 items.size).drop (i+1):=by simp[Mc,hlt]
  have hc:((i:Int)+1)=((i+1:Nat):Int):=by push_cast;rfl
  rw[hd] at h;rw[hi1,hi2];refine L1 ((he i hlt hlt2).1 prog w _ _ ?_);cases hb':e i with
  | true=>
   simp only[ltR,hb',if_true] at h
   wp_walk
   rw[hc]
   exact⟨Po plain_eq_loop _,Nb entry_eq_loop (by
    rw[Ol plain_eq_loop _];exact ih (i+1) (by omega) prog w A R _ ⟨hl,hb,he,by simpa using h⟩)⟩
  | false=>
   simp only[ltR,hb',M9,if_false] at h
   wp_walk using Mb hl,Mb hb
   rw[hi1,hi2];refine L1 ((he i hlt hlt2).2 prog w _ _ ?_)
   wp_walk
   simpa using h
theorem vT(l b:Addr)(items items2:Array L3)(n n2:Nat)(dd dd2:Option Addr)(sl sl2:Array (Option L3))(hsz:items.size=items2.size)(e lt:Nat->Bool) :
  Meets (Pm.«list.__lt__» ⟨[.ref l,.ref b],[]⟩)
   (fun A R s=>s.heap.get? l=some { cls:=.type "list",dict:=dd,data:=.seq items n,slots:=sl }/\s.heap.get? b=some { cls:=.type "list",dict:=dd2,data:=.seq items2 n2,slots:=sl2 }/\
    (∀j (h1:j<items.size) (h2:j<items2.size),EqAt A.in1 s items[j] items2[j] (e j)/\fm A.in1 s items[j] items2[j] (lt j))/\
    R (.ok (.ret (.bool (ltR e lt (L7 items.size))))) s):=by
 intro prog w A R s h;obtain⟨hp,g,d,tk,os⟩:=s;obtain⟨hl,hb,he,h⟩:=h;have f3:=AutoSeq1.sub_list_list
 wp_walk using Mb hl,Mb hb
 exact⟨Po plain_eq_loop _,Nb entry_eq_loop (by
  rw[Ol plain_eq_loop _];exact vM l b items items2 n n2 dd dd2 sl sl2 hsz e lt _ 0 rfl prog w A R _ ⟨hl,hb,he,by simpa using h⟩)⟩
theorem tf(l b:Addr)(items items2:Array L3)(n n2:Nat)(dd dd2:Option Addr)(sl sl2:Array (Option L3))(e lt:Nat->Bool)(hsz:items.size=items2.size) :
  Meets (Pm.«tuple.__lt__» ⟨[.ref l,.ref b],[]⟩)
   (fun A R s=>s.heap.get? l=some { cls:=.type "tuple",dict:=dd,data:=.seq items n,slots:=sl }/\s.heap.get? b=some { cls:=.type "tuple",dict:=dd2,data:=.seq items2 n2,slots:=sl2 }/\
    (∀j (h1:j<items.size) (h2:j<items2.size),(∀m,m<j->e m=true)->EqAt A.in1 s items[j] items2[j] (e j)/\(e j=false->fm A.in1 s items[j] items2[j] (lt j)))/\
    R (.ok (.ret (.bool (ltR e lt (L7 items.size))))) s):=
 .of_wp fun prog w A R s h=>by
  obtain⟨hp,g,d,tk,os⟩:=s;obtain⟨hl,hb,he,h⟩:=h;have f2:=AutoSeq1.sub_tuple_tuple;have hZ:(items.toList.zip items2.toList).length=items.size:=by simp[hsz]
  wp_walk using Mb hl,Mb hb,wpAny_forIn_list _ (fun rest b s'=>b.1=none/\s'=⟨hp,g,d,tk,os⟩/\∃i,rest=(items.toList.zip items2.toList).drop i/\(∀m,m<i->m<items.size->e m=true)/\
   R (.ok (.ret (.bool (ltR e lt ((L7 items.size).drop i))))) ⟨hp,g,d,tk,os⟩) _
  case turn=>
   rintro⟨y,x⟩ rest b s' ⟨hb',rfl,i,hz,hm,hR⟩
   have hlt:i<(items.toList.zip items2.toList).length:=by
    rcases Oe i (items.toList.zip items2.toList).length with h' | h'
    ·exact h'
    ·rw[Rx h'] at hz;cases hz
   have h1:i<items.size:=hZ▸hlt;have h2:i<items2.size:=hsz▸h1;rw[Mc hlt] at hz;injection hz with hyx hrest;have hy:y=items[i]:=by have:=congrArg Prod.fst hyx;simpa using this
   have hx:x=items2[i]:=by have:=congrArg Prod.snd hyx;simpa using this
   subst hy hx;have hd:(L7 items.size).drop i=i::(L7 items.size).drop (i+1):=by simp[Mc,h1]
   rw[hd] at hR;have hei:=he i h1 h2 fun m hmi=>hm m hmi (by omega);refine L1 (hei.1 prog w _ _ ?_);cases hy:e i with
   | true=>
    simp only[ltR,hy,if_true] at hR
    wp_walk
    exact⟨rfl,rfl,i+1,hrest,fun m hm1 hm2=>by
     rcases Oe m i with z | z
     ·exact hm m z hm2
     ·have:m=i:=by omega
      rw[this];exact hy,by simpa using hR⟩
   | false=>
    simp only[ltR,hy,M9,if_false] at hR;have hrc:=hei.2 hy prog w;generalize richCompare CmpOp.Lt items[i] items2[i]=M at hrc ⊢
    wp_walk
    refine hrc _ _ ?_
    wp_walk
    exact⟨_,rfl,by simpa using hR⟩
  case fin=>
   rintro⟨b1,b2⟩ s' ⟨hb',rfl,i,hz,hm,hR⟩;simp only at hb';subst hb'
   have hge:items.size<=i:=by
    rcases Oe i (items.toList.zip items2.toList).length with h' | h'
    ·rw[Mc h'] at hz;cases hz
    ·exact hZ▸h'
   rw[Rx (by simpa using hge)] at hR
   wp_walk
   exact⟨_,rfl,by simpa [Builtin.Tuple.tupleCompareSizes,ltR,hsz] using hR⟩
  case h=>
   exact⟨rfl,rfl,0,rfl,fun m hm=>by omega,by simpa using h⟩
theorem fm.lists{A:Ls}{s:L6}{l b:Addr}{items items2:Array L3}{e lt:Nat->Bool}(hl:s.heap.IsList l items)(hb:s.heap.IsList b items2)(hsz:items.size=items2.size)(hu:A.units<cLine)
  (he:∀j (h1:j<items.size) (h2:j<items2.size),EqAt A.in1 s items[j] items2[j] (e j)/\fm A.in1 s items[j] items2[j] (lt j)):fm A s (.ref l) (.ref b) (ltR e lt (L7 items.size)):=fun prog w E Q h=>by
 obtain⟨⟨cls,dd,data,sl⟩,ho,hc,n,hd⟩:=id hl;obtain⟨⟨cls2,dd2,data2,sl2⟩,ho2,hc2,n2,hd2⟩:=id hb;simp only at hc hd hc2 hd2;subst hc hd hc2 hd2
 exact Su (op:=.Lt) ⟨_,ho,rfl⟩ ⟨_,ho2,rfl⟩ F.slot_list_lt F.entry_list_lt (F.args_list_lt_2 _ _) (vT l b items items2 n n2 dd dd2 sl sl2 hsz e lt)
  ⟨ho,ho2,he,show Oh _≠S9/\Q (.bool _) s from ⟨(fun x=>nomatch x),h⟩⟩ hu
theorem fm.tuples{A:Ls}{s:L6}{l b:Addr}{items items2:Array L3}{e lt:Nat->Bool}(hl:s.heap.IsTuple l items)(hb:s.heap.IsTuple b items2)(hsz:items.size=items2.size)(hu:A.units<cLine)
  (he:∀j (h1:j<items.size) (h2:j<items2.size),(∀m,m<j->e m=true)->EqAt A.in1 s items[j] items2[j] (e j)/\(e j=false->fm A.in1 s items[j] items2[j] (lt j))):fm A s (.ref l) (.ref b) (ltR e lt (L7 items.size)):=fun prog w E Q h=>by
 obtain⟨⟨cls,dd,data,sl⟩,ho,hc,n,hd⟩:=id hl;obtain⟨⟨cls2,dd2,data2,sl2⟩,ho2,hc2,n2,hd2⟩:=id hb;simp only at hc hd hc2 hd2;subst hc hd hc2 hd2
 exact Su (op:=.Lt) ⟨_,ho,rfl⟩ ⟨_,ho2,rfl⟩ F.slot_tuple_lt F.entry_tuple_lt (F.args_tuple_lt_2 _ _) (tf l b items items2 n n2 dd dd2 sl sl2 e lt hsz)
  ⟨ho,ho2,he,show Oh _≠S9/\Q (.bool _) s from ⟨(fun x=>nomatch x),h⟩⟩ hu
end
theorem vN(e l:Nat->Bool)(f:Nat->Nat):∀r:List Nat,ltR e l (r.map f)=ltR (fun i=>e (f i)) (fun i=>l (f i)) r
 | []=>rfl
 | i::r=>by simp only[L8,ltR,vN e l f r]
theorem vO:∀xs ys:List Int,xs.length=ys.length->ltR (fun i=>decide (xs.getD i 0=ys.getD i 0)) (fun i=>decide (xs.getD i 0<ys.getD i 0)) (L7 xs.length)=ltL xs ys
 | [],[],_=>rfl
 | [],_::_,h=>by simp at h
 | _::_,[],h=>by simp at h
 | x::xs,y::ys,h=>by
  rw[Lj,Pn];simp only[ltR,Sb,vN,Sd];rw[vO xs ys (by simpa using h)];simp only[ltL,decide_eq_true_eq]
theorem s8:∀xs:List Int,ltL xs xs=false
 | []=>rfl
 | x::xs=>by simp only[ltL,if_true];exact s8 xs
theorem kQ:∀{ps:List PV}{xs:List Int},jo ps=some xs->ps=xs.map .int
 | [],_,e=>by cases e;rfl
 | p::ps,xs,e=>by
  cases p with
  | int i=>
   simp only[jo] at e;obtain⟨r,er,rfl⟩:=LB.mp e;rw[kQ er];rfl
  | _=>cases e
theorem xM:∀xs ys:List Int,xs.length=ys.length->(L7 xs.length).all (fun m=>decide (xs.getD m 0=ys.getD m 0))=decide (xs=ys)
 | [],[],_=>rfl
 | [],_::_,h=>by simp at h
 | _::_,[],h=>by simp at h
 | x::xs,y::ys,h=>by
  have ih:=xM xs ys (by simpa using h);rw[Lj,Pn,Nz,List.all_map]
  have e:((fun m=>decide ((x::xs).getD m 0=(y::ys).getD m 0)) ∘ Nat.succ)=fun m=>decide (xs.getD m 0=ys.getD m 0):=by
   funext m
   simp only[NF,Nat.succ_eq_add_one,Sd]
  rw[e,ih];simp only[Sb,Ni,Bool.decide_and]
variable[TW]
theorem nY{K:L0}{H:Hp}:∀{ns:List Int}{xs:List V}{us:List L3},au K H (ns.map .int) xs->Vals xs us->∀j (h:j<us.length),∃t,us[j]=.int (ns.getD j 0) t
 | [],xs,us,r,v,j,h=>by
  cases r;cases v;simp at h
 | n::ns,xs,us,r,v,j,h=>by
  obtain⟨x,xs',rfl,r1,r2⟩:∃x xs',xs=x::xs'/\Rep K H (.int n) x/\au K H (ns.map .int) xs':=by
   cases xs with
   | nil=>have:=r.length;simp at this
   | cons x xs'=>
    obtain⟨a,b,e,c,d⟩:=r;cases e;exact⟨x,xs',rfl,c,d⟩
  cases v with
  | cons v1 v2=>
   cases (show x=.int n from r1);cases j with
   | zero=>obtain⟨t,e⟩:=v1;exact⟨t,by simpa using e⟩
   | succ j=>simpa using nY r2 v2 j (by simpa using h)
theorem nj{K:L0}{H:Hp}:∀{ns:List Int}{xs:List V},au K H (ns.map .int) xs->xs=ns.map V.int
 | [],xs,r=>by
  cases xs with
  | nil=>rfl
  | cons x xs=>have:=r.length;simp at this
 | n::ns,xs,r=>by
  cases xs with
  | nil=>have:=r.length;simp at this
  | cons x xs'=>
   obtain⟨a,b,e,c,d⟩:=r;cases e;cases (show x=.int n from c);rw[nj d];rfl
theorem HD{X:Cx}(hu:X.A.units+64<cLine):OpR X (Lz .Lt) (rP X.K Fw):=by
 intro KW s σ H x y v u Q I rx ry ⟨p,q,z,hp,hq,e,k⟩;unfold Fw at e;split at e
 ·rename_i i ps j qs
  split at e
  ·rename_i xs ys ex ey
   have ex:=kQ ex;have ey:=kQ ey;subst ex ey;split at e
   ·cases e
   ·rename_i hne
    cases e;obtain⟨a,vs,rfl,g1,r1⟩:=aN.tup_inv hp;obtain⟨b,us,rfl,g2,r2⟩:=aN.tup_inv hq;cases rx;cases ry;obtain⟨v1,vs1,rfl,q1,v2,vs2,rfl,q2,rfl⟩:=r1;obtain⟨u1,us1,rfl,q3,u2,us2,rfl,q4,rfl⟩:=r2;cases (show v1=.int i from q1);cases (show u1=.int j from q3);obtain⟨c,as,rfl,g3,r3⟩:=q2;obtain⟨d,bs,rfl,g4,r4⟩:=q4;obtain⟨its,rv,pl,_⟩:=I.tuple g1;obtain⟨its2,rv2,pl2,_⟩:=I.tuple g2;obtain⟨w1,w2,rfl,e1,e2⟩:=vals2 rv;obtain⟨w3,w4,rfl,e3,e4⟩:=vals2 rv2;obtain⟨t1,rfl⟩:=e1;obtain⟨t2,rfl⟩:=e3;cases e2;cases e4;obtain⟨is1,rw1,pl3,_⟩:=I.list g3.l.l;obtain⟨is2,rw2,pl4,_⟩:=I.list g4.l.l;have n1:is1.length=xs.length:=by rw[← rw1.length,← r3.length,LA]
    have n2:is2.length=ys.length:=by rw[← rw2.length,← r4.length,LA]
    have fin:∀b:Bool,b=(if i=j then ltL xs ys else decide (i<j))->EP X KW σ Q (.bool b) s:=fun b hb=>by
     subst hb;exact⟨.bl _,H,I,rfl,k _ H (Same.refl H) rfl⟩
    let ee:Nat->Bool:=fun m=>match m with
     | 0=>decide (i=j)
     | _=>decide (xs=ys)
    let lt:Nat->Bool:=fun m=>match m with
     | 0=>decide (i<j)
     | _=>ltL xs ys
    refine fm.tuples (e:=ee) (lt:=lt) (show s.heap.IsTuple a #[.int i t1,.ref c] from pl) (show s.heap.IsTuple b #[.int j t2,.ref d] from pl2) rfl (by omega) (fun m h1 h2 hm=>?_) X.prog X.w X.xe _ (fin _ ?_)
    ·match m,h1,h2,hm with
     | 0,h1,h2,hm=>exact⟨EqAt.int_int i t1 j t2,fun _ prog w E Q q=>lt_int q⟩
     | 1,h1,h2,hm=>
      have hij:i=j:=of_decide_eq_true (hm 0 (by omega))
      have hl:xs.length=ys.length:=by
       rcases Classical.em (xs.length=ys.length) with z | z
       ·exact z
       ·exact absurd ⟨hij,z⟩ hne
      have hsz:is1.toArray.size=is2.toArray.size:=by simp;omega
      have he:∀(A:Ls) m (h1:m<is1.toArray.size) (h2:m<is2.toArray.size),EqAt A s is1.toArray[m] is2.toArray[m] (decide (xs.getD m 0=ys.getD m 0))/\fm A s is1.toArray[m] is2.toArray[m] (decide (xs.getD m 0<ys.getD m 0)):=fun A m h1 h2=>by
       obtain⟨t3,e3⟩:=nY r3 rw1 m (by simpa using h1);obtain⟨t4,e4⟩:=nY r4 rw2 m (by simpa using h2);simp only[List.getElem_toArray,e3,e4];exact⟨EqAt.int_int _ t3 _ t4,fun prog w E Q q=>lt_int q⟩
      refine⟨?_,fun _=>?_⟩
      ·by_cases hcd:c=d
       ·subst hcd
        have exy:xs=ys:=by
         have e5:=I.list_inj g3.l.l g4.l.l;rw[nj r3,nj r4] at e5;have:=congrArg (RT fun v:V=>match v with | .int i=>i | _=>0) e5;rw[LV,LV] at this;simpa [SH] using this
        show EqAt _ s (.ref c) (.ref c) (decide (xs=ys));rw[decide_eq_true exy];exact EqAt.same _
       ·show EqAt _ s (.ref c) (.ref d) (decide (xs=ys))
        have:=EqAt.of_refs hcd (RcAt.lists (A:=X.A.in1) (e:=fun m=>decide (xs.getD m 0=ys.getD m 0)) pl3.isList pl4.isList hsz (by show X.A.units+1<cLine;omega) fun m h1 h2=>(he _ m h1 h2).1)
        have eb:(L7 is1.toArray.size).all (fun m=>decide (xs.getD m 0=ys.getD m 0))=decide (xs=ys):=by
         rw[show is1.toArray.size=xs.length by simp[n1]];exact xM xs ys hl
        rw[eb] at this;exact this
      ·show fm _ s (.ref c) (.ref d) (ltL xs ys)
       have:=fm.lists (A:=X.A.in1) (e:=fun m=>decide (xs.getD m 0=ys.getD m 0)) (lt:=fun m=>decide (xs.getD m 0<ys.getD m 0)) pl3.isList pl4.isList hsz (by show X.A.units+1<cLine;omega) fun m h1 h2=>he _ m h1 h2;rw[show is1.toArray.size=xs.length by simp[n1],vO xs ys hl] at this;exact this
     | m+2,h1,h2,hm=>exact absurd h1 (by simp)
    ·show ltR ee lt [0,1]=_
     simp only[ltR,ee,lt,decide_eq_true_eq]
     by_cases hij:i=j
     ·rw[if_pos hij,if_pos hij]
      by_cases hxy:xs=ys
      ·rw[if_pos hxy,hxy,s8]
      ·rw[if_neg hxy]
     ·rw[if_neg hij,if_neg hij]
  ·cases e
 ·cases e
end PU
namespace PU
open PySem PySem.Spec PyProof.Rows L2
def yF(i:Nat):PSt->R Fl:=fun ρ=>match ρ[i]? with
 | some (.own p)=>.ok (.ret p)
 | _=>.no
def runN(m n:Nat)(g:PSt->R Fl)(ps:List PV):Option PV:=if ps.length=m then (match g (start n ps) with
 | .ok (.ret p)=>some p
 | _=>none) else none
section
variable{g g' : PSt → R Fl}{t : PSt → R Bool}{f fk fv : PSt → R PV}{i : Nat}
theorem kE(i:Nat)(f:PSt->R PV)(ρ:PSt)(p:PV):lH i f ρ≠.ok (.ret p):=by
 unfold lH;cases f ρ with
 | ok q=>intro h;cases h
 | er x=>intro h;cases h
 | no=>intro h;cases h
theorem qg(i:Nat)(f:PSt->R PV)(ρ:PSt)(p:PV):qh i f ρ≠.ok (.ret p):=by
 unfold qh;intro h;split at h
 ·cases hf:f ρ with
  | ok q=>
   rw[hf,R.ok_bind] at h
   repeat' split at h
   all_goals cases h
  | er x=>rw[hf] at h;cases h
  | no=>rw[hf] at h;cases h
 ·cases h
theorem pT{h:Tgt}{fi:PSt->R (List PV)}(hg:∀ρ p,g ρ≠.ok (.ret p))(ρ:PSt)(p:PV):jL fi h g ρ≠.ok (.ret p):=by
 have go:∀(ps:List PV)(ρ:PSt),gL h g ps ρ≠.ok (.ret p):=by
  intro ps
  induction ps with
  | nil=>intro ρ h;cases h
  | cons x ps ih=>
   intro ρ e;unfold gL at e;cases h1:h x ρ with
   | none=>rw[h1] at e;cases e
   | some ρ1=>
    rw[h1,R.ofO_some,R.ok_bind] at e;cases h2:g ρ1 with
    | ok fl=>
     rw[h2,R.ok_bind] at e;cases fl with
     | next ρ2=>exact ih ρ2 e
     | cont ρ2=>exact ih ρ2 e
     | brk ρ2=>cases e
     | ret q=>exact hg ρ1 q h2
    | er x=>rw[h2] at e;cases e
    | no=>rw[h2] at e;cases e
 unfold jL;intro e;cases h1:fi ρ with
 | ok ps=>rw[h1,R.ok_bind] at e;exact go ps ρ e
 | er x=>rw[h1] at e;cases e
 | no=>rw[h1] at e;cases e
end
variable[TW]
section
variable{C : Cn}
theorem rB(i:Nat){x:Str}{np pos:NJ}(hN:C.X.N[i]?=some x:=by rfl)(hv:Vis C.X.env.scope x:=by first | exact Ow rfl | exact Ov (Ow rfl) | exact Ov (Ov rfl))
  (hd:(x == ("__debug__":Str))=false:=by decide) (hcd:(x == ("__classdict__":Str))=false:=by decide):SVN C [.Return (some (.Name x np)) pos] (yF i):=by
 intro KW s σ H D I ⟨ρ,B,S,h⟩;unfold yF at h;split at h
 ·rename_i p e1
  obtain⟨a,ea,nw⟩:=S.vw i _ e1;exact nv (rN (dS hN hv hd hcd)) KW s σ H D I ⟨.ref a,ea,h a H S.same (S.fresh i p a e1 ea) nw⟩
 ·exact LJ h
end
section
variable{P : Lf}{w : Ln}{K : L0}{mg : Str → Option L3}{base : Heap}
theorem BK{x qual:Str}{st:Stmt}{f:Addr}{fd:Mw}{N ps:List Str}{k:Nat}{g:PSt->R Fl}(F:Fun K x qual st f fd)(S:FnScope N ps (a7 st))(hm:mg x=some (.ref f))(hb:Binds K fd ps [])
  (hbody:∀(cdv:L3)(A:Ls)(outer:List Qa)(s:L6)(H:Hp)(E:XK),Room k (A.deeper (OU qual (a7 st) s.heap.objs.size f cdv))->SVN (AV P w K mg base N qual (a7 st) f cdv A outer s H E) (aT st) g) :
  PFN P w K mg base (k+1) x (runN ps.length N.length g):=by
 refine⟨f,fd,ps,F.ok S (fun vs H Q E h=>h.1) (fun cdv A outer s H vs Q E hr' h=>?_),hm,F.kp,hb,fun qs p h=>?_⟩
 ·obtain⟨hl,tb,qs,p,r,e0,k⟩:=h
  refine⟨_,hbody cdv A outer s H E hr',start N.length qs,(H,H),iy tb r,?_⟩;unfold runN at e0;rw[if_pos (by rw[r.length];exact hl)] at e0;split at e0
  ·rename_i q hq
   rw[hq];cases e0;exact fun a H' s' n' w'=>k a H' s' n' w'
  ·cases e0
 ·unfold runN at h
  split at h
  ·rename_i hl;exact hl
  ·cases h
end
end PU
namespace PU
open PySem L2
def Hj(p:PV):R (List PV):=match p with
 | .int j=>if j.natAbs<1000000000 then .ok (c7 0 j.toNat) else .no
 | _=>.no
def Dg(p q:PV):R (List PV):=match p,q with
 | .int i,.int j=>if i.natAbs<1000000000/\j.natAbs<1000000000 then .ok (c7 i (j-i).toNat) else .no
 | _,_=>.no
theorem yj{j:Int}(h0:0<=j)(h1:j<1000000000):Hj (.int j)=.ok (c7 0 j.toNat):=by
 unfold Hj;exact if_pos (by omega)
theorem uK{i j:Int}(h0:0<=i)(h1:i<1000000000)(h2:0<=j)(h3:j<1000000000):Dg (.int i) (.int j)=.ok (c7 i (j-i).toNat):=by
 unfold Dg;exact if_pos ⟨by omega,by omega⟩
section
def DZ(g':PSt->R Fl):R Fl->R Fl
 | .ok (.next ρ)=>g' ρ
 | .ok (.brk ρ)=>.ok (.brk ρ)
 | .ok (.cont ρ)=>.ok (.cont ρ)
 | .ok (.ret p)=>.ok (.ret p)
 | .er x=>.er x
 | .no=>.no
def uz{α β:Type}(f:α->β):R α->R β
 | .ok a=>.ok (f a)
 | .er x=>.er x
 | .no=>.no
def iZ{α β:Type}(f:α->R β):R α->R β
 | .ok a=>f a
 | .er x=>.er x
 | .no=>.no
def ifK{α:Type}(g g':PSt->R α)(ρ:PSt):R Bool->R α
 | .ok true=>g ρ
 | .ok false=>g' ρ
 | .er x=>.er x
 | .no=>.no
def mI{α β γ:Type}(f:α->β->R γ):R α->R β->R γ
 | .ok a,.ok b=>f a b
 | .ok _,.er x=>.er x
 | .ok _,.no=>.no
 | .er x,_=>.er x
 | .no,_=>.no
variable{α : Type}{ρ : PSt}{f fa fb fc : PSt → R PV}{g g' : PSt → R Fl}{t u : PSt → R Bool}{i : Nat}
@[simp] theorem mi:DZ g' (.ok (.next ρ))=g' ρ:=by unfold DZ;exact Lm _
@[simp] theorem wg(p:PV):DZ g' (.ok (.ret p))=.ok (.ret p):=by unfold DZ;exact Lm _
@[simp] theorem Fe{β:Type}(f:α->β)(a:α):uz f (.ok a)=.ok (f a):=by unfold uz;exact Lm _
@[simp] theorem kK{β:Type}(f:α->R β)(a:α):iZ f (.ok a)=f a:=by unfold iZ;exact Lm _
@[simp] theorem Jm(g g':PSt->R α):ifK g g' ρ (.ok true)=g ρ:=by unfold ifK;exact Lm _
@[simp] theorem Jo(g g':PSt->R α):ifK g g' ρ (.ok false)=g' ρ:=by unfold ifK;exact Lm _
@[simp] theorem we{β γ:Type}(f:α->β->R γ)(a:α)(b:β):mI f (.ok a) (.ok b)=f a b:=by unfold mI;exact Lm _
@[simp] theorem uF:aF g g' ρ=DZ g' (g ρ):=by
 unfold aF;cases g ρ with
 | ok fl=>cases fl <;> rfl
 | er x=>rfl
 | no=>rfl
@[simp] theorem GK:cF ρ=.ok (.next ρ):=by unfold cF;exact Lm _
@[simp] theorem zX:cy f ρ=uz .ret (f ρ):=by unfold cy;cases f ρ <;> rfl
@[simp] theorem JG:ifF t g g' ρ=ifK g g' ρ (t ρ):=by
 unfold ifF;cases t ρ with
 | ok b=>cases b <;> rfl
 | er x=>rfl
 | no=>rfl
def Hf(i:Nat)(ρ:PSt)(p:PV):Fl:=.next (ρ.set i (.val p))
def Hx(i:Nat)(ρ:PSt)(p:PV):Fl:=.next (ρ.set i (.own p))
@[simp] theorem HW(p:PV):Hf i ρ p=.next (ρ.set i (.val p)):=by unfold Hf;exact Lm _
@[simp] theorem Kg(p:PV):Hx i ρ p=.next (ρ.set i (.own p)):=by unfold Hx;exact Lm _
@[simp] theorem Du:cx i f ρ=uz (Hf i ρ) (f ρ):=by unfold cx;cases f ρ <;> rfl
@[simp] theorem IL:lH i f ρ=uz (Hx i ρ) (f ρ):=by unfold lH;cases f ρ <;> rfl
@[simp] theorem IX:uB i g ρ=g (ua i ρ):=by unfold uB;exact Lm _
@[simp] theorem IV(j:Int):kI j ρ=.ok (.int j):=by unfold kI;exact Lm _
@[simp] theorem JD(j:Bool):kB j ρ=.ok (.bl j):=by unfold kB;exact Lm _
@[simp] theorem KI:kN ρ=.ok .non:=by unfold kN;exact Lm _
@[simp] theorem KG(j:Str):kS j ρ=.ok (.str j):=by unfold kS;exact Lm _
@[simp] theorem KH(j:PV):kP j ρ=.ok j:=by unfold kP;exact Lm _
@[simp] theorem IR:aH ρ=.ok []:=by unfold aH;exact Lm _
def CU(p:PV)(ps:List PV):R (List PV):=.ok (p::ps)
@[simp] theorem Jr(p:PV)(ps:List PV):CU p ps=.ok (p::ps):=by unfold CU;exact Lm _
@[simp] theorem GQ{fs:PSt->R (List PV)}:a6 f fs ρ=mI CU (f ρ) (fs ρ):=by unfold a6;cases f ρ <;> cases fs ρ <;> rfl
def tupP(ps:List PV):R PV:=if ps.length<=16777216 then .ok (.tup ps) else .no
def lstP(ps:List PV):R PV:=if ps.length<=16777216 then .ok (.lst ps) else .no
@[simp] theorem HU(ps:List PV):tupP ps=if ps.length<=16777216 then .ok (.tup ps) else .no:=by unfold tupP;exact Lm _
@[simp] theorem Ff(ps:List PV):lstP ps=if ps.length<=16777216 then .ok (.lst ps) else .no:=by unfold lstP;exact Lm _
@[simp] theorem IH{fs:PSt->R (List PV)}:gK fs ρ=iZ tupP (fs ρ):=by
 unfold gK;cases fs ρ with
 | ok ps=>simp only[R.ok_bind,gR,kK,HU];split <;> rfl
 | er x=>rfl
 | no=>rfl
@[simp] theorem IT{fs:PSt->R (List PV)}:s9 fs ρ=iZ lstP (fs ρ):=by
 unfold s9;cases fs ρ with
 | ok ps=>simp only[R.ok_bind,gR,kK,Ff];split <;> rfl
 | er x=>rfl
 | no=>rfl
def opP(g:PV->PV->Option PV)(p q:PV):R PV:=R.ofO (g p q)
def op1(g:PV->Option PV)(p:PV):R PV:=R.ofO (g p)
@[simp] theorem KO(g:PV->PV->Option PV)(p q:PV):opP g p q=R.ofO (g p q):=by unfold opP;exact Lm _
@[simp] theorem Fd(g:PV->Option PV)(p:PV):op1 g p=R.ofO (g p):=by unfold op1;exact Lm _
@[simp] theorem IZ{g:PV->PV->Option PV}:ab fa fb g ρ=mI (opP g) (fa ρ) (fb ρ):=by unfold ab;cases fa ρ <;> cases fb ρ <;> rfl
@[simp] theorem Dt{g:PV->Option PV}:un1 f g ρ=iZ (op1 g) (f ρ):=by unfold un1;cases f ρ <;> rfl
def GW(p:PV):R Bool:=R.ofO (xR p)
@[simp] theorem Kc(p:PV):GW p=R.ofO (xR p):=by unfold GW;exact Lm _
@[simp] theorem II:cH f ρ=iZ GW (f ρ):=by unfold cH;cases f ρ <;> rfl
@[simp] theorem J6:B4 t u ρ=ifK u (fun _=>.ok false) ρ (t ρ):=by
 unfold B4;cases t ρ with
 | ok b=>cases b <;> rfl
 | er x=>rfl
 | no=>rfl
@[simp] theorem JC:orB t u ρ=ifK (fun _=>.ok true) u ρ (t ρ):=by
 unfold orB;cases t ρ with
 | ok b=>cases b <;> rfl
 | er x=>rfl
 | no=>rfl
@[simp] theorem IM:EF t ρ=uz not (t ρ):=by unfold EF;cases t ρ <;> rfl
def G6(fb:PSt->R PV)(ρ:PSt)(p:PV):R PV:=match p with
 | .bl true=>fb ρ
 | .bl false=>.ok (.bl false)
 | _=>.no
@[simp] theorem Ic:G6 fb ρ (.bl true)=fb ρ:=by unfold G6;exact Lm _
@[simp] theorem Ie:G6 fb ρ (.bl false)=.ok (.bl false):=by unfold G6;exact Lm _
@[simp] theorem J5:G5 fa fb ρ=iZ (G6 fb ρ) (fa ρ):=by unfold G5;cases fa ρ <;> rfl
@[simp] theorem JF:ifV t fa fb ρ=ifK fa fb ρ (t ρ):=by
 unfold ifV;cases t ρ with
 | ok b=>cases b <;> rfl
 | er x=>rfl
 | no=>rfl
@[simp] theorem uE:jM ρ=.ok true:=by unfold jM;exact Lm _
def D3(F:List PV->Option PV)(ps:List PV):R PV:=R.ofO (F ps)
@[simp] theorem Js(F:List PV->Option PV)(ps:List PV):D3 F ps=R.ofO (F ps):=by unfold D3;exact Lm _
@[simp] theorem GS{fs:PSt->R (List PV)}{F:List PV->Option PV}:aE fs F ρ=iZ (D3 F) (fs ρ):=by unfold aE;cases fs ρ <;> rfl
def itQ(F:PV->Option (List PV))(p:PV):R (List PV):=R.ofO (F p)
@[simp] theorem KQ(F:PV->Option (List PV))(p:PV):itQ F p=R.ofO (F p):=by unfold itQ;exact Lm _
@[simp] theorem JE:itF f ρ=iZ (itQ eD) (f ρ):=by unfold itF;cases f ρ <;> rfl
@[simp] theorem GN:uc f ρ=iZ (itQ oh) (f ρ):=by unfold uc;cases f ρ <;> rfl
def Im(h:Tgt)(g:PSt->R Fl)(ρ:PSt)(ps:List PV):R Fl:=gL h g ps ρ
@[simp] theorem Fg(h:Tgt)(ps:List PV):Im h g ρ ps=gL h g ps ρ:=by unfold Im;exact Lm _
@[simp] theorem zY{fi:PSt->R (List PV)}{h:Tgt}:jL fi h g ρ=iZ (Im h g ρ) (fi ρ):=by unfold jL;cases fi ρ <;> rfl
@[simp] theorem IJ:Bu f ρ=iZ Hj (f ρ):=by unfold Bu;cases f ρ <;> rfl
@[simp] theorem zW:Dh fa fb ρ=mI Dg (fa ρ) (fb ρ):=by unfold Dh;cases fa ρ <;> cases fb ρ <;> rfl
@[simp] theorem Gi{g:PV->PV->Option PV}(x:Str):qE (kS x) fb g ρ=iZ (opP g (.str x)) (fb ρ):=by unfold qE;cases fb ρ <;> rfl
@[simp] theorem Gf:f9 ρ=.ok none:=by unfold f9;exact Lm _
def aP(p:PV):R (Option Int):=match p with
 | .int i=>.ok (some i)
 | _=>.no
@[simp] theorem KR(i:Int):aP (.int i)=.ok (some i):=by unfold aP;exact Lm _
@[simp] theorem GT:ij f ρ=iZ aP (f ρ):=by unfold ij;cases f ρ <;> rfl
def slQ(p:PV)(lh:Option Int×Option Int):R PV:=R.ofO (gSl p lh.1 lh.2)
def tQ(a b:Option Int):R (Option Int×Option Int):=.ok (a,b)
@[simp] theorem KN(p:PV)(a b:Option Int):slQ p (a,b)=R.ofO (gSl p a b):=by unfold slQ;exact Lm _
@[simp] theorem Jk(a b:Option Int):tQ a b=.ok (a,b):=by unfold tQ;exact Lm _
@[simp] theorem Gc{l h:PSt->R (Option Int)}:lY f l h ρ=mI slQ (f ρ) (mI tQ (l ρ) (h ρ)):=by unfold lY;cases f ρ <;> cases l ρ <;> cases h ρ <;> rfl
@[simp] theorem IS:newD ρ=.ok (.dct [] []):=by unfold newD;exact Lm _
@[simp] theorem IQ:EK ρ=.ok []:=by unfold EK;exact Lm _
def F9(p:PV):R Key:=R.ofO (ft p)
@[simp] theorem AE(p:PV):F9 p=R.ofO (ft p):=by unfold F9;exact Lm _
def kvQ(k:Key)(p:PV):R (Key×PV):=.ok (k,p)
@[simp] theorem Kh(k:Key)(p:PV):kvQ k p=.ok (k,p):=by unfold kvQ;exact Lm _
def CT(a:Key×PV)(r:List (Key×PV)):R (List (Key×PV)):=.ok (a::r)
@[simp] theorem I9(a:Key×PV)(r:List (Key×PV)):CT a r=.ok (a::r):=by unfold CT;exact Lm _
@[simp] theorem GP{fd:PSt->R (List (Key×PV))}:ou fa fb fd ρ=mI CT (mI kvQ (iZ F9 (fa ρ)) (fb ρ)) (fd ρ):=by
 unfold ou;cases fa ρ with
 | ok p=>simp only[R.ok_bind,kK,AE];cases ft p <;> cases fb ρ <;> cases fd ρ <;> rfl
 | er x=>cases fb ρ <;> cases fd ρ <;> rfl
 | no=>cases fb ρ <;> cases fd ρ <;> rfl
def CN(kps:List (Key×PV)):R PV:=if kps.length<=15 then .ok (eJ kps) else .no
@[simp] theorem HZ(kps:List (Key×PV)):CN kps=if kps.length<=15 then .ok (eJ kps) else .no:=by unfold CN;exact Lm _
@[simp] theorem GO{fd:PSt->R (List (Key×PV))}:xl fd ρ=iZ CN (fd ρ):=by unfold xl;cases fd ρ <;> rfl
def CV(h:Tgt)(t:PSt->R Bool)(fe:PSt->R PV)(ρ:PSt)(ps:List PV):R PV:=iZ lstP (BZ (bL h t fe ρ ps))
@[simp] theorem Fh(h:Tgt)(ps:List PV):CV h t f ρ ps=iZ lstP (BZ (bL h t f ρ ps)):=by unfold CV;exact Lm _
@[simp] theorem GR{fi:PSt->R (List PV)}{h:Tgt}{nt:Nat}{idx:List Nat}:ff fi h t f nt idx ρ=iZ (CV h t f (ba nt idx ρ)) (fi ρ):=by
 unfold ff;cases fi ρ with
 | ok ps=>
  simp only[R.ok_bind,kK,Fh];cases bL h t f (ba nt idx ρ) ps with
  | ok qs=>simp only[BZ,R.ok_bind,kK,Ff,gR];split <;> rfl
  | er x=>rfl
  | no=>rfl
 | er x=>rfl
 | no=>rfl
@[simp] theorem qk(p:PV):af i p ρ=some (ρ.set i (.val p)):=by unfold af;exact Lm _
@[simp] theorem Gg(a:α):BZ (.ok a)=.ok a:=by unfold BZ;exact Lm _
end
section
variable{p : PV}{l : Sl}{ρ : PSt}{i : Nat}
@[simp] theorem qm:getV 0 (.val p::ρ)=.ok p:=by unfold getV;exact Lm _
@[simp] theorem Ba:getV (i+1) (l::ρ)=getV i ρ:=by unfold getV;rw[MG]
@[simp] theorem Gj:gS 0 (.own p::ρ)=.ok p:=by unfold gS;exact Lm _
@[simp] theorem GL:gS (i+1) (l::ρ)=gS i ρ:=by unfold gS;rw[MG]
@[simp] theorem IY:ua 0 (.own p::ρ)=.val p::ρ:=by unfold ua;exact Lm _
@[simp] theorem GM:ua 0 (.val p::ρ)=.val p::ρ:=by unfold ua;exact Lm _
theorem wO:ua (i+1) (l::ρ)=l::ua i ρ:=by
 unfold ua;simp only[MG];cases ρ[i]? with
 | none=>rfl
 | some x=>cases x <;> rfl
@[simp] theorem IW:ua (i+1) (l::ρ)=l::ua i ρ:=wO
def roA(i:Nat)(ρ:PSt):Sl:=roS ρ[i]?
@[simp] theorem Kf:roA 0 (.val p::ρ)=.val p:=by unfold roA roS;exact Lm _
@[simp] theorem Ke:roA (i+1) (l::ρ)=roA i ρ:=by unfold roA;rw[MG]
theorem uG(nt:Nat)(idx:List Nat):ba nt idx ρ=M3 nt .no++idx.map fun i=>roA i ρ:=by unfold ba roA;exact Lm _
def B2(i:Nat)(ρ:PSt)(p:PV):R PSt:=match ρ[i]? with
 | some (.own (.lst ps))=>if ps.length<16777216 then .ok (ρ.set i (.own (.lst (ps++[p])))) else .no
 | _=>.no
def xZ(i:Nat)(ρ:PSt):Bool:=match ρ[i]? with
 | some (.own (.lst _))=>true
 | _=>false
def zH(l:Sl)(ρ:PSt):PSt:=l::ρ
@[simp] theorem I8:zH l ρ=l::ρ:=by unfold zH;exact Lm _
@[simp] theorem Ju(ps:List PV):B2 0 (.own (.lst ps)::ρ) p=if ps.length<16777216 then .ok (.own (.lst (ps++[p]))::ρ) else .no:=by unfold B2;exact Lm _
@[simp] theorem Jt:B2 (i+1) (l::ρ) p=uz (zH l) (B2 i ρ p):=by
 unfold B2;rw[MG];cases ρ[i]? with
 | none=>rfl
 | some x=>
  cases x with
  | own q=>
   cases q with
   | lst ps=>dsimp only;split <;> rfl
   | _=>rfl
  | _=>rfl
@[simp] theorem Jq(ps:List PV):xZ 0 (.own (.lst ps)::ρ)=true:=by unfold xZ;exact Lm _
@[simp] theorem Jp:xZ (i+1) (l::ρ)=xZ i ρ:=by unfold xZ;rw[MG]
def G4(i:Nat)(ρ:PSt)(p:PV):R Fl:=uz .next (B2 i ρ p)
@[simp] theorem Fj:G4 i ρ p=uz .next (B2 i ρ p):=by unfold G4;exact Lm _
theorem D5(f:PSt->R PV)(h:xZ i ρ=true):qh i f ρ=iZ (G4 i ρ) (f ρ):=by
 unfold xZ at h;unfold qh;cases e:ρ[i]? with
 | none=>rw[e] at h;cases h
 | some x=>
  rw[e] at h;cases x with
  | own q=>
   cases q with
   | lst ps=>
    dsimp only;cases f ρ with
    | ok p=>
     simp only[R.ok_bind,kK,Fj];unfold B2;rw[e];dsimp only
     split <;> rfl
    | er x=>rfl
    | no=>rfl
   | _=>cases h
  | _=>cases h
def GG(b:Bool)(i:Nat)(ρ:PSt)(r:R PV):R Fl:=if b=true then iZ (G4 i ρ) r else .no
@[simp] theorem Fk(r:R PV):GG true i ρ r=iZ (G4 i ρ) r:=by unfold GG;exact if_pos rfl
@[simp] theorem J4(f:PSt->R PV):qh i f ρ=GG (xZ i ρ) i ρ (f ρ):=by
 cases h:xZ i ρ with
 | true=>rw[D5 f h,Fk]
 | false=>
  unfold GG;rw[if_neg LK];unfold xZ at h;unfold qh
  split
  ·rename_i ps e
   rw[e] at h;cases h
  ·rfl
def Ao(i:Nat)(ρ:PSt)(k:Key)(p:PV):R PSt:=match ρ[i]? with
 | some (.own (.dct ks ps))=>if ks.length<16777216 then .ok (ρ.set i (.own (jA ks ps k p))) else .no
 | _=>.no
def Cw(i:Nat)(ρ:PSt):Bool:=match ρ[i]? with
 | some (.own (.dct _ _))=>true
 | _=>false
@[simp] theorem Jj(ks:List Key)(ps:List PV)(k:Key):Ao 0 (.own (.dct ks ps)::ρ) k p=if ks.length<16777216 then .ok (.own (jA ks ps k p)::ρ) else .no:=by unfold Ao;exact Lm _
@[simp] theorem Ji(k:Key):Ao (i+1) (l::ρ) k p=uz (zH l) (Ao i ρ k p):=by
 unfold Ao;rw[MG];cases ρ[i]? with
 | none=>rfl
 | some x=>
  cases x with
  | own q=>
   cases q with
   | dct ks ps=>dsimp only;split <;> rfl
   | _=>rfl
  | _=>rfl
@[simp] theorem HY(ks:List Key)(ps:List PV):Cw 0 (.own (.dct ks ps)::ρ)=true:=by unfold Cw;exact Lm _
@[simp] theorem HX:Cw (i+1) (l::ρ)=Cw i ρ:=by unfold Cw;rw[MG]
def GB(i:Nat)(ρ:PSt)(p:PV)(k:Key):R Fl:=uz .next (Ao i ρ k p)
@[simp] theorem Fb(k:Key):GB i ρ p k=uz .next (Ao i ρ k p):=by unfold GB;exact Lm _
def Hn(b:Bool)(i:Nat)(ρ:PSt)(v:R PV)(k:R PV):R Fl:=if b=true then mI (GB i ρ) v (iZ F9 k) else .no
@[simp] theorem Fc(v k:R PV):Hn true i ρ v k=mI (GB i ρ) v (iZ F9 k):=by unfold Hn;exact if_pos rfl
@[simp] theorem IK(fk fv:PSt->R PV):ux i fk fv ρ=Hn (Cw i ρ) i ρ (fv ρ) (fk ρ):=by
 unfold ux Cw;cases e:ρ[i]? with
 | none=>rfl
 | some x=>
  cases x with
  | own q=>
   cases q with
   | dct ks ps=>
    dsimp only;rw[Fc];cases fv ρ with
    | ok p=>
     simp only[R.ok_bind];cases fk ρ with
     | ok kp=>
      simp only[R.ok_bind,kK,AE];cases ft kp with
      | none=>rfl
      | some k=>
       simp only[R.ofO_some,R.ok_bind,we,Fb];unfold Ao;rw[e];dsimp only
       split <;> rfl
     | er x=>rfl
     | no=>rfl
    | er x=>rfl
    | no=>rfl
   | _=>rfl
  | _=>rfl
end
@[simp] theorem DP(a b:Int):eX (.int a) (.int b)=some (.int (a+b)):=rfl
theorem k8{a b:Str}(h:a.length+b.length<=16777216):eX (.str a) (.str b)=some (.str (a++b)):=if_pos h
theorem uM{a b:List PV}(h:a.length+b.length<=16777216):eX (.lst a) (.lst b)=some (.lst (a++b)):=if_pos h
@[simp] theorem DO(a b:List PV):eX (.tup a) (.tup b)=if a.length+b.length<=16777216 then some (.tup (a++b)) else none:=rfl
@[simp] theorem JI(a b:Int):Cy (.int a) (.int b)=some (.int (a-b)):=rfl
theorem ym{a b:Int}(h:a.natAbs<18446744073709551616\/b.natAbs<18446744073709551616):wJ (.int a) (.int b)=some (.int (a * b)):=if_pos h
theorem Bg{a b:Int}(h:0<b/\b<1073741824):Fx (.int a) (.int b)=some (.int (a / b)):=if_pos h
theorem da{a b:Int}(h:0<b):dy (.int a) (.int b)=some (.int (a % b)):=if_pos h
@[simp] theorem v_lt(a b:Int):gLt (.int a) (.int b)=some (.bl (decide (a<b))):=rfl
@[simp] theorem KJ(a b:Int):gLe (.int a) (.int b)=some (.bl (decide (a<=b))):=rfl
@[simp] theorem KL(a b:Int):gGt (.int a) (.int b)=some (.bl (decide (b<a))):=rfl
@[simp] theorem KM(a b:Int):gGe (.int a) (.int b)=some (.bl (decide (b<=a))):=rfl
@[simp] theorem Gr(x y:Str):gLt (.str x) (.str y)=some (.bl (decide (x.cps.toList<y.cps.toList))):=rfl
@[simp] theorem GA(a b:Int):gEq (.int a) (.int b)=some (.bl (decide (a=b))):=by simp[gEq,mq,scV,yB]
@[simp] theorem yp(a b:Str):gEq (.str a) (.str b)=some (.bl (decide (a=b))):=by simp[gEq,mq,scV,yB]
@[simp] theorem Gq(a b:Int):gNe (.int a) (.int b)=some (.bl (!decide (a=b))):=by simp[gNe,mq,scV,yB]
@[simp] theorem Gp(a b:Str):gNe (.str a) (.str b)=some (.bl (!decide (a=b))):=by simp[gNe,mq,scV,yB]
@[simp] theorem Gm(b:Bool):xR (.bl b)=some b:=rfl
@[simp] theorem Dz(ps:List PV):xR (.lst ps)=some (!ps.isEmpty):=rfl
@[simp] theorem DA(ks:List Key)(ps:List PV):xR (.dct ks ps)=some (!ks.isEmpty):=rfl
@[simp] theorem DI(ps:List PV):l7 (.lst ps)=some (.int ps.length):=rfl
@[simp] theorem DH(ps:List PV):l7 (.tup ps)=some (.int ps.length):=rfl
theorem fW{x:Str}(h:x.length<=16777216):l7 (.str x)=some (.int x.length):=if_pos h
@[simp] theorem Gu(ps:List PV)(i:Int):gIx (.lst ps) (.int i)=atI ps i:=rfl
@[simp] theorem Gs(ps:List PV)(i:Int):gIx (.tup ps) (.int i)=atI ps i:=rfl
theorem yn{z:Str}{i:Int}{c:Nat}(h:z.length<=16777216)(e:atI z.cps.toList i=some c):gIx (.str z) (.int i)=some (.str ⟨#[c]⟩):=by
 show (if z.length<=16777216 then (atI z.cps.toList i).map fun c=>PV.str ⟨#[c]⟩ else none)=_;rw[if_pos h,e];rfl
@[simp] theorem Gv(ks:List Key)(ps:List PV)(k:PV):gIx (.dct ks ps) k=(ft k).bind fun k=>bK ks ps k:=rfl
@[simp] theorem DK(i:Int):ft (.int i)=some (.inl i):=rfl
@[simp] theorem DJ(x:Str):ft (.str x)=some (.inr x):=rfl
@[simp] theorem lS(k j:Key)(ks:List Key)(p:PV)(ps:List PV):bK (k::ks) (p::ps) j=if k=j then some p else bK ks ps j:=rfl
@[simp] theorem Gz(b:Bool):GF (.bl b)=some (.int (if b then 1 else 0)):=rfl
@[simp] theorem DN(b:Int):GF (.int b)=some (.int b):=rfl
@[simp] theorem Dy(ps:List PV):sC (.lst ps)=some (.tup ps):=rfl
@[simp] theorem Dx(ps:List PV):sC (.tup ps)=some (.tup ps):=rfl
@[simp] theorem Gx(ps:List PV):eD (.lst ps)=some ps:=rfl
@[simp] theorem Gw(ps:List PV):eD (.tup ps)=some ps:=rfl
@[simp] theorem Gy(ks:List Key)(ps:List PV):eD (.dct ks ps)=some (ks.map xX):=rfl
@[simp] theorem J8(x:Str):xX (.inr x)=.str x:=rfl
@[simp] theorem De(ps:List PV):oh (.lst ps)=some ((rV ps).map .tup):=rfl
@[simp] theorem Dd(x:Str):oh (.str x)=some ((rV (fY x)).map .tup):=rfl
@[simp] theorem DC(i:Int):Jw (.int i)=if i.natAbs.log2<1920 then some (.str (toString i)) else none:=rfl
@[simp] theorem DB(x:Str):Jw (.str x)=some (.str x):=rfl
@[simp] theorem GV(x:Str):Fp (.str x)=true:=rfl
@[simp] theorem Gn(ps:List PV)(lo hi:Option Int):gSl (.lst ps) lo hi=some (.lst (lI ps lo hi)):=rfl
theorem aZ{α:Type}{xs:List α}{i:Int}{n:Nat}{x:α}(hi:i=n)(h:xs[n]?=some x):atI xs i=some x:=by
 subst hi;have hl:=(L4.mp h).1;unfold atI ixN;rw[if_pos (by omega),if_pos (by omega)];simpa using h
@[simp] theorem Kv{α:Type}(x:α)(xs:List α):atI (x::xs) 0=some x:=aZ (n:=0) rfl rfl
@[simp] theorem Ku{α:Type}(x y:α)(xs:List α):atI (x::y::xs) 1=some y:=aZ (n:=1) rfl rfl
@[simp] theorem Kt{α:Type}(x y z:α)(xs:List α):atI (x::y::z::xs) 2=some z:=aZ (n:=2) rfl rfl
@[simp] theorem Ks{α:Type}(x y z u:α)(xs:List α):atI (x::y::z::u::xs) 3=some u:=aZ (n:=3) rfl rfl
theorem wR{h:Tgt}{g:PSt->R Fl}(I:Nat->PSt->Prop):∀(ps:List PV)(n:Nat)(ρ:PSt),I n ρ->
  (∀(i:Nat)(p:PV)(ρ:PSt),ps[i]?=some p->I (n+i) ρ->∃ρ1 ρ2,h p ρ=some ρ1/\(g ρ1=.ok (.next ρ2)\/g ρ1=.ok (.cont ρ2))/\I (n+i+1) ρ2)->
  ∃ρ',gL h g ps ρ=.ok (.next ρ')/\I (n+ps.length) ρ'
 | [],n,ρ,h0,_=>⟨ρ,rfl,h0⟩
 | p::ps,n,ρ,h0,hs=>by
  obtain⟨ρ1,ρ2,e1,e2,i2⟩:=hs 0 p ρ rfl h0
  obtain⟨ρ3,e3,i3⟩:=wR I ps (n+1) ρ2 i2 fun i q ρ' hq hi=>by
   have:=hs (i+1) q ρ' (by simpa using hq) (by rw[show n+(i+1)=n+1+i by omega];exact hi);rw[show n+(i+1)+1=n+1+i+1 by omega] at this;exact this
  refine⟨ρ3,?_,by rw[Lj,show n+(ps.length+1)=n+1+ps.length by omega];exact i3⟩;unfold gL;rw[e1];rcases e2 with e2 | e2 <;> (simp only[R.ofO_some,R.ok_bind,e2];exact e3)
theorem zt{h:Tgt}{g:PSt->R Fl}{ps:List PV}{ρ:PSt}(I:Nat->PSt->Prop)(h0:I 0 ρ)
  (hs:∀(i:Nat)(p:PV)(ρ:PSt),ps[i]?=some p->I i ρ->∃ρ1 ρ2,h p ρ=some ρ1/\(g ρ1=.ok (.next ρ2)\/g ρ1=.ok (.cont ρ2))/\I (i+1) ρ2) :
  ∃ρ',gL h g ps ρ=.ok (.next ρ')/\I ps.length ρ':=by
 have:=wR I ps 0 ρ h0 fun i p ρ hp hi=>by
  rw[Pp] at hi ⊢;exact hs i p ρ hp hi
 simpa using this
theorem tG(lo:Int)(n:Nat):(c7 lo n).length=n:=by simp[c7]
theorem tH{lo:Int}{n i:Nat}{p:PV}(h:(c7 lo n)[i]?=some p):i<n/\p=.int (lo+i):=by
 unfold c7 at h;rw[LC] at h
 by_cases hi:i<n
 ·rw[Ms hi] at h
  exact⟨hi,(M4 h).symm⟩
 ·rw[MP (by simpa using hi)] at h
  cases h
theorem forR{h:Tgt}{g:PSt->R Fl}{lo:Int}{n:Nat}{ρ:PSt}(I:Nat->PSt->Prop)(h0:I 0 ρ)
  (hs:∀(i:Nat)(ρ:PSt),i<n->I i ρ->∃ρ1 ρ2,h (.int (lo+i)) ρ=some ρ1/\(g ρ1=.ok (.next ρ2)\/g ρ1=.ok (.cont ρ2))/\I (i+1) ρ2) :
  ∃ρ',gL h g (c7 lo n) ρ=.ok (.next ρ')/\I n ρ':=by
 obtain⟨ρ',e,i'⟩:=zt (ps:=c7 lo n) I h0 fun i p ρ hp hi=>by
  obtain⟨hn,rfl⟩:=tH hp;exact hs i ρ hn hi
 rw[tG] at i';exact⟨ρ',e,i'⟩
theorem wQ{α:Type}{enc:α->PV}{h:Tgt}{g:PSt->R Fl}{xs:List α}(I:List α->PSt->Prop)
  (hs:∀(pre:List α)(x:α)(post:List α)(ρ:PSt),xs=pre++x::post->I pre ρ->∃ρ1 ρ2,h (enc x) ρ=some ρ1/\(g ρ1=.ok (.next ρ2)\/g ρ1=.ok (.cont ρ2))/\I (pre++[x]) ρ2) :
  ∀(ys pre:List α)(ρ:PSt),xs=pre++ys->I pre ρ->∃ρ',gL h g (ys.map enc) ρ=.ok (.next ρ')/\I xs ρ'
 | [],pre,ρ,e,h0=>⟨ρ,rfl,by rw[e,Mh];exact h0⟩
 | y::ys,pre,ρ,e,h0=>by
  obtain⟨ρ1,ρ2,e1,e2,i2⟩:=hs pre y ys ρ e h0;obtain⟨ρ3,e3,i3⟩:=wQ I hs ys (pre++[y]) ρ2 (by rw[e];simp) i2;refine⟨ρ3,?_,i3⟩;rw[L8];unfold gL;rw[e1];rcases e2 with e2 | e2 <;> (simp only[R.ofO_some,R.ok_bind,e2];exact e3)
theorem forM{α:Type}{enc:α->PV}{h:Tgt}{g:PSt->R Fl}{xs:List α}{ρ:PSt}(I:List α->PSt->Prop)(h0:I [] ρ)
  (hs:∀(pre:List α)(x:α)(post:List α)(ρ:PSt),xs=pre++x::post->I pre ρ->∃ρ1 ρ2,h (enc x) ρ=some ρ1/\(g ρ1=.ok (.next ρ2)\/g ρ1=.ok (.cont ρ2))/\I (pre++[x]) ρ2) :
  ∃ρ',gL h g (xs.map enc) ρ=.ok (.next ρ')/\I xs ρ':=wQ I hs xs [] ρ rfl h0
end PU
namespace PU
open PySem PySem.Spec PyProof.Rows L2 PySem.SeqAt
def ur:List PV->Option (List Key)
 | []=>some []
 | p::r=>(ft p).bind fun k=>(ur r).map fun l=>k::l
def jN:PV->Option (List Key)
 | .tup ps=>ur ps
 | _=>none
def jK:List (List Key)->List PV->List Key->Option PV
 | k::ks,p::ps,j=>if k=j then some p else jK ks ps j
 | _,_,_=>none
def u7:PV->PV->Option PV
 | .dtt ks ps,q=>(jN q).bind fun k=>jK ks ps k
 | _,_=>none
def fK:PV->PV->Option PV
 | q,.dtt ks _=>(jN q).map fun k=>.bl (!(ks.any fun j=>decide (j=k)))
 | _,_=>none
def Bv(ks:List (List Key))(ps:List PV)(k:List Key)(p:PV):List PV:=List.zipWith (fun j q=>if j=k then p else q) ks ps
def tK(ks:List (List Key))(ps:List PV)(k:List Key)(p:PV):PV:=if (ks.any fun j=>decide (j=k))=true then .dtt ks (Bv ks ps k p) else .dtt (ks++[k]) (ps++[p])
def nu(i:Nat)(fk fv:PSt->R PV):PSt->R Fl:=fun ρ=>match ρ[i]? with
 | some (.own (.dtt ks ps))=>fv ρ >>= fun p=>fk ρ >>= fun kp=>R.ofO (jN kp) >>= fun k=>if ks.length<16777216 then .ok (.next (ρ.set i (.own (tK ks ps k p)))) else .no
 | _=>.no
def zE(fk fv:PSt->R PV):PSt->R PV:=fun ρ=>fk ρ >>= fun kp=>fv ρ >>= fun p=>R.ofO (jN kp) >>= fun k=>.ok (.dtt [k] [p])
def HN:PSt->R PV:=fun _=>.ok (.dtt [] [])
variable[TW]
theorem oJ{K:L0}{H:Hp}:∀{ps:List PV}{xs:List V}{ks:List Key},ur ps=some ks->au K H ps xs->xs=ks.map kV
 | [],_,_,e,r=>by cases e;cases r;rfl
 | p::ps,_,_,e,⟨x,t,ex,h1,h2⟩=>by
  obtain⟨k,ek,e⟩:=LD.mp e;obtain⟨l,el,e⟩:=LB.mp e;subst e ex;rw[L8,← de ek h1.o,← oJ el h2]
theorem gC{K:L0}{H:Hp}{p:PV}{v:V}{k:List Key}(e:jN p=some k)(r:aN K H p v):∃b,v=.ref b/\H b=some (.tup (k.map kV)):=by
 cases p with
 | tup ps=>
  obtain⟨a,xs,ev,g,rr⟩:=r;exact⟨a,ev,by rw[← oJ e rr];exact g⟩
 | _=>cases e
theorem pG{K:L0}{H:Hp}{k:List Key}:∀{ks:List (List Key)}{ps:List PV}{kvs:List (List Key×V)}{p:PV},kvs.map (·.1)=ks->au K H ps (kvs.map (·.2))->jK ks ps k=some p->∃v,jI kvs k=some v/\Rep K H p v
 | _,_,[],_,h1,h2,e=>by
  subst h1;simp only[Nm,jK] at e;cases e
 | _,[],kv::kvs,_,h1,h2,e=>by
  cases h2
 | _,q::ps,kv::kvs,p,h1,h2,e=>by
  subst h1;obtain⟨x,r,ex,hx,ht⟩:=h2;simp only[L8,Ni] at ex;obtain⟨rfl,rfl⟩:=ex;simp only[L8,jK] at e
  by_cases hk:kv.1=k
  ·rw[if_pos hk] at e
   cases e;exact⟨_,by simp[jI,hk],hx⟩
  ·rw[if_neg hk] at e
   obtain⟨v,ev,rv⟩:=pG rfl ht e;exact⟨v,by unfold jI at ev ⊢;rw[Oa (by simp[hk])];exact ev,rv⟩
theorem yh{kvs:List (List Key×V)}{k:List Key}:(jI kvs k).isSome=((kvs.map (·.1)).any fun j=>decide (j=k)):=by
 rw[NO];unfold jI;rw[QM]
 induction kvs with
 | nil=>rfl
 | cons kv r ih=>
  rw[MV,NC];simp only[NF];cases decide (kv.1=k) with
  | true=>rfl
  | false=>exact ih
section
variable{X : Cx}
theorem ixT(hu:X.A.units+64<cLine):IxR X (rP X.K u7):=by
 intro value slice KW s σ H x y v u Q I rx ry ⟨p,q,z,hp,hq,e,k⟩ hs;unfold u7 at e;split at e
 ·rename_i ks ps
  obtain⟨kk,ek,e⟩:=LD.mp e;obtain⟨a,kvs,rfl,g,e1,r⟩:=hp;cases rx;obtain⟨b,rfl,hb⟩:=gC ek hq;obtain⟨w,ew,rp⟩:=pG e1 r e;have dg:G9 H a (.ref b) (some w):=.inr ⟨kvs,kk,b,g,rfl,hb,ew.symm⟩;obtain⟨_,_,_,_,dd⟩:=xg I.hok g;exact tail_any (qZ I dg) R4.lookup (xt (by omega) I dg ry fun w' s' I' rw'=>⟨w,H,I',rw',k w H (Same.refl H) rp⟩) hs
 ·cases e
theorem rT(hu:X.A.units+64<cLine):OpR X (Lz .NotIn) (rP X.K fK):=by
 intro KW s σ H x y v u Q I rx ry ⟨p,q,z,hp,hq,e,k⟩;unfold fK at e;split at e
 ·rename_i ks ps
  obtain⟨kk,ek,ez⟩:=LB.mp e;subst ez;obtain⟨a,kvs,rfl,g,e1,r⟩:=hq;cases ry;obtain⟨b,rfl,hb⟩:=gC ek hp;have dg:G9 H a (.ref b) (jI kvs kk):=.inr ⟨kvs,kk,b,g,rfl,hb,rfl⟩;refine CP (by omega) I dg rx fun s' I'=>⟨.bl _,H,I',rfl,k _ H (Same.refl H) ?_⟩;subst e1;rw[yh];rfl
 ·cases e
end
theorem kM:sx fK:=fun p q z e=>by
 unfold fK at e;split at e
 ·obtain⟨b,_,ez⟩:=LB.mp e;exact⟨_,ez.symm⟩
 ·cases e
theorem lZ{K:L0}{H:Hp}{k:List Key}{p:PV}{v:V}(rp:Rep K H p v):∀{kvs:List (List Key×V)}{ps:List PV},au K H ps (kvs.map (·.2))->au K H (Bv (kvs.map (·.1)) ps k p) ((kvs.map fun kv=>if kv.1=k then (kv.1,v) else kv).map (·.2))
 | [],ps,r=>by
  cases ps with
  | nil=>rfl
  | cons q qs=>obtain⟨x,t,e,_⟩:=r;cases e
 | kv::kvs,ps,r=>by
  cases ps with
  | nil=>cases r
  | cons q qs=>
   obtain⟨x,t,e,h1,h2⟩:=r;simp only[L8,Ni] at e;obtain⟨rfl,rfl⟩:=e;have ih:=lZ (k:=k) rp h2;simp only[L8,Bv,MX]
   by_cases hk:kv.1=k
   ·rw[if_pos hk,if_pos hk];exact⟨_,_,rfl,rp,ih⟩
   ·rw[if_neg hk,if_neg hk];exact⟨_,_,rfl,h1,ih⟩
theorem oY{K:L0}{H:Hp}{kvs:List (List Key×V)}{ps:List PV}{k:List Key}{p:PV}{v:V}(rr:au K H ps (kvs.map (·.2)))(rp:Rep K H p v) :
  ∃ks' ps',tK (kvs.map (·.1)) ps k p=.dtt ks' ps'/\(putK kvs k v).map (·.1)=ks'/\au K H ps' ((putK kvs k v).map (·.2)):=by
 unfold tK;have e:((kvs.map (·.1)).any fun j=>decide (j=k))=(kvs.any fun kv=>decide (kv.1=k)):=by rw[NO];rfl
 rw[e];unfold putK
 split
 ·refine⟨_,_,rfl,?_,lZ rp rr⟩
  rw[LV];apply NH;intro kv _;simp only[NF]
  split <;> rfl
 ·refine⟨_,_,rfl,by simp,?_⟩
  rw[Ld];exact au.append rr ⟨_,_,rfl,rp,rfl⟩
theorem yN{K:L0}{H:Hp}{a:Addr}{kvs:List (List Key×V)}{ps:List PV}{k:List Key}{p:PV}{v:V}(rr:au K H ps (kvs.map (·.2)))(rp:Rep K H p v)(ha:H a=some (.dT (putK kvs k v))):c5 K H a (tK (kvs.map (·.1)) ps k p):=by
 obtain⟨ks',ps',e,e1,e2⟩:=oY (k:=k) rr rp;rw[e];exact⟨_,ha,e1,e2⟩
theorem uS{C:Cn}(i:Nat){x:Str}{ke e:Expr}{fk fv:PSt->R PV}{np pos' pos:NJ}(hu:C.X.A.units+64<cLine)(hk:EV C ke fk)(hv:EV C e fv)(hN:C.X.N[i]?=some x:=by rfl)(hvis:Vis C.X.env.scope x:=by first | exact .inl rfl | exact .inr (.inl rfl) | exact .inr (.inr rfl))
  (hs:OB e (some (.Subscript (.Name x np) ke pos')) pos.line C.X.env=pure false:=by rfl) (hd:(x == ("__debug__":Str))=false:=by decide) (hcd:(x == ("__classdict__":Str))=false:=by decide) :
  SV C (.Assign [.Subscript (.Name x np) ke pos'] e pos) (nu i fk fv):=by
 intro KW s σ H D I ⟨ρ,B,S,q⟩;unfold nu at q;split at q
 ·rename_i ks ps e1
  obtain⟨a,e2,kvs,hx,ek,rr⟩:=S.vw i _ e1;refine vh (by omega) (dS hN hvis hd hcd) hk hv hs KW s σ H D I ⟨ρ,S.vw,(q.bind S.same).imp fun p _ q1 v H1 s1 r1=>⟨_,e2,ρ,S.vw.same s1,(q1.bind (S.same.trans s1)).imp fun kp _ q2 y H2 s2 r2=>?_⟩⟩;obtain⟨k,e3,q3⟩:=RS.ofO q2
  by_cases hl:ks.length<16777216
  ·rw[if_pos hl] at q3
   obtain⟨b,rfl,hb⟩:=gC e3 r2.o;subst ek;have hx2:H2 a=some (.dT kvs):=s2 _ _ (s1 _ _ hx);refine⟨a,_,rfl,B8.t hx2 hb (by rw[Ly];simpa using hl),?_⟩;have kp:Kp H2 (upd H2 a (.dT (putK kvs k v))):=Kp.upd hx2 rfl;refine q3 σ _ (((S.grow s1).grow s2).turn e1 e2 (fun b hb=>aj hb) ⟨a,rfl,?_⟩);exact yN (au.kp kp _ ((rr.same s1).same s2)) (Rep.kp kp _ (r1.same s2)) ai
  ·rw[if_neg hl] at q3
   exact LJ q3
 ·exact LJ q
theorem FR{X:Cx}{KW:List (Addr×Mi)}{σ:L2.St}{H:Hp}{s:L6}{a b:Addr}{v:V}{r:L3}{A:Ls}{E:L3->L6->Prop}{kvs:List (List Key×V)}{k:List Key}{Q:Unit->L6->Prop}(hu:A.units+1<cLine)(I:Inv X KW σ H s)
  (e:H a=some (.dT kvs)) (eb:H b=some (.tup (k.map kV))) (l:kvs.length<sizeLine) (rv:RelV v r) (h:∀s',Inv X KW σ (upd H a (.dT (putK kvs k v))) s'->Q () s') :
  LY (Ll X.prog X.w) A (dictSet a (.ref b) r) Q E s:=by
 obtain⟨z,hd,xs,rel,dd⟩:=FO I.hok e;have hz:xs.length<=sizeLine:=by rw[← M5 rel];exact z
 have hl:(putK kvs k v).length<=sizeLine:=by have:=d5 kvs k v;omega
 refine wpAny_dictSet_heap (hsz:=hz) (knd:=Nr (ah X.prog X.w)) (show A.units<cLine by omega) (key_of I.hok eb) dd fun h' dd' hs=>h _ ?_;obtain⟨q,es,ep,hq,h2,h3,h4,_,h5⟩:=dd';refine lu I (by rw[e];exact Oj) hs ⟨q,hq⟩ ⟨hl,hd,_,(rel.put k eb rv).keeps fun c ys ec=>?_,q,es,ep,hq,h2,h3,h4,h5⟩;rw[aj (ER ec e (fun z=>nomatch z))];exact ec
theorem zC{C:Cn}{k v:Expr}{fk fv:PSt->R PV}{pos:NJ}(hu:C.X.A.units+64<cLine)(hk:EV C k fk)(hv:EV C v fv):EN C (.Dict [some k] [v] pos) (zE fk fv):=by
 intro KW s σ H Q I ⟨ρ,vw,q⟩;have hn:=I.hok.fresh (LX s.heap.objs.size);have I1:=I.laid (a:=s.heap.objs.size) (o:=.dT []) (h':=s.heap.push { cls:=.type "dict",data:=.dict #[] }) (t':=s.toks) (fun _ _ q=>L5 _ q) (LX _) (sR s.heap I.big)
 refine wpAny_Dict_any rfl rfl (by simp) (show 1<=15 by decide) (thn (rO hk hv vi KW _ σ _ (fun ps H3=>∃b k y,ps=[(.ref b,y)]/\H3 b=some (.tup (k.map kV))/\H3 s.heap.objs.size=some (.dT [])/\Q (.ref s.heap.objs.size) (upd H3 s.heap.objs.size (.dT (putK [] k y)))) I1
  ⟨ρ,vw.same (Same.new hn),(q.bind.same (Same.new hn)).imp fun kp _ q1 x H1 s1 r1=>⟨ρ,vw.same ((Same.new hn).trans s1),(q1.bind.same ((Same.new hn).trans s1)).imp fun p _ q2 y H2 s2 r2=>?_⟩⟩) fun ws s2 ⟨ps,H2,I2,rel,b,k,y,ep,hb,hd,q2⟩=>?_)
 ·obtain⟨k,ek,q3⟩:=q2.bind.ofO
  obtain⟨b,rfl,hb⟩:=gC ek (r1.same s2).o;have hd:H2 s.heap.objs.size=some (.dT []):=s2 _ _ (s1 _ _ ai);refine⟨b,k,y,rfl,hb,hd,?_⟩;have kp:Kp H2 (upd H2 s.heap.objs.size (.dT (putK [] k y))):=Kp.upd hd rfl;exact q3 s.heap.objs.size _ ((((Same.new hn).trans s1).trans s2).but hn (fun u h=>by rw[hd] at h;cases h;rfl) (fun b hb=>aj hb)) hn ⟨_,ai,rfl,⟨_,_,rfl,Rep.kp kp _ r2,rfl⟩⟩
 ·subst ep
  cases rel with
  | @cons _ w _ ws h t=>
  cases t;obtain⟨w1,w2⟩:=w;cases (show w1=M1 b from h.1);unfold PySem.storeAll;rw[List.forIn_cons];refine L1 (L1 (FR (by omega) I2 hd hb (by rw[Ly];decide) h.2 fun s' I'=>L9 ?_));dsimp only;rw[List.forIn_nil];exact L9 ⟨.ref s.heap.objs.size,_,I',rfl,q2⟩
theorem CK{C:Cn}{pos:NJ}:EN C (.Dict [] [] pos) HN:=fun KW s σ H Q I ⟨ρ,vw,q⟩=>yX KW s σ H Q I fun p hp=>q p _ (Same.new hp) hp ⟨[],ai,rfl,rfl⟩
end PU
namespace PU
open PySem PySem.Spec PyProof.Rows L2 PySem.SeqAt
def B0(i:Nat)(f:PSt->R PV):PSt->R Fl:=fun ρ=>match ρ[i]? with
 | some (.val (.int a))=>f ρ >>= fun q=>match q with
  | .int b=>.ok (.next (ρ.set i (.val (.int (a+b)))))
  | _=>.no
 | _=>.no
variable[TW]
theorem Ad{C:Cn}{e:Expr}{f:PSt->R PV}{pos:NJ}(i:Nat){x:Str}{pos':NJ}(hN:C.X.N.Nodup)(he:EV C e f)
  (hf:C.X.fn x=true\/C.X.env.scope.names.lookup x=some .local:=by first | exact .inl rfl | exact .inr rfl | assumption) (hi:C.X.N[i]?=some x:=by rfl) (hx:Loc C.X.env.scope x:=by first | exact .inl rfl | exact .inr rfl) :
  SV C (.AugAssign (.Name x pos') .Add e pos) (B0 i f):=by
 intro KW s σ H D I ⟨ρ,B,S,h⟩;unfold B0 at h;split at h
 ·rename_i a e1
  obtain⟨v,ev,rv⟩:=S.vw i _ e1;cases (show v=.int a from rv);refine Ee hN hi hx he Fs hf KW s σ H D I ⟨_,ev,ρ,S.vw,(h.bind S.same).imp fun q _ k w H1 s1 r1=>?_⟩;cases q with
  | int b=>
   cases (show w=.int b from r1);exact⟨a,b,rfl,rfl,k _ H1 ((S.grow s1).setV rfl)⟩
  | _=>exact LJ k
 ·exact LJ h
end PU
namespace PU
open PySem PySem.Spec PyProof.Rows L2 PySem.SeqAt
variable[TW]
def trC(H:Hp)(l:List (Addr×Mi)):Hp:=fun b=>match l.lookup b with
 | some o=>some (.frz o (.own 0))
 | none=>H b
def drC(H:Hp)(l:List (Addr×Mi)):Hp:=fun b=>match l.lookup b with
 | some _=>none
 | none=>H b
theorem kf{H:Hp}{l:List (Addr×Mi)}{b:Addr}{o:Mi}(h:l.lookup b=some o):trC H l b=some (.frz o (.own 0)):=by unfold trC;rw[h]
theorem aJ{H:Hp}{l:List (Addr×Mi)}{b:Addr}(h:l.lookup b=none):trC H l b=H b:=by unfold trC;rw[h]
theorem lr{H:Hp}{l:List (Addr×Mi)}{b:Addr}{o:Mi}(h:l.lookup b=some o):drC H l b=none:=by unfold drC;rw[h]
theorem aS{H:Hp}{l:List (Addr×Mi)}{b:Addr}(h:l.lookup b=none):drC H l b=H b:=by unfold drC;rw[h]
structure Cls(X:Cx)(H:Hp)(s:L6)(l:List (Addr×Mi)):Prop where
 at_:∀c o,l.lookup c=some o->s.heap.get? c=some o
 fr:∀c o,l.lookup c=some o->H c=none
 bs:∀c o,l.lookup c=some o->X.base.get? c=none
 st:∀c o,l.lookup c=some o->c ∉ frs X.stack
section
variable{X : Cx}{KW : List (Addr×Mi)}{σ : L2.St}{H H' : Hp}{s s' : L6}{l : List (Addr×Mi)}
theorem Cls.out(hc:Cls X H s l){b:Addr}{o:HO}(e:H b=some o):l.lookup b=none:=by
 cases q:l.lookup b with
 | none=>rfl
 | some u=>rw[hc.fr b u q] at e;cases e
theorem Ir(I:L2.Inv X KW σ H s)(hc:Cls X H s l):Env0 X.prog X.w X.K X.mg X.base X.A X.stack s (trC H l):=by
 have e:=I.env0;refine⟨e.frames,e.mod,fun b o h=>⟨(e.bs b o h).1,?_⟩,e.bsz,e.funs,fun b hb=>?_,fun b o h=>?_,e.bare⟩
 ·cases q:l.lookup b with
  | none=>rw[aJ q];exact(e.bs b o h).2
  | some u=>rw[hc.bs b u q] at h;cases h
 ·cases q:l.lookup b with
  | none=>rw[aJ q];exact e.frf b hb
  | some u=>exact absurd hb (hc.st b u q)
 ·cases q:l.lookup b with
  | some u=>
   rw[kf q] at h;cases h;exact⟨hc.at_ b u q,u,hc.at_ b u q⟩
  | none=>
   rw[aJ q] at h;exact(e.hok b o h).stay (fun _ _ _ z=>z) (fun c z=>by rw[aJ (hc.out z)];exact z) fun c xs z=>by rw[aJ (hc.out z)];exact z
theorem rR(un:Un (frs X.stack) [] (trC H l) H' s.heap s'.heap){b:Addr}{o:HO}(e:H' b=some o)(n:∀q,o≠.frz q (.own 0)):l.lookup b=none:=by
 cases q:l.lookup b with
 | none=>rfl
 | some u=>
  rw[un.frzs b u _ (kf q)] at e;cases e;exact absurd rfl (n u)
theorem unC(hc:Cls X H s l)(un:Un (frs X.stack) [] (trC H l) H' s.heap s'.heap)(hok:HOk X.prog X.w H' s'.heap):Un (frs X.stack) [] H (drC H' l) s.heap s'.heap where
 keep:=fun b o e n hb hx=>by
  cases q:l.lookup b with
  | none=>exact un.keep b o e (by rw[aJ q];exact n) hb hx
  | some u=>
   have h1:=hc.at_ b u q;rw[e] at h1;cases h1;exact(hok b _ (un.frzs b o _ (kf q))).1
 slot:=fun b o e n hb hx=>by
  cases q:l.lookup b with
  | none=>exact un.slot b o e (by rw[aJ q];exact n) hb hx
  | some u=>exact absurd hb (hc.st b u q)
 free:=fun b o e n hx=>by
  cases q:l.lookup b with
  | none=>rw[aS q];exact un.free b o e (by rw[aJ q];exact n) hx
  | some u=>exact lr q
 there:=un.there
 tups:=fun b xs e=>by
  have q:=hc.out e;rw[aS q];exact un.tups b xs (by rw[aJ q];exact e)
 frzs:=fun b o u e=>by
  have q:=hc.out e;rw[aS q];exact un.frzs b o u (by rw[aJ q];exact e)
 tbls:=fun b ps e=>by
  have q:=hc.out e;rw[aS q];exact un.tbls b ps (by rw[aJ q];exact e)
theorem Kk(un:Un (frs X.stack) [] (trC H l) H' s.heap s'.heap)(hok:HOk X.prog X.w H' s'.heap):HOk X.prog X.w (drC H' l) s'.heap:=fun b o e=>by
 cases q:l.lookup b with
 | some u=>rw[lr q] at e;cases e
 | none=>
  rw[aS q] at e;exact(hok b o e).stay (fun _ _ _ z=>z) (fun c z=>by rw[aS (rR un z fun _ h=>by cases h)];exact z) fun c xs z=>by rw[aS (rR un z fun _ h=>by cases h)];exact z
theorem Hg(hc:Cls X H s l)(un:Un (frs X.stack) [] (trC H l) H' s.heap s'.heap)(sm:Same (trC H l) H'):Same H (drC H' l):=
 ⟨fun b o e n=>by
  have q:=hc.out e;rw[aS q];exact sm.at_ b o (by rw[aJ q];exact e) n,fun b ps e=>by
  have q:=hc.out e;obtain⟨p1,e1,k1⟩:=sm.tb b ps (by rw[aJ q];exact e);refine⟨p1,by rw[aS q];exact e1,fun t=>?_⟩;have t1:=k1 ⟨t.1,fun pos v h=>let ⟨c,f1,f2⟩:=t.2 pos v h;⟨c,f1,by rw[aJ (hc.out f2)];exact f2⟩⟩;exact⟨t1.1,fun pos v h=>let ⟨c,f1,f2⟩:=t1.2 pos v h;⟨c,f1,by rw[aS (rR un f2 fun _ h=>by cases h)];exact f2⟩⟩⟩
theorem G7{Q:VK}{u:L3}(I:L2.Inv X KW σ H s)(hc:Cls X H s l)(h:CE X.stack X.prog X.w (trC H l) s (fun v H'=>Un (frs X.stack) [] (trC H l) H' s.heap s'.heap->Q v (drC H' l)) u s'):EP X KW σ Q u s':=by
 obtain⟨v,H',os,bare,un,hok,r,q⟩:=h;obtain⟨hh,g,d,t,os'⟩:=s';obtain rfl:os'=s.os:=os;exact⟨v,drC H' l,I.call (h':=hh) (g':=g) (d':=d) (t':=t) (ch:=[]) (unC hc un hok) (Kk un hok) bare (fun b z=>absurd z (by simp)),r,q un⟩
end
mutual
def noFn:PV->Bool
 | .fn _ _=>false
 | .tup ps=>br ps
 | .lst ps=>br ps
 | .dct _ ps=>br ps
 | .dtt _ ps=>br ps
 | _=>true
def br:List PV->Bool
 | []=>true
 | p::ps=>noFn p && br ps
end
def Fq:HO->Bool
 | .tup _=>true
 | .frz _ (.lst _)=>true
 | .frz _ (.dK _)=>true
 | .frz _ (.dT _)=>true
 | _=>false
mutual
theorem Rep.pl{K:L0}{H H':Hp}(k:∀b u,H b=some u->Fq u=true->H' b=some u):∀(p:PV){v:V},noFn p=true->Rep K H p v->Rep K H' p v
 | .non,_,_,h=>h
 | .bl _,_,_,h=>h
 | .int _,_,_,h=>h
 | .str _,_,_,h=>h
 | .tup ps,_,n,⟨a,xs,e,h,r⟩=>⟨a,xs,e,k _ _ h rfl,au.pl k ps n r⟩
 | .lst ps,_,n,⟨a,xs,e,h,r⟩=>⟨a,xs,e,by
   rcases h with⟨o,h⟩ | h
   ·exact .inl ⟨o,k _ _ h rfl⟩
   ·exact .inr h,au.pl k ps n r⟩
 | .dct ks ps,_,n,⟨a,kvs,e,h,ek,r⟩=>⟨a,kvs,e,by
   rcases h with⟨o,h⟩ | h
   ·exact .inl ⟨o,k _ _ h rfl⟩
   ·exact .inr h,ek,au.pl k ps n r⟩
 | .dtt ks ps,_,n,⟨a,o,kvs,e,h,ek,r⟩=>⟨a,o,kvs,e,k _ _ h rfl,ek,au.pl k ps n r⟩
 | .fn _ _,_,n,_=>by cases n
theorem au.pl{K:L0}{H H':Hp}(k:∀b u,H b=some u->Fq u=true->H' b=some u):∀(ps:List PV){xs:List V},br ps=true->au K H ps xs->au K H' ps xs
 | [],_,_,h=>h
 | p::ps,_,n,⟨x,r,e,h1,h2⟩=>by
  have n:(noFn p && br ps)=true:=n;rw[MH] at n;exact⟨x,r,e,Rep.pl k p n.1 h1,au.pl k ps n.2 h2⟩
end
theorem su{u:HO}(h:Fq u=true):∀q,u≠.frz q (.own 0):=fun q e=>by subst e;cases h
end PU
namespace PU
open PySem PySem.Spec PyProof.Rows L2 PySem.SeqAt
variable[TW]
theorem xK{p:NJ}{r:List L3}(l:List L3)(h:TriplesOk l):Og p (l++r)=(Og p l).or (Og p r):=by
 fun_induction TriplesOk l with
 | case1=>simp[Og]
 | case2 a t b u x rest ih=>
  simp only[OI,Og]
  split
  ·rfl
  ·exact ih h
 | case3 l h1 h2=>exact h.elim
theorem xJ{p pos:NJ}{c v:L3}(h:Og p [ON pos.line,ON pos.col,c]=some v):v=c/\p.line=pos.line/\p.col=pos.col:=by
 simp only[Og,ON] at h;split at h
 ·rename_i hc
  cases h;simp only[MH,beq_iff_eq] at hc;exact⟨rfl,by omega,by omega⟩
 ·cases h
section
variable{X : Cx}{KW : List (Addr×Mi)}{σ : L2.St}{H : Hp}{s : L6}
theorem Cr{H':Hp}{h':Heap}{P:Addr}{ps more:Array L3}{t':Nat}(I:L2.Inv X KW σ H s)(hP:H P=some (.tbl ps))(hx:Ou P s.heap h')(hp:H' P=some (.tbl (ps++more)))(gP:h'.get? P=some (OT (ps++more)))
  (old:∀b,b<s.heap.objs.size->b≠P->H' b=H b) (new:∀b o,s.heap.objs.size<=b->H' b=some o->dw X.prog X.w H' h' b o):L2.Inv X KW σ H' { s with heap:=h',toks:=t' }:=by
 have lt:∀b o,H b=some o->b<s.heap.objs.size:=fun b o e=>I.hok.lt e;have k:∀b o,b≠P->H b=some o->H' b=some o:=fun b o n e=>by rw[old b (lt b o e) n];exact e
 have nP:∀{b:Addr}{o:HO},H b=some o->(∀q,o≠.tbl q)->b≠P:=fun {b o} e n z=>by subst z;rw[hP] at e;cases e;exact n _ rfl
 refine I.un ⟨fun b o e n _ _=>hx b o (fun z=>by subst z;rw[hP] at n;cases n) e,fun b o e n _ _=>⟨o.slots,hx b o (fun z=>by subst z;rw[hP] at n;cases n) e⟩,
  fun b o e n _=>by rw[old b (LF e) (fun z=>by subst z;rw[hP] at n;cases n)];exact n,fun b o e _=>?_,fun b xs e=>k b _ (nP e fun _ z=>by cases z) e,fun b o u e=>k b _ (nP e fun _ z=>by cases z) e,fun b qs e=>?_⟩ fun b o e=>?_
 ·by_cases hb:b=P
  ·subst hb;exact⟨_,gP⟩
  ·exact⟨o,hx b o hb e⟩
 ·by_cases hb:b=P
  ·subst hb
   rw[hP] at e;cases e;exact⟨more,hp⟩
  ·exact⟨#[],by rw[k b _ hb e];simp⟩
 ·by_cases hl:b<s.heap.objs.size
  ·by_cases hb:b=P
   ·subst hb
    rw[hp] at e;cases e;exact gP
   ·rw[old b hl hb] at e
    refine(I.hok b o e).stay (fun c u hc q=>hx c u (fun z=>?_) q) (fun c q=>k c _ (nP q fun _ z=>by cases z) q) fun c xs q=>k c _ (nP q fun _ z=>by cases z) q;rcases hc with h | h
    ·exact hb (h▸z)
    ·exact nP h (fun _ z=>by cases z) z
  ·exact new b o (Qz hl) e
theorem F4{params:Arguments}{body:Expr}{scope:Scope}{pos:NJ}{c P:Addr}{ps:Array L3}{Q:L3->L6->Prop}{E:L3->L6->Prop}(I:L2.Inv X KW σ H s)(hP:H P=some (.tbl ps))(tk:TOk H ps)(hcode:X.env.code=.ref c)
  (CH:Qx X.base c P) (hbn:∃bm o,X.mg "__builtins__"=some (.ref bm)/\bm≠MZ/\bm≠mainGlobals/\X.base.get? bm=some o/\o.cls=.type "module"/\o.dict=some MZ/\o.data=.plain)
  (hdef:defaultsOf params X.env=([],[])) (hq:TW.qual pos.line pos.col=X.env.qual++"<lambda>") (hfree:∀y∈scope.names,y.2=.free->∃c,X.env.cells.lookup y.1=some c)
  (h:∀f c' pm ct H' s',L2.Inv X KW σ H' s'->Same H H'->H' f=some (FnAt f (Os "<lambda>" (X.env.qual++"<lambda>") params body scope (bQ X.env.cells scope.names []) pm c' ct))->H' c'=some (jb c' (X.env.qual++"<lambda>"))->Q (.ref f) s') :
  LY (Ll X.prog X.w) X.A (MS (.Lambda params body scope pos) X.env) Q E s:=by
 have gP:s.heap.get? P=some (OT ps):=I.hok P _ hP;have nb:∀b o,X.base.get? b=some o->b≠P:=fun b o e z=>by subst z;have:=(I.bs b o e).2;rw[hP] at this;cases this
 obtain⟨bm,ob,b1,b2,b3,b4,b5,b6,b7⟩:=hbn;have hg:s.heap.Ns mainGlobals X.mg:=I.mod.glob.keeps I.bk
 have hgP:mainGlobals≠P:=by
  obtain⟨o,es,ep,e,_⟩:=I.mod.glob;exact nb _ o e
 have hB:s.heap.BuiltinsAt X.mg P:=⟨bm,ob,b1,b2,b3,nb _ _ b4,I.bk _ _ b4,b5,b6,b7⟩;refine PySem.W.kla_eval hdef ?_;cases hf:Og pos ps.toList with
 | some cv=>
  obtain⟨c',rfl,hc'⟩:=tk.2 pos cv hf;rw[hq] at hc';refine PySem.W.kla_makeFunctionHit (mg:=X.mg) (bz hfree) I.ok.glob hg hcode (CH.keeps I.bk) gP tk.1 hf hB fun ctv h' t' hk hsz=>?_;have nf:H h'.objs.size=none:=I.hok.fresh hsz;have I1:L2.Inv X KW σ H { s with heap:=h',toks:=t' }:=I.kept (t':=t') hk;refine h h'.objs.size c' _ ctv (upd H h'.objs.size (FnAt h'.objs.size _)) _ (I1.laid (a:=h'.objs.size) (t':=t') (fun _ _ q=>L5 _ q) (LX _) ⟨LZ _ rfl,⟨_,LZ _ rfl⟩,fun h1 h2 e k=>k _ e⟩) (Same.new nf) ai ?_;rw[aj (bc hc' nf)];exact hc'
 | none=>
  refine PySem.W.kla_makeFunction (mg:=X.mg) (bz hfree) I.ok.glob hg hcode (CH.keeps I.bk) gP tk.1 hf hgP hB fun c' ctv h' t' hx hge hlt hrec htb=>?_;have hPs:P<s.heap.objs.size:=LF gP;have hsz:s.heap.objs.size<=h'.objs.size:=Pu (OV hge hlt);have nc:H c'=none:=I.hok.fresh hge;have nf:H h'.objs.size=none:=I.hok.fresh hsz;have c1:c'≠P:=MQ (LQ hPs hge);have f1:h'.objs.size≠P:=MQ (LQ hPs hsz);have cf:c'≠h'.objs.size:=LO hlt;obtain⟨F,hF⟩:∃F:Mi,F=Os "<lambda>" (X.env.qual++"<lambda>") params body scope (bQ X.env.cells scope.names []) ((X.mg "__name__").getD .none) c' ctv:=⟨_,rfl⟩;obtain⟨H',hH⟩:∃H':Hp,H'=upd (upd (upd H P (.tbl (ps++#[ON pos.line,ON pos.col,.ref c']))) c' (jb c' (X.env.qual++"<lambda>"))) h'.objs.size (FnAt h'.objs.size F):=⟨_,rfl⟩;have eP:H' P=some (.tbl (ps++#[ON pos.line,ON pos.col,.ref c'])):=by rw[hH,aj (MU f1),aj (MU c1),ai]
  have ec:H' c'=some (jb c' (X.env.qual++"<lambda>")):=by rw[hH,aj cf,ai]
  have ef:H' h'.objs.size=some (FnAt h'.objs.size F):=by rw[hH,ai]
  have old:∀b,b<s.heap.objs.size->b≠P->H' b=H b:=fun b hb hn=>by rw[hH,aj (LO (LQ hb hsz)),aj (LO (LQ hb hge)),aj hn]
  have lt:∀b o,H b=some o->b<s.heap.objs.size:=fun b o e=>I.hok.lt e;rw[← hF];have hx2:Ou P s.heap (h'.push F):=fun b o n e=>L5 _ (hx b o n e);refine h h'.objs.size c' _ ctv H' _ (Cr (t':=t') I hP hx2 eP (L5 _ htb) old fun b o hb e=>?_) ⟨fun b o e n=>?_,fun b qs e=>?_⟩ (by rw[← hF];exact ef) ec
  ·by_cases hbf:b=h'.objs.size
   ·subst hbf
    rw[ef] at e;cases e;have hfr:F.isFreed=false:=by rw[hF];rfl
    exact⟨LZ _ hfr,⟨_,LZ _ hfr⟩,fun h1 h2 e k=>k _ e⟩
   ·by_cases hbc:b=c'
    ·subst hbc
     rw[ec] at e;cases e;obtain⟨c2,oc,vs,tq,e1,e2,e3,e4⟩:=hrec;cases e1;refine⟨⟨b,oc,vs,tq,rfl,L5 _ e2,e3,e4⟩,⟨oc,L5 _ e2⟩,?_⟩;intro h1 h2 ⟨c3,oc3,vs3,tq3,g1,g2,g3,g4⟩ k;cases g1;exact⟨_,oc3,vs3,tq3,rfl,k _ g2,g3,g4⟩
    ·exfalso
     rw[hH,aj hbf,aj hbc,aj (MQ (LQ hPs hb)),I.hok.fresh hb] at e;cases e
  ·have hb:b≠P:=fun z=>by subst z;rw[hP] at e;cases e;cases n
   rw[old b (lt b o e) hb];exact e
  ·have keep:∀d q,H d=some (jb d q)->H' d=some (jb d q):=fun d q e=>by
    rw[old d (lt d _ e) (fun z=>by subst z;rw[hP] at e;cases e)];exact e
   by_cases hb:b=P
   ·subst hb
    rw[hP] at e;cases e;refine⟨_,eP,fun t=>⟨?_,fun p v hv=>?_⟩⟩
    ·rw[SR]
     exact TriplesOk_snoc _ _ _ _ t.1
    ·rw[SR,xK _ t.1] at hv
     cases hl:Og p ps.toList with
     | some u=>
      rw[hl] at hv;cases hv;obtain⟨d,d1,d2⟩:=t.2 p _ hl;exact⟨d,d1,keep d _ d2⟩
     | none=>
      rw[hl] at hv;obtain⟨e1,e2,e3⟩:=xJ hv;subst e1;exact⟨c',rfl,by rw[e2,e3,hq];exact ec⟩
   ·refine⟨qs,by rw[old b (lt b _ e) hb];exact e,fun t=>⟨t.1,fun p v hv=>?_⟩⟩
    obtain⟨d,d1,d2⟩:=t.2 p v hv;exact⟨d,d1,keep d _ d2⟩
end
end PU
namespace PU
open PySem PySem.Spec PyProof.Rows L2 PySem.SeqAt
variable[TW]
structure LScope(ps fr:List Str)(sc:Scope):Prop where
 kind:sc.kind=.function
 co:sc.isCoroutine=false
 gen:sc.isGenerator=false
 nocell:∀x∈sc.names,x.2≠.cell
 par:∀x∈ps,sc.names.lookup x=some .local
 fre:∀x,sc.names.lookup x=some .free->x∈fr
 frk:∀x∈fr,sc.names.lookup x=some .free
 nd:(ps++fr).Nodup
def cxL(P:Lf)(w:Ln)(K:L0)(mg:Str->Option L3)(base:Heap)(N:List Str)(qual:Str)(scope:Scope)(f:Addr)(cd:L3)(cl:List (Str×Addr))(A:Ls)(outer:List Qa)(s:L6)(H:Hp):Cx where
 prog:=P
 w:=w
 K:=K
 mg:=mg
 base:=base
 A:=A.deeper (PP qual scope s.heap.objs.size f cd cl)
 N:=N
 s₀:=s
 H₀:=H
 env:=PP qual scope s.heap.objs.size f cd cl
 outer:=outer
 stack:=PP qual scope s.heap.objs.size f cd cl::outer
 ex:=[]
 calm:=true
 fn:=fun _=>false
 pn:=[]
 xe:=fun _ _=>False
theorem pE{cl:List (Str×Addr)}(nd:(cl.map (·.1)).Nodup):∀{i:Nat}{x:Str}{c:Addr},cl[i]?=some (x,c)->cl.lookup x=some c:=by
 induction cl with
 | nil=>intro i x c h;simp at h
 | cons p r ih=>
  intro i x c h;obtain⟨y,d⟩:=p;rw[L8,Lq] at nd;cases i with
  | zero=>simp at h;obtain⟨rfl,rfl⟩:=h;simp[SN]
  | succ i=>
   have h:r[i]?=some (x,c):=by simpa using h
   have hne:(x == y)=false:=by
    rw[beq_eq_false_iff_ne];rintro rfl;exact nd.1 (LG.mpr ⟨_,LM h,rfl⟩)
   rw[Lo,hne];exact ih nd.2 h
theorem EU{cl:List (Str×Addr)}{x:Str}{c:Addr}(h:cl.lookup x=some c):∃i:Nat,cl[i]?=some (x,c):=by
 have:=Lw h;obtain⟨i,hi,e⟩:=NI this;exact⟨i,by rw[LU hi,e]⟩
theorem wA{x y:Str}{c:Addr}:∀{cl:List (Str×Addr)},(cl.map (·.2)).Nodup->(x,c)∈cl->(y,c)∈cl->x=y
 | [],_,h,_=>nomatch h
 | (z,d)::r,nd,h1,h2=>by
  rw[L8,Lq] at nd;rcases LR.mp h1 with e1 | m1
  ·rcases LR.mp h2 with e2 | m2
   ·cases e1;cases e2;rfl
   ·cases e1
    exact(nd.1 (LG.mpr ⟨_,m2,rfl⟩)).elim
  ·rcases LR.mp h2 with e2 | m2
   ·cases e2
    exact(nd.1 (LG.mpr ⟨_,m1,rfl⟩)).elim
   ·exact wA nd.2 m1 m2
theorem Fu{cl:List (Str×Addr)}(nd:(cl.map (·.2)).Nodup){x y:Str}{c:Addr}(h1:cl.lookup x=some c)(h2:cl.lookup y=some c):x=y:=
 wA nd (Lw h1) (Lw h2)
theorem tU{cl:List (Str×L3)}(nd:(cl.map (·.1)).Nodup):∀{i:Nat}{x:Str}{c:L3},cl[i]?=some (x,c)->cl.lookup x=some c:=by
 induction cl with
 | nil=>intro i x c h;simp at h
 | cons p r ih=>
  intro i x c h;obtain⟨y,d⟩:=p;rw[L8,Lq] at nd;cases i with
  | zero=>simp at h;obtain⟨rfl,rfl⟩:=h;simp[SN]
  | succ i=>
   have h:r[i]?=some (x,c):=by simpa using h
   have hne:(x == y)=false:=by
    rw[beq_eq_false_iff_ne];rintro rfl;exact nd.1 (LG.mpr ⟨_,LM h,rfl⟩)
   rw[Lo,hne];exact ih nd.2 h
theorem t5{ps:List Str}{us:List L3}(nd:ps.Nodup)(hl:us.length=ps.length){i:Nat}{x:Str}{u:L3}(h1:ps[i]?=some x)(h2:us[i]?=some u):(ps.zip us).reverse.lookup x=some u:=by
 have hm:(x,u)∈ps.zip us:=by
  refine LM (i:=i) ?_;rw[Rb];exact⟨h1,h2⟩
 have hn:((ps.zip us).map (·.1)).Nodup:=by
  rw[Qt (by omega)];exact nd
 have hr:((ps.zip us).reverse.map (·.1)).Nodup:=by rw[List.map_reverse];exact List.pairwise_reverse.mpr (List.Pairwise.imp (fun h=>MU h) hn)
 obtain⟨j,hj,e⟩:=NI (List.mem_reverse.mpr hm);exact tU hr (by rw[LU hj,e])
section
variable{P : Lf}{w : Ln}{K : L0}{mg : Str → Option L3}{base : Heap}{ps fr : List Str}{qual : Str}{scope : Scope}{f : Addr}{cd : L3}{cl : List (Str×Addr)}{A : Ls}{outer : List Qa}{s : L6}{H : Hp}{l : List (Addr×Mi)}
theorem Cc{us:List L3}{vs xs:List V}{h':Heap}{t':Nat}(S:LScope ps fr scope)(hd:A.handled=none)(e0:Env0 P w K mg base A outer s H)(hl:∀c o,l.lookup c=some o->H c=some (.frz o (.own 0)))
  (hcl:cl.map (·.1)=fr) (nd:(cl.map (·.2)).Nodup) (hxs:xs.length=cl.length) (hx:∀(i:Nat)(x:Str)(c:Addr),cl[i]?=some (x,c)->∃v o u,xs[i]?=some v/\l.lookup c=some o/\o.data=.cell (some u)/\RelV v u)
  (r:Vals vs us) (hv:vs.length=ps.length) (ns:h'.Ns s.heap.objs.size (fun x=>(ps.zip us).reverse.lookup x)) (hk:∀b o,s.heap.get? b=some o->h'.get? b=some o) :
  L2.Inv (cxL P w K mg base (ps++fr) qual scope f cd cl A outer s (drC H l)) [] ((vs++xs).map some) (drC H l) { s with heap:=h',toks:=t' }:=by
 have noA:∀b:Addr,b ∉ ([]:List Addr):=fun b z=>nomatch z;have ndf:(cl.map (·.1)).Nodup:=by rw[hcl];exact(MI.mp S.nd).2.1
 have ndp:ps.Nodup:=(MI.mp S.nd).1
 have S6:∀x c,cl.lookup x=some c->∃(i:Nat)(v:V)(o:Mi)(u:L3),cl[i]?=some (x,c)/\xs[i]?=some v/\l.lookup c=some o/\o.data=.cell (some u)/\RelV v u/\s.heap.get? c=some o:=fun x c h=>by
  obtain⟨i,e⟩:=EU h;obtain⟨v,o,u,e1,e2,e3,e4⟩:=hx i x c e;exact⟨i,v,o,u,e,e1,e2,e3,e4,(e0.hok c _ (hl c o e2)).1⟩
 have drn:∀b,H b=none->drC H l b=none:=fun b n=>by
  cases q:l.lookup b with
  | none=>rw[aS q];exact n
  | some o=>exact lr q
 have hok:HOk P w (drC H l) s.heap:=fun b o e=>by
  cases q:l.lookup b with
  | some u=>rw[lr q] at e;cases e
  | none=>
   rw[aS q] at e
   have out:∀{c:Addr}{o:HO},H c=some o->(∀q,o≠.frz q (.own 0))->l.lookup c=none:=fun {c o} e n=>by
    cases q:l.lookup c with
    | none=>rfl
    | some u=>rw[hl c u q] at e;cases e;exact absurd rfl (n u)
   exact(e0.hok b o e).stay (fun _ _ _ z=>z) (fun c z=>by rw[aS (out z fun _ h=>by cases h)];exact z) fun c xs z=>by rw[aS (out z fun _ h=>by cases h)];exact z
 refine⟨⟨e0.mod,S.kind,rfl,rfl,LX _,fun y z c h1 h2=>Fu nd h1 h2,fun y hy=>?_,fun y c h _=>(by cases h),fun _=>hd,Rr e0.frames,.inr ⟨rfl,rfl⟩,fun b z=>absurd z (noA b),fun b o e=>⟨(e0.bs b o e).1,drn b (e0.bs b o e).2⟩,e0.bsz,fun b _ _=>noA b,fun b z=>absurd z (noA b),e0.funs,fun b hb=>drn b (e0.frf b hb)⟩,
  rfl,e0.bare,Un.kept hk,⟨_,ns,fun i y v h1 h2 h3=>?_⟩,fun y c h=>?_,drn _ (e0.hok.fresh (LX _)),fun y c h=>?_,fun p hp=>absurd (show p∈([]:List (Addr×Mi)) from hp) (by simp),hok.kept hk,?_⟩
 ·have hy:scope.names.lookup y=some .cell\/scope.names.lookup y=some .free:=hy
  rcases hy with hy | hy
  ·exact absurd rfl (S.nocell _ (Lw hy))
  ·have:=S.fre y hy
   rw[← hcl] at this;obtain⟨p,hp,e⟩:=LG.mp this;obtain⟨i,hi,e2⟩:=NI hp;obtain⟨a,b⟩:=p;cases e;exact⟨b,pE ndf (by rw[LU hi,e2])⟩
 ·have h1:(ps++fr)[i]?=some y:=h1
  rw[LC] at h2;obtain⟨v',h2,e⟩:=LB.mp h2;cases e
  by_cases hi:i<ps.length
  ·rw[Lb hi] at h1
   rw[Lb (by omega)] at h2;obtain⟨u,hu,rv⟩:=r.get h2;exact⟨u,rv,.inl ⟨S.par y (LM h1),t5 ndp (by rw[← r.length];exact hv) h1 hu⟩⟩
  ·rw[Lv (by omega)] at h1
   rw[Lv (by omega),hv] at h2;have hf:=S.frk y (LM h1);rw[← hcl,LC] at h1;obtain⟨p,g1,e⟩:=LB.mp h1;obtain⟨a,c⟩:=p;cases e;obtain⟨v2,o,u,e1,e2,e3,e4⟩:=hx _ _ _ g1;rw[h2] at e1;cases e1;exact⟨u,e4,.inr ⟨.inr hf,c,pE ndf g1,o,hk _ _ (e0.hok c _ (hl c o e2)).1,e3⟩⟩
 ·obtain⟨i,v,o,u,_,_,_,e3,_,e5⟩:=S6 y c h
  exact⟨_,o,hk _ _ e5,e3⟩
 ·obtain⟨i,v,o,u,_,_,e2,_,_,_⟩:=S6 y c h
  exact lr e2
 ·show _=(ps++fr).length
  rw[LA,Lp,Lp,hv,hxs,← hcl,LA]
theorem Cb{k:Nat}{params:Arguments}{body:Expr}{pm ct:L3}{c:Addr}{us:List L3}{vs xs:List V}{qs cs:List PV}{p:PV}{fe:PSt->R PV}{Q:VK}{E:XK}(S:LScope ps fr scope)(hr:Room (k+1) A)(e0:Env0 P w K mg base A outer s H)
  (hf:H f=some (FnAt f (Os "<lambda>" qual params body scope cl pm c ct))) (hc:H c=some (jb c qual)) (hl:∀c o,l.lookup c=some o->H c=some (.frz o (.own 0)))
  (hcl:cl.map (·.1)=fr) (nd:(cl.map (·.2)).Nodup) (hxs:xs.length=cl.length) (hx:∀(i:Nat)(x:Str)(c:Addr),cl[i]?=some (x,c)->∃v o u,xs[i]?=some v/\l.lookup c=some o/\o.data=.cell (some u)/\RelV v u)
  (hb:QT (Sy "<lambda>" qual params body scope cl pm (.ref c) ct) ⟨us,[]⟩=pure (ps.zip us))
  (hbody:EV ⟨cxL P w K mg base (ps++fr) qual scope f (.ref c) cl A outer s (drC H l),fun _ _=>False⟩ body fe)
  (r:Vals vs us) (hv:vs.length=ps.length) (rq:au K H qs vs) (rc:au K H cs xs) (nq:br qs=true) (nc:br cs=true) (tb:uq H) (e:fe ((qs++cs).map .val)=.ok p)
  (hQ:∀v H',Same H H'->Rep K H' p v->Q v H') :
  OF (Ll P w) A (.call (.ref f) ⟨us,[]⟩) (CR CX0 outer P w H s Q E) s:=by
 have lim:s.heap.NoLimit:=e0.mod.nolimit.keeps fun b o e=>(e0.bs b o e).1
 have out:∀{b:Addr}{o:HO},H b=some o->(∀q,o≠.frz q (.own 0))->l.lookup b=none:=fun {b o} e n=>by
  cases q:l.lookup b with
  | none=>rfl
  | some u=>rw[hl b u q] at e;cases e;exact absurd rfl (n u)
 have outn:∀{b:Addr},H b=none->l.lookup b=none:=fun {b} n=>by
  cases q:l.lookup b with
  | none=>rfl
  | some u=>rw[hl b u q] at n;cases n
 have drn:∀{b:Addr},H b=none->drC H l b=none:=fun {b} n=>by rw[aS (outn n)];exact n
 have pl:∀b u,H b=some u->Fq u=true->drC H l b=some u:=fun b u e h=>by rw[aS (out e (su h))];exact e
 have tok:∀{qs:Array L3},TOk H qs->TOk (drC H l) qs:=fun t=>⟨t.1,fun pos v h=>let ⟨c,f1,f2⟩:=t.2 pos v h;⟨c,f1,by rw[aS (out f2 fun _ h=>by cases h)];exact f2⟩⟩;refine PySem.W.kla_callFunE (by have:=hr.dp;omega) (e0.hok f _ hf).1 rfl S.co S.gen rfl (e0.hok c _ hc).1 ?_;rw[hb];refine L9 (P2 S.nocell (fun y hy=>S.par _ (Pv hy).1) (fun h₁ hns hsb=>⟨lim.fresh _ hsb,?_⟩) S.kind);have hk:∀b o,s.heap.get? b=some o->h₁.get? b=some o:=fun b o e=>hsb.extBut b o (LO (LF e)) (L5 _ e);have I:=Cc (qual:=qual) (f:=f) (cd:=.ref c) (t':=s.toks+(ps.zip us).length) S hr.hd e0 hl hcl nd hxs hx r hv hns hk;have rr:au K (drC H l) (qs++cs) (vs++xs):=au.append (au.pl pl qs nq rq) (au.pl pl cs nc rc);show OF _ _ (.expr body (PP qual scope s.heap.objs.size f (.ref c) cl)) _ _;refine PySem.W.kla_codeExpr (N8 (hbody [] _ _ _ (fun v H1=>Same (drC H l) H1/\Rep K H1 p v) I ⟨(qs++cs).map .val,⟨fun i z ez=>?_,fun P hP=>?_⟩,by rw[e];exact fun v H' s' r'=>⟨s',r'⟩⟩) (fun u s' hq=>?_) fun _ _ h=>LJ h)
 ·rw[LC] at ez
  obtain⟨q,eq,e2⟩:=LB.mp ez;cases e2;obtain⟨v,ev,rp⟩:=rr.get eq;exact⟨v,by rw[LC,ev];rfl,rp⟩
 ·obtain⟨qs',e1,t⟩:=tb P hP
  exact⟨qs',by rw[aS (out e1 fun _ h=>by cases h)];exact e1,tok t⟩
 ·obtain⟨v,H1,J,rv,sm,rp⟩:=hq
  have un:Un (frs outer) [] (drC H l) H1 s.heap s'.heap:=J.base
  have n1:∀{c:Addr}{o:Mi},l.lookup c=some o->H1 c=none/\s'.heap.get? c=some o:=fun {c o} q=>by
   have g:=(e0.hok c _ (hl c o q)).1;refine⟨un.free c o g (lr q) (by simp),un.keep c o g (lr q) (fun z=>?_) (by simp)⟩;have:=e0.frf c z;rw[hl c o q] at this;cases this
  have out1:∀{b:Addr}{o:HO},H1 b=some o->l.lookup b=none:=fun {b o} e=>by
   cases q:l.lookup b with
   | none=>rfl
   | some u=>rw[(n1 q).1] at e;cases e
  refine⟨v,trC H1 l,J.os,J.bare,⟨fun b o e n hb hx=>un.keep b o e (drn n) hb hx,fun b o e n hb hx=>un.slot b o e (drn n) hb hx,fun b o e n hx=>by rw[aJ (outn n)];exact un.free b o e (drn n) hx,un.there,fun b ys e=>?_,fun b o u e=>?_,fun b qs e=>?_⟩,fun b o e=>?_,rv,hQ v _ ⟨fun b o e n=>?_,fun b qs e=>?_⟩ (rp.same (.of fun b o e=>by rw[aJ (out1 e)];exact e))⟩
  ·have q:=out e fun _ h=>by cases h
   rw[aJ q];exact un.tups b ys (by rw[aS q];exact e)
  ·cases q:l.lookup b with
   | some o'=>rw[hl b o' q] at e;cases e;exact kf q
   | none=>rw[aJ q];exact un.frzs b o u (by rw[aS q];exact e)
  ·have q:=out e fun _ h=>by cases h
   rw[aJ q];exact un.tbls b qs (by rw[aS q];exact e)
  ·cases q:l.lookup b with
   | some o'=>
    rw[kf q] at e;cases e;exact⟨(n1 q).2,o',(n1 q).2⟩
   | none=>
    rw[aJ q] at e;exact(J.hok b o e).stay (fun _ _ _ z=>z) (fun c z=>by rw[aJ (out1 z)];exact z) fun c xs z=>by rw[aJ (out1 z)];exact z
  ·cases q:l.lookup b with
   | some o'=>rw[hl b o' q] at e;cases e;exact kf q
   | none=>rw[aJ q];exact sm.at_ b o (by rw[aS q];exact e) n
  ·have q:=out e fun _ h=>by cases h
   obtain⟨p1,e1,k1⟩:=sm.tb b qs (by rw[aS q];exact e);refine⟨p1,by rw[aJ q];exact e1,fun t=>?_⟩;have t1:=k1 (tok t);exact⟨t1.1,fun pos v h=>let ⟨c,f1,f2⟩:=t1.2 pos v h;⟨c,f1,by rw[aJ (out1 f2)];exact f2⟩⟩
end
end PU
namespace PU
open PySem PySem.Spec PyProof.Rows L2 PySem.SeqAt
variable[TW]
theorem mG{H:Hp}:∀{cl:List (Str×Addr)}{xs:List V},eW H cl xs->xs.length=cl.length/\∃l:List (Addr×Mi),(∀c o,l.lookup c=some o->H c=some (.frz o (.own 0)))/\
  ∀(i:Nat)(x:Str)(c:Addr),cl[i]?=some (x,c)->∃v o u,xs[i]?=some v/\l.lookup c=some o/\o.data=.cell (some u)/\RelV v u
 | [],xs,h=>by cases h;exact⟨rfl,[],fun c o h=>(by cases h),fun i x c h=>(by simp at h)⟩
 | p::cl,_,⟨x,r,o,u,e,h,d,v,t⟩=>by
  subst e;obtain⟨hl,l,h1,h2⟩:=mG t
  have look:∀c o',((p.2,o)::l).lookup c=some o'->H c=some (.frz o' (.own 0)):=fun c o' e=>by
   rw[Lo] at e;cases hb:(c == p.2) with
   | true=>rw[hb] at e;cases e;rw[OQ hb];exact h
   | false=>rw[hb] at e;exact h1 c o' e
  refine⟨by simp[hl],(p.2,o)::l,look,fun i y c e=>?_⟩;cases i with
  | zero=>
   simp at e;subst e;exact⟨x,o,u,rfl,by simp[SN],d,v⟩
  | succ i=>
   obtain⟨v',o',u',e1,e2,e3,e4⟩:=h2 i y c (by simpa using e);refine⟨v',o',u',by simpa using e1,?_,e3,e4⟩;rw[Lo];cases hb:(c == p.2) with
   | false=>exact e2
   | true=>
    have:=h1 c o' e2;rw[OQ hb,h] at this;cases this;rfl
structure LamB(P:Lf)(w:Ln)(K:L0)(mg:Str->Option L3)(base:Heap)(k:Nat)(L:Lam)(ps:List Str)(fe:PSt->R PV):Prop where
 sc:LScope ps L.kept L.scope
 bd:∀(cl:List (Str×Addr)) (pm ct:L3) (c:Addr) (us:List L3),us.length=ps.length->QT (Sy "<lambda>" L.qual L.args L.body L.scope cl pm (.ref c) ct) ⟨us,[]⟩=pure (ps.zip us)
 ev:∀(f c:Addr)(cl:List (Str×Addr))(A:Ls)(outer:List Qa)(s:L6)(H:Hp),Room k (A.deeper (PP L.qual L.scope s.heap.objs.size f (.ref c) cl))->
  EV ⟨cxL P w K mg base (ps++L.kept) L.qual L.scope f (.ref c) cl A outer s H,fun _ _=>False⟩ L.body fe
def IE(P:Lf)(w:Ln)(K:L0)(mg:Str->Option L3)(base:Heap)(k:Nat)(app:Lam->List PV->List PV->Option PV):Prop:=
 ∀L qs cs p,app L qs cs=some p->∃ps fe,LamB P w K mg base k L ps fe/\qs.length=ps.length/\fe ((qs++cs).map .val)=.ok p
def lD(i:Nat)(fs:PSt->R (List PV))(app:Lam->List PV->List PV->Option PV):PSt->R PV:=fun ρ=>match ρ[i]? with
 | some (.val (.fn L cs))=>fs ρ >>= fun qs=>if br qs=true/\br cs=true then R.ofO (app L qs cs) else .no
 | _=>.no
theorem o9{C:Cn}{x:Str}{e:Expr}{es:List Expr}{fs:PSt->R (List PV)}{app:Lam->List PV->List PV->Option PV}{k:Nat}{p pos:NJ}(i:Nat)(T:IE C.X.prog C.X.w C.X.K C.X.mg C.X.base k app){kr:Nat}(hr:Room kr C.X.A)(ha:EA C (e::es) fs)
  (hN:C.X.N[i]?=some x:=by rfl) (hvis:Vis C.X.env.scope x:=by first | exact .inl rfl | exact .inr (.inl rfl) | exact .inr (.inr rfl)) (hdb:(x == ("__debug__":Str))=false:=by decide) (hcd:(x == ("__classdict__":Str))=false:=by decide)
  (he:Lc (e::es) C.X.env=(false,MS e C.X.env)::Lc es C.X.env:=by exact c6 rfl) (hpl:(Oc pos (Lc es C.X.env)).any (·.1)=false:=by exact jO rfl) (hk:k+1<=kr:=by decide) :
  EV C (.Call (.Name x p) (e::es) [] pos) (lD i fs app):=by
 replace hr:=hr.mono hk;intro KW s σ H Q I ⟨ρ,vw,q⟩;unfold lD at q;split at q
 ·rename_i L cs e1
  obtain⟨v,ev,f,c,cl,pm,ct,xs,rfl,hf,hc,hk,nd,ca,rc⟩:=vw i _ e1;refine Ob (thn (dS hN hvis hdb hcd KW s σ H (fun v' H'=>v'=.ref f/\H'=H) I ⟨_,ev,rfl,rfl⟩) fun u s1 ⟨v',H',I1,ru,e2,e3⟩=>?_);subst e2 e3;cases (show u=M1 f from ru);have fnAt:∀{H2:Hp}{s2:L6},L2.Inv C.X KW σ H2 s2->Same H' H2->PySem.W.FnAt f s2.heap:=fun {H2 s2} I2 sm=>⟨_,_,_,_,(I2.hok f _ (sm _ _ hf)).1⟩
  refine PySem.W.callWith_F (fnAt I1 (Same.refl _)) (thn (ha pos KW s1 σ H' (fun vs H2=>∃qs z,au C.X.K H2 qs vs/\Same H' H2/\br qs=true/\br cs=true/\app L qs cs=some z/\∀v H3,Same H' H3->Rep C.X.K H3 z v->Q v H3) I1
   ⟨ρ,vw,q.bind.imp fun qs _ k1 vs H2 sm2 r2=>?_⟩) fun us s2 ⟨vs,H2,I2,r,qs,z,r2,sm2,n1,n2,ea,k2⟩=>⟨fnAt I2 sm2,?_⟩) he hpl
  ·split at k1
   ·rename_i hn
    obtain⟨z,ez,k3⟩:=k1.ofO;exact⟨qs,z,r2,sm2,hn.1,hn.2,ez,fun v H3 s3 r3=>k3 v H3 s3 r3⟩
   ·exact LJ k1
  ·obtain⟨ps,fe,B,hl,ef⟩:=T L qs cs z ea
   have ca2:=eW.kp sm2.kp ca;obtain⟨hxl,l,l1,l2⟩:=mG ca2;have hus:us.length=ps.length:=by rw[← r.length,← r2.length];exact hl
   refine wpAny_call (Q6 (Cb (l:=l) (E:=E0) (Q:=Q) B.sc hr I2.env0 (sm2 _ _ hf) (sm2 _ _ hc) l1 hk nd hxl l2 (B.bd cl pm ct c us hus) (B.ev f c cl C.X.A C.X.stack s2 (drC H2 l) (hr.deeper _)) r (by rw[← r2.length];exact hl) r2 (rc.same sm2) n1 n2 (sm2.tabs vw.tb) ef
    fun v H3 s3 r3=>k2 v H3 (sm2.trans s3) r3) fun r' s' hq=>?_)
   cases r' with
   | error e=>exact LJ hq
   | ok fl=>
    cases fl with
    | ret u=>exact I2.after hq
    | next=>exact LJ hq
    | brk=>exact LJ hq
    | cont=>exact LJ hq
 ·exact LJ q
end PU
namespace PU
open PySem PySem.Spec PyProof.Rows L2 PySem.SeqAt
variable[TW]
def pS(l:List (Str×Nt)):List Str:=(l.filter fun y=>y.2 == .free).map (·.1)
theorem ox{cells:List (Str×Addr)}:∀{l:List (Str×Nt)}{acc:List (Str×Addr)},(∀y∈l,y.2=.free->∃c,cells.lookup y.1=some c)->(bQ cells l acc).map (·.1)=(pS l).reverse++acc.map (·.1)
 | [],acc,_=>rfl
 | (n,k)::r,acc,h=>by
  unfold bQ;have hr:∀y∈r,y.2=.free->∃c,cells.lookup y.1=some c:=fun y hy=>h y (Lg _ hy)
  by_cases hk:(k == MB)=true
  ·rw[if_pos hk]
   obtain⟨c,hc⟩:=h (n,k) Le (OQ hk);have hc:cells.lookup n=some c:=hc;rw[hc];dsimp only;rw[ox hr];unfold pS;rw[List.filter_cons,if_pos hk];simp
  ·rw[if_neg hk,ox hr]
   unfold pS;rw[List.filter_cons,if_neg hk]
theorem iV{cells:List (Str×Addr)}{p:Str×Addr}:∀{l:List (Str×Nt)}{acc:List (Str×Addr)},p∈bQ cells l acc->cells.lookup p.1=some p.2\/p∈acc
 | [],acc,h=>.inr h
 | (n,k)::r,acc,h=>by
  unfold bQ at h;split at h
  ·split at h
   ·rename_i c hc
    rcases iV h with z | z
    ·exact .inl z
    ·rcases LR.mp z with z | z
     ·subst z;exact .inl hc
     ·exact .inr z
   ·exact iV h
  ·exact iV h
theorem Ae{cells:List (Str×Addr)}(inj:∀x y c,cells.lookup x=some c->cells.lookup y=some c->x=y):∀{l:List (Str×Addr)},(∀p∈l,cells.lookup p.1=some p.2)->(l.map (·.1)).Nodup->(l.map (·.2)).Nodup
 | [],_,_=>List.nodup_nil
 | p::r,h,nd=>by
  rw[L8,Lq] at nd ⊢;refine⟨fun m=>nd.1 ?_,Ae inj (fun q hq=>h q (Lg _ hq)) nd.2⟩;obtain⟨q,hq,e⟩:=LG.mp m;have h1:=h p Le;have h2:=h q (Lg _ hq);have e:q.2=p.2:=e;rw[e] at h2;exact LG.mpr ⟨q,hq,inj _ _ _ h2 h1⟩
def xC(ρ:PSt):List Nat->R (List PV)
 | []=>.ok []
 | i::r=>match ρ[i]? with
  | some (.val p)=>xC ρ r >>= fun ps=>.ok (p::ps)
  | _=>.no
def Dq(X:Cx)(H:Hp)(σ:L2.St):PV->V->Prop
 | .fn L cs,v=>∃f c pm ct xs,v=.ref f/\H f=some (FnAt f (Os "<lambda>" L.qual L.args L.body L.scope (bQ X.env.cells L.scope.names []) pm c ct))/\H c=some (jb c L.qual)/\
   (bQ X.env.cells L.scope.names []).map (·.1)=L.kept/\((bQ X.env.cells L.scope.names []).map (·.2)).Nodup/\xs.length=L.kept.length/\au X.K H cs xs/\
   ∀(j:Nat)(y:Str),L.kept[j]?=some y->∃(i:Nat)(v:V),X.N[i]?=some y/\σ[i]?=some (some v)/\xs[j]?=some v/\X.env.scope.names.lookup y=some .cell
 | p,v=>Rep X.K H p v/\noFn p=true
def zR(X:Cx)(H:Hp)(σ:L2.St):List PV->List V->Prop
 | [],xs=>xs=[]
 | p::ps,xs=>∃x r,xs=x::r/\Dq X H σ p x/\zR X H σ ps r
theorem Dq.same{X:Cx}{H H':Hp}{σ:L2.St}{p:PV}{v:V}(h:Dq X H σ p v)(s:Same H H'):Dq X H' σ p v:=by
 cases p with
 | fn L cs=>
  obtain⟨f,c,pm,ct,xs,e,h1,h2,h3,h4,h5,h6,h7⟩:=h;exact⟨f,c,pm,ct,xs,e,s _ _ h1,s _ _ h2,h3,h4,h5,h6.same s,h7⟩
 | _=>exact⟨Rep.same h.1 s,h.2⟩
def tL(C:Cn)(f:PSt->R (List PV)):TA:=fun σ H Q=>∃ρ,View C.X.K H σ ρ/\RQ C H (f ρ) fun ps=>∀vs H',Same H H'->zR C.X H' σ ps vs->Q vs H'
def EL(C:Cn)(es:List Expr)(f:PSt->R (List PV)):Prop:=PA C.X es (tL C f)
def AA(L:Lam)(idx:List Nat)(fs:PSt->R (List PV)):PSt->R (List PV):=fun ρ=>xC ρ idx >>= fun cs=>fs ρ >>= fun ps=>.ok (.fn L cs::ps)
def Dw(f:PSt->R PV)(fs:PSt->R (List PV)):PSt->R (List PV):=fun ρ=>f ρ >>= fun p=>if noFn p=true then fs ρ >>= fun ps=>.ok (p::ps) else .no
theorem q9{K:L0}{H:Hp}{σ:L2.St}{ρ:PSt}(vw:View K H σ ρ):∀{idx:List Nat}{cs:List PV},xC ρ idx=.ok cs->∃xs,au K H cs xs/\xs.length=idx.length/\∀(j i:Nat),idx[j]?=some i->∃v,σ[i]?=some (some v)/\xs[j]?=some v
 | [],cs,e=>by cases e;exact⟨[],rfl,rfl,fun j i h=>(by simp at h)⟩
 | i::r,cs,e=>by
  unfold xC at e;split at e
  ·rename_i p hp
   cases hc:xC ρ r with
   | ok ps=>
    rw[hc] at e;cases e;obtain⟨xs,h1,h2,h3⟩:=q9 vw hc;obtain⟨v,ev,rp⟩:=vw i _ hp;refine⟨v::xs,⟨v,xs,rfl,rp,h1⟩,by simp[h2],fun j k hj=>?_⟩;cases j with
    | zero=>simp at hj;subst hj;exact⟨v,ev,rfl⟩
    | succ j=>simpa using h3 j k (by simpa using hj)
   | er x=>rw[hc] at e;cases e
   | no=>rw[hc] at e;cases e
  ·cases e
theorem sY{ρ:PSt}:∀(idx:List Nat)(x:PX),xC ρ idx≠.er x
 | [],x,e=>by cases e
 | i::r,x,e=>by
  unfold xC at e;split at e
  ·cases hc:xC ρ r with
   | ok ps=>rw[hc] at e;cases e
   | er y=>exact sY r y hc
   | no=>rw[hc] at e;cases e
  ·cases e
structure LamC(C:Cn)(L:Lam)(idx:List Nat)(pos:NJ)(c P:Addr):Prop where
 qual:L.qual=C.X.env.qual++"<lambda>"
 tq:TW.qual pos.line pos.col=L.qual
 code:C.X.env.code=.ref c
 hd:Qx C.X.base c P
 tab:P∈TW.tabs
 bn:∃bm o,C.X.mg "__builtins__"=some (.ref bm)/\bm≠MZ/\bm≠mainGlobals/\C.X.base.get? bm=some o/\o.cls=.type "module"/\o.dict=some MZ/\o.data=.plain
 df:defaultsOf L.args C.X.env=([],[])
 free:∀y∈L.scope.names,y.2=.free->C.X.env.scope.names.lookup y.1=some .cell
 kept:(pS L.scope.names).reverse=L.kept
 nd:L.kept.Nodup
 ix:idx.map (fun i=>C.X.N[i]?)=L.kept.map some
def JT(C:Cn)(L:Lam)(idx:List Nat):TE:=fun σ H Q=>∃ρ cs,View C.X.K H σ ρ/\xC ρ idx=.ok cs/\∀v H',Same H H'->Dq C.X H' σ (.fn L cs) v->Q v H'
theorem Em{C:Cn}{L:Lam}{idx:List Nat}{pos:NJ}{c P:Addr}(h:LamC C L idx pos c P):PE C.X (.Lambda L.args L.body L.scope pos) (JT C L idx):=by
 intro KW s σ H Q I ⟨ρ,cs,vw,ec,q⟩;obtain⟨ps,eP,tk⟩:=vw.tb P h.tab;have has:∀y∈L.scope.names,y.2=.free->∃c,C.X.env.cells.lookup y.1=some c:=fun y hy hk=>I.ok.has y.1 (.inl (h.free y hy hk));refine F4 (c:=c) (P:=P) I eP tk h.code h.hd h.bn h.df (h.tq.trans h.qual) has fun f c' pm ct H' s' I' sm hf hc=>?_;rw[← h.qual] at hf hc;obtain⟨xs,x1,x2,x3⟩:=q9 (vw.same sm) ec;have hm:(bQ C.X.env.cells L.scope.names []).map (·.1)=L.kept:=by rw[ox has,Nm,Mh];exact h.kept
 have hlen:idx.length=L.kept.length:=by have:=congrArg NR h.ix;simpa using this
 refine⟨.ref f,H',I',rfl,q _ H' sm ⟨f,c',pm,ct,xs,rfl,hf,hc,hm,Ae I.ok.inj (fun p hp=>?_) (by rw[hm];exact h.nd),by rw[x2];exact hlen,x1,fun j y hy=>?_⟩⟩
 ·rcases iV hp with z | z
  ·exact z
  ·exact nomatch z
 ·have hj:j<idx.length:=by rw[hlen];exact(L4.mp hy).1
  have e1:idx[j]?=some idx[j]:=LU hj;have e2:=congrArg (fun l=>l[j]?) h.ix;simp only[LC,e1,hy,Ph] at e2;obtain⟨v,ev,xv⟩:=x3 j _ e1;refine⟨idx[j],v,by simpa using e2,ev,xv,?_⟩;have hmem:=LM hy;rw[← h.kept,List.mem_reverse] at hmem;unfold pS at hmem;obtain⟨z,hz,ez⟩:=LG.mp hmem;obtain⟨hz1,hz2⟩:=MD.mp hz;have:=h.free z hz1 (OQ hz2);rw[ez] at this;exact this
section
variable{C : Cn}{e : Expr}{es : List Expr}{f : PSt → R PV}{fs : PSt → R (List PV)}
theorem FL:EL C [] aH:=fun pos KW s σ H Q I ⟨_,_,q⟩=>fT pos KW s σ H Q I (q [] H (Same.refl H) rfl)
theorem FK(ha:EV C e f)(hr:EL C es fs)(hs:Lc (e::es) C.X.env=(false,MS e C.X.env)::Lc es C.X.env:=by exact c6 rfl):EL C (e::es) (Dw f fs):=by
 intro pos KW s σ H Q I ⟨ρ,vw,q⟩;refine bM ha hr hs pos KW s σ H Q I ⟨ρ,vw,q.bind.imp fun p _ k v H1 s1 r1=>?_⟩;split at k
 ·rename_i hn
  refine⟨ρ,vw.same s1,(k.bind.same s1).imp fun ps _ k2 vs H2 s2 r2=>k2 (v::vs) H2 (s1.trans s2) ⟨v,vs,rfl,?_,r2⟩⟩;cases p with
  | fn L cs=>cases hn
  | _=>exact⟨r1.same s2,hn⟩
 ·exact LJ k
theorem AQ{L:Lam}{idx:List Nat}{lp:NJ}{c P:Addr}(h:LamC C L idx lp c P)(hr:EL C es fs)(hs:Lc (.Lambda L.args L.body L.scope lp::es) C.X.env=(false,MS (.Lambda L.args L.body L.scope lp) C.X.env)::Lc es C.X.env:=by exact c6 rfl) :
  EL C (.Lambda L.args L.body L.scope lp::es) (AA L idx fs):=by
 intro pos KW s σ H Q I ⟨ρ,vw,q⟩;unfold AA at q;cases hc:xC ρ idx with
 | ok cs=>
  rw[hc] at q;have q:RQ C H (fs ρ >>= fun ps=>R.ok (.fn L cs::ps)) _:=q;refine bM (Em h) hr hs pos KW s σ H Q I ⟨ρ,cs,vw,hc,fun v H1 s1 r1=>⟨ρ,vw.same s1,(q.bind.same s1).imp fun ps _ k2 vs H2 s2 r2=>k2 (v::vs) H2 (s1.trans s2) ⟨v,vs,rfl,r1.same s2,r2⟩⟩⟩
 | er x=>
  exact absurd hc (sY idx x)
 | no=>rw[hc] at q;exact LJ q
end
def iX(X:Cx)(h:Heap)(ys:List Str):List (Addr×Mi):=ys.filterMap fun y=>(X.env.cells.lookup y).map fun c=>(c,(h.get? c).getD default)
theorem fg{X:Cx}{h:Heap}{c:Addr}{o:Mi}:∀{ys:List Str},(iX X h ys).lookup c=some o->o=(h.get? c).getD default/\∃y,X.env.cells.lookup y=some c
 | [],e=>by cases e
 | y::r,e=>by
  unfold iX at e;rw[OL] at e;cases hy:X.env.cells.lookup y with
  | none=>rw[hy] at e;exact fg (ys:=r) e
  | some d=>
   rw[hy] at e;simp only[Ph] at e;rw[Lo] at e;cases hb:(c == d) with
   | true=>rw[hb] at e;cases e;have:=OQ hb;subst this;exact⟨rfl,y,hy⟩
   | false=>rw[hb] at e;exact fg (ys:=r) e
theorem oy{X:Cx}{h:Heap}{c:Addr}{y:Str}(hy:X.env.cells.lookup y=some c):∀{ys:List Str},y∈ys->(iX X h ys).lookup c=some ((h.get? c).getD default)
 | [],m=>nomatch m
 | z::r,m=>by
  unfold iX;rw[OL];cases hz:X.env.cells.lookup z with
  | none=>
   rcases LR.mp m with e | m
   ·subst e;rw[hy] at hz;cases hz
   ·exact oy hy m
  | some d=>
   simp only[Ph];rw[Lo];cases hb:(c == d) with
   | true=>have:=OQ hb;subst this;rfl
   | false=>
    rcases LR.mp m with e | m
    ·subst e;rw[hy] at hz;cases hz;simp at hb
    ·exact oy hy m
section
variable{X : Cx}{KW : List (Addr×Mi)}{σ : L2.St}{H : Hp}{s : L6}
theorem AW(I:L2.Inv X KW σ H s)(hfn:∀y,X.fn y=true)(ys:List Str):Cls X H s (iX X s.heap ys):=by
 have at_:∀c o,(iX X s.heap ys).lookup c=some o->s.heap.get? c=some o:=fun c o e=>by
  obtain⟨e1,y,e2⟩:=fg e;obtain⟨v,o',g,_⟩:=I.cell y c e2;rw[e1,g];rfl
 have big:∀c o,(iX X s.heap ys).lookup c=some o->X.s₀.heap.objs.size<=c:=fun c o e=>by
  obtain⟨_,y,e2⟩:=fg e;exact I.ok.cab y c (hfn y) e2
 refine⟨at_,fun c o e=>?_,fun c o e=>?_,fun c o e hs=>?_⟩
 ·obtain⟨_,y,e2⟩:=fg e
  exact I.freeC y c e2
 ·exact SI (MC I.ok.bsz (big c o e))
 ·obtain⟨_,y,e2⟩:=fg e
  rcases LR.mp (I.stkSub c hs) with z | z
  ·obtain⟨v,o',g,d⟩:=I.cell y c e2
   obtain⟨m,⟨o2,es,ep,g2,d2,_⟩,_⟩:=I.loc;rw[← z,g] at g2;cases g2;rw[d] at d2;cases d2
  ·obtain⟨_,o2,g2,_⟩:=I.ok.funs.mem z
   exact absurd (LF g2) (Nat.not_lt_of_le (big c o e))
theorem yS{p:PV}{v:V}(I:L2.Inv X KW σ H s)(hfn:∀y,X.fn y=true)(h:Dq X H σ p v):Rep X.K (trC H (iX X s.heap (X.env.scope.names.map (·.1)))) p v:=by
 have hc:=AW I hfn (X.env.scope.names.map (·.1));have ext:Same H (trC H (iX X s.heap (X.env.scope.names.map (·.1)))):=.of fun b o e=>by rw[aJ (hc.out e)];exact e
 cases p with
 | fn L cs=>
  obtain⟨f,c,pm,ct,xs,e,h1,h2,h3,h4,h5,h6,h7⟩:=h;refine⟨f,c,_,pm,ct,xs,e,ext _ _ h1,ext _ _ h2,h3,h4,?_,h6.same ext⟩
  have gen:∀(cl:List (Str×Addr))(zs:List V),zs.length=cl.length->(∀p∈cl,X.env.cells.lookup p.1=some p.2)->(∀(j:Nat)(y:Str),(cl.map (·.1))[j]?=some y->∃(i:Nat)(v:V),X.N[i]?=some y/\σ[i]?=some (some v)/\zs[j]?=some v/\X.env.scope.names.lookup y=some .cell)->
    eW (trC H (iX X s.heap (X.env.scope.names.map (·.1)))) cl zs:=by
   intro cl
   induction cl with
   | nil=>intro zs hl _ _;exact N7 hl
   | cons p r ih=>
    intro zs hl hm hj;cases zs with
    | nil=>cases hl
    | cons z zs=>
     obtain⟨i,v,n1,n2,n3,n4⟩:=hj 0 p.1 (by simp);simp at n3;subst n3;obtain⟨m,hn,hloc⟩:=I.loc;obtain⟨u,ru,lk⟩:=hloc i p.1 z n1 n2 (.inr (.inl n4));have hp:=hm p Le;rcases lk with⟨k1,_⟩|⟨_,c',c1,o,c2,c3⟩
     ·have k1:X.env.scope.names.lookup p.1=some .local:=k1
      rw[n4] at k1;cases k1
     ·rw[hp] at c1
      cases c1;refine⟨z,zs,o,u,rfl,kf ?_,c3,ru,ih zs (by simpa using hl) (fun q hq=>hm q (Lg _ hq)) fun j y hy=>?_⟩
      ·rw[oy hp (LG.mpr ⟨_,Lw n4,rfl⟩),c2];rfl
      ·obtain⟨i,v,a1,a2,a3,a4⟩:=hj (j+1) y (by simpa using hy)
       exact⟨i,v,a1,a2,by simpa using a3,a4⟩
  refine gen _ xs (by rw[h5,← h3,LA]) (fun p hp=>?_) fun j y hy=>h7 j y (by rw[← h3];exact hy);rcases iV hp with z | z
  ·exact z
  ·exact nomatch z
 | _=>exact Rep.same h.1 ext
theorem m5(I:L2.Inv X KW σ H s)(hfn:∀y,X.fn y=true):∀{ps:List PV}{vs:List V},zR X H σ ps vs->au X.K (trC H (iX X s.heap (X.env.scope.names.map (·.1)))) ps vs
 | [],_,h=>h
 | p::ps,_,⟨x,r,e,h1,h2⟩=>⟨x,r,e,yS I hfn h1,m5 I hfn h2⟩
end
def sZ(fs:PSt->R (List PV))(F:List PV->Option PV):PSt->R PV:=fun ρ=>fs ρ >>= fun qs=>R.ofO (F qs) >>= fun z=>if noFn z=true then .ok z else .no
theorem c5.pl{K:L0}{H H':Hp}{a:Addr}{z:PV}(k:∀b u,H b=some u->(∀q,u≠.frz q (.own 0))->H' b=some u)(n:noFn z=true)(h:c5 K H a z):c5 K H' a z:=by
 have k2:∀b u,H b=some u->Fq u=true->H' b=some u:=fun b u e h=>k b u e (su h);cases z with
 | lst ps=>obtain⟨xs,w,r⟩:=h;exact⟨xs,k _ _ w (fun _ h=>by cases h),au.pl k2 ps n r⟩
 | dct ks ps=>obtain⟨xs,w,e,r⟩:=h;exact⟨xs,k _ _ w (fun _ h=>by cases h),e,au.pl k2 ps n r⟩
 | dtt ks ps=>obtain⟨xs,w,e,r⟩:=h;exact⟨xs,k _ _ w (fun _ h=>by cases h),e,au.pl k2 ps n r⟩
 | _=>exact h
theorem zD{C:Cn}{e:Expr}{es:List Expr}{fs:PSt->R (List PV)}{x:Str}{k:Nat}{F:List PV->Option PV}{p pos:NJ}(G:PFN C.X.prog C.X.w C.X.K C.X.mg C.X.base k x F){kr:Nat}(hr:Room kr C.X.A)(ha:EL C (e::es) fs)
  (hdb:(x == ("__debug__":Str))=false:=by decide) (he:Lc (e::es) C.X.env=(false,MS e C.X.env)::Lc es C.X.env:=by exact c6 rfl) (hpl:(Oc pos (Lc es C.X.env)).any (·.1)=false:=by exact jO rfl) (hk:k<=kr:=by decide) (hg:Gl C.X x:=by exact rfl) (hfn:∀y,C.X.fn y=true:=by exact fun _=>rfl) :
  EN C (.Call (.Name x p) (e::es) [] pos) (sZ fs F):=by
 replace hr:=hr.mono hk;obtain⟨f,fd,ps,a,b,c,d,l⟩:=G.ex;intro KW s σ H Q I ⟨ρ,vw,q⟩;refine Ob (qI I hg b ?_ hdb)
 refine S8 (h₀:=C.X.base) I.ok.mod.kin c (thn (ha pos KW s σ H (fun vs H1=>∃qs z,zR C.X H1 σ qs vs/\Same H H1/\F qs=some z/\noFn z=true/\∀a H',Same H H'->H a=none->c5 C.X.K H' a z->Q (.ref a) H') I
  ⟨ρ,vw,q.bind.imp fun qs _ k1 vs H1 s1 r1=>?_⟩) fun us s1 ⟨vs,H1,I1,r,qs,z,r1,sm,ez,nz,k2⟩=>⟨I1.kIn,?_⟩) he hpl
 ·obtain⟨z,ez,k3⟩:=k1.bind.ofO
  split at k3
  ·rename_i hn
   exact⟨qs,z,r1,s1,ez,hn,fun v H' s' n' r'=>k3 v H' s' n' r'⟩
  ·exact LJ k3
 ·have hc:=AW I1 hfn (C.X.env.scope.names.map (·.1))
  have rr:=m5 I1 hfn r1;have hl:=l qs z ez;have hv:vs.length=ps.length:=by rw[← rr.length];exact hl
  have ext:Same H1 (trC H1 (iX C.X s1.heap (C.X.env.scope.names.map (·.1)))):=.of fun b o e=>by rw[aJ (hc.out e)];exact e
  have hu:(us++[]).length=ps.length:=by rw[Mh,← r.length];exact hv
  have hb:=d s1 us I1.kIn hu;rw[Mh] at hb
  refine wpAny_call (Q6 (a.run C.X.A C.X.stack s1 _ ⟨us,[]⟩ us vs (fun v H'=>∃a,v=.ref a/\Same (trC H1 (iX C.X s1.heap (C.X.env.scope.names.map (·.1)))) H'/\trC H1 (iX C.X s1.heap (C.X.env.scope.names.map (·.1))) a=none/\c5 C.X.K H' a z) E0 hr (Ir I1 hc) hb r
   ⟨hv,ext.tabs (sm.tabs vw.tb),qs,z,rr,ez,fun a H' s' n' r'=>⟨a,rfl,s',n',r'⟩⟩) fun r' s' hq=>?_)
  cases r' with
  | error e=>exact LJ hq
  | ok fl=>
   cases fl with
   | ret u=>
    obtain⟨v,H',os,bare,un,hok,rv,a,ea,sm2,na,nw⟩:=hq;subst ea;refine G7 I1 hc ⟨.ref a,H',os,bare,un,hok,rv,fun un=>k2 a _ (sm.trans (Hg hc un sm2)) (sm.free (ext.free na)) (c5.pl (fun b u e h=>?_) nz nw)⟩;rw[aS (rR un e h)];exact e
   | next=>exact LJ hq
   | brk=>exact LJ hq
   | cont=>exact LJ hq
end PU
section
namespace L2
open PySem PySem.Spec PyProof.Rows
theorem vU{P:Lf}{w:Ln}{K:L0}{mg mb:Str->Option L3}{CX:CXT}{k:Nat}{fa a:Addr}{fd:Mw}{x:Str}{sp:Sp}{s₁:L6}{vs:List L3}{ns:List Int}
  (KX:K.In s₁.heap) (hns:s₁.heap.Ns mainGlobals mg) (hb:s₁.heap.Ns MZ mb) (hbb:∀x:Str,x≠"__name__"->mb x=O1 x) (hlim:s₁.heap.NoLimit) (hg:s₁.gens=#[]) (ts:List Addr) (hts:∀P∈ts,s₁.heap.get? P=some (OT #[])) (htc:∀P∈ts,∃c,Qx s₁.heap c P) (htk:∀P∈ts,K.lookup P=none)
  (hbn:∃bm o,mg "__builtins__"=some (.ref bm)/\bm≠MZ/\bm≠mainGlobals/\s₁.heap.get? bm=some o/\o.cls=.type "module"/\o.dict=some MZ/\o.data=.plain)
  (ha:s₁.heap.get? a=some { cls:=.type "list",data:=.seq vs.toArray }) (hi:T5 vs ns) (hl:ns.length<=sizeLine) (hr:Room k R8)
  (F:∀base:Heap,K.In base->base.Ns mainGlobals mg->(∃bm o,mg "__builtins__"=some (.ref bm)/\bm≠MZ/\bm≠mainGlobals/\base.get? bm=some o/\o.cls=.type "module"/\o.dict=some MZ/\o.data=.plain)->FnOk P w K mg base CX k fa fd [x] sp) (hbind:∀(s:L6) (u:L3),Rq s fd ⟨[u],[]⟩ [(x,u)])
  (hsp:∀H:Hp,(∀P∈ts,H P=some (.tbl #[]))->PU.SqF K H a (ns.map V.int)->sp [.ref a] H (fun v _=>v=.bl true) fun _ _ _=>False)
  (hCX:∀H e s',CX [] H s₁ (fun _ _ _=>False) e s'->False) :
  OF (Ll P w) R8 (.call (.ref fa) ⟨[.ref a],[]⟩) (fun r s'=>r=.ok (.ret (.bool true))/\OldK s₁.heap s'.heap/\s'.os=s₁.os/\QB s'.gens) s₁:=by
 have rv:=oH hi;have lenV:=hi.length
 have core:∀H:Hp,(∀b,H b=none\/(∃ob xs,H b=some (.frz ob (.lst xs)))\/(b∈ts/\H b=some (.tbl #[])))->PU.SqF K H a (ns.map V.int)->HOk P w H s₁.heap->(∀b,H b≠none->b=a\/b∈ts)->(∀P∈ts,H P=some (.tbl #[]))->(H a≠none->K.lookup a=none)->
   OF (Ll P w) R8 (.call (.ref fa) ⟨[.ref a],[]⟩) (fun r s'=>r=.ok (.ret (.bool true))/\OldK s₁.heap s'.heap/\s'.os=s₁.os/\QB s'.gens) s₁:=by
  intro H hO hS hok hA hT hK;have base_of:∀{b:Addr}{o:Mi},s₁.heap.get? b=some o->H b=none->(zp s₁.heap H).get? b=some o:=fun e n=>zo e n
  have noA:∀{b:Addr}{o:Mi}{es:Array DictEntry}{ep:Nat},s₁.heap.get? b=some o->o.data=.dict es ep->H b=none:=fun {b o es ep} e d=>by
   cases q:H b with
   | none=>rfl
   | some u=>
    rcases hA b (by rw[q];simp) with e' | e'
    ·subst e'
     rw[ha] at e;cases e;have d':Data.seq vs.toArray _=Data.dict es ep:=d;cases d'
    ·rw[hts b e'] at e;cases e
     cases d
  have nsK:∀{b:Addr}{m:Str->Option L3},s₁.heap.Ns b m->(zp s₁.heap H).Ns b m:=fun {b m} ⟨o,es,ep,e,d,r⟩=>⟨o,es,ep,base_of e (noA e d),d,r⟩
  have hKb:K.In (zp s₁.heap H):=fun b o e=>base_of (KX b o e) (by
   cases q:H b with
   | none=>rfl
   | some u=>
    rcases hA b (by rw[q];simp) with e' | e'
    ·subst e'
     rw[hK (by rw[q];simp)] at e;cases e
    ·rw[htk b e'] at e;cases e)
  obtain⟨bm,ob,b1,b2,b3,b4,b5,b6,b7⟩:=hbn
  have hbm:H bm=none:=by
   cases q:H bm with
   | none=>rfl
   | some u=>
    rcases hA bm (by rw[q];simp) with e' | e'
    ·rw[e',ha] at b4;cases b4;cases b7
    ·rw[hts bm e'] at b4;cases b4;cases b5
  have hM:Mod K mg (zp s₁.heap H):=⟨hKb,nsK hns,⟨mb,nsK hb,hbb⟩,let ⟨mc,h1,h2⟩:=hlim;⟨mc,nsK h1,h2⟩⟩;have e0:Env0 P w K mg (zp s₁.heap H) R8 [] s₁ H:=⟨rfl,hM,fun b o e=>BW e,SE (wB _ _),trivial,fun b hb=>absurd (show b∈([]:List Addr) from hb) (by simp),hok,.of_eq hg⟩;refine Q6 ((F _ hKb (nsK hns) ⟨bm,ob,b1,b2,b3,base_of b4 hbm,b5,b6,b7⟩).run R8 [] s₁ H ⟨[.ref a],[]⟩ [.ref a] [.ref a] _ _ hr e0 (hbind s₁ (.ref a)) (.cons rfl .nil) (hsp H hT hS)) fun r s' h=>?_;cases r with
  | error e=>exact(hCX H e s' h).elim
  | ok fl=>
   cases fl with
   | next=>exact LJ h
   | brk=>exact LJ h
   | cont=>exact LJ h
   | ret u=>
    obtain⟨v,H',os,bare,un,hok',r',q⟩:=h;have q':v=.bl true:=q;subst q';obtain rfl:u=Oh true:=r';refine⟨rfl,⟨fun b o e=>?_,fun b o e=>un.there b o e (by simp)⟩,os,bare⟩;cases q:H b with
    | none=>exact .inl (un.keep b o e q (by intro z;exact absurd (show b∈([]:List Addr) from z) (by simp)) (by simp))
    | some u=>
     rcases hO b with z | ⟨ob,xs,z⟩|⟨hb,z⟩
     ·rw[q] at z;cases z
     ·have z2:=un.frzs b ob _ z
      obtain⟨e1,_⟩:=hok b _ z;obtain⟨e2,_⟩:=hok' b _ z2;rw[e] at e1;cases e1;exact .inl e2
     ·obtain⟨more,z2⟩:=un.tbls b _ z
      have e2:s'.heap.get? b=some (OT (#[]++more)):=hok' b _ z2;have e1:=hts b hb;obtain⟨c,hc⟩:=htc b hb;have tc:=(hc.tab e1).isCodeTable;rw[e] at e1;cases e1;exact .inr (.inl ⟨tc,rfl,#[],more,rfl,e2⟩)
 have nta:∀P∈ts,P≠a:=fun P hP z=>by rw[z] at hP;have:=hts a hP;rw[ha] at this;cases this
 cases hk:K.lookup a with
 | some o=>
  have e:=KX a o hk;rw[ha] at e;cases e;refine core (fun b=>if b∈ts then some (.tbl #[]) else none) (fun b=>?_) (.inr ⟨vs,_,hk,by rw[LA];exact hl,rv⟩) (fun b u z=>?_) (fun b z=>?_) (fun P hP=>if_pos hP) fun z=>absurd (if_neg fun h=>nta a h rfl) z
  ·by_cases hb:b∈ts
   ·exact .inr (.inr ⟨hb,if_pos hb⟩)
   ·exact .inl (if_neg hb)
  ·by_cases hb:b∈ts
   ·have z':=(if_pos hb).symm.trans z
    cases z';exact hts b hb
   ·have z':=(if_neg hb).symm.trans z
    cases z'
  ·by_cases hb:b∈ts
   ·exact .inr hb
   ·exact absurd (if_neg hb) z
 | none=>
  refine core (fun b=>if b=a then some (.frz { cls:=.type "list",data:=.seq vs.toArray } (.lst (ns.map V.int))) else if b∈ts then some (.tbl #[]) else none) (fun b=>?_) (.inl ⟨{ cls:=.type "list",data:=.seq vs.toArray },if_pos rfl⟩) (fun b u z=>?_) (fun b z=>?_) (fun P hP=>by
   show (if P=a then _ else if P∈ts then _ else _)=_;rw[if_neg (nta P hP),if_pos hP]) fun _=>hk
  ·by_cases hb:b=a
   ·exact .inr (.inl ⟨_,_,if_pos hb⟩)
   ·by_cases hb2:b∈ts
    ·exact .inr (.inr ⟨hb2,(if_neg hb).trans (if_pos hb2)⟩)
    ·exact .inl ((if_neg hb).trans (if_neg hb2))
  ·by_cases hb:b=a
   ·have z':=(if_pos hb).symm.trans z
    cases z';subst hb;exact⟨ha,by rw[LA];exact hl,vs,_,rv,ha⟩
   ·by_cases hb2:b∈ts
    ·have z':=((if_neg hb).trans (if_pos hb2)).symm.trans z
     cases z';exact hts b hb2
    ·have z':=((if_neg hb).trans (if_neg hb2)).symm.trans z
     cases z'
  ·by_cases hb:b=a
   ·exact .inl hb
   ·by_cases hb2:b∈ts
    ·exact .inr hb2
    ·exact absurd ((if_neg hb).trans (if_neg hb2)) z
theorem walk_ofT{l:Qi}{n k:Nat}{q:Lf}{loose:List Str}{XP:(Str->Option L3)->Heap->Prop}{YP:Ln->Heap->Prop}{d:DefRec}{K:Params->L0}{CX:Ln->CXT}{sp:Ln->Sp}{x:Str}
  (hn:l.most=some n) (hn2:n<=sizeLine) (hdf:d.params.defaults=[]) (hr:Room k R8) (ts:List Addr)
  (hY:∀(w:Ln)(h:Heap),YP w h->(K w.params).In h) (hT:∀(w:Ln)(h:Heap),YP w h->∀P∈ts,h.get? P=some (OT #[])) (hC:∀(w:Ln),∀P∈ts,∃c,PD (K w.params) c P=true) (hL:∀(w:Ln),∀P∈ts,(K w.params).lookup P=none)
  (F:∀(w:Ln)(mg:Str->Option L3)(fa:Addr)(h:Heap),(K w.params).In h->h.Ns mainGlobals mg->mg d.name=some (.ref fa)->
   ∃fd:Mw,(∀(s:L6)(u:L3),Rq s fd ⟨[u],[]⟩ [(x,u)])/\
    ∀base:Heap,(K w.params).In base->base.Ns mainGlobals mg->(∃bm o,mg "__builtins__"=some (.ref bm)/\bm≠MZ/\bm≠mainGlobals/\base.get? bm=some o/\o.cls=.type "module"/\o.dict=some MZ/\o.data=.plain)->
     FnOk l.prog w (K w.params) mg base (CX w) k fa fd [x] (sp w))
  (hsp:∀(w:Ln)(H:Hp)(a:Addr)(ns:List Int),ns.length<=n->(∀P∈ts,H P=some (.tbl #[]))->PU.SqF (K w.params) H a (ns.map V.int)->sp w [.ref a] H (fun v _=>v=.bl true) fun _ _ _=>False)
  (hCX:∀(w:Ln)(H:Hp)(s:L6)(e:L3)(s':L6),CX w [] H s (fun _ _ _=>False) e s'->False) :
  PySem.W.WalkO q loose XP YP l.row.toRowW d [] (fun f vs=>SX f vs):=by
 refine Att.attach_call hn hdf fun w s₀ s₁ mg mb fa o pm cd doc a vs ns G Y ho hd hcd hmg hobj hints hlen hg=>?_;have KX:=hY w _ Y;obtain⟨fd,hb,hF⟩:=F w mg fa _ KX G.T.g hmg;obtain⟨bm,ob,b1,b2,b3,b4,b5,b6⟩:=G.T.bmain
 have hbG:bm≠mainGlobals:=fun q=>by
  obtain⟨o,es,ep,e,hd,_⟩:=G.T.g;rw[q,e] at b3;cases b3;rw[hd] at b6;cases b6
 exact vU KX G.T.g G.T.b G.T.builtins G.T.nolimit hg ts (hT w _ Y) (fun P hP=>let ⟨c,hc⟩:=hC w P hP;⟨c,Q1 KX hc⟩) (hL w) ⟨bm,ob,b1,b2,hbG,b3,b4,b5,b6⟩ hobj hints (MC hlen hn2) hr hF hb (fun H hT hS=>hsp w H a ns hlen hT hS) fun H e s'=>hCX w H s₁ e s'
end L2
namespace PU
theorem GX[TW]{H:L2.Hp}{ts:List PySem.Addr}(e:TW.tabs=ts)(h:∀P∈ts,H P=some (.tbl #[])):uq H:=fun P hP=>⟨#[],h P (e▸hP),trivial,fun pos v h=>by cases h⟩
end PU
end
namespace PU
section
variable{g g' : PSt → R Fl}{t : PSt → R Bool}{f fk fv : PSt → R PV}{i : Nat}
theorem m9(ρ:PSt)(p:PV):cF ρ≠.ok (.ret p):=fun h=>by cases h
theorem xD(ρ:PSt)(p:PV):Iz ρ≠.ok (.ret p):=fun h=>by cases h
theorem g7(h1:∀ρ p,g ρ≠.ok (.ret p))(h2:∀ρ p,g' ρ≠.ok (.ret p))(ρ:PSt)(p:PV):aF g g' ρ≠.ok (.ret p):=by
 unfold aF;intro e;cases h:g ρ with
 | ok fl=>
  rw[h,R.ok_bind] at e;cases fl with
  | next ρ2=>exact h2 ρ2 p e
  | brk ρ2=>cases e
  | cont ρ2=>cases e
  | ret q=>exact h1 ρ q h
 | er x=>rw[h] at e;cases e
 | no=>rw[h] at e;cases e
theorem sA(h1:∀ρ p,g ρ≠.ok (.ret p))(h2:∀ρ p,g' ρ≠.ok (.ret p))(ρ:PSt)(p:PV):ifF t g g' ρ≠.ok (.ret p):=by
 unfold ifF;intro e;cases h:t ρ with
 | ok b=>
  rw[h,R.ok_bind] at e;cases b with
  | true=>rw[if_pos rfl] at e;exact h1 ρ p e
  | false=>rw[if_neg LK] at e;exact h2 ρ p e
 | er x=>rw[h] at e;cases e
 | no=>rw[h] at e;cases e
theorem ye{n:Nat}(hg:∀ρ p,g ρ≠.ok (.ret p))(ρ:PSt)(p:PV):whS n t g ρ≠.ok (.ret p):=by
 unfold whS
 induction n generalizing ρ with
 | zero=>intro e;cases e
 | succ n ih=>
  intro e;unfold whF at e;cases h:t ρ with
  | ok b=>
   rw[h,R.ok_bind] at e;cases b with
   | true=>
    rw[if_pos rfl] at e;cases h2:g ρ with
    | ok fl=>
     rw[h2,R.ok_bind] at e;cases fl with
     | next ρ2=>exact ih ρ2 e
     | cont ρ2=>exact ih ρ2 e
     | brk ρ2=>cases e
     | ret q=>exact hg ρ q h2
    | er x=>rw[h2] at e;cases e
    | no=>rw[h2] at e;cases e
   | false=>rw[if_neg LK] at e;cases e
  | er x=>rw[h] at e;cases e
  | no=>rw[h] at e;cases e
theorem xI(i:Nat)(f:PSt->R PV)(ρ:PSt)(p:PV):B0 i f ρ≠.ok (.ret p):=by
 unfold B0;intro h;split at h
 ·cases hf:f ρ with
  | ok q=>
   rw[hf,R.ok_bind] at h;split at h <;> cases h
  | er x=>rw[hf] at h;cases h
  | no=>rw[hf] at h;cases h
 ·cases h
theorem tJ(i:Nat)(fk fv:PSt->R PV)(ρ:PSt)(p:PV):nu i fk fv ρ≠.ok (.ret p):=by
 unfold nu;intro h;split at h
 ·cases hf:fv ρ with
  | ok q=>
   rw[hf,R.ok_bind] at h;cases hk:fk ρ with
   | ok kp=>
    rw[hk,R.ok_bind] at h;cases ht:jN kp with
    | some k=>
     rw[ht,R.ofO_some,R.ok_bind] at h;split at h <;> cases h
    | none=>rw[ht] at h;cases h
   | er x=>rw[hk] at h;cases h
   | no=>rw[hk] at h;cases h
  | er x=>rw[hf] at h;cases h
  | no=>rw[hf] at h;cases h
 ·cases h
end
end PU
namespace PU
open PySem PySem.Spec PyProof.Rows L2 PySem.SeqAt
section
variable{P : Lf}{w : Ln}{K : L0}{mg : Str → Option L3}{base : Heap}
theorem Fun.okC{x qual:Str}{st:Stmt}{f:Addr}{fd:Mw}{N ps:List Str}{k:Nat}{sp:Sp}(F:Fun K x qual st f fd)(S:FnScope N ps (a7 st))(len:∀vs H Q E,sp vs H Q E->vs.length=ps.length)
  (hbody:∀(cdv:L3),cdv=fd.code->∀(A:Ls)(outer:List Qa)(s:L6)(H:Hp)(vs:List V)(Q:VK)(E:XK),Room k (A.deeper (OU qual (a7 st) s.heap.objs.size f cdv))->sp vs H Q E->
   ∃t,PSs (AU CX0 P w K mg base N qual (a7 st) f cdv A outer s H E).nox (aT st) t/\t { nx:=fun _ H'=>Q .non H',rt:=Q } (L2.start N vs) H):FnOk P w K mg base CX0 (k+1) f fd ps sp:=by
 obtain⟨oc,od,kV,doc,pm,an,cdv,ct,osl,rfl,lk,hcd⟩:=F.ex;refine FC lk hcd S len fun A outer s H vs Q E hr hsp=>?_;obtain⟨t,h,q⟩:=hbody cdv rfl A outer s H vs Q E hr hsp;exact⟨t,h.nox,q⟩
variable[TW]
theorem yU{x qual:Str}{st:Stmt}{f:Addr}{fd:Mw}{N ps:List Str}{k:Nat}{g:PSt->R Fl}(F:Fun K x qual st f fd)(S:FnScope N ps (a7 st))(hm:mg x=some (.ref f))(hb:Binds K fd ps [])
  (hbody:∀(cdv:L3),cdv=fd.code->∀(A:Ls)(outer:List Qa)(s:L6)(H:Hp)(E:XK),Room k (A.deeper (OU qual (a7 st) s.heap.objs.size f cdv))->SVN (AV P w K mg base N qual (a7 st) f cdv A outer s H E) (aT st) g)
  (hr:∀ρ,(∃p,g ρ=.ok (.ret p))\/∀fl,g ρ≠.ok fl) :
  PFN P w K mg base (k+1) x (dF ps.length N.length g):=by
 refine⟨f,fd,ps,Fun.okC F S (fun vs H Q E h=>h.1) (fun cdv hcdv A outer s H vs Q E hr' h=>?_),hm,F.kp,hb,fun qs p h=>?_⟩
 ·obtain⟨hl,tb,qs,p,r,e0,k⟩:=h
  refine⟨_,hbody cdv hcdv A outer s H E hr',start N.length qs,(H,H),iy tb r,?_⟩;unfold dF at e0;rw[if_pos (by rw[r.length];exact hl)] at e0;rcases hr (start N.length qs) with⟨q,hq⟩ | hq
  ·rw[hq] at e0 ⊢
   cases e0;exact fun a H' s' n' w'=>k a H' s' n' w'
  ·cases hg:g (start N.length qs) with
   | ok fl=>exact absurd hg (hq fl)
   | er x=>rw[hg] at e0;cases e0
   | no=>rw[hg] at e0;cases e0
 ·unfold dF at h
  split at h
  ·rename_i hl;exact hl
  ·cases h
end
def Dk(n:Nat)(fe:PSt->R PV)(qs cs:List PV):Option PV:=if qs.length=n then (match fe ((qs++cs).map .val) with
 | .ok p=>some p
 | _=>none) else none
theorem vX{n:Nat}{fe:PSt->R PV}{qs cs:List PV}{p:PV}(h:Dk n fe qs cs=some p):qs.length=n/\fe ((qs++cs).map .val)=.ok p:=by
 unfold Dk at h;split at h
 ·rename_i hl
  refine⟨hl,?_⟩;split at h
  ·rename_i q hq;cases h;exact hq
  ·cases h
 ·cases h
def Cd(q:Str)(kept:List Str)(sc:Scope):Expr->Lam
 | .Lambda a b s _=>⟨q,a,b,s,kept⟩
 | e=>⟨q,⟨[],[],none,[],[],none,[]⟩,e,sc,kept⟩
def Ai(j:Nat)(e0:Expr):Stmt->Expr
 | .Return (some (.Call _ as _ _)) _=>as.getD j e0
 | _=>e0
def Az(p:NJ):Expr->NJ
 | .Lambda _ _ _ p=>p
 | _=>p
theorem LScope.of{ps fr:List Str}{sc:Scope}(kind:sc.kind=.function)(co:sc.isCoroutine=false)(gen:sc.isGenerator=false)(nocell:∀x∈sc.names,x.2≠.cell)(par:∀x∈ps,sc.names.lookup x=some .local)
  (fre:∀y∈sc.names,y.2=.free->y.1∈fr) (frk:∀x∈fr,sc.names.lookup x=some .free) (nd:(ps++fr).Nodup):LScope ps fr sc:=
 ⟨kind,co,gen,nocell,par,fun x h=>fre _ (Lw h) rfl,frk,nd⟩
end PU
namespace PU
open PySem PySem.Spec PyProof.Rows L2 PySem.SeqAt
def uV(i:Nat)(fk fv:PSt->R PV):PSt->R Fl:=fun ρ=>match ρ[i]? with
 | some (.own (.dct ks ps))=>fk ρ >>= fun kp=>fv ρ >>= fun p=>R.ofO (ft kp) >>= fun k=>if ks.length<16777216 then .ok (.next (if (ks.any fun j=>decide (j=k))=true then ρ else ρ.set i (.own (jA ks ps k p)))) else .no
 | _=>.no
def Hl:V->List V->Hp->VK->Prop:=fun x vs H Q=>∃a kvs k v,x=.ref a/\vs=[kV k,v]/\H a=some (.dK kvs)/\kvs.length<sizeLine/\
 ((∃w,jI kvs k=some w/\Q w H)\/(jI kvs k=none/\Q v (upd H a (.dK (putK kvs k v)))))
theorem C8 {X:Cx}:MtM X "dict.setdefault" Hl:=by
 intro KW s σ H x vs v us Q I rx rv h;obtain⟨a,kvs,k,y,rfl,rfl,hH,hl,q⟩:=h;cases rx;obtain⟨u1,u2,rfl,r1,r2⟩:=Vals.two rv;obtain⟨z,hd,ws,rel,dd⟩:=CM I.hok hH;have hz:ws.length<=sizeLine:=by rw[← rel.length];exact z
 refine Sx Qj dd.typeIs PySem.F.entry_dict_setdefault (PySem.F.args_dict_setdefault_3 _ _ _) (PySem.kt_meets_setdefault (ah X.prog X.w) a (lM r1) hd u2) ⟨ws,dd,hz,fun v' hv'=>?_,fun hn h' dd' hs=>?_⟩
 ·rcases q with⟨w,ew,q⟩|⟨en,_⟩
  ·obtain⟨w',hw',rw'⟩:=oD.some_of (v:=w) (o:=Mp ws k) (by rw[← ew];exact rel.val k)
   rw[hv'] at hw';cases hw';exact⟨w,H,I.tok _,rw',q⟩
  ·have:Mp ws k=none:=oD.none_of (by rw[← en];exact rel.val k)
   rw[this] at hv';cases hv'
 ·rcases q with⟨w,ew,_⟩|⟨en,q⟩
  ·obtain⟨w',hw',_⟩:=oD.some_of (v:=w) (o:=Mp ws k) (by rw[← ew];exact rel.val k)
   rw[hn] at hw';cases hw'
  ·have hl2:(putK kvs k y).length<=sizeLine:=by have:=d5 kvs k y;omega
   have he:∃q,h'.get? a=some q:=let ⟨q,_,_,hq,_⟩:=dd';⟨q,hq⟩
   exact⟨y,_,lu I (by rw[hH];exact Oj) hs he (xj hl2 hd (rel.put k r2) dd'),r2,q⟩
variable[TW]
theorem Bm{C:Cn}{pos apos cpos:NJ}{ke e:Expr}{fk fv:PSt->R PV}(i:Nat){x:Str}{np:NJ}(hk:EV C ke fk)(he:EV C e fv)(hN:C.X.N[i]?=some x:=by rfl)(hv:Vis C.X.env.scope x:=by first | exact Ow rfl | exact Ov (Ow rfl))
  (hs:Lc [ke,e] C.X.env=[(false,MS ke C.X.env),(false,MS e C.X.env)]:=by rfl) (hs2:Lc [e] C.X.env=[(false,MS e C.X.env)]:=by exact bj rfl)
  (hb:OY (.Name x np) "setdefault" C.X.env (MS (.Name x np) C.X.env)=MS (.Name x np) C.X.env:=by rfl) (hline:(apos.endLine == cpos.line)=true:=by rfl)
  (hd:(x == ("__debug__":Str))=false:=by decide) (hcd:(x == ("__classdict__":Str))=false:=by decide):SV C (.Expr (.Call (.Attribute (.Name x np) "setdefault" apos) [ke,e] [] cpos) pos) (uV i fk fv):=by
 intro KW s σ H D I ⟨ρ,B,S,q⟩;unfold uV at q;split at q
 ·rename_i ks ps e1
  obtain⟨a,e2,kvs,hx,ek,rr⟩:=S.vw i _ e1;refine qx (z6 PH Qj PySem.F.type_dict_setdefault C8 (dS hN hv hd hcd) (bM hk (bM he fT hs2) (by rw[hs,hs2])) hb (by rw[hs];rfl) hline (by rw[hs,hs2]) (by rw[hs2];rfl)) (by rfl) KW s σ H D I ?_;refine⟨_,e2,.inr (.inr (.inl ⟨rfl,.inl ⟨kvs,hx⟩⟩)),ρ,S.vw,(RS.bind q S.same).imp fun kp _ q1 y H1 s1 r1=>⟨ρ,S.vw.same s1,(q1.bind (S.same.trans s1)).imp fun p _ q2 v H2 s2 r2=>?_⟩⟩;obtain⟨k,e3,q3⟩:=RS.ofO q2
  by_cases hl:ks.length<16777216
  ·rw[if_pos hl] at q3
   have hy:=de e3 r1.o;subst hy;subst ek;have hx2:H2 a=some (.dK kvs):=s2 _ _ (s1 _ _ hx);refine⟨a,kvs,k,v,rfl,rfl,hx2,by rw[Ly];simpa using hl,?_⟩
   have hany:((kvs.map (·.1)).any fun j=>decide (j=k))=(jI kvs k).isSome:=by
    rw[← iu,NO];rfl
   cases ev:jI kvs k with
   | some w=>
    rw[ev] at hany;have hany:((kvs.map (·.1)).any fun j=>decide (j=k))=true:=hany;rw[if_pos hany] at q3;exact .inl ⟨w,rfl,q3 σ H2 ((S.grow s1).grow s2)⟩
   | none=>
    rw[ev] at hany;have hany:((kvs.map (·.1)).any fun j=>decide (j=k))=false:=hany;rw[if_neg (by rw[hany];exact LK)] at q3;refine .inr ⟨rfl,?_⟩;have kp:Kp H2 (upd H2 a (.dK (putK kvs k v))):=Kp.upd hx2 rfl;refine q3 σ _ (((S.grow s1).grow s2).turn e1 e2 (fun b hb=>aj hb) ⟨a,rfl,?_⟩);exact nr (au.kp kp _ ((rr.same s1).same s2)) (Rep.kp kp _ r2) ai
  ·rw[if_neg hl] at q3
   exact LJ q3
 ·exact LJ q
end PU
namespace PU
open PySem PySem.Spec PyProof.Rows L2 PySem.SeqAt
variable[TW]
section
variable{C : Cn}{tg iter : Expr}{scope : Scope}{pos epos : NJ}{N' : List Str}{nt : Nat}{idx : List Nat}{h : Tgt}{fi : PSt → R (List PV)}
structure Ls0(H:Hp)(D:Addr)(bs:List Addr):Prop where
 out:H D=some (.lst (bs.map .ref))
 nin:D ∉ bs
 nd:bs.Nodup
theorem ug{KW:List (Addr×Mi)}{σ:L2.St}{H₂:Hp}{s₂:L6}{J:It}{fp:List Addr}{it:Addr}{tn:Nat->Heap->Prop}{ρ:PSt}{ps:List PV}{RR:L3->Addr->RZ->L6->Prop}{E:L3->L6->Prop}
  (O:CompOk C.X.N C.X.env.scope scope N' nt idx) (hc:C.X.calm=true) (hg:∀cl L s H fp,TCt (bY C N' scope cl L s H fp) tg h) (hlow:yb nt h)
  (I:Inv C.X KW σ H₂ s₂) (T:Turn C.X.prog C.X.w C.X.K tg J fp it tn) (st:tn 0 s₂.heap) (hf:∀b∈fp,oE C.X KW H₂ b) (vw:View C.X.K H₂ σ ρ) (ip:ItP C.X.K J H₂ ps)
  (hq:∀p∈ps,∃ρ1,h p (ba nt idx ρ)=some ρ1) (hz:ps.length<=sizeLine)
  (hRR:∀D L σ' H' s' bs,Inv (b9 C.X N' scope (bQ C.X.env.cells scope.names []) L s₂ H₂ fp) [] σ' H' s'->Same H₂ H'->H₂ D=none->Ls0 H' D bs->bs.length=ps.length->(∀b∈bs,H₂ b=none/\H' b=some (.lst []))->s₂.heap.objs.size<=L->RR (.ref D) L (.ok .next) s') :
  LY (Ll C.X.prog C.X.w) C.X.A (Ro []) (fun acc s₃=>LY (Ll C.X.prog C.X.w) C.X.A (S5 scope C.X.env.globals (bQ C.X.env.cells scope.names []) [] C.X.env.qual none .none (some C.X.env)) (fun cenv s₄=>
   OF (Ll C.X.prog C.X.w) C.X.A (.compStart (.ListComp (.List [] epos) [⟨tg,iter,[],0⟩] scope pos) 0 (.ref it) acc { cenv with scope:=Sv scope C.X.env }) (RR acc cenv.locals) s₄) E s₃) E s₂:=by
 refine Mu (P2 O.cell (by intro y hy;simp at hy) (fun h₁ hns₁ hsb₁=>?_) O.kind);dsimp only at hns₁ hsb₁ ⊢;generalize hG:s₂.heap.push { cls:=.type "list",dict:=none,data:=.seq ([]:List L3).toArray }=G at hns₁ hsb₁ ⊢;have hC:G.objs.size=s₂.heap.objs.size+1:=by rw[← hG,OZ]
 have hDL:s₂.heap.objs.size≠G.objs.size:=by rw[hC];exact LO (Pj _)
 have keep:∀b o,s₂.heap.get? b=some o->h₁.get? b=some o:=fun b o e=>
  hsb₁.extBut b o (by rw[hC];exact LO (NA (LF e))) (L5 _ (hG▸L5 _ e))
 have acc:h₁.get? s₂.heap.objs.size=some { cls:=.type "list",data:=.seq ([]:List L3).toArray }:=hsb₁.extBut _ _ hDL (L5 _ (hG▸LZ _ rfl));have nD:H₂ s₂.heap.objs.size=none:=I.fresh;have hGe:s₂.heap.objs.size<=G.objs.size:=by rw[hC];exact Oy _
 obtain⟨σ0,I0,vw0,hl0,fl⟩:=ju O hc I T st hf vw (L:=G.objs.size) (tk:=s₂.toks+([]:List (Str×L3)).length) rfl hGe hDL (by simpa using hns₁) keep acc
 have fpk:∀{H':Hp}{pins':List (Addr×Mi)},(∀b∈fp,H' b=none)->(∀p∈pins',p.1 ∉ fp)->∀b∈fp,oE (b9 C.X N' scope (bQ C.X.env.cells scope.names []) G.objs.size s₂ H₂ fp) pins' H' b:=fun {H' pins'} hn hp b hb=>by
  obtain⟨g1,g2,g3,g4,g5,g6⟩:=hf b hb;refine⟨hn b hb,LO (LQ (fl b hb) hGe),fun z=>?_,.inl hb,fun x c e=>?_,fun p hp' z=>?_⟩
  ·exact(LR.mp (I.stkSub b z)).elim g2 g3
  ·rcases bP e with z | z
   ·exact g5 x c z
   ·cases z
  ·subst z
   exact hp p ((show p∈([]:List (Addr×Mi))++pins' from hp')) hb
 have loop:OF (Ll C.X.prog C.X.w) C.X.A (.compLoop (.ListComp (.List [] epos) [⟨tg,iter,[],0⟩] scope pos) 0 (.ref it) (.ref s₂.heap.objs.size) (Q0 scope (bQ C.X.env.cells scope.names []) G.objs.size C.X.env))
   (RR (.ref s₂.heap.objs.size) G.objs.size) { s₂ with heap:=h₁,toks:=s₂.toks+([]:List (Str×L3)).length }:=by
  refine gB (fun n s=>∃i σ' H' bs,n=ps.length-i/\i<=ps.length/\Inv (b9 C.X N' scope (bQ C.X.env.cells scope.names []) G.objs.size s₂ H₂ fp) [] σ' H' s/\tn i s.heap/\(∀b∈fp,H' b=none)/\Same H₂ H'/\
   Ls0 H' s₂.heap.objs.size bs/\bs.length=i/\(∀b∈bs,H₂ b=none/\H' b=some (.lst []))/\View C.X.K H' σ' (ba nt idx ρ)/\(ba nt idx ρ).length=σ'.length) ?_ ps.length
   ⟨0,σ0,_,[],rfl,M0 _,I0,T.keep _ _ _ st fun b _ o e=>keep b o e,fun b hb=>?_,Same.new nD,⟨ai,by simp,by simp⟩,rfl,by simp,vw0,hl0⟩
  ·rintro n s ⟨i,σ',H',bs,rfl,hi,I',st',fr',sm',ls',bl',bo',vw',hl'⟩
   obtain⟨stp,stepp⟩:=ip i H' (Same.kp sm')
   by_cases hlt:i<ps.length
   ·have ei:ps[i]?=some ps[i]:=by simp[hlt]
    obtain⟨go,yl⟩:=stepp _ ei;obtain⟨ρ1,e1⟩:=hq ps[i] (Ml hlt);obtain⟨l1,low1⟩:=hlow _ _ _ e1;refine thn (T.item (b9 C.X N' scope (bQ C.X.env.cells scope.names []) G.objs.size s₂ H₂ fp) rfl rfl rfl rfl i [] s σ' H' _ I' (fpk fr' (by simp)) st' go) fun r s1 ⟨u,hr,h4⟩=>?_;subst hr;refine thn h4 fun _ s2 ⟨x,H3,I3,r3,y3,st3,fr3⟩=>?_;obtain⟨sm3,rp3⟩:=yl x H3 y3;have I3':=I3.pinned (fpk fr3 (by simp)) (T.obj _ _ st3);refine thn (hg _ _ _ _ _ _ s2 σ' H3 x u (fun σ4 H4=>H4=H3/\ρ1.length=σ4.length/\View C.X.K H4 σ4 ρ1) I3' r3 ⟨_,_,ρ1,hl',vw'.same sm3,rp3,e1,fun σ4 hl4 vw4=>⟨rfl,hl4,vw4⟩⟩) fun _ s4 ⟨σ4,H4,I4,q4⟩=>?_;obtain⟨rfl,hl4,vw4⟩:=q4;refine thn (Rm (Q:=TP (b9 C.X N' scope (bQ C.X.env.cells scope.names []) G.objs.size s₂ H₂ fp) ([]++gO fp s2.heap) σ4 (fun b' H5=>b'=true/\H5=H4)) ⟨H4,I4,rfl,rfl⟩) fun b' s5 ⟨H5,I5,eb,eh⟩=>?_;subst eb eh
    have fin:∀{H7:Hp}{s7:L6},Inv (b9 C.X N' scope (bQ C.X.env.cells scope.names []) G.objs.size s₂ H₂ fp) ([]++gO fp s2.heap) σ4 H7 s7->Inv (b9 C.X N' scope (bQ C.X.env.cells scope.names []) G.objs.size s₂ H₂ fp) [] σ4 H7 s7/\tn (i+1) s7.heap/\∀b∈fp,H7 b=none:=fun {H7 s7} I7=>by
     refine⟨I7.unpinned,T.keep _ _ _ st3 fun b hb o e=>(I7.pin (b,o) (La _ (La _ (cD hb e)))).1,fun b hb=>?_⟩;obtain⟨o,e,_⟩:=T.obj _ _ st3 b hb;exact(I7.pin (b,o) (La _ (La _ (cD hb e)))).2.1
    have vw5:View C.X.K H5 σ4 (ba nt idx ρ):=View.weak vw4 low1 fun i l hi e=>lA hi e;have hl5:(ba nt idx ρ).length=σ4.length:=by rw[← l1];exact hl4
    rw[if_pos rfl];have he:EN (bY C N' scope (bQ C.X.env.cells scope.names []) G.objs.size s₂ H₂ fp) (.List [] epos) (s9 aH):=gz aa;refine thn (he _ s5 σ4 H5 (fun v H6=>∃b,v=.ref b/\Same H5 H6/\H5 b=none/\H6 b=some (.lst [])) I5 ⟨ρ1,vw4,fun b H6 sm n ⟨xs,w,r⟩=>⟨b,rfl,sm,n,by cases r;exact w⟩⟩) fun u6 s6 ⟨v,H6,I6,r6,b,ev,sm6,nb,hb6⟩=>?_;subst ev;have smd:Same H' H6:=sm3.trans sm6;have hD6:H6 s₂.heap.objs.size=some (.lst (bs.map .ref)):=smd _ _ ls'.out
    have bD:b≠s₂.heap.objs.size:=fun z=>by
     subst z;rw[sm3 _ _ ls'.out] at nb;cases nb
    have bN:b ∉ bs:=fun z=>by
     rw[sm3 _ _ (bo' b z).2] at nb;cases nb
    have hx:(bs.map V.ref).length<sizeLine:=by rw[LA];omega
    refine thn (gn (X:=b9 C.X N' scope (bQ C.X.env.cells scope.names []) G.objs.size s₂ H₂ fp) _ s6 σ4 H6 (.ref s₂.heap.objs.size) [.ref b] (.ref s₂.heap.objs.size) [u6] (fun _ H7=>H7=upd H6 s₂.heap.objs.size (.lst (bs.map .ref++[.ref b]))) I6 rfl (.cons r6 .nil) ⟨_,bs.map .ref,.ref b,rfl,rfl,hD6,hx,rfl⟩) fun _ s7 ⟨_,H7,I7,_,e7⟩=>?_;subst e7;obtain⟨J7,st7,fr7⟩:=fin I7;have kp7:Kp H6 (upd H6 s₂.heap.objs.size (.lst (bs.map .ref++[.ref b]))):=Kp.upd hD6 rfl;refine⟨ps.length-(i+1),by omega,i+1,σ4,_,bs++[b],rfl,hlt,J7,st7,fr7,((sm'.trans smd)).but nD (fun u h=>by rw[hD6] at h;cases h;rfl) (fun b hb=>aj hb),⟨by rw[Ld];exact ai,?_,?_⟩,by simp[bl'],fun c hc'=>?_,?_,hl5⟩
    ·intro z
     rcases Lh.mp z with z | z
     ·exact ls'.nin z
     ·exact bD (LH.mp z).symm
    ·rw[MI]
     refine⟨ls'.nd,by simp,fun c hc1 d hd1 e=>?_⟩;rw[LH.mp hd1] at e;exact bN (e▸hc1)
    ·rcases Lh.mp hc' with z | z
     ·have hcD:c≠s₂.heap.objs.size:=fun e=>ls'.nin (e▸z)
      exact⟨(bo' c z).1,by rw[aj hcD];exact smd _ _ (bo' c z).2⟩
     ·have:=LH.mp z
      subst this;exact⟨((sm'.trans sm3)).free nb,by rw[aj bD];exact hb6⟩
    ·exact(vw5.same sm6).noOwn (fun i p e=>lz e) (fun i p a e=>ly e) kp7 ((vw5.same sm6).tb.but (fun u h=>by rw[hD6] at h;cases h;exact⟨rfl,rfl⟩) (fun b hb=>aj hb))
   ·have e:i=ps.length:=by omega
    subst e;refine thn (T.done (b9 C.X N' scope (bQ C.X.env.cells scope.names []) G.objs.size s₂ H₂ fp) rfl rfl rfl rfl ps.length [] s σ' H' _ I' (fpk fr' (by simp)) st' (stp rfl)) fun r s1 ⟨hr,I1⟩=>?_;subst hr;exact hRR _ _ σ' H' s1 bs I1 sm' nD ls' bl' bo' hGe
  ·show upd H₂ _ _ b=none
   rw[aj (LO (fl b hb))];exact(hf b hb).1
 exact Q7 loop (T.self _ 0 _ _ _ (T.keep _ _ _ st fun b _ o e=>keep b o e) loop)
def Ab(C:Cn)(i:Nat)(nt:Nat)(idx:List Nat)(h:Tgt)(fi:PSt->R (List PV)):TS:=fun D σ H=>∃ρ,View C.X.K H σ ρ/\∃ps,fi ρ=.ok ps/\(∀p∈ps,∃ρ1,h p (ba nt idx ρ)=some ρ1)/\ps.length<=sizeLine/\
 ∀H' a bs,Same H H'->H a=none->Ls0 H' a bs->bs.length=ps.length->(∀b∈bs,H b=none/\H' b=some (.lst []))->D.nx (σ.set i (some (.ref a))) H'
theorem yQ(i:Nat){x:Str}{px:NJ}{spos:NJ}(hN:C.X.N.Nodup)(hi':C.X.N[i]?=some x)(hx:Loc C.X.env.scope x)(O:CompOk C.X.N C.X.env.scope scope N' nt idx)(hc:C.X.calm=true)(hi:EI C tg iter fi)
  (hg:∀cl L s H fp,TCt (bY C N' scope cl L s H fp) tg h) (hlow:yb nt h)
  (hsw:OB (.ListComp (.List [] epos) [⟨tg,iter,[],0⟩] scope pos) (some (.Name x px)) spos.line C.X.env=pure true:=by rfl)
  (hs:∀x,NK iter C.X.env x=pure x:=by intro _;rfl)
  (hf:C.X.fn x=true\/C.X.env.scope.names.lookup x=some .local:=by first | exact .inl rfl | exact .inr rfl | assumption) :
  PS C.X (.Assign [.Name x px] (.ListComp (.List [] epos) [⟨tg,iter,[],0⟩] scope pos) spos) (Ab C i nt idx h fi):=by
 intro KW s σ H D I ⟨ρ,vw,ps,ef,hq,hz,k⟩;rw[QH _ _ _ _ hsw];refine L1 (Qm (L1 ?_));show LY _ C.X.A (do let _<- SW (.ListComp (.List [] epos) [⟨tg,iter,[],0⟩] scope pos) scope C.X.env _ (Ro []) false (MS iter C.X.env) (some (P5 (.Name x px) C.X.env))) _ _ s
 refine L1 (N8 (OX (use:=some (P5 (.Name x px) C.X.env)) (Q:=fun _ s'=>SP C.X KW D .next s') rfl hs (bz fun y hy hk=>I.ok.has y.1 (O.free y hy hk)) O.kind O.names ?_)
  (fun _ s' hq=>L9 (L9 hq)) fun _ _ e=>e)
 refine thn (hi KW s σ H (fun J H'=>Same H H'/\ItP C.X.K J H' ps) I ⟨ρ,vw,by rw[ef];exact fun J H' s' ip=>⟨s',ip⟩⟩) fun v s1 h1=>thn h1 fun itv s2 h2=>?_;obtain⟨it,fp,tn,J,H2,e,I2,T,st2,f2,sm,ip⟩:=h2;subst e;refine ug O hc hg hlow I2 T st2 f2 (vw.same sm) ip hq hz fun Da L σ' H' s' bs I' sm' nD ls bl bo hL=>?_;obtain⟨m,⟨o,es,ep,ho,hrest⟩,_⟩:=id I'.loc;have IB:=iU I2 f2 I';have nL:L≠C.X.env.locals:=MQ (LQ I2.lt hL)
 have nC:∀x c,C.X.env.cells.lookup x=some c->c≠L:=fun x c ec z=>by
  obtain⟨v,qc⟩:=I2.cell x c ec;have z:c=L:=z;exact M6 _ (LQ (z▸qc.lt) hL)
 have nP:∀p∈C.X.pn++KW,p.1≠L:=fun p hp z=>by
  have z:p.1=L:=z;exact M6 _ (LQ (z▸LF (I2.pin p hp).1) hL)
 have IP:Inv C.X (KW++[(L,o)]) σ H' s':=IB.pins_of fun p hp=>by
  rcases Lh.mp hp with z | z
  ·exact IB.pin p (La _ z)
  ·have:p=(L,o):=by simpa using z
   subst this;exact⟨ho,I'.free,nL,I2.nofs hL,fun v z=>by rw[hrest.1] at z;cases z⟩
 refine thn (gf hN hi' hx hf (KW++[(L,o)]) s' σ H' (.ref Da) (.ref Da) (fun σ4 H4=>σ4=σ.set i (some (.ref Da))/\H4=H') IP rfl ⟨rfl,rfl⟩) fun _ s4 ⟨σ4,H4,I4,e4,e5⟩=>?_;have hp:=I4.pin (L,o) (by simp);have IU:Inv C.X KW σ4 H4 s4:=I4.unpinned;refine⟨m,⟨o,es,ep,hp.1,hrest⟩,fun h' sb=>⟨σ4,H4,iT IU hp.2.1 nL (MC I2.sz hL) nC nP sb,?_⟩⟩;subst e4 e5;exact k H4 Da bs (sm.trans sm') (sm.free nD) ls bl fun b hb=>⟨sm.free (bo b hb).1,(bo b hb).2⟩
end
end PU
namespace PU
open PySem PySem.Spec PyProof.Rows L2 PySem.SeqAt
def Di(n:Int)(pss:List (List Int))(j:Int):Option (List (List Int)):=if 0<=j then (match pss[j.toNat]? with
 | some l=>if l.length<16777216 then some (pss.set j.toNat (l++[n])) else none
 | none=>none) else none
def va(n:Int):List Int->List (List Int)->Option (List (List Int))
 | [],pss=>some pss
 | j::r,pss=>(Di n pss j).bind (va n r)
def allB:Nat->List (List Int)->List (List Int)->Option (List (List Int))
 | _,[],pss=>some pss
 | k,js::r,pss=>(va k js pss).bind (allB (k+1) r)
def Ci:List PV->Option (List (List Int))
 | []=>some []
 | .lst ps::r=>(jo ps).bind fun js=>(Ci r).map (js::·)
 | _=>none
def pbF:PSt->R Fl:=fun ρ=>match (ρ[(0:Nat)]?:Option Sl) with
 | some (.val (.lst fs))=>(match Ci fs with
  | some jss=>if fs.length<=16777216/\ρ.length=5 then (match allB 0 jss (M3 fs.length []) with
   | some pss=>.ok (.ret (.lst (pss.map fun l=>PV.lst (l.map PV.int))))
   | none=>.no) else .no
  | none=>.no)
 | _=>.no
theorem sy:∀{ps:List PV}{js:List Int},jo ps=some js->ps=js.map PV.int
 | [],_,e=>by cases e;rfl
 | p::ps,js,e=>by
  cases p with
  | int i=>
   obtain⟨r,e1,rfl⟩:=LB.mp (show (jo ps).map (i::·)=some js from e);rw[sy e1];rfl
  | _=>cases e
theorem wj:∀{fs:List PV}{jss:List (List Int)},Ci fs=some jss->fs=jss.map fun js=>PV.lst (js.map PV.int)
 | [],_,e=>by cases e;rfl
 | p::fs,jss,e=>by
  cases p with
  | lst ps=>
   obtain⟨js,e1,e⟩:=LD.mp (show (jo ps).bind (fun js=>(Ci fs).map (js::·))=some jss from e);obtain⟨r,e2,rfl⟩:=LB.mp e;rw[sy e1,wj e2];rfl
  | _=>cases e
structure PB(H:Hp)(a:Addr)(bs:List Addr)(pss:List (List Int)):Prop where
 ls:Ls0 H a bs
 len:bs.length=pss.length
 at_:∀(i:Nat)(b:Addr)(l:List Int),bs[i]?=some b->pss[i]?=some l->H b=some (.lst (l.map V.int))
variable[TW]
theorem PB.same{H H':Hp}{a:Addr}{bs:List Addr}{pss:List (List Int)}(p:PB H a bs pss)(s:Same H H'):PB H' a bs pss:=
 ⟨⟨s _ _ p.ls.out,p.ls.nin,p.ls.nd⟩,p.len,fun i b l e1 e2=>s _ _ (p.at_ i b l e1 e2)⟩
theorem PB.put{H:Hp}{a b:Addr}{bs:List Addr}{pss:List (List Int)}{j:Nat}{l:List Int}(n:Int)(p:PB H a bs pss)(e1:bs[j]?=some b)(e2:pss[j]?=some l):PB (upd H b (.lst ((l++[n]).map V.int))) a bs (pss.set j (l++[n])):=by
 have hb:a≠b:=fun z=>p.ls.nin (z▸LM e1);refine⟨⟨by rw[aj hb];exact p.ls.out,p.ls.nin,p.ls.nd⟩,by simp[p.len],fun i c m f1 f2=>?_⟩
 by_cases hij:j=i
 ·subst hij
  rw[e1] at f1;cases f1;have hl:j<pss.length:=(L4.mp e2).1;rw[Lr hl] at f2;cases f2;exact ai
 ·rw[Lx hij] at f2
  have hc:c≠b:=fun z=>by
   subst z;obtain⟨h1,g1⟩:=L4.mp e1;obtain⟨h2,g2⟩:=L4.mp f1;exact hij ((Pb p.ls.nd).mp (g1.trans g2.symm))
  rw[aj hc];exact p.at_ i c m f1 f2
structure Zb(B1 H0 H:Hp)(a:Addr)(bs:List Addr)(pss:List (List Int)):Prop where
 same:Same B1 H
 kp:Kp H0 H
 tb:uq H
 pb:PB H a bs pss
 fr:∀c∈bs,B1 c=none
theorem Zb.grow{B1 H0 H H':Hp}{a:Addr}{bs:List Addr}{pss:List (List Int)}(z:Zb B1 H0 H a bs pss)(s:Same H H'):Zb B1 H0 H' a bs pss:=⟨z.same.trans s,z.kp.trans (Same.kp s),s.tabs z.tb,z.pb.same s,z.fr⟩
theorem Zb.put{B1 H0 H:Hp}{a b:Addr}{bs:List Addr}{pss:List (List Int)}{j:Nat}{l:List Int}(n:Int)(z:Zb B1 H0 H a bs pss)(e1:bs[j]?=some b)(e2:pss[j]?=some l):Zb B1 H0 (upd H b (.lst ((l++[n]).map V.int))) a bs (pss.set j (l++[n])):=by
 have hb:=z.pb.at_ j b l e1 e2;exact⟨z.same.but (z.fr b (LM e1)) (fun u h=>by rw[hb] at h;cases h;rfl) (fun c hc=>aj hc),z.kp.trans (Kp.upd hb rfl),z.tb.but (fun u h=>by rw[hb] at h;cases h;exact⟨rfl,rfl⟩) (fun c hc=>aj hc),z.pb.put n e1 e2,z.fr⟩
theorem Zb.base{B1 H0 H1 H:Hp}{a:Addr}{bs:List Addr}{pss:List (List Int)}(z:Zb B1 H1 H a bs pss)(k:Kp H0 H1):Zb B1 H0 H a bs pss:=⟨z.same,k.trans z.kp,z.tb,z.pb,z.fr⟩
def Fr(σ σ':L2.St)(ks:List Nat):Prop:=σ'.length=σ.length/\∀i,i ∉ ks->σ'[i]?=σ[i]?
section
variable{C : Cn}{xb xp xn xf xs : Str}{p1 p2 p3 p4 p5 p6 p7 p8 p9 p10 apos cpos epos pos tp : NJ}{kk : Nat}
theorem Ed(hp:QZ (Ll C.X.prog C.X.w) C.X.A C.X.env C.X.xe)(hc:C.X.calm=true)(hw:C.X.w=TW.w)(nd:C.X.N.Nodup)(N1:C.X.N[1]?=some xb)(N2:C.X.N[2]?=some xn)(N3:C.X.N[3]?=some xf)(N4:C.X.N[4]?=some xp)
  (v1:Vis C.X.env.scope xb) (v2:Vis C.X.env.scope xn) (v3:Vis C.X.env.scope xf) (v4:Vis C.X.env.scope xp) (l4:Loc C.X.env.scope xp) (f4:C.X.fn xp=true\/C.X.env.scope.names.lookup xp=some .local)
  (d1:(xb == ("__debug__":Str))=false) (d2:(xn == ("__debug__":Str))=false) (d3:(xf == ("__debug__":Str))=false) (d4:(xp == ("__debug__":Str))=false) (c1:(xb == ("__classdict__":Str))=false) (c2:(xn == ("__classdict__":Str))=false) (c3:(xf == ("__classdict__":Str))=false) (c4:(xp == ("__classdict__":Str))=false)
  (hb:OY (.Subscript (.Name xb p3) (.Name xp p4) p5) "append" C.X.env (MS (.Subscript (.Name xb p3) (.Name xp p4) p5) C.X.env)=MS (.Subscript (.Name xb p3) (.Name xp p4) p5) C.X.env) (hline:(apos.endLine == cpos.line)=true)
  (hs:Lc [.Name xn p6] C.X.env=[(false,MS (.Name xn p6) C.X.env)]) (hpl:ri (.Name xp p4)) (hst:∀x,NK (.Name xf p2) C.X.env x=pure x)
  (hsw:OB (.Call (.Attribute (.Subscript (.Name xb p3) (.Name xp p4) p5) "append" apos) [.Name xn p6] [] cpos) none epos.line C.X.env=pure false) :
  PS C.X (.For (.Name xp p1) (.Name xf p2) [.Expr (.Call (.Attribute (.Subscript (.Name xb p3) (.Name xp p4) p5) "append" apos) [.Name xn p6] [] cpos) epos] [] pos) (fun D σ H=>∃(B1 H0:Hp) (a:Addr) (bs:List Addr) (k:Int) (js:List Int) (v:V) (pss pss':List (List Int)),σ[1]?=some (some (.ref a))/\σ[2]?=some (some (.int k))/\σ[3]?=some (some v)/\4<σ.length/\Rep C.X.K H (.lst (js.map PV.int)) v/\Zb B1 H0 H a bs pss/\va k js pss=some pss'/\
   ∀σ' H',Fr σ σ' [4]->Zb B1 H0 H' a bs pss'->D.nx σ' H'):=by
 intro KW s σ H D I ⟨B1,H0,a,bs,k,js,v,pss,pss',e1,e2,e3,hl,rv,z,er,cont⟩;have body:=qx (pos:=epos) (z6 (X:=C.X) RH Pf R9 gn (En Fn (dS N1 v1 d1 c1) (dS N4 v4 d4 c4) hpl) (bM (dS N2 v2 d2 c2) fT hs) hb (by rw[hs];rfl) hline hs (by rfl)) hsw;refine vg hp hc (cV (x4 3 N3 v3 d3 c3) hw) (gf nd N4 l4 f4) (fC body ny) hst KW s σ H D I ?_;refine⟨[.no,.no,.no,.val (.lst (js.map PV.int))],⟨fun i l e=>?_,z.tb⟩,fun J H1 s1 it=>?_⟩
 ·match i,e with
  | 0,e=>cases e;exact trivial
  | 1,e=>cases e;exact trivial
  | 2,e=>cases e;exact trivial
  | 3,e=>cases e;exact⟨v,e3,rv⟩
 ·have z1:Zb B1 H1 H1 a bs pss:=⟨z.same.trans s1,Kp.refl H1,s1.tabs z.tb,z.pb.same s1,z.fr⟩
  refine⟨fun i m σ' H'=>m=js.length-i/\i<=js.length/\Fr σ σ' [4]/\∃q,Zb B1 H1 H' a bs q/\va k (js.drop i) q=some pss',⟨js.length,rfl,M0 _,⟨rfl,fun _ _=>rfl⟩,pss,z1,by simpa using er⟩,?_⟩;rintro i m σ' H' ⟨rfl,hi,fr,q,zq,eq⟩;obtain⟨stp,stepp⟩:=it i H' zq.kp
  by_cases hlt:i<js.length
  ·have ej:js[i]?=some js[i]:=by simp[hlt]
   obtain⟨go,yl⟩:=stepp (.int js[i]) (by rw[LC,ej];rfl);rw[iS ej] at eq;obtain⟨q1,ep,eq⟩:=LD.mp (show (Di k q js[i]).bind (va k (js.drop (i+1)))=some pss' from eq);generalize js[i]=j at *;refine .inr ⟨go,fun σ2 H2=>Fr σ σ2 [4]/\∃q,Zb B1 H1 H2 a bs q/\va k (js.drop (i+1)) q=some pss',fun σ2 H2 ⟨f2,q2,z2,r2⟩=>⟨js.length-(i+1),by omega,rfl,hlt,f2,q2,z2,r2⟩,fun x H2 y=>?_⟩;obtain⟨s2,rp⟩:=yl x H2 y;cases (show x=.int j from rp);have z2:=zq.grow s2;unfold Di at ep;split at ep
   ·rename_i hj
    split at ep
    ·rename_i l el
     split at ep
     ·rename_i hlen
      cases ep;have hjl:=(L4.mp el).1;obtain⟨b,eb⟩:∃b,bs[j.toNat]?=some b:=⟨_,LU (by rw[zq.pb.len];exact hjl)⟩;have hb2:=z2.pb.at_ _ b l eb el;have f4':(σ'.set 4 (some (.int j))).length=σ.length:=by rw[Ny];exact fr.1
      have g:∀i,i≠4->(σ'.set 4 (some (.int j)))[i]?=σ[i]?:=fun i h4=>by
       rw[Lx (MU h4)];exact fr.2 i (by simp[h4])
      have at_j:atI (bs.map V.ref) j=some (.ref b):=by
       have hjn:j=(j.toNat:Int):=by omega
       have:ixN (bs.map V.ref).length j=some j.toNat:=by
        unfold ixN;rw[if_pos hj,if_pos (by rw[LA,zq.pb.len];omega)]
       unfold atI;rw[this];show (bs.map V.ref)[j.toNat]?=_;rw[LC,eb];rfl
      refine⟨_,(g 1 (by decide)).trans e1,_,Lr (by rw[fr.1];exact hl),.inl ⟨a,bs.map .ref,j,.ref b,rfl,rfl,SqL.of z2.pb.ls.out,at_j,.inl ⟨rfl,_,SqL.of hb2⟩,_,(g 2 (by decide)).trans e2,b,_,.int k,rfl,rfl,hb2,by rw[Ly,LA];exact hlen,?_⟩⟩;have zz:=z2.put k eb el;rw[Ld] at zz;exact⟨⟨f4',fun i hi4=>g i (by simpa using hi4)⟩,_,zz,eq⟩
     ·cases ep
    ·cases ep
   ·cases ep
  ·have e:i=js.length:=by omega
   subst e;rw[Ng] at eq;cases eq;exact .inl ⟨stp (by rw[LA]),cont σ' H' fr (zq.base (z.kp.trans (Same.kp s1)))⟩
end
end PU
namespace PU
open PySem PySem.Spec PyProof.Rows L2 PySem.SeqAt
variable[TW]
theorem oU{K:L0}{H:Hp}:∀l:List Int,au K H (l.map PV.int) (l.map V.int)
 | []=>rfl
 | i::l=>⟨.int i,l.map V.int,rfl,rfl,oU l⟩
abbrev jP(js:List Int):PV:=.lst (js.map PV.int)
theorem vc{K:L0}{H:Hp}:∀(bs:List Addr)(pss:List (List Int)),bs.length=pss.length->(∀(i:Nat)(b:Addr)(l:List Int),bs[i]?=some b->pss[i]?=some l->Rep K H (jP l) (.ref b))->au K H (pss.map jP) (bs.map V.ref)
 | [],[],_,_=>rfl
 | [],_::_,h,_=>by simp at h
 | _::_,[],h,_=>by simp at h
 | b::bs,l::pss,h,k=>⟨.ref b,bs.map V.ref,rfl,k 0 b l rfl rfl,vc bs pss (by simpa using h) fun i c m e1 e2=>k (i+1) c m (by simpa using e1) (by simpa using e2)⟩
theorem wN{X:Cx}{KW:List (Addr×Mi)}{σ:L2.St}{H B1:Hp}{s:L6}{a:Addr}{bs:List Addr}{pss:List (List Int)}(I:L2.Inv X KW σ H s)(p:PB H a bs pss)(sm:Same B1 H)(fr:∀c∈bs,B1 c=none):∀n,n<=bs.length->
  ∃H',L2.Inv X KW σ H' s/\Same B1 H'/\(∀c,c ∉ bs.take n->H' c=H c)/\∀(i:Nat)(b:Addr)(l:List Int),i<n->bs[i]?=some b->pss[i]?=some l->Rep X.K H' (jP l) (.ref b)
 | 0,_=>⟨H,I,sm,fun _ _=>rfl,fun i _ _ h=>absurd h (RC i)⟩
 | n+1,hn=>by
  obtain⟨H',I',sm',oth,rep⟩:=wN I p sm fr n (by omega);obtain⟨b,eb⟩:∃b,bs[n]?=some b:=⟨_,LU (by omega)⟩;obtain⟨l,el⟩:∃l,pss[n]?=some l:=⟨_,LU (by have:=p.len;omega)⟩
  have bn:b ∉ bs.take n:=fun z=>by
   obtain⟨i,hi,e⟩:=NI z;have hi':i<n:=by rw[MY] at hi;omega
   rw[List.getElem_take] at e;obtain⟨h2,e2⟩:=L4.mp eb;have:=(Pb p.ls.nd).mp (e.trans e2.symm);omega
  have hb:H' b=some (.lst (l.map V.int)):=by rw[oth b bn];exact p.at_ n b l eb el
  obtain⟨H2,I2,rp,oth2⟩:=L2.Inv.frz (a:=b) (p:=jP l) I' ⟨l.map V.int,hb,oU l⟩;have na:∀u,H' b=some u->zm u=false:=fun u h=>by rw[hb] at h;cases h;rfl
  refine⟨H2,I2,sm'.but (fr b (LM eb)) na oth2,fun c hc=>?_,fun i c m hi e1 e2=>?_⟩
  ·have hcb:c≠b:=fun z=>hc (by
    rw[z,O4,eb];simp)
   rw[oth2 c hcb];exact oth c fun z=>hc (by rw[O4];exact MJ _ z)
  ·by_cases hin:i=n
   ·subst hin
    rw[eb] at e1;rw[el] at e2;cases e1;cases e2;exact rp
   ·exact Rep.kp (Kp.but na oth2) _ (rep i c m (by omega) e1 e2)
section
variable{C : Cn}{xb xp xn xf x0 : Str}{p1 p2 p3 p4 p5 p6 p7 p8 p9 p10 apos cpos epos pos tp : NJ}{kk : Nat}
theorem BE (N1:C.X.N[1]?=some xb) (v1:Vis C.X.env.scope xb) (d1:(xb == ("__debug__":Str))=false) (c1:(xb == ("__classdict__":Str))=false) :
  PS C.X (.Return (some (.Name xb p1)) pos) (fun D σ H=>∃(B1 H0:Hp)(a:Addr)(bs:List Addr)(pss:List (List Int)),σ[1]?=some (some (.ref a))/\Zb B1 H0 H a bs pss/\B1 a=none/\∀v H',Same B1 H'->Rep C.X.K H' (.lst (pss.map jP)) v->D.rt v H'):=by
 intro KW s σ H D I ⟨B1,H0,a,bs,pss,e1,z,na,k⟩;refine wpAny_Return_some (thn (dS N1 v1 d1 c1 KW s σ H (fun v' H'=>v'=.ref a/\H'=H) I ⟨_,e1,rfl,rfl⟩) fun u s1 ⟨v',H1,I1,ru,ev,eh⟩=>?_);subst ev eh;cases (show u=M1 a from ru);obtain⟨H2,I2,sm2,oth,rep⟩:=wN I1 z.pb z.same z.fr bs.length (LX _);have ha:H2 a=some (.lst (bs.map .ref)):=by rw[oth a (by rw[Qq];exact z.pb.ls.nin)];exact z.pb.ls.out
 have rr:=vc (K:=C.X.K) (H:=H2) bs pss z.pb.len fun i b l e1 e2=>rep i b l (L4.mp e1).1 e1 e2;obtain⟨H3,I3,rp,oth3⟩:=L2.Inv.frz (a:=a) (p:=.lst (pss.map jP)) I2 ⟨bs.map .ref,ha,rr⟩;exact⟨.ref a,σ,H3,I3,rfl,k _ H3 (sm2.but na (fun u h=>by rw[ha] at h;cases h;rfl) oth3) rp⟩
theorem Ef {inner:Stmt} (hp:QZ (Ll C.X.prog C.X.w) C.X.A C.X.env C.X.xe) (hc:C.X.calm=true) (hg:Gl C.X "enumerate") (hm:C.X.mg "enumerate"=none) (nd:C.X.N.Nodup) (N0:C.X.N[0]?=some x0) (N2:C.X.N[2]?=some xn) (N3:C.X.N[3]?=some xf)
  (v0:Vis C.X.env.scope x0) (l2:Loc C.X.env.scope xn) (l3:Loc C.X.env.scope xf) (f2:C.X.fn xn=true\/C.X.env.scope.names.lookup xn=some .local) (f3:C.X.fn xf=true\/C.X.env.scope.names.lookup xf=some .local)
  (d0:(x0 == ("__debug__":Str))=false) (c0:(x0 == ("__classdict__":Str))=false) (hs:Lc [.Name x0 p4] C.X.env=[(false,MS (.Name x0 p4) C.X.env)]) (hst:∀x,NK (.Call (.Name "enumerate" p3) [.Name x0 p4] [] p5) C.X.env x=pure x)
  (ha:(Ma [.Name xn p1,.Name xf p2] C.X.env).map (·.2)=P5 (.Name xn p1) C.X.env::(Ma [.Name xf p2] C.X.env).map (·.2)) (ha2:(Ma [.Name xf p2] C.X.env).map (·.2)=P5 (.Name xf p2) C.X.env::(Ma [] C.X.env).map (·.2))
  (hn:(Ma [.Name xn p1,.Name xf p2] C.X.env).length=2) (hst2:(Ma [.Name xn p1,.Name xf p2] C.X.env).findIdx? (·.1)=none)
  (hin:PS C.X inner (fun D σ H=>∃(B1 H0:Hp)(a:Addr)(bs:List Addr)(k:Int)(js:List Int)(v:V)(pss pss':List (List Int)),σ[1]?=some (some (.ref a))/\σ[2]?=some (some (.int k))/\σ[3]?=some (some v)/\4<σ.length/\Rep C.X.K H (.lst (js.map PV.int)) v/\Zb B1 H0 H a bs pss/\va k js pss=some pss'/\
   ∀σ' H',Fr σ σ' [4]->Zb B1 H0 H' a bs pss'->D.nx σ' H')) :
  PS C.X (.For (.Tuple [.Name xn p1,.Name xf p2] kk tp) (.Call (.Name "enumerate" p3) [.Name x0 p4] [] p5) [inner] [] pos) (fun D σ H=>∃(B1 H0:Hp) (a:Addr) (bs:List Addr) (jss:List (List Int)) (v:V) (pss pss':List (List Int)),σ[0]?=some (some v)/\σ[1]?=some (some (.ref a))/\4<σ.length/\Rep C.X.K H (.lst (jss.map jP)) v/\Zb B1 H0 H a bs pss/\allB 0 jss pss=some pss'/\
   ∀σ' H',Fr σ σ' [2,3,4]->Zb B1 H0 H' a bs pss'->D.nx σ' H'):=by
 intro KW s σ H D I ⟨B1,H0,a,bs,jss,v,pss,pss',e0,e1,hl,rv,z,er,cont⟩;refine vg hp hc (oj hg hm (x4 0 N0 v0 d0 c0) hs) (vt hc (jR (gf nd N2 l2 f2) (jR (gf nd N3 l3 f3) qy ha2) ha) hn hst2) (fC hin ny) hst KW s σ H D I ?_;refine⟨[.val (.lst (jss.map jP))],⟨fun i l e=>?_,z.tb⟩,fun J H1 s1 it=>?_⟩
 ·match i,e with
  | 0,e=>cases e;exact⟨v,e0,rv⟩
 ·have z1:Zb B1 H1 H1 a bs pss:=⟨z.same.trans s1,Kp.refl H1,s1.tabs z.tb,z.pb.same s1,z.fr⟩
  refine⟨fun i m σ' H'=>m=jss.length-i/\i<=jss.length/\Fr σ σ' [2,3,4]/\∃q,Zb B1 H1 H' a bs q/\allB i (jss.drop i) q=some pss',⟨jss.length,rfl,M0 _,⟨rfl,fun _ _=>rfl⟩,pss,z1,by simpa using er⟩,?_⟩;rintro i m σ' H' ⟨rfl,hi,fr,q,zq,eq⟩;obtain⟨stp,stepp⟩:=it i H' zq.kp
  by_cases hlt:i<jss.length
  ·have ej:jss[i]?=some jss[i]:=by simp[hlt]
   obtain⟨go,yl⟩:=stepp (.tup [.int i,jP jss[i]]) (by
    rw[LC];unfold rV;rw[nM,LC,ej];rfl)
   rw[iS ej] at eq;obtain⟨q1,ep,eq2⟩:=LD.mp (show (va i jss[i] q).bind (allB (i+1) (jss.drop (i+1)))=some pss' from eq);generalize jss[i]=js at *;refine .inr ⟨go,fun σ2 H2=>Fr σ σ2 [2,3,4]/\∃q,Zb B1 H1 H2 a bs q/\allB (i+1) (jss.drop (i+1)) q=some pss',fun σ2 H2 ⟨f2,q2,z2,r2⟩=>⟨jss.length-(i+1),by omega,rfl,hlt,f2,q2,z2,r2⟩,fun x H2 y=>?_⟩;obtain⟨s2,T,xs,ex,hT,w,r1,exs,rw1,w2,r2,er1,rw2,er2⟩:=yl x H2 y;subst ex exs er1 er2;cases (show w=.int i from rw1);have z2:=zq.grow s2;have hl':σ'.length=σ.length:=fr.1
   have g:∀j,j≠2->j≠3->((σ'.set 2 (some (.int i))).set 3 (some w2))[j]?=σ'[j]?:=fun j h2 h3=>by
    rw[Lx (MU h3),Lx (MU h2)]
   refine⟨T,_,rfl,tq hT,rfl,_,_,rfl,_,_,rfl,rfl,B1,H1,a,bs,i,js,w2,q,q1,?_,?_,?_,by simp[hl'];exact hl,rw2,z2,ep,fun σ3 H3 fr3 z3=>⟨⟨by rw[fr3.1];simp[hl'],fun j hj=>?_⟩,q1,z3,eq2⟩⟩
   ·rw[g 1 (by decide) (by decide),fr.2 1 (by decide)]
    exact e1
   ·rw[Lx (by decide),Lr (by omega)]
   ·rw[Lr (by rw[Ny];omega)]
   ·have hj:j≠2/\j≠3/\j≠4:=by simpa using hj
    rw[fr3.2 j (by simpa using hj.2.2),g j hj.1 hj.2.1];exact fr.2 j (by simpa using hj)
  ·have e:i=jss.length:=by omega
   subst e;rw[Ng] at eq;cases eq;exact .inl ⟨stp (by rw[LA,iE,LA]),cont σ' H' fr (zq.base (z.kp.trans (Same.kp s1)))⟩
theorem tj{a1 a2 a3:Stmt}{nt:Nat}{idx:List Nat}{h:Tgt}(h1:PS C.X a1 (Ab C 1 nt idx h (itF (getV 0))))(hh:∀p,∃ρ1,∀ρ:PSt,h p (ba nt idx ρ)=some ρ1)
  (h2:PS C.X a2 (fun D σ H=>∃(B1 H0:Hp)(a:Addr)(bs:List Addr)(jss:List (List Int))(v:V)(pss pss':List (List Int)),σ[0]?=some (some v)/\σ[1]?=some (some (.ref a))/\4<σ.length/\Rep C.X.K H (.lst (jss.map jP)) v/\Zb B1 H0 H a bs pss/\allB 0 jss pss=some pss'/\
   ∀σ' H',Fr σ σ' [2,3,4]->Zb B1 H0 H' a bs pss'->D.nx σ' H'))
  (h3:PS C.X a3 (fun D σ H=>∃(B1 H0:Hp)(a:Addr)(bs:List Addr)(pss:List (List Int)),σ[1]?=some (some (.ref a))/\Zb B1 H0 H a bs pss/\B1 a=none/\∀v H',Same B1 H'->Rep C.X.K H' (.lst (pss.map jP)) v->D.rt v H')):SVs C [a1,a2,a3] pbF:=by
 intro KW s σ H D I ⟨ρ,B,S,q⟩;unfold pbF at q;split at q
 ·rename_i fs e0
  split at q
  ·rename_i jss ej
   split at q
   ·rename_i hz
    split at q
    ·rename_i pss ea
     have q:∀v H',Same B.1 H'->Rep C.X.K H' (.lst (pss.map jP)) v->D.rt v H':=q;have hf:=wj ej;obtain⟨v,ev,rv⟩:=S.vw 0 _ e0;have hl:σ.length=5:=by rw[← S.len];exact hz.2
     refine(fC h1 (fC h2 (fC h3 ny))) KW s σ H D I ?_;refine⟨[.val (.lst fs)],⟨fun i l e=>?_,S.vw.tb⟩,fs,rfl,fun p _=>?_,by rw[Ly];exact hz.1,fun H1 a bs s1 na ls bl bo=>?_⟩
     ·match i,e with
      | 0,e=>cases e;exact⟨v,ev,rv⟩
     ·obtain⟨ρ1,k⟩:=hh p
      exact⟨ρ1,k _⟩
     ·have pb:PB H1 a bs (M3 fs.length []):=⟨ls,by rw[bl,My],fun i b l e1 e2=>by
       have:=List.mem_replicate.mp (LM e2);rw[this.2];exact(bo b (LM e1)).2⟩
      refine⟨B.1,H1,a,bs,jss,v,_,pss,?_,?_,by simp[hl],?_,⟨S.same.trans s1,Kp.refl H1,s1.tabs S.vw.tb,pb,fun c hc=>S.same.free (bo c hc).1⟩,ea,fun σ' H' fr z=>?_⟩
      ·rw[Lx (by decide)];exact ev
      ·rw[Lr (by omega)]
      ·have:=rv.same s1
       rw[hf] at this;exact this
      ·refine⟨B.1,H1,a,bs,pss,?_,z,S.same.free na,q⟩
       rw[fr.2 1 (by decide),Lr (by omega)]
    ·exact LJ q
   ·exact LJ q
  ·exact LJ q
 ·exact LJ q
end
end PU
namespace PU
open PySem PySem.Spec PyProof.Rows L2 PySem.SeqAt
def zy:PV->Option (List PV)
 | .lst ps=>some ((rV ps).map .tup)
 | _=>none
def CI(f:PSt->R PV):PSt->R (List PV):=fun ρ=>f ρ >>= fun p=>R.ofO (zy p)
variable[TW]
theorem CL {C:Cn} {e:Expr} {elts:List Expr} {kk:Nat} {tp p pos:NJ} {f:PSt->R PV} (hg:Gl C.X "enumerate") (hm:C.X.mg "enumerate"=none) (he:EO C e f) (hs:Lc [e] C.X.env=[(false,MS e C.X.env)]:=by exact bj rfl) :
  EIS C (.Tuple elts kk tp) (.Call (.Name "enumerate" p) [e] [] pos) (CI f):=by
 intro KW s σ H Rk I ⟨ρ,vw,q⟩
 refine Call_ (jE I hg hm gV (ML (thn ((bM he fT hs) pos KW s σ H (fun vs H'=>∃v p ps,vs=[v]/\Same H H'/\aN C.X.K H' p v/\zy p=some ps/\∀J H2,Same H' H2->ItS C.X.K J H2 ps->Rk J H2) I ⟨ρ,vw,q.bind.imp fun p _ k v H' s' r=>?_⟩)
  fun us s1 ⟨vs,H1,I1,r1,v,p,ps,ev,sm,rp,ep,k⟩=>?_) hs rfl))
 ·obtain⟨ps,ep,k⟩:=k.ofO
  exact⟨v,p,ps,rfl,s',r,ep,fun J H2 s2 it=>k J H2 (s'.trans s2) it⟩
 ·subst ev
  obtain⟨u,rfl,ru⟩:=vals1 r1;have hne:s1.heap.objs.size+1≠s1.heap.objs.size:=Pi _;cases p with
  | lst qs=>
   cases ep;obtain⟨a,xs,rfl,g,rr⟩:=rp;cases ru;obtain⟨its,rv,pl,hz⟩:=I1.list g.l;have ha:a<s1.heap.objs.size:=by obtain⟨o,n,ho,_⟩:=pl;exact LF ho
   refine call_enumerate_list pl.isList fun h' he' hi' hsz hk=>Oo he' ?_;have I2:L2.Inv C.X KW σ H1 { s1 with heap:=h' }:=I1.kept (t':=s1.toks) hk;refine⟨_,_,_,_,H1,rfl,I2,lT a s1.heap.objs.size (s1.heap.objs.size+1) xs hne (LO (NA ha)) (LO ha),⟨⟨_,he'⟩,hi'⟩,fun b hb=>?_,k _ H1 (Same.refl H1) fun i H2 k2=>?_⟩
   ·have hb:s1.heap.objs.size<=b:=by
     simp only[LR,Mk,or_false] at hb;rcases hb with rfl | rfl
     ·exact Oy _
     ·exact LX _
    exact I1.fpOk hb (I1.hok.fresh hb)
   ·have gd:SqL C.X.K H2 a xs:=(Same.sqO k2 g).l
    have hl:=rr.length;refine⟨fun h=>⟨by rw[LA,iE] at h;omega,gd⟩,fun q e=>?_⟩;rw[LC] at e;obtain⟨qq,hp,rfl⟩:=LB.mp e
    have hi:i<xs.length:=by
     have:=(L4.mp hp).1;rw[iE] at this;omega
    refine⟨⟨hi,gd⟩,fun x H3 ⟨T,ys,ex,nT,ey,eH⟩=>?_⟩;subst ex eH;refine⟨Same.new nT,T,ys,rfl,ai,?_⟩;exact(au.kp (Same.kp k2) qq (nK rr i qq ys hp ey)).same (Same.new nT)
  | _=>cases ep
section
variable{C : Cn}{elt tg iter : Expr}{ifs : List Expr}{scope : Scope}{pos : NJ}{N' : List Str}{nt : Nat}{idx : List Nat}{fi : PSt → R (List PV)}{h : Tgt}{t : PSt → R Bool}{fe : PSt → R PV}
theorem yx(i:Nat){x:Str}{px:NJ}{spos:NJ}(hN:C.X.N.Nodup)(O:CompOk C.X.N C.X.env.scope scope N' nt idx)(hi:EIS C tg iter fi)
  (hg:∀cl L s H fp,TCt (bY C N' scope cl L s H fp) tg h) (he:∀cl L s H fp,EV (bY C N' scope cl L s H fp) elt fe)
  (hsw:OB (.ListComp elt [⟨tg,iter,ifs,0⟩] scope pos) (some (.Name x px)) spos.line C.X.env=pure true:=by rfl)
  (hs:∀x,NK iter C.X.env x=pure x:=by intro _;rfl)
  (hf:C.X.fn x=true\/C.X.env.scope.names.lookup x=some .local:=by first | exact .inl rfl | exact .inr rfl | assumption) (hc:C.X.calm=true:=by rfl) (hlow:yb nt h:=by repeat' (first | exact qH | exact jU (by decide) | apply qG | apply nN)) (ht:∀cl L s H fp,ETs (bY C N' scope cl L s H fp) ifs t:=by exact fun _ _ _ _ _=>qW) (hi':C.X.N[i]?=some x:=by rfl) (hx:Loc C.X.env.scope x:=by first | exact .inl rfl | exact .inr rfl) :
  SV C (.Assign [.Name x px] (.ListComp elt [⟨tg,iter,ifs,0⟩] scope pos) spos) (lH i (ff fi h t fe nt idx)):=by
 intro KW s σ H D I ⟨ρ,B,S,q⟩;rw[QH _ _ _ _ hsw];refine L1 (Qm (L1 ?_));show LY _ C.X.A (do let _<- SW (.ListComp elt [⟨tg,iter,ifs,0⟩] scope pos) scope C.X.env _ (Ro []) false (MS iter C.X.env) (some (P5 (.Name x px) C.X.env))) _ _ s
 refine L1 (N8 (OX (use:=some (P5 (.Name x px) C.X.env)) (Q:=fun _ s'=>SP C.X KW D .next s') rfl hs (bz fun y hy hk=>I.ok.has y.1 (O.free y hy hk)) O.kind O.names ?_)
  (fun _ s' hq=>L9 (L9 hq)) fun _ _ e=>e)
 have q':RS C B D (ff fi h t fe nt idx ρ >>= fun p=>.ok (.next (ρ.set i (.own p)))):=q
 refine thn (hi KW s σ H (fun J H'=>∃ps qs,Same H H'/\ItS C.X.K J H' ps/\bL h t fe (ba nt idx ρ) ps=.ok qs/\qs.length<=sizeLine/\∀σ' H'',StOk C.X.K B H'' σ' (ρ.set i (.own (.lst qs)))->D.nx σ' H'') I
  ⟨ρ,S.vw,(RS.bind' (g:=.own) q' S.same).imp fun ps _ k J H' s' ip=>?_⟩) fun v s1 h1=>thn h1 fun itv s2 h2=>?_
 ·obtain⟨qs,e1,z,k⟩:=k
  exact⟨ps,qs,s',ip,e1,z,k⟩
 ·obtain⟨it,fp,tn,J,H2,e,I2,T,st2,f2,ps,qs,sm,ip,e1,hz,k⟩:=h2
  subst e;refine uh O hc hg hlow ht he I2 T st2 f2 (S.vw.same sm) ip e1 hz fun Da L σ' H' s' xs I' sm' nD hD rp hL=>?_;obtain⟨m,⟨o,es,ep,ho,hrest⟩,_⟩:=id I'.loc;have IB:=iU I2 f2 I';have nL:L≠C.X.env.locals:=MQ (LQ I2.lt hL)
  have nC:∀x c,C.X.env.cells.lookup x=some c->c≠L:=fun x c ec z=>by
   obtain⟨v,qc⟩:=I2.cell x c ec;have z:c=L:=z;exact M6 _ (LQ (z▸qc.lt) hL)
  have nP:∀p∈C.X.pn++KW,p.1≠L:=fun p hp z=>by
   have z:p.1=L:=z;exact M6 _ (LQ (z▸LF (I2.pin p hp).1) hL)
  have IP:Inv C.X (KW++[(L,o)]) σ H' s':=IB.pins_of fun p hp=>by
   rcases Lh.mp hp with z | z
   ·exact IB.pin p (La _ z)
   ·have:p=(L,o):=by simpa using z
    subst this;exact⟨ho,I'.free,nL,I2.nofs hL,fun v z=>by rw[hrest.1] at z;cases z⟩
  refine thn (gf hN hi' hx hf (KW++[(L,o)]) s' σ H' (.ref Da) (.ref Da) (fun σ4 H4=>σ4=σ.set i (some (.ref Da))/\H4=H') IP rfl ⟨rfl,rfl⟩) fun _ s4 ⟨σ4,H4,I4,e4,e5⟩=>?_;have hp:=I4.pin (L,o) (by simp);have IU:Inv C.X KW σ4 H4 s4:=I4.unpinned;refine⟨m,⟨o,es,ep,hp.1,hrest⟩,fun h' sb=>⟨σ4,H4,iT IU hp.2.1 nL (MC I2.sz hL) nC nP sb,?_⟩⟩;subst e4 e5;exact k _ _ (S.setN (sm.trans sm') (sm.free nD) ⟨xs,hD,rp⟩)
end
end PU
namespace PU
open PySem PySem.Spec PyProof.Rows L2 PySem.SeqAt
theorem yd{M:Model}{A:Ls}{E:L3->L6->Prop}{s:L6}{a:Addr}{Q:Option Mi->L6->Prop}(q:Q (s.heap.get? a) s):LY M A (loadIfAlive a) Q E s:=fun Γ p hΓ=>by
 unfold loadIfAlive;rw[Sem.wp_loadIfAlive];exact L9 (M:=M) (A:=A) q Γ p hΓ
abbrev ItH(h:Heap)(it d a:Addr)(f:Bool)(i n ep:Nat)(ok ov:L3):Prop:=
 h.get? it=some { cls:=.type "dict_itemiterator",dict:=none,data:=.fields #[ON a,.bool f,.ref d,.int i 0,.int n 0,.int ep 0,ok,ov],slots:=#[] }
section
variable{prog : Lf}{w : Ln}{K : Type}[DecidableEq K]{knd : KeyKind prog w K}{A : Ls}{E : L3 → L6 → Prop}{s : L6}
theorem BX{it d a:Addr}{f:Bool}{i ep:Nat}{kvs:List (K×L3)}{k:K}{v ok ov:L3}{oa:Mi}{Q:Option L3->L6->Prop}(hI:ItH s.heap it d a f i kvs.length ep ok ov)(ha:s.heap.get? a=some oa)(hai:a≠it)
  (hm:s.heap.DictAt knd d kvs ep) (hx:kvs[i]?=some (k,v))
  (hQ:∀key h',knd.is k key=true->ItH h' it d a true (i+1) kvs.length ep ok ov->h'.get? s.heap.objs.size=some { cls:=.type "tuple",data:=.seq #[key,v] }->h'.objs.size=s.heap.objs.size+1->
   (∀b o,b≠it->s.heap.get? b=some o->h'.get? b=some o)->Q (some (.ref s.heap.objs.size)) { s with heap:=h' }) :
  LY (Ll prog w) A (P4 (.ref it)) Q E s:=by
 obtain⟨h0,g,dr,tk,os⟩:=s;obtain⟨od,es,e1,e2,e3,e4,pr,e5⟩:=id hm;have tI:Q9 ⟨h0,g,dr,tk,os⟩ (.ref it) "dict_itemiterator":=⟨_,hI,rfl⟩;have ow:Pl "dict_itemiterator"=true:=by decide
 have sz:es.size=kvs.length:=by rw[← pr.length];simp
 have lt1:i<kvs.length:=(L4.mp hx).1;have lt2:i<es.size:=by omega
 obtain⟨kq,vq⟩:=pr.get? (e:=es[i]) (by simp[lt2]) hx;unfold P4;refine L1 (wpAny_attempt (Nq (name:=LI "__next__") tI NG (OO NG tI Q3 ?_ (Px _))));refine L1 (L9 (L1 (L1 ?_)))
 first | refine L1 (Np tI (L9 (L1 (QQ hI rfl ?_)))) | refine L1 (OR tI (L9 (L1 (QQ hI rfl ?_))))
 simp only[ow,if_true];show LY _ _ (if (M1 d == Mo)=true then _ else _) _ _ _;rw[if_neg (show ¬ ((M1 d == Mo)=true) from LK)];refine L1 (L9 (L1 (OE e1 e3 ?_)));rw[if_neg (by rw[sz];simp)];refine L1 (L9 (L1 (QD e1 e3 ?_)));rw[if_neg (by simp)];refine L9 ?_;simp only[show ¬ ((i:Int)<0) from by omega,if_false,O7,Mt lt2];refine L1 ?_
 first | refine L1 (Np tI (L9 (L1 (Oq tI ?_)))) | refine L1 (OR tI (L9 (L1 (Oq tI ?_))))
 show LY _ _ (setField (.ref it) 3 (ON ((i:Int)+1)) >>= _) _ _ ⟨h0,g,dr,tk,os⟩;refine L1 (wpAny_setField_rec hI (by simp) fun h1 f1 s1=>?_);have s1:OG it h0 h1:=s1
 have f1:ItH h1 it d a f (i+1) kvs.length ep ok ov:=by
  have e:((i+1:Nat):Int)=(i:Int)+1:=by omega
  unfold ItH;rw[e];simpa [ON] using f1
 have t1:Q9 ⟨h1,g,dr,tk,os⟩ (.ref it) "dict_itemiterator":=⟨_,f1,rfl⟩;refine L1 (Mj (L1 (Oq t1 (L1 (Oq t1 ?_)))));show LY _ _ (PL (.ref it) 6 es[i].key es[i].val) _ _ ⟨h1,g,dr,tk,os⟩;unfold PL;refine L1 (wpAny_newTuple ?_);have z1:h1.objs.size=h0.objs.size:=s1.1;have il:it<h0.objs.size:=LF hI;have f2:ItH (h1.push { cls:=.type "tuple",data:=.seq #[es[i].key,es[i].val] }) it d a f (i+1) kvs.length ep ok ov:=L5 _ f1;have a2:(h1.push { cls:=.type "tuple",data:=.seq #[es[i].key,es[i].val] }).get? a=some oa:=L5 _ (s1.extBut a oa hai ha);have t2:(h1.push { cls:=.type "tuple",data:=.seq #[es[i].key,es[i].val] }).get? h0.objs.size=some { cls:=.type "tuple",data:=.seq #[es[i].key,es[i].val] }:=by rw[← z1];exact LZ _ rfl
 have z2:(h1.push { cls:=.type "tuple",data:=.seq #[es[i].key,es[i].val] }).objs.size=h0.objs.size+1:=by rw[OZ,z1]
 have k2:∀b o,b≠it->h0.get? b=some o->(h1.push { cls:=.type "tuple",data:=.seq #[es[i].key,es[i].val] }).get? b=some o:=fun b o hb e=>L5 _ (s1.extBut b o hb e);rw[z1];show LY _ _ (P8 (.ref it) >>= _) _ _ ⟨h1.push { cls:=.type "tuple",data:=.seq #[es[i].key,es[i].val] },g,dr,tk,os⟩;generalize h1.push { cls:=.type "tuple",data:=.seq #[es[i].key,es[i].val] }=h2 at f2 a2 t2 z2 k2 ⊢;refine L1 ?_;unfold P8;refine L1 (QR f2 rfl (x:=ON a) rfl ?_);show LY _ _ (loadIfAlive (a:Int).toNat >>= _) _ _ _;rw[O7];refine L1 (yd ?_);show LY _ _ (if (Option.isNone (h2.get? a))=true then _ else _) _ _ _;rw[a2];rw[if_neg (by simp)];refine L1 (QR f2 rfl (x:=.bool f) rfl ?_)
 have last:∀h3,ItH h3 it d a true (i+1) kvs.length ep ok ov->OG it h2 h3\/h3=h2->Q (some (.ref h0.objs.size)) ⟨h3,g,dr,tk,os⟩:=fun h3 f3 s3=>by
  have kk:∀b o,b≠it->h2.get? b=some o->h3.get? b=some o:=fun b o hb e=>by
   rcases s3 with s3 | rfl
   ·exact s3.extBut b o hb e
   ·exact e
  refine hQ es[i].key h3 kq f3 ?_ ?_ fun b o hb e=>kk b o hb (k2 b o hb e)
  ·rw[← vq];exact kk _ _ (MQ il) t2
  ·show h3.objs.size=h0.objs.size+1
   rcases s3 with s3 | rfl
   ·rw[s3.1,z2]
   ·exact z2
 cases f with
 | true=>
  show LY _ _ (if (Oh true != Oh true)=true then _ else _) _ _ _;rw[if_neg (by decide)];refine L9 ?_;show LY _ _ (if false=true then _ else _) _ _ _;rw[if_neg LK];exact L9 (L9 ⟨_,rfl,L9 (last h2 f2 (.inr rfl))⟩)
 | false=>
  show LY _ _ (if (Oh false != Oh true)=true then _ else _) _ _ _;rw[if_pos (by decide)];refine L1 (wpAny_setField_rec f2 (by simp) fun h3 f3 s3=>L9 ?_);show LY _ _ (if false=true then _ else _) _ _ _;rw[if_neg LK];exact L9 (L9 ⟨_,rfl,L9 (last h3 f3 (.inl s3))⟩)
theorem C5{it d a:Addr}{f:Bool}{i ep:Nat}{kvs:List (K×L3)}{ok ov:L3}{Q:Option L3->L6->Prop}(hh:A.handled=none)(hI:ItH s.heap it d a f i kvs.length ep ok ov)(hm:s.heap.DictAt knd d kvs ep)(hx:kvs[i]?=none)
  (hQ:∀h',Ou it s.heap h'->Q none { s with heap:=h' }):LY (Ll prog w) A (P4 (.ref it)) Q E s:=by
 obtain⟨od,es,e1,e2,e3,e4,pr,e5⟩:=id hm;have tI:s.TypeIs (.ref it) "dict_itemiterator":=⟨_,hI,rfl⟩;have ow:Pl "dict_itemiterator"=true:=by decide
 have sz:es.size=kvs.length:=by rw[← pr.length];simp
 have ge:es.size<=i:=by rw[sz];simpa using hx
 unfold P4;refine L1 (wpAny_attempt (Nq (name:=LI "__next__") tI NG (OO NG tI Q3 ?_ (Px _))));refine L1 (L9 (L1 (L1 ?_)))
 first | refine L1 (Np tI (L9 (L1 (QQ hI rfl ?_)))) | refine L1 (OR tI (L9 (L1 (QQ hI rfl ?_))))
 simp only[ow,if_true];show LY _ _ (if (M1 d == Mo)=true then _ else _) _ _ _;rw[if_neg (show ¬ ((M1 d == Mo)=true) from LK)];refine L1 (L9 (L1 (OE e1 e3 ?_)));rw[if_neg (by rw[sz];simp)];refine L1 (L9 (L1 (QD e1 e3 ?_)));rw[if_neg (by simp)];refine L9 ?_;simp only[show ¬ ((i:Int)<0) from by omega,if_false,O7,Array.getElem?_eq_none ge];refine L1 ?_
 first | refine L1 (Np tI (L9 ?_)) | refine L1 (OR tI (L9 ?_))
 show LY _ _ (setField (.ref it) 2 .none >>= _) _ _ s;refine L1 (wpAny_setField hI rfl (by simp) ?_);show LY _ _ (newExc (.type "StopIteration") [] >>= _) _ _ _;refine L1 ?_;simp only[newExc,newTuple];refine L1 (Mu ?_ (by size_fits));refine L1 (m:=firstArgMember _ _) (wpAny_of_eq (a:=Mo) (by first | rfl | (simp only[firstArgMember];rfl)) (Mu ?_ (by size_fits)));simp only[raiseNew];refine L1 (wpAny_handled ?_);rw[show A.in1.handled=none from hh];refine L1 (L9 (wpAny_throw ?_));refine L1 (Pz (T:="StopIteration") (b:=true) ⟨_,LZ _ rfl,rfl⟩ isSubtype_stop ?_);exact L9 (hQ _ (((Heap.SameBut.update ..).extBut.push _).push _))
structure LiT(knd:KeyKind prog w K)(h:Heap)(S it:Addr)(kvs:List (K×L3))(i:Nat)(Ts:List Addr)(c:Nat):Prop where
 len:Ts.length=i
 li:h.get? S=some { cls:=.type "list",data:=.seq (Ts.map M1).toArray c }
 tu:∀(j:Nat) (T:Addr) (k:K) (v:L3),Ts[j]?=some T->kvs[j]?=some (k,v)->∃key,knd.is k key=true/\h.get? T=some { cls:=.type "tuple",data:=.seq #[key,v] }
 nS:∀T∈Ts,T≠S/\T≠it
 lo:∀T∈Ts,S<T
 nd:Ts.Nodup
 al:∀T∈Ts,∃o,h.get? T=some o
theorem Ca(knd:KeyKind prog w K){S it d:Addr}{kvs:List (K×L3)}{ep:Nat}{R:RZ->L6->Prop}(hSI:S≠it)(hSd:d≠S)(hId:d≠it)(hz:kvs.length<=sizeLine)(hh:A.handled=none)(res:L3)(keep:Heap->Prop)
  (hk:∀h h',keep h->(∀b o,b≠S->b≠it->h.get? b=some o->h'.get? b=some o)->keep h')
  (fin:∀h tk Ts c,keep h->LiT knd h S it kvs kvs.length Ts c->R (.ok (.ret res)) { s with heap:=h,toks:=tk }):∀(m i:Nat)(h:Heap)(tk:Nat)(Ts:List Addr)(c:Nat),kvs.length-i=m->i<=kvs.length->keep h->LiT knd h S it kvs i Ts c->h.DictAt knd d kvs ep->
  ((i=0/\IsItemIter h it d 0 kvs.length ep .none .none)\/∃a f ok ov,a∈Ts/\ItH h it d a f i kvs.length ep ok ov)->
  OF (Ll prog w) A (.builtin "list.extend.loop" ⟨[.ref S,.ref it,res],[]⟩) R { s with heap:=h,toks:=tk }:=by
 intro m
 induction m with
 | zero=>
  intro i h tk Ts c hm hi kp L di st;have e:i=kvs.length:=by omega
  subst e;refine Nb R5 ?_;rw[Ol NU _];show LY _ A.in1 (P4 (.ref it) >>= _) _ _ _;have none_:kvs[kvs.length]?=none:=by simp
  have done:∀h',Ou it h h'->R (.ok (.ret res)) { s with heap:=h',toks:=tk }:=fun h' ex=>by
   refine fin h' tk Ts c (hk h h' kp fun b o _ hb e=>ex b o hb e) ⟨L.len,ex _ _ hSI L.li,fun j T k v e1 e2=>?_,L.nS,L.lo,L.nd,fun T hT=>?_⟩
   ·obtain⟨key,q1,q2⟩:=L.tu j T k v e1 e2
    exact⟨key,q1,ex _ _ (L.nS T (LM e1)).2 q2⟩
   ·obtain⟨o,e⟩:=L.al T hT
    exact⟨o,ex _ _ (L.nS T hT).2 e⟩
  rcases st with⟨h0,st⟩|⟨a,f,ok,ov,_,st⟩
  ·rw[h0] at none_
   exact L1 (wpAny_pyNext_items_end (s:={ s with heap:=h,toks:=tk }) (A:=A.in1) hh st di none_ fun h' ex=>L9 (done h' ex))
  ·exact L1 (C5 (s:={ s with heap:=h,toks:=tk }) (A:=A.in1) hh st di none_ fun h' ex=>L9 (done h' ex))
 | succ m ih=>
  intro i h tk Ts c hm hi kp L di st;have hlt:i<kvs.length:=by omega
  obtain⟨k,v,ekv⟩:∃k v,kvs[i]?=some (k,v):=⟨_,_,LU hlt⟩;have hSl:S<h.objs.size:=LF L.li
  have hIl:it<h.objs.size:=by
   rcases st with⟨_,st⟩|⟨a,f,ok,ov,_,st⟩
   ·exact LF st
   ·exact LF st
  have nx:∀(E':L3->L6->Prop) (Q:Option L3->L6->Prop),(∀key h' a f ok ov,knd.is k key=true->a∈Ts++[h.objs.size]->ItH h' it d a f (i+1) kvs.length ep ok ov->h'.get? h.objs.size=some { cls:=.type "tuple",data:=.seq #[key,v] }->(∀b o,b≠it->h.get? b=some o->h'.get? b=some o)->
    Q (some (.ref h.objs.size)) { s with heap:=h',toks:=tk })->LY (Ll prog w) A.in1 (P4 (.ref it)) Q E' { s with heap:=h,toks:=tk }:=fun E' Q hQ=>by
   rcases st with⟨h0,st⟩|⟨a,f,ok,ov,ma,st⟩
   ·subst h0
    exact wpAny_pyNext_items_item (s:={ s with heap:=h,toks:=tk }) st di ekv fun key h' q1 q2 q3 _ q5=>hQ key h' h.objs.size false key v q1 (by simp) q2 q3 q5
   ·obtain⟨oa,ea⟩:=L.al a ma
    exact BX (s:={ s with heap:=h,toks:=tk }) st ea (L.nS a ma).2 di ekv fun key h' q1 q2 q3 _ q5=>hQ key h' a true ok ov q1 (by simp[ma]) q2 q3 q5
  refine Nb R5 ?_;rw[Ol NU _];show LY _ A.in1 (P4 (.ref it) >>= _) _ _ _;refine L1 (nx _ _ fun key h' a f ok ov kq ma st' tq kk=>?_);have hS':=kk S _ hSI L.li;have nT:h.objs.size≠S/\h.objs.size≠it:=⟨MQ hSl,MQ hIl⟩;have sz:((Ts.map M1).toArray).size=i:=by simp[L.len]
  show LY _ A.in1 (updateSeq S (·.push (.ref h.objs.size)) >>= _) _ _ _;refine L1 ?_;refine O8 hS' rfl (L9 ⟨Po NU _,?_⟩) (by rw[sz];omega) (by rw[Array.size_push,sz];omega);have up:∀b o,b≠S->h'.get? b=some o->(h'.update S (Lu (·.push (.ref h.objs.size)))).get? b=some o:=fun b o hb e=>(MW _ _ (MU hb)).trans e;obtain⟨c',u⟩:∃c',(h'.update S (Lu (·.push (.ref h.objs.size)))).get? S=some { cls:=.type "list",data:=.seq ((Ts.map M1).toArray.push (.ref h.objs.size)) c' }:=⟨_,Mx _ hS' rfl⟩;rw[show (Ts.map M1).toArray.push (.ref h.objs.size)=((Ts++[h.objs.size]).map M1).toArray by simp] at u;have old:∀T∈Ts,∀o,h.get? T=some o->(h'.update S (Lu (·.push (.ref h.objs.size)))).get? T=some o:=fun T hT o e=>up T o (L.nS T hT).1 (kk T o (L.nS T hT).2 e);refine ih (i+1) _ tk (Ts++[h.objs.size]) c' (by omega) hlt (hk h _ kp fun b o h1 h2 e=>up b o h1 (kk b o h2 e)) ⟨by simp[L.len],u,fun j T k' v' e1 e2=>?_,fun T hT=>?_,fun T hT=>?_,?_,fun T hT=>?_⟩ ?_ (.inr ⟨a,f,ok,ov,ma,up it _ (MU hSI) st'⟩)
  ·rw[SQ] at e1
   split at e1
   ·obtain⟨key',q1,q2⟩:=L.tu j T k' v' e1 e2
    exact⟨key',q1,old T (LM e1) _ q2⟩
   ·have hj:=LH.mp (LM e1)
    have hj2:j-Ts.length=0:=by
     have:=(L4.mp e1).1;simp at this;omega
    have hj3:j=i:=by have:=L.len;omega
    subst hj hj3;rw[ekv] at e2;cases e2;exact⟨key,kq,up _ _ nT.1 tq⟩
  ·rcases Lh.mp hT with z | z
   ·exact L.nS T z
   ·rw[LH.mp z];exact nT
  ·rcases Lh.mp hT with z | z
   ·exact L.lo T z
   ·rw[LH.mp z];exact hSl
  ·rw[MI]
   refine⟨L.nd,by simp,fun T hT T' hT' e=>?_⟩;obtain⟨o,eo⟩:=L.al T hT;rw[e,LH.mp hT'] at eo;exact absurd (LF eo) (M6 _)
  ·rcases Lh.mp hT with z | z
   ·obtain⟨o,e⟩:=L.al T z
    exact⟨o,old T z o e⟩
   ·rw[LH.mp z];exact⟨_,up _ _ nT.1 tq⟩
  ·obtain⟨o,es,ho,r⟩:=di
   exact⟨o,es,up d o hSd (kk d o hId ho),r⟩
end
end PU
namespace PU
open PySem PySem.Spec PyProof.Rows L2 PySem.SeqAt
theorem lJ:isSubtype (.type "dict_items") (.type "dict_items")=pure true:=by rw[isSubtype_type];kernel_rfl
section
variable{P : Lf}{w : Ln}{A : Ls}{E : L3 → L6 → Prop}{s : L6}{d v : Addr}{kvs : List (Key×L3)}{ep : Nat}
theorem nO{Q:L3->L6->Prop}(hh:A.handled=none)(hv:s.heap.IsItemsView v d)(m:s.heap.DictAt (ah P w) d kvs ep)(hz:kvs.length<=sizeLine)
  (q:∀(h':Heap) (tk:Nat) (it:Addr) (Ts:List Addr) (c:Nat),(∀b o,s.heap.get? b=some o->h'.get? b=some o)->LiT (ah P w) h' s.heap.objs.size it kvs kvs.length Ts c->Q (.ref s.heap.objs.size) { s with heap:=h',toks:=tk }):LY (Ll P w) A (call (.type "list") [.ref v]) Q E s:=by
 have ld:d<s.heap.objs.size:=by obtain⟨o,es,ho,_⟩:=m;exact LF ho
 have lv:v<s.heap.objs.size:=by obtain⟨o,ho,_⟩:=hv;exact LF ho
 refine QS (Q₁:=fun obj s₁=>obj=.ref s.heap.objs.size/\s₁={ s with heap:=s.heap.push { cls:=.type "list",data:=.seq #[] } }) Rp (RE _) RJ (code_list_new _ ⟨rfl,rfl⟩) fun obj s₁ h₁=>?_;obtain⟨rfl,rfl⟩:=h₁;have g0:(s.heap.push { cls:=.type "list",data:=.seq #[] }).get? s.heap.objs.size=some { cls:=.type "list",data:=.seq #[] }:=LZ _ rfl;refine⟨⟨_,g0,rfl⟩,RA _ _,?_⟩;show LY _ _ (do let old<- OJ (.ref s.heap.objs.size);Qk (.ref s.heap.objs.size) (fun _=>#[]);letGo old.toList.reverse;Mf (.ref s.heap.objs.size) (.ref v) .none) _ _ _;refine L1 ?_;unfold OJ;refine L1 (wpAny_seqItems g0 rfl (L9 ?_));show LY _ _ (updateSeq s.heap.objs.size (fun _=>#[]) >>= fun _=>letGo (#[]:Array L3).toList.reverse >>= fun _=>Mf (.ref s.heap.objs.size) (.ref v) .none) _ _ _;refine L1 (O8 g0 rfl ?_ (M0 _) (M0 _));have g1:=Mx (Lu (fun _=>(#[]:Array L3))) g0 rfl
 have k1:∀b o,s.heap.get? b=some o->((s.heap.push { cls:=.type "list",data:=.seq #[] }).update s.heap.objs.size (Lu (fun _=>(#[]:Array L3)))).get? b=some o:=
  fun b o e=>(MW _ _ (MQ (LF e))).trans (L5 _ e)
 have z1:((s.heap.push { cls:=.type "list",data:=.seq #[] }).update s.heap.objs.size (Lu (fun _=>(#[]:Array L3)))).objs.size=s.heap.objs.size+1:=by rw[Heap.size_update,OZ]
 refine L1 (wpAny_letGo ?_);generalize (s.heap.push { cls:=.type "list",data:=.seq #[] }).update s.heap.objs.size (Lu (fun _=>(#[]:Array L3)))=h1 at g1 k1 z1 ⊢
 have m1:h1.DictAt (ah P w) d kvs ep:=by
  obtain⟨o,es,ho,r⟩:=m;exact⟨o,es,k1 _ _ ho,r⟩
 have v1:h1.IsItemsView v d:=by
  obtain⟨o,ho,r⟩:=hv;exact⟨o,k1 _ _ ho,r⟩
 have t1:({ s with heap:=h1 }:L6).TypeIs (.ref v) "dict_items":=v1.typeIs;unfold Mf;refine L1 (NT (T:="dict_items") t1 ?_)
 have r1:Qb (.ref s.heap.objs.size) (.ref v)=false:=by
  show (s.heap.objs.size == v)=false;simpa using MQ lv
 have r2:(Nk "dict_items" == Nk "list")=false:=by decide
 have r3:(Nk "dict_items" == Nk "tuple")=false:=by decide
 simp only[r1,r2,r3,Rj,M9,if_false];refine L1 (wpAny_pyIter_items (knd:=ah P w) (s:={ s with heap:=h1 }) v1 m1 ?_);refine L1 (Mj ?_);obtain⟨itO,eO⟩:∃o:Mi,o={ cls:=.type "dict_itemiterator",data:=.fields #[.none,.bool false,.ref d,.int 0 0,.int kvs.length 0,.int ep 0,.none,.none] }:=⟨_,rfl⟩;rw[← eO]
 have m2:(h1.push itO).DictAt (ah P w) d kvs ep:=by
  obtain⟨o,es,ho,r⟩:=m1;exact⟨o,es,L5 _ ho,r⟩
 have v2:(h1.push itO).IsItemsView v d:=by
  obtain⟨o,ho,r⟩:=v1;exact⟨o,L5 _ ho,r⟩
 have t2:=(show ({ s with heap:=h1.push itO }:L6).TypeIs (.ref v) "dict_items" from v2.typeIs);unfold QL;refine L1 (wpAny_specialOf (T:="dict_items") (v:=.ref v) t2 PySem.F.slot_dict_items_len.lookup ?_)
 wp_delta
 refine L1 (Pz (T:="dict_items") (v:=.ref v) (b:=true) t2 lJ ?_);show LY _ _ (typeOf (M1 v) >>= _) _ _ _;refine L1 (NT (T:="dict_items") (v:=.ref v) t2 (L9 ?_));rw[if_pos (by decide)];refine L1 (Q5 (L1 ?_));unfold Qn;have nI:h1.objs.size≠s.heap.objs.size:=by rw[z1];exact Pi _
 have gL2:(h1.push itO).get? s.heap.objs.size=some _:=L5 _ g1;have gI2:(h1.push itO).get? h1.objs.size=some itO:=LZ _ (by rw[eO];rfl);have k2:∀b o,s.heap.get? b=some o->(h1.push itO).get? b=some o:=fun b o e=>L5 _ (k1 b o e);refine L1 (O8 gL2 rfl ?_ (M0 _) (by show 1<=_;rw[Ly];decide));have g3:=Mx (Lu (·.push Mo)) gL2 rfl;refine O8 g3 rfl ?_ (by show 1<=_;rw[Ly];decide) (M0 _);obtain⟨c4,g4⟩:∃c,(((h1.push itO).update s.heap.objs.size (Lu (·.push Mo))).update s.heap.objs.size (Lu (·.pop))).get? s.heap.objs.size=some { cls:=.type "list",data:=.seq #[] c }:=⟨_,Mx (Lu (·.pop)) g3 rfl⟩
 have k4:∀b ob,b≠s.heap.objs.size->(h1.push itO).get? b=some ob->(((h1.push itO).update s.heap.objs.size (Lu (·.push Mo))).update s.heap.objs.size (Lu (·.pop))).get? b=some ob:=fun b ob hb e=>
  (MW _ _ (MU hb)).trans ((MW _ _ (MU hb)).trans e)
 show LY _ _ _ _ _ { s with heap:=(((h1.push itO).update s.heap.objs.size (Lu (·.push Mo))).update s.heap.objs.size (Lu (·.pop))) };generalize ((h1.push itO).update s.heap.objs.size (Lu (·.push Mo))).update s.heap.objs.size (Lu (·.pop))=h4 at g4 k4 ⊢;have nd:d≠s.heap.objs.size:=LO ld;have ndI:d≠h1.objs.size:=by rw[z1];exact LO (NA ld)
 have m4:h4.DictAt (ah P w) d kvs ep:=by
  obtain⟨o,es,ho,r⟩:=m2;exact⟨o,es,k4 _ _ nd ho,r⟩
 have i4:IsItemIter h4 h1.objs.size d 0 kvs.length ep .none .none:=by
  have:=k4 _ _ nI gI2;rw[eO] at this;exact this
 refine L9 ⟨Po NU _,?_⟩
 refine Ca (A:=A.in1) (s:=s) (ah P w) (S:=s.heap.objs.size) (it:=h1.objs.size) (d:=d) (kvs:=kvs) (ep:=ep) (MU nI) nd ndI hz hh .none (fun h=>∀b o,s.heap.get? b=some o->h.get? b=some o)
  (fun h h' kp k b o e=>k b o (LO (LF e)) (by rw[z1];exact LO (NA (LF e))) (kp b o e)) (fun h tk Ts c kp L=>?_) kvs.length 0 h4 s.toks [] c4 rfl (M0 _) (fun b o e=>k4 b o (LO (LF e)) (k2 b o e)) ⟨rfl,g4,fun j T k v e=>by simp at e,by simp,by simp,by simp,by simp⟩ m4 (.inl ⟨rfl,i4⟩)
 exact⟨rfl,q h tk h1.objs.size Ts c kp L⟩
end
end PU
namespace PU
open PySem PySem.Spec PyProof.Rows L2 PySem.SeqAt
def o6:PV->Option PV
 | .dct ks ps=>if ks.length<=16777216 then some (.lst ((jC ks ps).map .tup)) else none
 | _=>none
theorem wz{X:Cx}{KW:List (Addr×Mi)}{σ:L2.St}{H H':Hp}{s:L6}{h':Heap}{t':Nat}(I:L2.Inv X KW σ H s)(k:∀b u,s.heap.get? b=some u->h'.get? b=some u)(low:∀b,b<s.heap.objs.size->H' b=H b)
  (new:∀b u,s.heap.objs.size<=b->H' b=some u->dw X.prog X.w H' h' b u):L2.Inv X KW σ H' { s with heap:=h',toks:=t' }:=by
 have at_:∀b u,H b=some u->H' b=some u:=fun b u e=>by rw[low b (I.hok.lt e)];exact e
 refine I.un ⟨fun b u q _ _ _=>k b u q,fun b u q _ _ _=>⟨u.slots,k b u q⟩,fun b u q n _=>by rw[low b (LF q)];exact n,fun b u q _=>⟨u,k b u q⟩,fun b xs q=>at_ _ _ q,fun b o u q=>at_ _ _ q,fun b ps q=>⟨#[],by rw[at_ _ _ q];simp⟩⟩ fun b u e=>?_
 by_cases hb:b<s.heap.objs.size
 ·rw[low b hb] at e
  exact(I.hok b u e).stay (fun c v _ q=>k c v q) (fun c q=>at_ _ _ q) fun c xs q=>at_ _ _ q
 ·exact new b u (Qz hb) e
def liH(H:Hp)(n0:Addr)(Ts:List Addr)(kvs:List (Key×V)):Hp:=fun b=>if b<n0 then H b else if b=n0 then some (.lst (Ts.map V.ref)) else ((Ts.zip kvs).lookup b).map fun kv=>.tup [kV kv.1,kv.2]
theorem md:∀(Ts:List Addr)(kvs:List (Key×V))(b:Addr)(kv:Key×V),(Ts.zip kvs).lookup b=some kv->∃j:Nat,Ts[j]?=some b/\kvs[j]?=some kv
 | [],_,_,_,e=>by simp at e
 | _::_,[],_,_,e=>by simp at e
 | T::Ts,kv0::kvs,b,kv,e=>by
  rw[OS,Lo] at e
  by_cases h:b=T
  ·subst h
   simp at e;exact⟨0,rfl,by simp[e]⟩
  ·rw[beq_false_of_ne h] at e
   obtain⟨j,h1,h2⟩:=md Ts kvs b kv e;exact⟨j+1,h1,h2⟩
theorem zV:∀(Ts:List Addr)(kvs:List (Key×V))(j:Nat)(b:Addr)(kv:Key×V),Ts.Nodup->Ts[j]?=some b->kvs[j]?=some kv->(Ts.zip kvs).lookup b=some kv
 | [],_,_,_,_,_,e,_=>by simp at e
 | _::_,[],_,_,_,_,_,e=>by simp at e
 | T::Ts,kv0::kvs,0,b,kv,_,e1,e2=>by
  cases e1;cases e2;rw[OS,Lo];simp
 | T::Ts,kv0::kvs,j+1,b,kv,nd,e1,e2=>by
  rw[Lq] at nd;have e1:Ts[j]?=some b:=e1;have h:b≠T:=fun z=>nd.1 (z▸LM e1);rw[OS,Lo,beq_false_of_ne h];exact zV Ts kvs j b kv nd.2 e1 e2
variable[TW]
theorem vb{K:L0}{H:Hp}:∀(ps:List PV)(xs:List V),ps.length=xs.length->(∀(i:Nat)(p:PV)(x:V),ps[i]?=some p->xs[i]?=some x->Rep K H p x)->au K H ps xs
 | [],[],_,_=>rfl
 | [],_::_,h,_=>by simp at h
 | _::_,[],h,_=>by simp at h
 | p::ps,x::xs,h,k=>⟨x,xs,rfl,k 0 p x rfl rfl,vb ps xs (by simpa using h) fun i q y e1 e2=>k (i+1) q y (by simpa using e1) (by simpa using e2)⟩
theorem x9 {C:Cn} {o:Expr} {fo:PSt->R PV} {p apos cpos pos:NJ} (hg:Gl C.X "list") (hm:C.X.mg "list"=none) (ho:EO C o fo) (hw:C.X.w=TW.w:=by rfl) (hc:C.X.calm=true:=by rfl)
  (hbase:OY o "items" C.X.env (MS o C.X.env)=MS o C.X.env:=by rfl) (hline:(apos.endLine == cpos.line)=true:=by rfl)
  (hs:Lc [.Call (.Attribute o "items" apos) [] [] cpos] C.X.env=[(false,MS (.Call (.Attribute o "items" apos) [] [] cpos) C.X.env)]:=by exact bj rfl) :
  EN C (.Call (.Name "list" p) [.Call (.Attribute o "items" apos) [] [] cpos] [] pos) (un1 fo o6):=by
 intro KW s σ H Q I ⟨ρ,vw,q⟩;refine Call_ (jE I hg hm (u:=.type "list") (by rfl) (ML ?_ hs rfl));rw[hs];refine Sa (wpAny_Call_method0_late hbase hline (thn (ho KW s σ H (fun v H1=>∃p,aN C.X.K H1 p v/\Same H H1/\RQ C H (R.ofO (o6 p)) fun p=>∀a H',Same H H'->H a=none->c5 C.X.K H' a p->Q (.ref a) H') I ⟨ρ,vw,q.bind.imp fun p _ k v H1 s1 r1=>⟨p,r1,s1,k⟩⟩) fun u s1 ⟨x,H1,I1,r1,p,ro,sm,k⟩=>?_));cases p with
 | dct ks ps=>
  obtain⟨a,kvs,rfl,g,e1,rr⟩:=ro;cases r1;obtain⟨z,ez,k⟩:=k.ofO;have ez:(if ks.length<=16777216 then some (PV.lst ((jC ks ps).map .tup)) else none)=some z:=ez
  by_cases hl:ks.length<=16777216
  ·rw[if_pos hl] at ez
   cases ez;obtain⟨hz,hd,vs,rel,od,es,ep,h1,h2,h3,rest⟩:=DkR.at hw I1 g;have dat:s1.heap.DictAt (ah C.X.prog C.X.w) a vs ep:=⟨od,es,h1,h2,h3,rest⟩;have dd:s1.heap.DictOf (ah C.X.prog C.X.w) a vs:=dat.dictOf;have lv:kvs.length=vs.length:=M5 rel;refine⟨"dict","dict.items",PH,RG,PySem.F.type_dict_items,dd.typeIs,dd.mapOf.noDict,Pg rfl (PySem.evalArgs_none ?_)⟩;refine Sx RG dd.typeIs PySem.F.entry_dict_items (PySem.F.args_dict_items_1 _) (meets_dict_items (ah C.X.prog C.X.w) a hd) ⟨⟨vs,dd⟩,?_⟩;refine Sh ?_;have I2:L2.Inv C.X KW σ H1 { s1 with heap:=s1.heap.push { cls:=.type "dict_items",data:=.fields #[.ref a] } }:=I1.kept (t':=s1.toks) fun b ob e=>L5 _ e;refine nO (P:=C.X.prog) (w:=C.X.w) (s:={ s1 with heap:=s1.heap.push { cls:=.type "dict_items",data:=.fields #[.ref a] } }) (I1.ok.hd hc) ⟨_,LZ _ rfl,rfl,rfl⟩ (dat.push _) (by omega) fun h' tk it Ts c keep L=>?_;generalize hn0:(s1.heap.push { cls:=.type "dict_items",data:=.fields #[.ref a] }).objs.size=n0 at *;have lo:∀b,b<n0->liH H1 n0 Ts kvs b=H1 b:=fun b hb=>if_pos hb
   have at0:liH H1 n0 Ts kvs n0=some (.lst (Ts.map V.ref)):=by
    unfold liH;rw[if_neg (M6 _),if_pos rfl]
   have atT:∀(j:Nat)(T:Addr)(kv:Key×V),Ts[j]?=some T->kvs[j]?=some kv->liH H1 n0 Ts kvs T=some (.tup [kV kv.1,kv.2]):=fun j T kv f1 f2=>by
    have hT:=L.lo T (LM f1);unfold liH;rw[if_neg (Pq.mpr (Pu hT)),if_neg (MQ hT),zV Ts kvs j T kv L.nd f1 f2];rfl
   have sm2:Same H1 (liH H1 n0 Ts kvs):=Same.of fun b ob e=>by
    have:b<n0:=by rw[← hn0];exact I2.hok.lt e
    rw[lo b this];exact e
   have I3:L2.Inv C.X KW σ (liH H1 n0 Ts kvs) { s1 with heap:=h',toks:=tk }:=by
    refine wz (s:={ s1 with heap:=s1.heap.push { cls:=.type "dict_items",data:=.fields #[.ref a] } }) I2 keep (fun b hb=>lo b (by rw[← hn0];exact hb)) fun b u hb e=>?_
    by_cases hb0:b=n0
    ·subst hb0
     rw[at0] at e;cases e;refine⟨by rw[LA,L.len];omega,Ts.map M1,c,?_,L.li⟩
     have:∀l:List Addr,Vals (l.map V.ref) (l.map M1):=by
      intro l
      induction l with
      | nil=>exact .nil
      | cons T l ih=>exact .cons rfl ih
     exact this Ts
    ·have hb1:¬ b<n0:=by rw[← hn0];exact Pq.mpr hb
     unfold liH at e;rw[if_neg hb1,if_neg hb0] at e;obtain⟨kv,el,rfl⟩:=LB.mp e;obtain⟨j,f1,f2⟩:=md Ts kvs b kv el;obtain⟨kv2,f3⟩:∃kv2,vs[j]?=some kv2:=⟨_,LU (by have:=(L4.mp f2).1;omega)⟩;obtain⟨g1,g2⟩:=m7 rel f2 f3;obtain⟨key,q1,q2⟩:=L.tu j b kv2.1 kv2.2 f1 f3;refine⟨by show 2<=sizeLine;rw[Ly];decide,[key,kv2.2],.cons (w9 (by rw[g1];exact q1)) (.cons g2 .nil),_,q2,rfl,⟨_,rfl⟩,fun _=>rfl⟩
   subst e1;have lps:ps.length=kvs.length:=by rw[rr.length,LA]
   have reps:au C.X.K (liH H1 n0 Ts kvs) ((jC (kvs.map (·.1)) ps).map PV.tup) (Ts.map V.ref):=by
    refine vb _ _ (by simp[jC,lps,L.len,lv]) fun j p x f1 f2=>?_;rw[LC] at f1 f2;obtain⟨qs,g1,rfl⟩:=LB.mp f1;obtain⟨T,g2,rfl⟩:=LB.mp f2;obtain⟨kv,g3⟩:∃kv,kvs[j]?=some kv:=⟨_,LU (by have:=(L4.mp g2).1;have:=L.len;omega)⟩;exact⟨T,_,rfl,atT j T kv g2 g3,tP (rr.same sm2) j qs [kV kv.1,kv.2] g1 (by unfold vz;rw[LC,g3];rfl)⟩
   refine⟨.ref n0,_,I3,rfl,k n0 _ (sm.trans sm2) (sm.free (by rw[← hn0];exact I2.hok.fresh (LX _))) ⟨Ts.map V.ref,at0,reps⟩⟩
  ·rw[if_neg hl] at ez
   cases ez
 | _=>exact LJ k
end PU
namespace PU
open PySem PySem.Spec PyProof.Rows L2
theorem fsc{N ps:List Str}{sc:Scope}(a:sc.kind=.function:=by rfl)(b:sc.isCoroutine=false:=by rfl)(c:sc.isGenerator=false:=by rfl)(d:N.Nodup:=by decide +kernel)(e:N.take ps.length=ps:=by rfl)
  (f:∀x∈ps,sc.names.lookup x=some .local\/sc.names.lookup x=some .cell:=by decide +kernel) (g:∀y∈sc.names,y.2≠.free:=by decide +kernel):FnScope N ps sc:=⟨a,b,c,d,e,f,g⟩
theorem cok{N ps NX N':List Str}{S scX scope:Scope}{nt:Nat}{idx:List Nat}(_:FnScope N ps S)(e1:NX=N:=by rfl)(e2:scX=S:=by rfl)(a:scope.kind=.function:=by rfl)(b:∀y∈scope.names,y.2≠.cell:=by decide +kernel)
  (c:∀y∈scope.names,y.2=.local->scope.names.lookup y.1=some .local:=by decide +kernel) (d:∀y∈scope.names,y.2=.free->S.names.lookup y.1=some .cell\/S.names.lookup y.1=some .free:=by decide +kernel) (e:N'.length=nt+idx.length:=by rfl)
  (f:(idx.zip (N'.drop nt)).all (fun p=>decide (N[p.1]?=some p.2) && decide (scope.names.lookup p.2=some .free))=true:=by decide +kernel):CompOk NX scX scope N' nt idx:=by
 subst e1 e2;exact⟨a,b,c,d,e,f⟩
def Has(K:L0)(n:Str)(st:Stmt):Prop:=∃(f:Addr)(oc kV dc pm cd ct:L3)(od an:Option Addr)(sl:Array (Option L3)),Md K mainGlobals n=some (some (.ref f))/\
 K.lookup f=some ⟨oc,od,.func (Me n n (dE st) (aT st) (a7 st) .none kV dc pm an cd ct),sl⟩/\O2 K cd n=true/\NQ K (.ref f)=true
theorem Has.of{K:L0}{n:Str}{st:Stmt}{f:Addr}{oc kV dc pm cd ct:L3}{od an:Option Addr}{sl:Array (Option L3)}(a:Md K mainGlobals n=some (some (.ref f)))
  (l:K.lookup f=some ⟨oc,od,.func (Me n n (dE st) (aT st) (a7 st) .none kV dc pm an cd ct),sl⟩) (c:O2 K cd n=true) (k:NQ K (.ref f)=true):Has K n st:=⟨_,_,_,_,_,_,_,_,_,_,a,l,c,k⟩
def Hs(K:L0)(mg:Str->Option L3)(n:Str)(st:Stmt):Prop:=∃f fd,Fun K n n st f fd/\mg n=some (.ref f)
theorem Has.fn{K:L0}{n:Str}{st:Stmt}{h:Heap}{mg:Str->Option L3}(x:Has K n st)(X:K.In h)(G:h.Ns mainGlobals mg):Hs K mg n st:=by
 obtain⟨f,_,_,_,_,_,_,_,_,_,a,l,c,k⟩:=x;exact⟨f,_,wM l c k,P6 X G a⟩
variable[TW]
section
variable{C : Cn}{pos : NJ}
theorem ao(i:Nat){x:Str}(hN:C.X.N[i]?=some x:=by rfl)(hv:Vis C.X.env.scope x:=by first | exact .inl rfl | exact .inr (.inl rfl) | exact .inr (.inr rfl))
  (hd:(x == ("__debug__":Str))=false:=by decide) (hcd:(x == ("__classdict__":Str))=false:=by decide):EO C (.Name x pos) (getV i):=(av i hN hv hd hcd).o
theorem a8{i j}:EO C (.Constant (.int i) j pos) (kI i):=aI.o
theorem cE{i j}:EO C (.Constant (.str i) j pos) (kS i):=aQ.o
theorem oM{C:Cn}{N':List Str}{scope:Scope}{cl}{L}{s}{H}{fp}(i:Nat){x:Str}(hi:N'[i]?=some x:=by rfl)(hx:Loc (bY C N' scope cl L s H fp).X.env.scope x:=by first | exact .inl rfl | exact .inr rfl)(hN:N'.Nodup:=by decide +kernel)
  (hf:(bY C N' scope cl L s H fp).X.fn x=true\/(bY C N' scope cl L s H fp).X.env.scope.names.lookup x=some .local:=by first | exact .inl rfl | exact .inr rfl | assumption):TCt (bY C N' scope cl L s H fp) (.Name x pos) (af i):=uR i hN hi hx hf
end
section
variable{P : Lf}{w : Ln}{K : L0}{mg : Str → Option L3}{base : Heap}{x : Str}{st : Stmt}{N ps : List Str}{k : Nat}{g : PSt → R Fl}
theorem hJ(h:Hs K mg x st)(S:FnScope N ps (a7 st))
  (hbody:∀(f:Addr)(cdv:L3)(A:Ls)(outer:List Qa)(s:L6)(H:Hp)(E:XK),Room k (A.deeper (OU x (a7 st) s.heap.objs.size f cdv))->SVs (AV P w K mg base N x (a7 st) f cdv A outer s H E) (aT st) g)
  (hb:∀(kV doc pm:L3)(an:Option Addr)(cdv ct:L3)(us:List L3),us.length=ps.length->QT (Me x x (dE st) (aT st) (a7 st) .none kV doc pm an cdv ct) ⟨us,[]⟩=pure (ps.zip us):=by
   intro _ _ _ _ _ _ us hl;repeat' (first | (exfalso;simp only[NR] at hl;omega) | (rcases us with _ | ⟨_,us⟩) | rfl)) :
  PF P w K mg base (k+1) x (dF ps.length N.length g):=by
 obtain⟨f,fd,F,hm⟩:=h;exact Ht F S hm (F.binds hb) (hbody f)
theorem Aq(h:Hs K mg x st)(S:FnScope N ps (a7 st))
  (hbody:∀(f:Addr)(cdv:L3)(A:Ls)(outer:List Qa)(s:L6)(H:Hp)(E:XK),Room k (A.deeper (OU x (a7 st) s.heap.objs.size f cdv))->SVN (AV P w K mg base N x (a7 st) f cdv A outer s H E) (aT st) g)
  (hb:∀(kV doc pm:L3)(an:Option Addr)(cdv ct:L3)(us:List L3),us.length=ps.length->QT (Me x x (dE st) (aT st) (a7 st) .none kV doc pm an cdv ct) ⟨us,[]⟩=pure (ps.zip us):=by
   intro _ _ _ _ _ _ us hl;repeat' (first | (exfalso;simp only[NR] at hl;omega) | (rcases us with _ | ⟨_,us⟩) | rfl)) :
  PFN P w K mg base (k+1) x (runN ps.length N.length g):=by
 obtain⟨f,fd,F,hm⟩:=h;exact BK F S hm (F.binds hb) (hbody f)
theorem Hr{e:Expr}{rp:NJ}{fe:PSt->R PV}(h:Hs K mg x st)(S:FnScope N ps (a7 st))(hd:aT st=[.Return (some e) rp])
  (hbody:∀(f:Addr)(cdv:L3)(A:Ls)(outer:List Qa)(s:L6)(H:Hp)(E:XK),Room k (A.deeper (OU x (a7 st) s.heap.objs.size f cdv))->EN (AV P w K mg base N x (a7 st) f cdv A outer s H E) e fe)
  (hb:∀(kV doc pm:L3)(an:Option Addr)(cdv ct:L3)(us:List L3),us.length=ps.length->QT (Me x x (dE st) (aT st) (a7 st) .none kV doc pm an cdv ct) ⟨us,[]⟩=pure (ps.zip us):=by
   intro _ _ _ _ _ _ us hl;repeat' (first | (exfalso;simp only[NR] at hl;omega) | (rcases us with _ | ⟨_,us⟩) | rfl)) :
  PFN P w K mg base (k+1) x (dF ps.length N.length (cy fe)):=by
 obtain⟨f,fd,F,hm⟩:=h;exact Eg F S hm (F.binds hb) hd (hbody f)
end
end PU
namespace PU
open PySem PySem.Spec PyProof.Rows L2 PySem.SeqAt
theorem lL:Qv (.type "list") "keys"=pure none:=by rw[typeLookup_type,builtinLookup_eq_fast];kernel_rfl
theorem jv{prog:Lf}{w:Ln}{A:Ls}{E:L3->L6->Prop}{s:L6}{a:Addr}{o:Mi}{xs:Array L3}{k:Nat}{name:Str}{Q:Option L3->L6->Prop}
  (hx:s.heap.get? a=some o) (hc:o.cls=.type "list") (hdat:o.data=.seq xs k) (hd:o.dict=none) (hmiss:Qv (.type "list") name=pure none) (hname:(["__module__","__name__","__qualname__","__doc__","__annotations__"]:List Str).contains name=false) (hA:A.handled=none)
  (h:∀h' tk e,Heap.NewExcOf s.heap h' e "AttributeError"->Q none { s with heap:=h',toks:=tk }) (hsz:name.length+100<=sizeLine:=by size_fits) :
  LY (Ll prog w) A (getAttr? (.ref a) name) Q E s:=by
 obtain⟨c,dct,dat,sl⟩:=o;simp only at hc hdat hd;subst hc hdat hd;obtain⟨hp,g,d,tk,os⟩:=s;have hT:∀tk',(⟨hp,g,d,tk',os⟩:L6).TypeIs (.ref a) "list":=fun _=>⟨_,hx,rfl⟩;have f1:=sub_AttributeError;have f3:=Pe.lookup;have f4:=Pe.bind (.ref a);have f5:=am_list_getattr_none;unfold getAttr? getAttrBy? getAttrBy
 repeat (any_goals (first | assumption | exact hT _ | ((with_reducible show LY _ _ (call (Value.builtin "list.__getattribute__") _ _) _ _ _);refine call_meets Pe (hT _) am_entry_list_getattribute (F.args_list_getattribute_2 _ _) (meets_getattribute_miss_list a xs k sl name _ hmiss hname hsz) ⟨hx,hA,fun h' tk' e hx'=>?_⟩) | wp_step))
 obtain⟨t',u',he⟩:=hx'.there;show LY _ _ (PM _ _ _ _ _ _ _) _ _ _;unfold PM
 repeat (any_goals (first | assumption | wp_step))
 exact h _ _ _ hx'.of
section
variable{prog : Lf}{w : Ln}{A : Ls}
def JA(prog:Lf)(w:Ln)(h0:Heap)(d it:Addr)(D:Nat->Heap->Prop)(j:Nat)(x:L3):Prop:=
 ∃(p:Addr)(key v:L3),x=.ref p/\p≠d/\p≠it/\h0.IsTuple p #[key,v]/\∀(A':Ls)(s:L6)(E:L3->L6->Prop)(Q:Unit->L6->Prop),A'.units+4<cLine->(∀b o,b≠d->b≠it->h0.get? b=some o->s.heap.get? b=some o)->D j s.heap->
  (∀h' tk,D (j+1) h'->OG d s.heap h'->Q () { s with heap:=h',toks:=tk })->LY (Ll prog w) A' (dictSet d key v) Q E s
theorem oI{R:RZ->L6->Prop}{h0:Heap}{d it a:Addr}{items:Array L3}{result:L3}(D:Nat->Heap->Prop)(hh:A.handled=none)(hu:A.units+8<cLine)(hda:a≠d)(hia:a≠it)(hdi:d≠it)(ha:h0.IsList a items)
  (hD:∀i h h',D i h->Ou it h h'->D i h') (hp:∀(j:Nat)(x:L3),items[j]?=some x->JA prog w h0 d it D j x) :
  ∀(m i:Nat)(s:L6),m=items.size-i->i<=items.size->(∀b o,b≠d->b≠it->h0.get? b=some o->s.heap.get? b=some o)->s.heap.IsListIter it a i->D i s.heap->
   (∀h' tk,(∀b o,b≠d->b≠it->h0.get? b=some o->h'.get? b=some o)->D items.size h'->R (.ok (.ret result)) { s with heap:=h',toks:=tk })->
   OF (Ll prog w) A (.builtin "dict.update.loop" ⟨[.ref d,.ref it,ON (i:Int),result],[]⟩) R s
 | 0,i,s,hm,hi,hk,hit,hd,hR=>by
  have e:i=items.size:=by omega
  have hq:s.heap.IsList a items:=ha.at fun o e=>hk a o hda hia e;refine Nb d9 ?_;unfold Pm.«dict.update.loop»;show LY _ _ (P4 (.ref it) >>= _) _ _ s;refine L1 (wpAny_pyNext_list_end (by exact hh) hit hq (by rw[e];simp) fun h' eb=>?_);have hd':=hD _ _ _ hd eb;show LY _ _ (Qd d [] >>= _) _ _ _;refine L1 (L9 (L9 (hR h' s.toks (fun b o hb1 hb2 q=>eb b o hb2 (hk b o hb1 hb2 q)) ?_)));rw[← e];exact hd'
 | m+1,i,s,hm,hi,hk,hit,hd,hR=>by
  have hlt:i<items.size:=by omega
  have hq:s.heap.IsList a items:=ha.at fun o e=>hk a o hda hia e;have hx:items[i]?=some items[i]:=by simp[hlt]
  obtain⟨p,key,v,ex,h1,h2,h3,h4⟩:=hp i _ hx;refine Nb d9 ?_;unfold Pm.«dict.update.loop»;show LY _ _ (P4 (.ref it) >>= _) _ _ s;refine L1 (Sq hit hq hx fun h' hit' sb=>?_);rw[ex];have hd':=hD _ _ _ hd sb.extBut;have hpt:h'.IsTuple p #[key,v]:=h3.at fun o e=>(sb.2 p h2).trans (hk p o h1 h2 e);obtain⟨op,hop,hcp,np,hdp⟩:=id hpt;dsimp only;refine L1 (Mj (L1 (wpAny_tryCatch ?_)));unfold Qp;refine L1 (NT hpt.typeIs ?_);rw[if_pos (by decide)];refine L1 ?_
  have hsi:LY (Ll prog w) (A.under (Code.builtin "dict.update.loop" ⟨[.ref d,.ref it,ON (i:Int),result],[]⟩)) (seqItems? (.ref p)) (fun r s'=>r=some #[key,v]/\s'={ s with heap:=h' }) (fun _ _=>False) { s with heap:=h' }:=by
   repeat (any_goals (first | assumption | wp_step))
   rw[hdp];exact L9 ⟨rfl,rfl⟩
  refine N8 hsi (fun r s' hr=>?_) fun _ _ h=>h.elim;obtain⟨rfl,rfl⟩:=hr;refine L9 ?_;show LY _ _ (holding [key,v] (dictSet d key v)) _ _ _;refine Mj (h4 _ _ _ _ ?_ (fun b o hb1 hb2 q=>(sb.2 b hb2).trans (hk b o hb1 hb2 q)) hd' fun h'' tk hd'' sb'=>?_)
  ·have e:(A.under (.builtin "dict.update.loop" ⟨[.ref d,.ref it,ON (i:Int),result],[]⟩)).units=A.units+1:=by
    first | rfl | simp[Around.under,Code.cUnits,Code.frames,Code.isFrame]
   rw[e];omega
  refine L9 ⟨Code.quiet_builtin _ (by decide +kernel),?_⟩;have ei:((i:Int)+1)=((i+1:Nat):Int):=by omega
  rw[ei];refine oI D hh hu hda hia hdi ha hD hp m (i+1) _ (by omega) hlt (fun b o hb1 hb2 q=>?_) ?_ hd'' fun h3 tk hk3 hd3=>hR h3 tk hk3 hd3
  ·exact(sb'.2 b hb1).trans ((sb.2 b hb2).trans (hk b o hb1 hb2 q))
  ·exact hit'.at fun o e=>(sb'.2 it (MU hdi)).trans e
theorem gU {E:L3->L6->Prop} {s:L6} {a:Addr} {o:Mi} {items:Array L3} {n0:Nat} {Q:L3->L6->Prop} (D:Nat->Heap->Prop) (hA:A.handled=none) (hu:A.units+16<cLine) (hx:s.heap.get? a=some o) (hc:o.cls=.type "list") (hdat:o.data=.seq items n0) (hdn:o.dict=none)
  (hD:∀i h h' it,s.heap.objs.size<it->D i h->Ou it h h'->D i h') (hD0:∀h',(∀b u,(s.heap.push { cls:=.type "dict",data:=.dict #[] }).get? b=some u->h'.get? b=some u)->D 0 h')
  (hp:∀(h0:Heap)(it:Addr),s.heap.objs.size<it->(∀b o,s.heap.get? b=some o->h0.get? b=some o)->∀(j:Nat)(x:L3),items[j]?=some x->JA prog w h0 s.heap.objs.size it D j x)
  (h:∀h' tk,(∀b o,s.heap.get? b=some o->h'.get? b=some o)->D items.size h'->Q (.ref s.heap.objs.size) { s with heap:=h',toks:=tk }) :
  LY (Ll prog w) A (call (.type "dict") [.ref a]) Q E s:=by
 refine QS (Q₁:=fun obj s₁=>obj=.ref s.heap.objs.size/\s₁={ s with heap:=s.heap.push { cls:=.type "dict",data:=.dict #[] } }) F.kt_called_dict (T3 _) F.entry_dict_init (kt_code_dict_new _ ⟨rfl,rfl⟩) ?_;rintro obj s₁ ⟨rfl,rfl⟩;have hnew:(s.heap.push { cls:=.type "dict",data:=.dict #[] }).DictOf (ah prog w) s.heap.objs.size []:=P9 s.heap;have hx':(s.heap.push { cls:=.type "dict",data:=.dict #[] }).get? a=some o:=L5 _ hx;have hT:Q9 { s with heap:=s.heap.push { cls:=.type "dict",data:=.dict #[] } } (.ref a) "list":=⟨o,hx',hc⟩;refine⟨hnew.typeIs,F.args_dict_init_2 _ _,?_⟩;unfold Pm.«dict.__init__»;refine L1 ?_;unfold Qc;refine L1 (QG hnew.typeIs ?_);show LY _ _ (pure (s.heap.objs.size,[M1 a])) _ _ _;refine L9 ?_;show LY _ _ (OD "dict.__init__" s.heap.objs.size (.ref a) [] .none) _ _ _;unfold OD;refine L1 (NT hT ?_);rw[if_pos (by decide)];refine L1 (jv hx' hc hdat hdn lL (by decide +kernel) (by exact hA) fun h1 tk1 e1 ne=>?_);have k1:∀b u,(s.heap.push { cls:=.type "dict",data:=.dict #[] }).get? b=some u->h1.get? b=some u:=fun b u q=>ne.keeps b u q;rw[if_pos (show (none:Option L3).isNone=true from rfl)];have ht:h1.IsList a items:=⟨o,k1 a o hx',hc,n0,hdat⟩;refine L1 (Q5 (L1 (wpAny_pyIter_list ht ?_)))
 have sD:s.heap.objs.size<h1.objs.size:=by
  obtain⟨od,_,_,hod,_⟩:=hnew;exact LF (k1 _ _ hod)
 have k2:∀b u,s.heap.get? b=some u->(h1.push { cls:=.type "list_iterator",data:=.fields #[.ref a,.int 0 0] }).get? b=some u:=fun b u q=>L5 _ (k1 b u (L5 _ q));refine L9 ⟨Code.quiet_builtin _ (by decide +kernel),?_⟩;have lts:∀b u,s.heap.get? b=some u->b≠s.heap.objs.size/\b≠h1.objs.size:=fun b u q=>⟨LO (LF q),LO (Od (LF q) sD)⟩;refine oI (h0:=h1.push { cls:=.type "list_iterator",data:=.fields #[.ref a,.int 0 0] }) D (by exact hA) ?_ (lts a o hx).1 (lts a o hx).2 (LO sD) (ht.push _) (fun i h h'=>hD i h h' _ sD) (hp _ _ sD k2) items.size 0 _ (by omega) (M0 _) (fun b u _ _ q=>q) ⟨_,LZ _ rfl,rfl,rfl⟩ (hD0 _ fun b u q=>L5 _ (k1 b u q)) fun h' tk hk' hd'=>?_
 ·show A.units+1+8<cLine
  omega
 ·exact⟨rfl,h h' tk (fun b u q=>hk' b u (lts b u q).1 (lts b u q).2 (k2 b u q)) hd'⟩
end
end PU
namespace PU
open PySem PySem.Spec PyProof.Rows L2 PySem.SeqAt
def jB:List PV->Option (List (List Key×PV))
 | []=>some []
 | .tup [t,v]::r=>(jN t).bind fun k=>(jB r).map fun l=>(k,v)::l
 | _=>none
def zQ:PV->List Key×PV->PV
 | .dtt ks ps,(k,p)=>tK ks ps k p
 | q,_=>q
def mB:PV->Option PV
 | .lst ps=>if ps.length<=16777216 then (jB ps).map fun l=>l.foldl zQ (.dtt [] []) else none
 | _=>none
def wL:PV->Option PV
 | .lst ps=>if ps.length<=16777216 then (f6 ps).map eJ else none
 | _=>none
structure Pr where
 k:List Key
 p:PV
 v:V
 b:Addr
 u:L3
variable[TW]
theorem pj{X:Cx}{KW:List (Addr×Mi)}{σ:L2.St}{H:Hp}{s:L6}(I:L2.Inv X KW σ H s):∀{ps:List PV}{kps:List (List Key×PV)}{xs:List V}{its:List L3},jB ps=some kps->au X.K H ps xs->Vals xs its->
  ∃ts:List Pr,kps=ts.map (fun t=>(t.k,t.p))/\its.length=ts.length/\(∀t∈ts,H t.b=some (.tup (t.k.map kV))/\RelV t.v t.u/\Rep X.K H t.p t.v)/\∀(j:Nat)(x:L3),its[j]?=some x->∃(p:Addr)(t:Pr),x=.ref p/\ts[j]?=some t/\s.heap.IsTuple p #[.ref t.b,t.u]
 | [],kps,xs,its,e,r,rv=>by
  cases e;cases r;cases rv;exact⟨[],rfl,rfl,(fun t h=>by cases h),fun j x h=>by simp at h⟩
 | p::ps,kps,xs,its,e,r,rv=>by
  obtain⟨x,t,rfl,r1,r2⟩:=r;cases rv with
  | cons ru rv=>
  unfold jB at e;split at e
  ·rename_i h;cases h
  ·rename_i kp v r' h
   cases h;obtain⟨k,ek,e⟩:=LD.mp e;obtain⟨l,el,ez⟩:=LB.mp e;cases ez;obtain⟨ts,q1,q2,q3,q4⟩:=pj I el r2 rv;obtain⟨a,ys,rfl,g,rr⟩:=r1;obtain⟨y1,t1,rfl,h1,y2,t2,rfl,h2,h3⟩:=rr;cases h3;obtain⟨b,rfl,hb⟩:=gC ek (Rep.o h1);cases ru;obtain⟨its2,rv2,pl,hz⟩:=I.tuple (tq g);cases rv2 with
   | cons ra rv2=>
   cases rv2 with
   | @cons _ u0 _ _ rb rv2=>
   cases rv2;cases ra;refine⟨⟨k,v,y2,b,u0⟩::ts,by rw[q1];rfl,by simp[q2],?_,fun j x hj=>?_⟩
   ·intro t ht
    rcases LR.mp ht with rfl | ht
    ·exact⟨hb,rb,h2⟩
    ·exact q3 t ht
   ·cases j with
    | zero=>
     simp at hj;subst hj;exact⟨a,_,rfl,rfl,pl⟩
    | succ j=>
     obtain⟨p,t,e1,e2,e3⟩:=q4 j x (by simpa using hj);exact⟨p,t,e1,by simpa using e2,e3⟩
  ·cases e
def kF(ts:List Pr):List (List Key×V):=ts.foldl (fun a t=>putK a t.k t.v) []
def xF(ts:List Pr):List (List Key×Addr×L3):=ts.foldl (fun a t=>QX a t.k t.b t.u) []
omit [TW] in
theorem Bb(ts:List Pr)(t:Pr):xF (ts++[t])=QX (xF ts) t.k t.b t.u:=by simp[xF]
omit [TW] in
theorem AF(ts:List Pr):(kF ts).length<=ts.length:=by
 suffices h:∀(l:List Pr)(a:List (List Key×V)),(l.foldl (fun a t=>putK a t.k t.v) a).length<=a.length+l.length by simpa [kF] using h ts []
 intro l
 induction l with
 | nil=>intro a;simp
 | cons t l ih=>
  intro a;have h1:=ih (putK a t.k t.v);have h2:=d5 a t.k t.v;simp only[MM,Lj];omega
omit [TW] in
theorem wV{H:Hp}:∀(ts:List Pr)(a:List (List Key×V))(x:List (List Key×Addr×L3)),(∀t∈ts,H t.b=some (.tup (t.k.map kV))/\RelV t.v t.u)->KT H a x->KT H (ts.foldl (fun a t=>putK a t.k t.v) a) (ts.foldl (fun a t=>QX a t.k t.b t.u) x)
 | [],a,x,_,r=>r
 | t::ts,a,x,h,r=>wV ts _ _ (fun t ht=>h t (Lg _ ht)) (KT.put r t.k (h t Le).1 (h t Le).2)
theorem sH{K:L0}{H:Hp}:∀(ts:List Pr)(a:List (List Key×V))(ps:List PV),(∀t∈ts,Rep K H t.p t.v)->au K H ps (a.map (·.2))->
  ∃ks' ps',(ts.map fun t=>(t.k,t.p)).foldl zQ (.dtt (a.map (·.1)) ps)=.dtt ks' ps'/\(ts.foldl (fun a t=>putK a t.k t.v) a).map (·.1)=ks'/\au K H ps' ((ts.foldl (fun a t=>putK a t.k t.v) a).map (·.2))
 | [],a,ps,_,r=>⟨_,_,rfl,rfl,r⟩
 | t::ts,a,ps,h,r=>by
  obtain⟨ks',ps',e1,e2,e3⟩:=oY (k:=t.k) r (h t Le);obtain⟨ks2,ps2,q1,q2,q3⟩:=sH ts (putK a t.k t.v) ps' (fun t ht=>h t (Lg _ ht)) e3;refine⟨ks2,ps2,?_,q2,q3⟩;rw[← q1,L8,MM];have e:zQ (.dtt (a.map (·.1)) ps) (t.k,t.p)=.dtt ks' ps':=e1;rw[e,e2]
omit [TW] in
theorem FQ{P:Lf}{w:Ln}{h h':Heap}{d it:Addr}{xs:List (List Key×Addr×L3)}(x:h.DictOfH (Nr (ah P w)) d xs)(e:Ou it h h')(hd:d≠it)(hk:∀q∈xs,q.2.1≠it):h'.DictOfH (Nr (ah P w)) d xs:=by
 obtain⟨o,es,ep,ho,hc,hdt,he,his,hn⟩:=x;refine⟨o,es,ep,e d o hd ho,hc,hdt,he,fun q hq=>?_,hn⟩;obtain⟨o2,i2,n2,h1,r⟩:=his q hq;exact⟨o2,i2,n2,e _ _ (hk q hq) h1,r⟩
omit [TW] in
theorem zZ:∀(ts:List Pr)(x:List (List Key×Addr×L3))(q:List Key×Addr×L3),q∈ts.foldl (fun a t=>QX a t.k t.b t.u) x->(∃y∈x,y.2.1=q.2.1)\/∃t∈ts,t.b=q.2.1
 | [],x,q,h=>.inl ⟨q,h,rfl⟩
 | t::ts,x,q,h=>by
  rcases zZ ts _ q h with⟨y,hy,e⟩|⟨t',ht,e⟩
  ·have hy:y∈QX x t.k t.b t.u:=hy
   unfold QX at hy;split at hy
   ·obtain⟨z,hz,rfl⟩:=LG.mp hy
    refine .inl ⟨z,hz,?_⟩;rw[← e];unfold putAt
    split <;> rfl
   ·rcases Lh.mp hy with hy | hy
    ·exact .inl ⟨y,hy,e⟩
    ·cases LH.mp hy
     exact .inr ⟨t,Le,e⟩
  ·exact .inr ⟨t',Lg _ ht,e⟩
theorem AX {X:Cx} (hu:X.A.units+64<cLine) (hc:X.calm=true:=by rfl):gM X (.type "dict") (rn1 X.K mB):=by
 intro KW s σ H xs us Q I r ⟨v,p,z,e1,rp,ez,k⟩;subst e1;cases p with
 | lst ps=>
  have ez:(if ps.length<=16777216 then (jB ps).map fun l=>l.foldl zQ (.dtt [] []) else none)=some z:=ez
  by_cases hlen:ps.length<=16777216
  ·rw[if_pos hlen] at ez
   obtain⟨kps,ek,rfl⟩:=LB.mp ez;obtain⟨a,zs,rfl,g,rr⟩:=aN.lst_inv rp;obtain⟨u,rfl,ru⟩:=vals1 r;cases ru;obtain⟨_,its,n,rv,eg⟩:=g.is I;obtain⟨ts,q1,q2,q3,q4⟩:=pj I ek rr rv;have hl1:=rr.length;have hl2:=rv.length;have hs:=Ly
   have hin:∀t∈ts,∃o,s.heap.get? t.b=some o:=fun t ht=>by
    obtain⟨_,_,_,o,h1,_⟩:=(show dw X.prog X.w H s.heap t.b (.tup (t.k.map kV)) from I.hok _ _ (q3 t ht).1);exact⟨o,h1⟩
   have kne:∀(i:Nat)(it:Addr),s.heap.objs.size<it->∀q∈xF (ts.take i),q.2.1≠it:=fun i it hit q hq=>by
    rcases zZ _ _ q hq with⟨y,hy,_⟩|⟨t,ht,e⟩
    ·cases hy
    ·obtain⟨o,ho⟩:=hin t (OC ht)
     rw[← e];exact LO (Od (LF ho) hit)
   have kv0:∀l:List Pr,(∀t∈l,t∈ts)->KT H (kF l) (xF l):=fun l hl=>wV l [] [] (fun t ht=>⟨(q3 t (hl t ht)).1,(q3 t (hl t ht)).2.1⟩) .nil
   refine gU (D:=fun i h=>h.DictOfH (Nr (ah X.prog X.w)) s.heap.objs.size (xF (ts.take i))) (I.ok.hd hc) (by omega) eg rfl rfl rfl
    (fun i h h' it hit x e=>FQ x e (LO hit) (kne i it hit)) (fun h' keep=>?_) (fun h0 it hit keep j x hj=>?_) fun h' tk keep D'=>?_
   ·obtain⟨o,es,ep,ho,hc',hdt,he,his,hn⟩:=Heap.DictOfH.new (knd:=Nr (ah X.prog X.w)) s.heap
    refine⟨o,es,ep,keep _ _ ho,hc',hdt,by simpa [xF] using he,?_,by simp[xF]⟩;intro q hq;simp[xF] at hq
   ·obtain⟨p,t,e1,e2,e3⟩:=q4 j x (by simpa using hj)
    obtain⟨op,hop,rp'⟩:=id e3;have lp:=LF hop;have ht:t∈ts:=LM e2;refine⟨p,.ref t.b,t.u,e1,LO lp,LO (Od lp hit),⟨op,keep p op hop,rp'⟩,fun A' s' E Q' hu' hk hd hQ=>?_⟩;obtain⟨ob,hob⟩:=hin t ht;have lb:=LF hob;obtain⟨o2,i2,n2,h1,r2⟩:=key_of I.hok (q3 t ht).1;have key:(Nr (ah X.prog X.w)).is s'.heap t.k t.b:=⟨o2,i2,n2,hk _ _ (LO lb) (LO (Od lb hit)) (keep _ _ h1),r2⟩
    have hz:(xF (ts.take j)).length<=sizeLine:=by
     rw[← M5 (kv0 (ts.take j) fun t ht=>OC ht)];have h1:=AF (ts.take j);have h2:=MY (i:=j) (l:=ts);omega
    refine wpAny_dictSet_heap (hsz:=hz) (knd:=Nr (ah X.prog X.w)) (show A'.units<cLine by omega) key hd fun h' dd' hs=>hQ h' _ ?_ hs
    have e:ts.take (j+1)=ts.take j++[t]:=by
     obtain⟨hl,e⟩:=L4.mp e2;rw[← e,NZ hl]
    show h'.DictOfH _ _ (xF (ts.take (j+1)));rw[e,Bb];exact dd'
   ·have D':h'.DictOfH (Nr (ah X.prog X.w)) s.heap.objs.size (xF (ts.take its.toArray.size)):=D'
    have et:ts.take its.toArray.size=ts:=Nl (by rw[Li];omega);rw[et] at D';have nf:H s.heap.objs.size=none:=I.fresh
    have hne:(s.heap.objs.size == MA)=false:=by
     have hb:=I.big;refine beq_eq_false_iff_ne.mpr fun e=>?_;rw[e] at hb;exact M6 _ hb
    have hml:(kF ts).length<=sizeLine:=by
     have:=AF ts;omega
    obtain⟨o,es,ep,ho,hc',hdt,he,his,hn⟩:=D'
    have kt:KT (upd H s.heap.objs.size (.dT (kF ts))) (kF ts) (xF ts):=(kv0 ts fun t ht=>ht).keeps fun c ys ec=>by
     rw[aj (fun e=>by rw[e,nf] at ec;cases ec)];exact ec
    have I2:=I.laid (a:=s.heap.objs.size) (o:=.dT (kF ts)) (h':=h') (t':=tk) keep (LX _) ⟨hml,hne,_,kt,o,es,ep,ho,hc',hdt,he,hn⟩;have kp:Kp H (upd H s.heap.objs.size (.dT (kF ts))):=Same.kp (Same.new nf);obtain⟨ks',ps',g1,g2,g3⟩:=sH ts [] [] (fun t ht=>Rep.kp kp _ (q3 t ht).2.2) au.nil;refine⟨.ref _,_,I2,rfl,k _ _ (Same.new nf) nf ?_⟩;rw[q1];have g1:(ts.map fun t=>(t.k,t.p)).foldl zQ (PV.dtt [] [])=PV.dtt ks' ps':=g1;rw[g1];exact⟨_,ai,g2,g3⟩
  ·rw[if_neg hlen] at ez
   cases ez
 | _=>cases ez
omit [TW] in
theorem mO{κ:Type}[DecidableEq κ](l:List (κ×L3))(p:κ×L3):storeAll [] (l++[p])=RV (storeAll [] l) p.1 p.2:=by simp[storeAll]
theorem FY {X:Cx} (hu:X.A.units+64<cLine) (hc:X.calm=true:=by rfl):gM X (.type "dict") (rn1 X.K wL):=by
 intro KW s σ H xs us Q I r ⟨v,p,z,e1,rp,ez,k⟩;subst e1;cases p with
 | lst ps=>
  have ez:(if ps.length<=16777216 then (f6 ps).map eJ else none)=some z:=ez
  by_cases hlen:ps.length<=16777216
  ·rw[if_pos hlen] at ez
   obtain⟨kps,ek,rfl⟩:=LB.mp ez;obtain⟨a,zs,rfl,g,rr⟩:=aN.lst_inv rp;obtain⟨u,rfl,ru⟩:=vals1 r;cases ru;obtain⟨_,its,n,rv,eg⟩:=g.is I;obtain⟨kvs,vs,q1,q2,q3,q4⟩:=nG I ek rr rv;have hl1:=rr.length;have hl2:=rv.length;have hs:=Ly
   refine gU (D:=fun i h=>h.DictOf (ah X.prog X.w) s.heap.objs.size (storeAll [] (vs.take i))) (I.ok.hd hc) (by omega) eg rfl rfl rfl
    (fun i h h' it hit x e=>x.extBut e (LO hit)) (fun h' keep=>?_) (fun h0 it hit keep j x hj=>?_) fun h' tk keep D'=>?_
   ·obtain⟨od,es,ep,hod,r⟩:=P9 (knd:=ah X.prog X.w) s.heap
    exact⟨od,es,ep,keep _ _ hod,r⟩
   ·obtain⟨p,key,kk,v,e1,e2,e3,e4⟩:=q4 j x (by simpa using hj)
    obtain⟨op,hop,rp'⟩:=id e3;have lp:=LF hop;refine⟨p,key,v,e1,LO lp,LO (Od lp hit),⟨op,keep p op hop,rp'⟩,fun A' s' E Q' hu' hk hd hQ=>?_⟩;have h1:=eF (vs.take j) [];have h2:=MY (i:=j) (l:=vs);simp only[NB] at h1;refine wpAny_dictSet_pairs e4 hd (fun h'' hd'' sb'=>hQ h'' _ ?_ sb') (by omega)
    have e:vs.take (j+1)=vs.take j++[(kk,v)]:=by
     obtain⟨hl,e⟩:=L4.mp e2;rw[← e,NZ hl]
    show h''.DictOf _ _ (storeAll [] (vs.take (j+1)));rw[e,mO];exact hd''
   ·have D':h'.DictOf (ah X.prog X.w) s.heap.objs.size (storeAll [] (vs.take its.toArray.size)):=D'
    have et:vs.take its.toArray.size=vs:=Nl (by rw[Li];omega);rw[et] at D';have nf:H s.heap.objs.size=none:=I.fresh
    have hne:(s.heap.objs.size == MA)=false:=by
     have hb:=I.big;refine beq_eq_false_iff_ne.mpr fun e=>?_;rw[e] at hb;exact M6 _ hb
    have hm:KV (cZ [] kvs) (storeAll [] vs):=KV.merge q2 .nil
    have hml:(cZ [] kvs).length<=sizeLine:=by
     have a1:(cZ [] kvs).length=(storeAll [] vs).length:=M5 hm;have a2:=eF vs [];simp only[NB] at a2;omega
    have I2:=I.laid (a:=s.heap.objs.size) (o:=.dK (cZ [] kvs)) (h':=h') (t':=tk) keep (LX _) ⟨hml,hne,_,hm,D'⟩;have kp:Kp H (upd H s.heap.objs.size (.dK (cZ [] kvs))):=Same.kp (Same.new nf);obtain⟨ks',ps',g1,g2,g3⟩:=iF (acc:=[]) (ps:=[]) (ja.kp kp q1) au.nil;refine⟨.ref _,_,I2,rfl,k _ _ (Same.new nf) nf ?_⟩;rw[iG];have g1:kps.foldl uo (PV.dct [] [])=PV.dct ks' ps':=g1;rw[g1];exact⟨_,ai,g2,g3⟩
  ·rw[if_neg hlen] at ez
   cases ez
 | _=>cases ez
end PU
namespace PU
open PySem PySem.Spec PyProof.Rows L2 HT
theorem i6{prog:Lf}{w:Ln}{A:Ls}{E:L3->L6->Prop}{s:L6}{t sl:Addr}{items:Array L3}{vl vu:L3}{lo hi:Option Int}{Q:L3->L6->Prop}(ht:IsTup s.heap t items)(hs:s.heap.IsSliceOf sl vl vu .none)(pl:QU vl lo)(pu:QU vu hi)
  (hw:sIx items.size 0 lo=0/\sIx items.size items.size hi=items.size)
  (h:Q (.ref t) s):LY (Ll prog w) A (QY (.ref t) (.ref sl)) Q E s:=by
 obtain⟨os,hos,hcs,hds⟩:=id hs;have hTs:s.TypeIs (.ref sl) "slice":=⟨os,hos,hcs⟩;unfold QY
 try with_reducible refine Mj ?_
 first | refine L1 (L9 ?_) | skip
 refine L1 (R7 ht.typeIs (by decide) ?_)
 refine L1 (Nq (name:=LI "__getitem__") ht.typeIs MO
  (OO MO ht.typeIs entry_tuple_getitem ?_ (args_tuple_getitem _ _)))
 show LY _ _ (QJ (.ref t) >>= _) _ _ s;refine L1 (tupleItemsOf_ ht ?_);refine L1 (NT hTs ?_);rw[if_pos (by decide)];refine L1 (fR hs pl pu ?_)
 have hyes:((((sIx items.size 0 lo:Nat):Int) == 0 && (1:Int) == 1 && (sIx items.size items.size hi-sIx items.size 0 lo) == items.size)=true):=by
  rw[hw.1,hw.2];simp
 show LY _ _ (if (((sIx items.size 0 lo:Nat):Int) == 0 && (1:Int) == 1 && (sIx items.size items.size hi-sIx items.size 0 lo) == items.size)=true then _ else _) _ _ s;rw[if_pos hyes];unfold Builtin.Tuple.tupleIsExact;refine L1 (L1 (NT ht.typeIs (L9 ?_)));rw[if_pos (by decide)];refine L1 (Q5 ?_)
 first
  | exact L9 ⟨_,rfl,L9 h⟩
  | exact L1 (L9 (L9 ⟨_,rfl,L9 h⟩))
  | exact L9 (L9 ⟨_,rfl,L9 h⟩)
variable[TW]
def GE:PV->Option Int->Option Int->Option PV
 | .tup ps,lo,hi=>some (.tup (lI ps lo hi))
 | _,_,_=>none
def rC(f:PSt->R PV)(l h:PSt->R (Option Int)):PSt->R PV:=fun ρ=>f ρ >>= fun p=>l ρ >>= fun lo=>h ρ >>= fun hi=>R.ofO (GE p lo hi)
def Hk(K:L0):V->Option Int->Option Int->Hp->VK->Prop:=fun v lo hi H Q=>∃p z,aN K H p v/\GE p lo hi=some z/\∀w H',Same H H'->Rep K H' z w->Q w H'
theorem JZ{X:Cx}:SlR X (Hk X.K):=by
 intro KW s σ H x v vl vu lo hi sl Q I rx hs pl pu ⟨p,z,rp,ez,k⟩;cases p with
 | tup ps=>
  cases ez;obtain⟨a,xs,rfl,g,rr⟩:=aN.tup_inv rp
  by_cases hw:HT.sIx ps.length 0 lo=0/\HT.sIx ps.length ps.length hi=ps.length
  ·cases rx
   obtain⟨its,r,ht,hz⟩:=I.tuple g;have hlen:its.toArray.size=ps.length:=by rw[Li,rr.length];exact r.length.symm
   refine⟨"tuple",_,MO.lookup,ht.typeIs,?_⟩;refine i6 ht hs pl pu (by rw[hlen];exact hw) ⟨.ref a,H,I,rfl,k _ H (Same.refl H) ?_⟩
   have e:lI ps lo hi=ps:=by
    unfold lI;rw[hw.1,hw.2];simp
   rw[e];exact rp
  ·exact Af KW s σ H _ v vl vu lo hi sl Q I rx hs pl pu ⟨a,xs,rfl,g,by rw[← rr.length];exact hw,fun b hb=>k _ _ (Same.new hb) ⟨b,_,rfl,ai,(ot rr lo hi).same (Same.new hb)⟩⟩
 | _=>cases ez
theorem x5{C:Cn}{e:Expr}{f:PSt->R PV}{lo hi:Option Expr}{l h:PSt->R (Option Int)}{pos p2:NJ}(ha:EO C e f)(hl:EOI C lo l)(hh:EOI C hi h):EV C (.Subscript e (.Slice lo hi none p2) pos) (rC f l h):=by
 intro KW s σ H Q I ⟨ρ,vw,q⟩;refine nE JZ ha hl hh KW s σ H Q I ⟨ρ,vw,q.bind.imp fun p _ k v H1 s1 r1=>⟨ρ,vw.same s1,(k.bind.same s1).imp fun o1 _ k2 H2 s2=>⟨ρ,(vw.same s1).same s2,(k2.bind.same (s1.trans s2)).imp fun o2 _ k3 H3 s3=>?_⟩⟩⟩;obtain⟨z,ez,k4⟩:=k3.ofO;exact⟨p,z,(r1.same s2).same s3,ez,fun w H4 s4 r4=>k4 w H4 (((s1.trans s2).trans s3).trans s4) r4⟩
end PU
namespace PU
open PySem PySem.Spec PyProof.Rows L2 PySem.SeqAt
def qp:List PV->Option (List (List Key))
 | []=>some []
 | p::r=>(jN p).bind fun k=>(qp r).map (k::·)
def uA:PV->PV->Option PV
 | p,.lst qs=>(jN p).bind fun k=>(qp qs).map fun ks=>.bl (ks.any fun j=>decide (j=k))
 | _,_=>none
def ib(p q:PV):Option PV:=(uA p q).bind fun z=>match z with
 | .bl b=>some (.bl (!b))
 | _=>none
theorem oZ:∀(ps qs:List PV)(k j:List Key),ur ps=some k->ur qs=some j->cQ ps qs=some (decide (k=j))
 | [],[],k,j,h1,h2=>by cases h1;cases h2;simp[cQ]
 | [],q::qs,k,j,h1,h2=>by
  cases h1;unfold ur at h2;obtain⟨x,_,h2⟩:=LD.mp h2;obtain⟨y,_,e⟩:=LB.mp h2;cases e;simp[cQ]
 | p::ps,[],k,j,h1,h2=>by
  cases h2;unfold ur at h1;obtain⟨x,_,h1⟩:=LD.mp h1;obtain⟨y,_,e⟩:=LB.mp h1;cases e;simp[cQ]
 | p::ps,q::qs,k,j,h1,h2=>by
  unfold ur at h1 h2;obtain⟨x,e1,h1⟩:=LD.mp h1;obtain⟨xs,e2,e⟩:=LB.mp h1;cases e;obtain⟨y,e3,h2⟩:=LD.mp h2;obtain⟨ys,e4,e⟩:=LB.mp h2;cases e;have ih:=oZ ps qs xs ys e2 e4
  have e0:bE p q=some (decide (x=y)):=by
   cases p <;> cases e1 <;> cases q <;> cases e3 <;> simp[bE] <;> (rw[ND];simp)
  simp only[cQ,e0,ih,Qe]
  congr 1
  rw[ND];simp
theorem pe:∀(ps:List PV)(k:List Key),ur ps=some k->dU ps=0
 | [],_,_=>rfl
 | p::ps,k,h=>by
  unfold ur at h;obtain⟨x,e1,h⟩:=LD.mp h;obtain⟨xs,e2,e⟩:=LB.mp h;have ih:=pe ps xs e2;unfold dU;rw[ih];cases p <;> cases e1 <;> rfl
theorem ml:∀{a b:List Key},a.map kV=b.map kV->a=b
 | [],[],_=>rfl
 | [],_::_,h=>by cases h
 | _::_,[],h=>by cases h
 | x::a,y::b,h=>by
  rw[L8,L8] at h;injection h with h1 h2;rw[ml h2]
  congr 1
  cases x <;> cases y <;> cases h1 <;> rfl
variable[TW]
open Classical in
theorem iK{X:Cx}{KW:List (Addr×Mi)}{σ:L2.St}{H:Hp}{s:L6}(I:L2.Inv X KW σ H s){A:Ls}(hu:A.units+4<cLine){p:PV}{v:V}{v':L3}{k:List Key}(ek:jN p=some k)(rp:aN X.K H p v)(rv:RelV v v') :
  ∀{qs:List PV}{ks:List (List Key)}{xs:List V}{its:List L3},qp qs=some ks->au X.K H qs xs->Vals xs its->
   (∀y∈its,EqAt A s y v' (match y with | .ref b=>decide (H b=some (.tup (k.map kV))) | _=>false))/\(its.any fun y=>match y with | .ref b=>decide (H b=some (.tup (k.map kV))) | _=>false)=ks.any fun j=>decide (j=k)
 | [],ks,xs,its,e,r,rr=>by
  cases e;cases r;cases rr;exact⟨(fun y h=>by cases h),rfl⟩
 | q::qs,ks,xs,its,e,r,rr=>by
  obtain⟨x,t,rfl,r1,r2⟩:=r;cases rr with
  | cons ru rr=>
  unfold qp at e;obtain⟨j,ej,e⟩:=LD.mp e;obtain⟨js,ejs,e⟩:=LB.mp e;cases e;obtain⟨h1,h2⟩:=iK I hu ek rp rv ejs r2 rr;obtain⟨b,rfl,hb⟩:=gC ej r1.o;cases ru
  have ed:decide (H b=some (HO.tup (k.map kV)))=decide (j=k):=by
   rw[hb,ND];simp only[decide_eq_true_eq,Nj,HO.tup.injEq];exact⟨fun e=>ml e,fun e=>by rw[e]⟩
  refine⟨fun y hy=>?_,?_⟩
  ·rcases LR.mp hy with rfl | hy
   ·show EqAt A s (.ref b) v' (decide (H b=some (HO.tup (k.map kV))))
    rw[ed];cases q with
    | tup ps=>
     cases p with
     | tup rs=>
      have ej:ur ps=some j:=ej;have ek:ur rs=some k:=ek;refine sP I (.tup ps) (.tup rs) A (.ref b) v (.ref b) v' _ r1.o rp rfl rv ?_ ?_
      ·simp only[bE]
       exact oZ ps rs j k ej ek
      ·show A.units+(dU ps+1)<cLine
       rw[pe ps j ej];omega
     | _=>cases ek
    | _=>cases ej
   ·exact h1 y hy
  ·rw[MV,MV,h2]
   show (decide (H b=some (HO.tup (k.map kV))) || _)=_;rw[ed]
theorem HE{X:Cx}(hu:X.A.units+64<cLine):OpR X (Lz .In) (rP X.K uA):=by
 intro KW s σ H x y v u Q I rx ry ⟨p,q,z,hp,hq,e,k⟩;unfold uA at e;split at e
 ·rename_i qs
  obtain⟨kk,ek,e⟩:=LD.mp e;obtain⟨ks,eks,e⟩:=LB.mp e;cases e;obtain⟨a,xs,rfl,g,r⟩:=aN.lst_inv hq;cases ry;obtain⟨_,its,n,rv,eg⟩:=g.is I;obtain⟨h1,h2⟩:=iK I (A:=X.A.in1) (show X.A.units+1+4<cLine by omega) ek hp rx eks r rv;refine SeqAt.in_listAt _ ⟨_,eg,rfl,n,rfl⟩ (fun w hw=>h1 w (by simpa using hw)) ⟨.bl _,H,I,rfl,?_⟩;rw[List.any_toArray,h2];exact k _ H (Same.refl H) rfl
 ·cases e
theorem za{X:Cx}(hu:X.A.units+64<cLine):OpR X (Lz .NotIn) (rP X.K ib):=by
 intro KW s σ H x y v u Q I rx ry ⟨p,q,z,hp,hq,e,k⟩;obtain⟨z0,e,ez⟩:=LD.mp (show (uA p q).bind _=some z from e);unfold uA at e;split at e
 ·rename_i qs
  obtain⟨kk,ek,e⟩:=LD.mp e;obtain⟨ks,eks,e⟩:=LB.mp e;subst e;cases ez;obtain⟨a,xs,rfl,g,r⟩:=aN.lst_inv hq;cases ry;obtain⟨_,its,n,rv,eg⟩:=g.is I;obtain⟨h1,h2⟩:=iK I (A:=X.A.in1) (show X.A.units+1+4<cLine by omega) ek hp rx eks r rv;refine SZ _ ⟨_,eg,rfl,n,rfl⟩ (fun w hw=>h1 w (by simpa using hw)) ⟨.bl _,H,I,rfl,?_⟩;rw[List.any_toArray,h2];exact k _ H (Same.refl H) rfl
 ·cases e
theorem sv:sx uA:=fun p q z e=>by
 unfold uA at e;split at e
 ·obtain⟨kk,ek,e⟩:=LD.mp e
  obtain⟨ks,eks,e⟩:=LB.mp e;cases e;exact⟨_,rfl⟩
 ·cases e
theorem qM:sx ib:=fun p q z e=>by
 obtain⟨z0,e1,ez⟩:=LD.mp (show (uA p q).bind _=some z from e);obtain⟨b,rfl⟩:=sv p q z0 e1;cases ez;exact⟨_,rfl⟩
end PU
namespace BF
def lexLt:List Nat->List Nat->Bool
 | x::xs,y::ys=>if x=y then lexLt xs ys else decide (x<y)
 | _,_=>false
def lt(a b:List Nat):Prop:=a.length<b.length\/(a.length=b.length/\lexLt a b=true)
theorem pK:∀{a b c:List Nat},lexLt a b=true->lexLt b c=true->lexLt a c=true
 | [],_,_,h,_=>by simp[lexLt] at h
 | x::xs,[],_,h,_=>by simp[lexLt] at h
 | x::xs,y::ys,[],_,h=>by simp[lexLt] at h
 | x::xs,y::ys,z::zs,h1,h2=>by
  simp only[lexLt] at h1 h2 ⊢
  by_cases e1:x=y
  ·subst e1
   rw[if_pos rfl] at h1
   by_cases e2:x=z
   ·subst e2
    rw[if_pos rfl] at h2 ⊢;exact pK h1 h2
   ·rw[if_neg e2] at h2 ⊢
    exact h2
  ·rw[if_neg e1] at h1
   by_cases e2:y=z
   ·subst e2
    rw[if_neg e1];exact h1
   ·rw[if_neg e2] at h2
    simp at h1 h2;rw[if_neg (by omega)];simp;omega
theorem lt_trans{a b c:List Nat}(h1:lt a b)(h2:lt b c):lt a c:=by
 unfold lt at *;rcases h1 with h1 | ⟨h1,e1⟩ <;> rcases h2 with h2 | ⟨h2,e2⟩
 ·exact .inl (by omega)
 ·exact .inl (by omega)
 ·exact .inl (by omega)
 ·exact .inr ⟨by omega,pK e1 e2⟩
theorem sf(i j:Nat)(h:i<j):∀r:List Nat,lexLt (r++[i]) (r++[j])=true
 | []=>by simp[lexLt,h];omega
 | x::r=>by
  show (if x=x then _ else _)=true;rw[if_pos rfl];exact sf i j h r
theorem vL(r:List Nat)(i j:Nat)(h:i<j):lt (r++[i]) (r++[j]):=.inr ⟨by simp,sf i j h r⟩
theorem se(i j:Nat):∀a b:List Nat,a.length=b.length->lexLt a b=true->lexLt (a++[i]) (b++[j])=true
 | [],_,_,h=>by simp[lexLt] at h
 | x::xs,[],h,_=>by simp at h
 | x::xs,y::ys,hl,h=>by
  simp only[lexLt,OI] at h ⊢
  by_cases e:x=y
  ·rw[if_pos e] at h ⊢
   exact se i j xs ys (by simpa using hl) h
  ·rw[if_neg e] at h ⊢
   exact h
theorem lt_snoc{a b:List Nat}(i j:Nat)(h:lt a b):lt (a++[i]) (b++[j]):=by
 rcases h with h | ⟨h,e⟩
 ·exact .inl (by simp;omega)
 ·exact .inr ⟨by simp[h],se i j a b h e⟩
theorem vK{S:Type}[DecidableEq S]:∀(l U:List S),l.Nodup->(∀x∈l,x∈U)->l.length<=U.length
 | [],_,_,_=>M0 _
 | x::l,U,nd,h=>by
  have nd':=Lq.mp nd;have hx:x∈U:=h x (by simp)
  have:=vK l (U.erase x) nd'.2 fun y hy=>by
   have hne:y≠x:=fun e=>nd'.1 (e▸hy);exact(SM hne).mpr (h y (by simp[hy]))
  rw[Rh hx] at this;have:=Rv hx;simp;omega
section
variable{S : Type}[DecidableEq S](lead : S → Nat → S)
abbrev Row(S:Type):=S×List Nat
def inn(near:Row S)(KU:List (Row S))(i:Nat):List (Row S):=if lead near.1 i∈KU.map (·.1) then KU else KU++[(lead near.1 i,near.2++[i])]
def sweep(near:Row S)(KU:List (Row S)):List (Row S):=(L7 13).foldl (inn lead near) KU
def bfs:Nat->Nat->List (Row S)->List (Row S)
 | 0,_,KU=>KU
 | n+1,d,KU=>match KU[d]? with
  | some near=>bfs n (d+1) (sweep lead near KU)
  | none=>KU
def run(s0:S)(row:List Nat):S:=row.foldl lead s0
variable(s0 : S)
structure Inv(KU:List (Row S)):Prop where
 h0:∃tl,KU=(s0,[])::tl
 nd:(KU.map (·.1)).Nodup
 srt:KU.Pairwise fun a b=>lt a.2 b.2
 run:∀p∈KU,run lead s0 p.2=p.1
 rng:∀p∈KU,∀i∈p.2,i<13
 len:∀(j:Nat)(p:Row S),KU[j]?=some p->p.2.length<=j
def Cl(KU:List (Row S))(p:Row S)(i:Nat):Prop:=∃q∈KU,q.1=lead p.1 i/\(q.2=p.2++[i]\/lt q.2 (p.2++[i]))
theorem Cs(near:Row S)(KU:List (Row S))(i:Nat):∃tl,inn lead near KU i=KU++tl:=by
 unfold inn
 split
 ·exact⟨[],by simp⟩
 ·exact⟨_,rfl⟩
theorem Cl.mono{KU tl:List (Row S)}{p:Row S}{i:Nat}(h:Cl lead KU p i):Cl lead (KU++tl) p i:=by
 obtain⟨q,hq,h1,h2⟩:=h;exact⟨q,by simp[hq],h1,h2⟩
theorem Ft{KU:List (Row S)}{d:Nat}{near:Row S}{i:Nat}(hi:i<13)(I:Inv lead s0 KU)(hd:KU[d]?=some near)(top:∀p∈KU,lt p.2 (near.2++[i])) :
  Inv lead s0 (inn lead near KU i)/\(inn lead near KU i)[d]?=some near/\(∀p∈inn lead near KU i,lt p.2 (near.2++[i+1]))/\Cl lead (inn lead near KU i) near i:=by
 have hdl:d<KU.length:=(L4.mp hd).1;have nm:near∈KU:=LM hd;have up:∀p∈KU,lt p.2 (near.2++[i+1]):=fun p hp=>lt_trans (top p hp) (vL near.2 i (i+1) (by omega));unfold inn
 split
 ·rename_i hm
  obtain⟨q,hq,e⟩:=LG.mp hm;exact⟨I,hd,up,q,hq,e,.inr (top q hq)⟩
 ·rename_i hm
  refine⟨⟨?_,?_,?_,?_,?_,?_⟩,?_,?_,?_⟩
  ·obtain⟨tl,e⟩:=I.h0
   exact⟨tl++[(lead near.1 i,near.2++[i])],by rw[e];rfl⟩
  ·rw[Ld,MI]
   refine⟨I.nd,by simp,fun a ha b hb e=>?_⟩;simp at hb;subst hb e;exact hm ha
  ·rw[SJ]
   refine⟨I.srt,by simp,fun a ha b hb=>?_⟩;rw[LH.mp hb];exact top a ha
  ·intro p hp
   rcases Lh.mp hp with hp | hp
   ·exact I.run p hp
   ·rw[LH.mp hp]
    show BF.run lead s0 (near.2++[i])=lead near.1 i;have:=I.run near nm;unfold BF.run at this ⊢;rw[N9,this];rfl
  ·intro p hp j hj
   rcases Lh.mp hp with hp | hp
   ·exact I.rng p hp j hj
   ·rw[LH.mp hp] at hj
    rcases Lh.mp hj with hj | hj
    ·exact I.rng near nm j hj
    ·rw[LH.mp hj];exact hi
  ·intro j p hp
   rw[SQ] at hp;split at hp
   ·exact I.len j p hp
   ·rename_i hj
    have e:=LH.mp (LM hp);subst e;have:=I.len d near hd;simp;omega
  ·rw[Lb hdl];exact hd
  ·intro p hp
   rcases Lh.mp hp with hp | hp
   ·exact up p hp
   ·rw[LH.mp hp]
    exact vL near.2 i (i+1) (by omega)
  ·exact⟨(lead near.1 i,near.2++[i]),by simp,rfl,.inl rfl⟩
theorem mJ{KU:List (Row S)}{d:Nat}{near:Row S}(I:Inv lead s0 KU)(hd:KU[d]?=some near)(top:∀p∈KU,lt p.2 (near.2++[0])):∀n,n<=13->
  ∃tl,(L7 n).foldl (inn lead near) KU=KU++tl/\Inv lead s0 (KU++tl)/\(∀p∈KU++tl,lt p.2 (near.2++[n]))/\∀i<n,Cl lead (KU++tl) near i
 | 0,_=>⟨[],by simp,by simpa using I,by simpa using top,fun i h=>absurd h (by omega)⟩
 | n+1,hn=>by
  obtain⟨tl,e,I1,t1,c1⟩:=mJ I hd top n (by omega);have hdl:d<KU.length:=(L4.mp hd).1;have hd1:(KU++tl)[d]?=some near:=by rw[Lb hdl];exact hd
  obtain⟨I2,hd2,t2,c2⟩:=Ft lead s0 (i:=n) (by omega) I1 hd1 t1;obtain⟨tl2,e2⟩:=Cs lead near (KU++tl) n;refine⟨tl++tl2,?_,?_,?_,?_⟩
  ·rw[Oz,N9,e]
   show inn lead near (KU++tl) n=_;rw[e2,Mr]
  ·rw[← Mr,← e2];exact I2
  ·rw[← Mr,← e2];exact t2
  ·intro i hi
   rw[← Mr];rcases Oe i n with h | h
   ·exact(c1 i h).mono lead
   ·have:i=n:=by omega
    subst this;rw[← e2];exact c2
theorem AZ(U:List S)(hU:∀KU,Inv lead s0 KU->∀p∈KU,p.1∈U):∀(n d:Nat)(KU:List (Row S)),Inv lead s0 KU->U.length<d+n->
  (∀(j:Nat)(p:Row S),j<d->KU[j]?=some p->∀i<13,Cl lead KU p i)->(∀near,KU[d]?=some near->∀p∈KU,lt p.2 (near.2++[0]))->
  Inv lead s0 (bfs lead n d KU)/\(∃tl,bfs lead n d KU=KU++tl)/\∀p∈bfs lead n d KU,∀i<13,Cl lead (bfs lead n d KU) p i
 | 0,d,KU,I,hn,c,top=>by
  refine⟨I,⟨[],by simp[bfs]⟩,fun p hp i hi=>?_⟩;have hp:p∈KU:=hp;obtain⟨j,hj⟩:=SO hp;have hj':=(L4.mp hj).1
  have:=vK (KU.map (·.1)) U I.nd fun x hx=>by
   obtain⟨q,hq,e⟩:=LG.mp hx;exact e▸hU KU I q hq
  simp at this;exact c j p (by omega) hj i hi
 | n+1,d,KU,I,hn,c,top=>by
  unfold bfs
  split
  ·rename_i near hd
   have hdl:d<KU.length:=(L4.mp hd).1;obtain⟨tl,e,I1,t1,c1⟩:=mJ lead s0 I hd (top near hd) 13 (by omega);have e:sweep lead near KU=KU++tl:=e;rw[e]
   obtain⟨J1,⟨tl2,J2⟩,J3⟩:=AZ U hU n (d+1) (KU++tl) I1 (by omega) (fun j p hj hp i hi=>by
    rcases Oe j d with h | h
    ·rw[Lb (by omega)] at hp
     exact(c j p h hp i hi).mono lead
    ·have hjd:j=d:=by omega
     subst hjd;rw[Lb hdl,hd] at hp;cases hp;exact c1 i hi) (fun near' hd' p hp=>by
    have h1:lt near.2 near'.2:=by
     have hs:=PC.mp I1.srt;obtain⟨q1,q2⟩:=L4.mp hd';have hd1:(KU++tl)[d]?=some near:=by rw[Lb hdl];exact hd
     obtain⟨q3,q4⟩:=L4.mp hd1;have:=hs d (d+1) q3 q1 (by omega);rw[q2,q4] at this;exact this
    have h2:=t1 p hp;exact lt_trans h2 (lt_snoc 13 0 h1))
   exact⟨J1,⟨tl++tl2,by rw[J2,Mr]⟩,J3⟩
  ·rename_i hd
   refine⟨I,⟨[],by simp⟩,fun p hp i hi=>?_⟩;obtain⟨j,hj⟩:=SO hp;have hj':=(L4.mp hj).1;have:=MK.mp hd;exact c j p (by omega) hj i hi
theorem sweep_keep{KU:List (Row S)}{d:Nat}{near:Row S}(I:Inv lead s0 KU)(hd:KU[d]?=some near)(top:∀p∈KU,lt p.2 (near.2++[0])) :
  Inv lead s0 (sweep lead near KU)/\(∃tl,sweep lead near KU=KU++tl)/\∀near',(sweep lead near KU)[d+1]?=some near'->∀p∈sweep lead near KU,lt p.2 (near'.2++[0]):=by
 have hdl:d<KU.length:=(L4.mp hd).1;obtain⟨tl,e,I1,t1,c1⟩:=mJ lead s0 I hd top 13 (by omega);have e:sweep lead near KU=KU++tl:=e;rw[e];refine⟨I1,⟨tl,rfl⟩,fun near' hd' p hp=>?_⟩
 have h1:lt near.2 near'.2:=by
  have hs:=PC.mp I1.srt;obtain⟨q1,q2⟩:=L4.mp hd';have hd1:(KU++tl)[d]?=some near:=by rw[Lb hdl];exact hd
  obtain⟨q3,q4⟩:=L4.mp hd1;have:=hs d (d+1) q3 q1 (by omega);rw[q2,q4] at this;exact this
 exact lt_trans (t1 p hp) (lt_snoc 13 0 h1)
theorem inv_len(U:List S)(hU:∀KU,Inv lead s0 KU->∀p∈KU,p.1∈U){KU:List (Row S)}(I:Inv lead s0 KU):KU.length<=U.length:=by
 have:=vK (KU.map (·.1)) U I.nd fun x hx=>by
  obtain⟨q,hq,e⟩:=LG.mp hx;exact e▸hU KU I q hq
 simpa using this
theorem inv_P(P:S->Prop)(h0:P s0)(hs:∀s,P s->∀i<13,P (lead s i)):∀KU,Inv lead s0 KU->∀p∈KU,P p.1:=by
 have hr:∀(row:List Nat)(s:S),P s->(∀i∈row,i<13)->P (run lead s row):=by
  intro row
  induction row with
  | nil=>intro s h _;exact h
  | cons i row ih=>intro s h hi;exact ih _ (hs s h i (hi i (by simp))) fun j hj=>hi j (by simp[hj])
 intro KU I p hp;rw[← I.run p hp];exact hr p.2 s0 h0 (I.rng p hp)
theorem inv_0:Inv lead s0 [(s0,[])]:=by
 refine⟨⟨[],rfl⟩,by simp,by simp,by simp[run],by simp,fun j p h=>?_⟩;have:=LH.mp (LM h);subst this;simp
theorem top_0(near:Row S)(h:[((s0,[]):Row S)][0]?=some near):∀p∈[((s0,[]):Row S)],lt p.2 (near.2++[0]):=fun p hp=>by
 have e1:=LH.mp (LM h);have e2:=LH.mp hp;subst e1 e2;exact .inl (by simp)
theorem bfs_all(U:List S)(n:Nat)(hn:U.length<n)(hU:∀KU,Inv lead s0 KU->∀p∈KU,p.1∈U) :
  Inv lead s0 (bfs lead n 0 [(s0,[])])/\∀p∈bfs lead n 0 [(s0,[])],∀i<13,Cl lead (bfs lead n 0 [(s0,[])]) p i:=by
 obtain⟨J1,_,J3⟩:=AZ lead s0 U hU n 0 [(s0,[])] (inv_0 lead s0) (by omega) (fun j p h=>absurd h (by omega)) (fun near h=>top_0 s0 near h);exact⟨J1,J3⟩
end
end BF
namespace BO
def val(c:List (Option Nat))(k:Nat):Nat:=(c.getD k none).getD 0
theorem val_of{c:List (Option Nat)}{k x:Nat}(h:c[k]?=some (some x)):val c k=x:=by
 unfold val;rw[Lk,h];rfl
theorem bS{c:List (Option Nat)}{k j:Nat}{v:Option Nat}(h:j≠k):val (c.set k v) j=val c j:=by
 unfold val;rw[Lk,Lk,Lx (MU h)]
theorem lR{c:List (Option Nat)}{k x:Nat}(h:k<c.length):val (c.set k (some x)) k=x:=val_of (Lr h)
abbrev S:=List (Option Nat)×List Nat
def stepB(m:Nat)(s:S)(k:Nat):S:=if s.1[k]?=some none then (s.1.set k (some (val s.1 m+1)),s.2++[k]) else s
def loopB(beh:Nat->List Nat):Nat->Nat->S->S
 | 0,_,s=>s
 | f+1,d,s=>match s.2[d]? with
  | some m=>loopB beh f (d+1) ((beh m).foldl (stepB m) s)
  | none=>s
section
variable(n : Nat)(out : Nat → Bool)(beh : Nat → List Nat)(E : Nat → Nat → Prop)
structure Jb(c:List (Option Nat))(r:List Nat):Prop where
 len:c.length=n
 mem:∀k,k∈r ↔ ∃x,c[k]?=some (some x)
 nd:r.Nodup
 srt:r.Pairwise fun k l=>val c k<=val c l
 out0:∀k,k<n->(out k=true ↔ c[k]?=some (some 0))
structure J(s:S)(d:Nat):Prop where
 b:Jb n out s.1 s.2
 le1:∀m,s.2[d]?=some m->∀k∈s.2,val s.1 k<=val s.1 m+1
 frm:∀k x,s.1[k]?=some (some x)->x≠0->∃m∈s.2.take d,E k m/\x=val s.1 m+1
 dn:∀m∈s.2.take d,∀k,k<n->E k m->k∈s.2/\val s.1 k<=val s.1 m+1
structure Jn(s:S)(d m:Nat)(pre:List Nat):Prop where
 b:Jb n out s.1 s.2
 hm:s.2[d]?=some m
 le1:∀k∈s.2,val s.1 k<=val s.1 m+1
 frm:∀k x,s.1[k]?=some (some x)->x≠0->∃m'∈s.2.take (d+1),E k m'/\x=val s.1 m'+1
 dn:∀m'∈s.2.take d,∀k,k<n->E k m'->k∈s.2/\val s.1 k<=val s.1 m'+1
 pr:∀k∈pre,k∈s.2
variable{n out E}
theorem Jb.lt{c:List (Option Nat)}{r:List Nat}(j:Jb n out c r){k:Nat}(h:k∈r):k<n:=by
 obtain⟨x,e⟩:=(j.mem k).mp h;have:=(L4.mp e).1;rw[j.len] at this;exact this
theorem Jn.step{s:S}{d m:Nat}{pre:List Nat}(j:Jn n out E s d m pre)(k:Nat)(hk:k<n)(hE:E k m):Jn n out E (stepB m s k) d m (pre++[k]):=by
 obtain⟨c,r⟩:=s;have mr:m∈r:=LM j.hm;have hkl:k<c.length:=by rw[j.b.len];exact hk
 unfold stepB
 by_cases hn:c[k]?=some none
 ·rw[if_pos hn]
  have kr:k ∉ r:=fun z=>by
   obtain⟨x,e⟩:=(j.b.mem k).mp z;have e:c[k]?=some (some x):=e;rw[hn] at e;cases e
  have ne:∀l∈r,l≠k:=fun l hl z=>kr (z▸hl);have dl:d<r.length:=(L4.mp j.hm).1;have tk:∀e,e<=d+1->(r++[k]).take e=r.take e:=fun e he=>List.take_append_of_le_length (by omega);have tm:∀e l,l∈r.take e->l∈r:=fun e l h=>OC h;refine⟨⟨by show (c.set k _).length=n;rw[Ny];exact j.b.len,fun l=>?_,?_,?_,fun l hl=>?_⟩,?_,fun l hl=>?_,fun l x e hx=>?_,fun m' hm' l hl he=>?_,fun l hl=>?_⟩
  ·show l∈r++[k] ↔ ∃x,(c.set k (some (val c m+1)))[l]?=some (some x)
   by_cases h:l=k
   ·subst h
    exact⟨fun _=>⟨_,Lr hkl⟩,fun _=>by simp⟩
   ·rw[Lx (MU h)]
    have:=j.b.mem l;simp only[Lh,LH,h,or_false];exact this
  ·show (r++[k]).Nodup
   rw[MI];exact⟨j.b.nd,by simp,fun a ha b hb e=>ne a ha (e.trans (LH.mp hb))⟩
  ·show (r++[k]).Pairwise fun a b=>val (c.set k _) a<=val (c.set k _) b
   rw[SJ];refine⟨O6 (fun {a b} ha hb h=>?_) j.b.srt,by simp,fun a ha b hb=>?_⟩
   ·rw[bS (ne a ha),bS (ne b hb)]
    exact h
   ·rw[LH.mp hb,bS (ne a ha),lR hkl]
    exact j.le1 a ha
  ·show out l=true ↔ (c.set k (some (val c m+1)))[l]?=some (some 0)
   by_cases h:l=k
   ·subst h
    rw[Lr hkl];have:=j.b.out0 l hl;have this:out l=true ↔ c[l]?=some (some 0):=this;rw[hn] at this;simp at this ⊢;exact this
   ·rw[Lx (MU h)]
    exact j.b.out0 l hl
  ·show (r++[k])[d]?=some m
   rw[Lb dl];exact j.hm
  ·show val (c.set k _) l<=val (c.set k _) m+1
   rw[bS (ne m mr)];rcases Lh.mp hl with hl | hl
   ·rw[bS (ne l hl)]
    exact j.le1 l hl
   ·rw[LH.mp hl,lR hkl]
    exact LX _
  ·have e:(c.set k (some (val c m+1)))[l]?=some (some x):=e
   show ∃m'∈(r++[k]).take (d+1),E l m'/\x=val (c.set k _) m'+1;rw[tk _ (LX _)]
   by_cases h:l=k
   ·subst h
    rw[Lr hkl] at e;cases e;refine⟨m,?_,hE,by rw[bS (ne m mr)]⟩;rw[O4,j.hm];simp
   ·rw[Lx (MU h)] at e
    obtain⟨m',h1,h2,h3⟩:=j.frm l x e hx;exact⟨m',h1,h2,by rw[bS (ne m' (tm _ _ h1))];exact h3⟩
  ·have hm':m'∈(r++[k]).take d:=hm'
   rw[tk _ (Oy _)] at hm';obtain⟨h1,h2⟩:=j.dn m' hm' l hl he;refine⟨MJ _ h1,?_⟩;show val (c.set k _) l<=val (c.set k _) m'+1;rw[bS (ne l h1),bS (ne m' (tm _ _ hm'))];exact h2
  ·show l∈r++[k]
   rcases Lh.mp hl with h | h
   ·exact MJ _ (j.pr l h)
   ·exact La _ h
 ·rw[if_neg hn]
  refine⟨j.b,j.hm,j.le1,j.frm,j.dn,fun l hl=>?_⟩;rcases Lh.mp hl with h | h
  ·exact j.pr l h
  ·rw[LH.mp h]
   cases e:c[k]? with
   | none=>exact absurd (MK.mp e) (by omega)
   | some o=>
    cases o with
    | none=>exact absurd e hn
    | some x=>exact(j.b.mem k).mpr ⟨x,e⟩
theorem Jn.all{d m:Nat}:∀(l pre:List Nat)(s:S),Jn n out E s d m pre->(∀k∈l,k<n/\E k m)->Jn n out E (l.foldl (stepB m) s) d m (pre++l)
 | [],pre,s,j,_=>by simpa using j
 | k::l,pre,s,j,h=>by
  rw[MM,show pre++k::l=(pre++[k])++l by simp];exact Jn.all l (pre++[k]) _ (j.step k (h k (by simp)).1 (h k (by simp)).2) fun x hx=>h x (by simp[hx])
theorem J.next{s:S}{d m:Nat}(hb:∀m,m<n->∀k,k∈beh m ↔ (k<n/\E k m))(j:J n out E s d)(hm:s.2[d]?=some m):J n out E ((beh m).foldl (stepB m) s) (d+1):=by
 have mn:m<n:=j.b.lt (LM hm)
 have j0:Jn n out E s d m []:=⟨j.b,hm,j.le1 m hm,fun k x e hx=>by
  obtain⟨m',h1,h2⟩:=j.frm k x e hx;exact⟨m',by rw[O4];exact MJ _ h1,h2⟩,j.dn,by simp⟩
 have j1:=Jn.all (beh m) [] s j0 fun k hk=>(hb m mn k).mp hk;generalize (beh m).foldl (stepB m) s=s' at j1 ⊢;refine⟨j1.b,fun m2 h2 k hk=>?_,j1.frm,fun m' hm' k hk he=>?_⟩
 ·have h1:=j1.le1 k hk
  obtain⟨a1,a2⟩:=L4.mp j1.hm;obtain⟨b1,b2⟩:=L4.mp h2;have:=PC.mp j1.b.srt d (d+1) a1 b1 (by omega);rw[a2,b2] at this;omega
 ·rw[O4,j1.hm] at hm'
  rcases Lh.mp hm' with h | h
  ·exact j1.dn m' h k hk he
  ·have:m'=m:=by simpa using h
   subst this;have kb:k∈beh m':=(hb m' mn k).mpr ⟨hk,he⟩;have kr:=j1.pr k (by simpa using kb);exact⟨kr,j1.le1 k kr⟩
theorem HP:∀(l:List Nat)(n:Nat),l.Nodup->(∀x∈l,x<n)->l.length<=n:=by
 intro l n nd h
 have:∀(l U:List Nat),l.Nodup->(∀x∈l,x∈U)->l.length<=U.length:=by
  intro l
  induction l with
  | nil=>intro U _ _;exact M0 _
  | cons x l ih=>
   intro U nd h;have nd':=Lq.mp nd;have hx:x∈U:=h x (by simp)
   have:=ih (U.erase x) nd'.2 fun y hy=>by
    have hne:y≠x:=fun e=>nd'.1 (e▸hy);exact(SM hne).mpr (h y (by simp[hy]))
   rw[Rh hx] at this;have:=Rv hx;simp;omega
 simpa using this l (L7 n) nd fun x hx=>MF.mpr (h x hx)
theorem Jb.rl{c:List (Option Nat)}{r:List Nat}(j:Jb n out c r):r.length<=n:=HP r n j.nd fun x hx=>j.lt hx
structure Fin_(n:Nat)(out:Nat->Bool)(E:Nat->Nat->Prop)(c:List (Option Nat)):Prop where
 len:c.length=n
 out0:∀k,k<n->(out k=true ↔ c[k]?=some (some 0))
 none_:∀k,k<n->out k=false->c[k]?=some none->∀m,m<n->E k m->c[m]?=some none
 some_:∀k x,k<n->out k=false->c[k]?=some (some x)->(∃m,m<n/\E k m/\∃y,c[m]?=some (some y)/\x=y+1)/\∀m y,m<n->E k m->c[m]?=some (some y)->x<=y+1
theorem J.fin{s:S}{d:Nat}(j:J n out E s d)(hd:s.2.length<=d):Fin_ n out E s.1:=by
 have tk:s.2.take d=s.2:=Nl hd;refine⟨j.b.len,j.b.out0,fun k hk ho e m hm he=>?_,fun k x hk ho e=>⟨?_,fun m y hm he ey=>?_⟩⟩
 ·cases em:s.1[m]? with
  | none=>exact absurd (MK.mp em) (by rw[j.b.len];omega)
  | some o=>
   cases o with
   | none=>rfl
   | some y=>
    have:=(j.dn m (by rw[tk];exact(j.b.mem m).mpr ⟨y,em⟩) k hk he).1;obtain⟨x,ex⟩:=(j.b.mem k).mp this;rw[e] at ex;cases ex
 ·have hx:x≠0:=fun z=>by
   subst z;rw[(j.b.out0 k hk).mpr e] at ho;cases ho
  obtain⟨m,h1,h2,h3⟩:=j.frm k x e hx;have mr:=OC h1;obtain⟨y,ey⟩:=(j.b.mem m).mp mr;exact⟨m,j.b.lt mr,h2,y,ey,by rw[h3,val_of ey]⟩
 ·have:=(j.dn m (by rw[tk];exact(j.b.mem m).mpr ⟨y,ey⟩) k hk he).2
  rw[val_of e,val_of ey] at this;exact this
theorem loopB_ok(hb:∀m,m<n->∀k,k∈beh m ↔ (k<n/\E k m)):∀(f d:Nat)(s:S),J n out E s d->n<d+f->∃d',J n out E (loopB beh f d s) d'/\(loopB beh f d s).2.length<=d'
 | 0,d,s,j,h=>⟨d,j,by have:=j.b.rl;show s.2.length<=d;omega⟩
 | f+1,d,s,j,h=>by
  unfold loopB;cases e:s.2[d]? with
  | none=>exact⟨d,j,MK.mp e⟩
  | some m=>exact loopB_ok hb f (d+1) _ (j.next beh hb e) (by omega)
theorem J.start(n:Nat)(out:Nat->Bool)(E:Nat->Nat->Prop):J n out E ((L7 n).map fun k=>if out k=true then some 0 else none,(L7 n).filter out) 0:=by
 have at_:∀k,k<n->((L7 n).map fun k=>if out k=true then some 0 else (none:Option Nat))[k]?=some (if out k=true then some 0 else none):=fun k hk=>by
  rw[LC,Ms hk];rfl
 have z:∀k,val ((L7 n).map fun k=>if out k=true then some 0 else (none:Option Nat)) k=0:=fun k=>by
  by_cases hk:k<n
  ·unfold val
   rw[Lk,at_ k hk];cases h:out k <;> simp
  ·unfold val
   rw[Lk,MP (by simpa using hk)];rfl
 refine⟨⟨by simp,fun k=>?_,List.filter_sublist.nodup List.nodup_range,?_,fun k hk=>?_⟩,fun m _ k _=>?_,fun k x e hx=>?_,by simp⟩
 ·show k∈(L7 n).filter out ↔ ∃x,((L7 n).map fun k=>if out k=true then some 0 else (none:Option Nat))[k]?=some (some x)
  constructor
  ·intro h
   obtain⟨h1,h2⟩:=MD.mp h;exact⟨0,by rw[at_ k (MF.mp h1),if_pos h2]⟩
  ·rintro⟨x,e⟩
   have hk:k<n:=by have:=(L4.mp e).1;simpa using this
   rw[at_ k hk] at e
   by_cases h:out k=true
   ·exact MD.mpr ⟨MF.mpr hk,h⟩
   ·rw[if_neg h] at e;cases e
 ·show ((L7 n).filter out).Pairwise _
  refine O6 (R:=fun _ _=>True) (fun {a b} _ _ _=>by show val _ a<=val _ b;rw[z a];exact M0 _) ?_;exact List.pairwise_of_forall fun _ _=>trivial
 ·show out k=true ↔ ((L7 n).map fun k=>if out k=true then some 0 else (none:Option Nat))[k]?=some (some 0)
  rw[at_ k hk]
  by_cases h:out k=true
  ·simp[h]
  ·simp[h]
 ·show val _ k<=val _ m+1
  rw[z k];omega
 ·exfalso
  have e:((L7 n).map fun k=>if out k=true then some 0 else (none:Option Nat))[k]?=some (some x):=e;have hk:k<n:=by have:=(L4.mp e).1;simpa using this
  rw[at_ k hk] at e
  by_cases h:out k=true
  ·rw[if_pos h] at e;cases e;exact hx rfl
  ·rw[if_neg h] at e;cases e
end
end BO
section
namespace PU
open PySem L2
theorem aq{m n:Nat}{g:PSt->R Fl}{ps:List PV}{p:PV}(hl:ps.length=m)(h:g (PU.start n ps)=.ok (.ret p)):dF m n g ps=some p:=by
 unfold dF;rw[if_pos hl,h]
theorem zP{α:Type}{xs:List α}{i:Int}(d:α)(h0:0<=i)(h1:i<xs.length):atI xs i=some (xs.getD i.toNat d):=by
 have h2:i.toNat<xs.length:=by omega
 exact aZ (n:=i.toNat) (by omega) (by simp[h2])
def mkS(l:List Nat):Str:=⟨l.toArray⟩
theorem kG(a b:List Nat):mkS a++mkS b=mkS (a++b):=by
 show Str.mk (a.toArray++b.toArray)=_;simp[mkS]
@[simp] theorem cA(a:List Nat):(mkS a).length=a.length:=by simp[mkS,Str.length]
@[simp] theorem gp(a:List Nat):(mkS a).cps.toList=a:=by simp[mkS]
theorem qC(c:Nat):(⟨#[c]⟩:Str)=mkS [c]:=rfl
theorem eM:("":Str)=mkS []:=by decide +kernel
theorem zj(l:List Nat)(z:Int)(h0:0<=z)(h1:z<l.length)(hl:l.length<=16777216):gIx (.str (mkS l)) (.int z)=some (.str ⟨#[l.getD z.toNat 0]⟩):=
 yn (by simpa using hl) (by rw[gp];exact zP 0 h0 h1)
theorem gJ(x:List Nat)(c:Nat)(hx:x.length<=1000):eX (.str (mkS x)) (.str ⟨#[c]⟩)=some (.str (mkS (x++[c]))):=by
 rw[qC,k8 (by simp;omega),kG]
theorem uk(xs:List Str):jG (xs.map .str)=some xs:=by
 induction xs with
 | nil=>rfl
 | cons x r ih=>simp[jG,ih]
theorem DM{s:Str}{xs:List Str}(h:(xs.map (·.length)).sum+xs.length * s.length<=16777216):qR (.str s) (.lst (xs.map .str))=some (.str (Q8 s xs)):=by
 show (jG (xs.map PV.str)).bind (fun ys=>if (ys.map (·.length)).sum+ys.length * s.length<=16777216 then some (PV.str (Txt.join s ys)) else none)=_;rw[uk,Qe,if_pos h,zi]
end PU
namespace MT
open PySem L2 PU
inductive Room where
 | menu (text:Str) (keys:List (Str×Str)) (wrong waits:Int×Str)
 | names (text:Str) (words:List (Str×Str)) (wrong waits:Int×Str)
 | hours (spans:List (Int×Int×Str)) (last:Str)
 | hand (text:Str)
 | fin (text:Str)
structure House where
 first:Str
 letters:List (Str×Str)
 rooms:List (Str×Room)
def pv2(p:Str×Str):PV:=.tup [.str p.1,.str p.2]
def pvI(p:Int×Str):PV:=.tup [.int p.1,.str p.2]
def pv3(p:Int×Int×Str):PV:=.tup [.int p.1,.int p.2.1,.str p.2.2]
def Room.pv:Room->PV
 | .menu t ks wr wa=>.tup [.str "menu",.str t,.tup (ks.map pv2),pvI wr,pvI wa]
 | .names t ks wr wa=>.tup [.str "names",.str t,.tup (ks.map pv2),pvI wr,pvI wa]
 | .hours sp l=>.tup [.str "hours",.tup (sp.map pv3),.str l]
 | .hand t=>.tup [.str "hand",.str t]
 | .fin t=>.tup [.str "end",.str t]
def aw(rs:List (Str×Room)):PV:=.dct (rs.map fun r=>.inr r.1) (rs.map fun r=>r.2.pv)
def House.pv (h:House):PV:=.dct [.inr "first",.inr "letters",.inr "rooms"] [.str h.first,.lst (h.letters.map pv2),aw h.rooms]
def num(i:Int):Str:=toString i
abbrev sp:Str:=" "
def Ay(kind name:Str)(wr wa:Int×Str)(t:Str):Str:=kind++(sp++(name++(sp++(num wr.1++(sp++(wr.2++(sp++(num wa.1++(sp++(wa.2++(sp++t)))))))))))
def Df(a b c:Str):Str:=a++(sp++(b++(sp++c)))
def K1(a b c d:Str):Str:=a++(sp++(b++(sp++(c++(sp++d)))))
def yE(name:Str):Room->List Str
 | .menu t ks wr wa=>Ay "menu" name wr wa t::ks.map fun k=>Df "key" k.1 k.2
 | .names t ks wr wa=>Ay "names" name wr wa t::ks.map fun k=>Df "name" k.1 k.2
 | .hours sp l=>Df "hours" name l::sp.map fun s=>K1 "from" (num s.1) (num s.2.1) s.2.2
 | .hand t=>[Df "hand" name t]
 | .fin t=>[Df "end" name t]
def House.rows (h:House):List Str:=("first"++(sp++h.first):Str)::(h.letters.map (fun l=>Df "letters" l.1 l.2)++h.rooms.flatMap fun r=>yE r.1 r.2)
def House.text (h:House):Str:=Q8 "\n" h.rows
end MT
end
namespace PU
open PySem L2
def chZ(fc:PSt->R PV)(g':PV->PV->Option PV)(ρ:PSt)(q:PV):PV->R PV
 | .bl true=>iZ (opP g' q) (fc ρ)
 | .bl false=>.ok (.bl false)
 | _=>.no
def chQ(fc:PSt->R PV)(g g':PV->PV->Option PV)(ρ:PSt)(p q:PV):R PV:=iZ (chZ fc g' ρ q) (R.ofO (g p q))
@[simp] theorem Ia(fc:PSt->R PV)(g':PV->PV->Option PV)(ρ:PSt)(q:PV):chZ fc g' ρ q (.bl true)=iZ (opP g' q) (fc ρ):=by unfold chZ;exact Lm _
@[simp] theorem Ki(fc:PSt->R PV)(g':PV->PV->Option PV)(ρ:PSt)(q:PV):chZ fc g' ρ q (.bl false)=.ok (.bl false):=by unfold chZ;exact Lm _
@[simp] theorem Ib(fc:PSt->R PV)(g g':PV->PV->Option PV)(ρ:PSt)(p q:PV):chQ fc g g' ρ p q=iZ (chZ fc g' ρ q) (R.ofO (g p q)):=by unfold chQ;exact Lm _
@[simp] theorem Gk{fa fb fc:PSt->R PV}{g g':PV->PV->Option PV}{ρ:PSt}:sW fa fb fc g g' ρ=mI (chQ fc g g' ρ) (fa ρ) (fb ρ):=by
 unfold sW;cases fa ρ with
 | ok p=>
  cases fb ρ with
  | ok q=>
   simp only[R.ok_bind,we,Ib];cases g p q with
   | none=>rfl
   | some z=>
    simp only[R.ofO_some,R.ok_bind,kK];cases z with
    | bl b=>
     cases b with
     | true=>
      rw[Ia];cases fc ρ <;> rfl
     | false=>rfl
    | _=>rfl
  | _=>rfl
 | _=>cases fb ρ <;> rfl
theorem eN{α:Type}{enc:α->PV}{h:Tgt}{t:PSt->R Bool}{fe:PSt->R PV}{ρ:PSt}(P:α->Bool)(F:α->PV):∀(xs:List α),
  (∀x∈xs,∃ρ1,h (enc x) ρ=some ρ1/\t ρ1=.ok (P x)/\(P x=true->fe ρ1=.ok (F x)))->bL h t fe ρ (xs.map enc)=.ok ((xs.filter P).map F)
 | [],_=>rfl
 | x::xs,hs=>by
  obtain⟨ρ1,e1,e2,e3⟩:=hs x (Le ..);have ih:=eN P F xs fun y hy=>hs y (Lg _ hy);rw[L8];unfold bL;rw[e1];simp only[R.ofO_some,R.ok_bind,e2];cases hp:P x with
  | true=>
   rw[if_pos rfl,e3 hp,Pc hp,L8];simp only[R.ok_bind,ih]
  | false=>
   rw[if_neg LK,Pd (by rw[hp];exact LK)];exact ih
theorem iN{α:Type}{enc:α->PV}{h:Tgt}{g:PSt->R Fl}(P:α->Bool)(F:α->PV)(I:PSt->Prop)
  (hs:∀(x:α)(ρ:PSt),I ρ->∃ρ1,h (enc x) ρ=some ρ1/\(P x=true->g ρ1=.ok (.ret (F x)))/\(P x=false->∃ρ2,g ρ1=.ok (.next ρ2)/\I ρ2)) :
  ∀(xs:List α)(ρ:PSt),I ρ->(∀x,xs.find? P=some x->gL h g (xs.map enc) ρ=.ok (.ret (F x)))/\(xs.find? P=none->∃ρ',gL h g (xs.map enc) ρ=.ok (.next ρ')/\I ρ')
 | [],ρ,h0=>⟨fun x e=>(by cases e),fun _=>⟨ρ,rfl,h0⟩⟩
 | x::xs,ρ,h0=>by
  obtain⟨ρ1,e1,e2,e3⟩:=hs x ρ h0;cases hp:P x with
  | true=>
   rw[Rw hp];refine⟨fun y e=>?_,fun e=>by cases e⟩;cases e;rw[L8];unfold gL;rw[e1];simp only[R.ofO_some,R.ok_bind,e2 hp]
  | false=>
   obtain⟨ρ2,e4,i2⟩:=e3 hp;obtain⟨k1,k2⟩:=iN P F I hs xs ρ2 i2;rw[Oa (by rw[hp];exact LK)]
   have e5:gL h g ((x::xs).map enc) ρ=gL h g (xs.map enc) ρ2:=by
    rw[L8]
    conv=>lhs;unfold gL
    rw[e1];simp only[R.ofO_some,R.ok_bind,e4]
   rw[e5];exact⟨k1,k2⟩
@[simp] theorem GH{n:Nat}{t:PSt->R Bool}{g:PSt->R Fl}{ρ:PSt}:whS n t g ρ=whF t g n ρ:=by unfold whS;exact Lm _
end PU
namespace WO
open PySem L2 PU MT
def sg(c:Nat):PV:=.str ⟨#[c]⟩
theorem yA(l:List Nat):fY (mkS l)=l.map sg:=by unfold fY sg;rw[gp]
theorem it_mk(l:List Nat):eD (.str (mkS l))=some (l.map sg):=by rw[← yA];unfold eD;exact Lm _
theorem in_one(c:Nat)(l:List Nat):gIn (sg c) (.str (mkS l))=some (.bl (decide (c∈l))):=by
 show some (PV.bl (inS ⟨#[c]⟩ (mkS l)))=_;have e:=PySem.StrLaws.found_one (mkS l) c;rw[gp] at e;unfold inS;rw[e]
def keyPv(o:Option Nat):PV:=match o with
 | some k=>sg k
 | none=>.non
def codePv(o:Option (List Nat)):PV:=match o with
 | some c=>.str (mkS c)
 | none=>.non
abbrev Lts:=List (Nat×List Nat)
def ltPv(ls:Lts):PV:=.lst (ls.map fun l=>.tup [sg l.1,.str (mkS l.2)])
def keyL(ls:Lts)(c:Nat):Option Nat:=(ls.find? fun l=>decide (c∈l.2)).map (·.1)
def codeL(ls:Lts)(x:List Nat):Option (List Nat):=if x.all (fun c=>(keyL ls c).isSome)=true then some (x.map fun c=>(keyL ls c).getD 0) else none
theorem wm:∀l:List Nat,Q8 "" (l.map fun c=>(⟨#[c]⟩:Str))=mkS l
 | []=>by rw[← eM];rfl
 | [a]=>rfl
 | a::b::r=>by
  have ih:=wm (b::r);have e:Q8 "" (((a::b::r:List Nat)).map fun c=>(⟨#[c]⟩:Str))=(⟨#[a]⟩:Str)++""++Q8 "" ((b::r).map fun c=>(⟨#[c]⟩:Str)):=rfl;rw[e,ih,qC,eM,kG,kG];rfl
theorem joinV (l:List Nat) (h:l.length<=1000):qR (.str "") (.lst (l.map sg))=some (.str (mkS l)):=by
 have e:l.map sg=(l.map fun c=>(⟨#[c]⟩:Str)).map PV.str:=by rw[LV];rfl
 rw[e,DM,wm];rw[LV];have:(RT ((fun x=>x.length) ∘ fun c=>({ cps:=#[c] }:Str)) l)=l.map fun _=>1:=rfl;rw[this];have:("":Str).length=0:=by decide +kernel
 have h2:∀l:List Nat,(l.map fun _=>1).sum=l.length:=fun l=>by
  induction l with
  | nil=>rfl
  | cons a r ih=>simp only[L8,List.sum_cons,ih,Lj];omega
 rw[h2,this];omega
theorem lG(ls:Lts)(x:List Nat):(x.map fun c=>keyPv (keyL ls c)).all mq=true:=by
 rw[Nh];intro p hp;obtain⟨c,_,rfl⟩:=LG.mp hp;cases keyL ls c <;> rfl
theorem none_in(ls:Lts)(x:List Nat):gIn .non (.lst (x.map fun c=>keyPv (keyL ls c)))=some (.bl (!x.all fun c=>(keyL ls c).isSome)):=by
 have e:gIn .non (.lst (x.map fun c=>keyPv (keyL ls c)))=if mq .non=true/\(x.map fun c=>keyPv (keyL ls c)).all mq=true then some (.bl (inV (scV .non) ((x.map fun c=>keyPv (keyL ls c)).map scV))) else none:=rfl
 rw[e,if_pos ⟨rfl,lG ls x⟩]
 congr 2
 clear e
 induction x with
 | nil=>rfl
 | cons c r ih=>
  simp only[L8,Nz,Bool.not_and,inV,MV];rw[← ih];unfold inV;cases keyL ls c <;> simp[keyPv,sg,scV,eqV]
theorem in_list_comp{α:Type}{enc:α->PV}{h:Tgt}{fe:PSt->R PV}{ρ:PSt}(F:α->PV)(xs:List α)
  (hs:∀x∈xs,∃ρ1,h (enc x) ρ=some ρ1/\fe ρ1=.ok (F x)):bL h jM fe ρ (xs.map enc)=.ok (xs.map F):=by
 have e:=eN (t:=jM) (fun _=>true) F xs fun x hx=>by
  obtain⟨ρ1,a,b⟩:=hs x hx;exact⟨ρ1,a,uE,fun _=>b⟩
 rw[List.filter_eq_self.mpr (fun _ _=>rfl)] at e;exact e
end WO
section
namespace PU
open PySem
theorem wW{α β:Type}{f:α->List β}{b:Nat}:∀{l:List α},(∀x∈l,(f x).length<=b)->(l.flatMap f).length<=l.length * b
 | [],_=>by simp
 | a::l,h=>by
  have:=wW (l:=l) fun x hx=>h x (Lg _ hx);have h1:=h a (Le ..);simp only[Qg,Lp,Lj,Nat.succ_mul];omega
end PU
namespace FA
open PySem L2 PU MT
@[simp] theorem yI:(LI "menu"=LI "names")=False:=by decide +kernel
@[simp] theorem yJ:(LI "menu"=LI "hours")=False:=by decide +kernel
@[simp] theorem Ak:(LI "menu"=LI "hand")=False:=by decide +kernel
@[simp] theorem Bx:(LI "menu"=LI "end")=False:=by decide +kernel
@[simp] theorem yG:(LI "names"=LI "menu")=False:=by decide +kernel
@[simp] theorem xS:(LI "names"=LI "hours")=False:=by decide +kernel
@[simp] theorem yH:(LI "names"=LI "hand")=False:=by decide +kernel
@[simp] theorem Aj:(LI "names"=LI "end")=False:=by decide +kernel
@[simp] theorem yK:(LI "hours"=LI "menu")=False:=by decide +kernel
@[simp] theorem xT:(LI "hours"=LI "names")=False:=by decide +kernel
@[simp] theorem Al:(LI "hand"=LI "menu")=False:=by decide +kernel
@[simp] theorem yL:(LI "hand"=LI "names")=False:=by decide +kernel
@[simp] theorem yM:(LI "hand"=LI "hours")=False:=by decide +kernel
@[simp] theorem By:(LI "hand"=LI "end")=False:=by decide +kernel
@[simp] theorem Bz:(LI "end"=LI "menu")=False:=by decide +kernel
@[simp] theorem Am:(LI "end"=LI "names")=False:=by decide +kernel
@[simp] theorem An:(LI "end"=LI "hours")=False:=by decide +kernel
@[simp] theorem BA:(LI "end"=LI "hand")=False:=by decide +kernel
@[simp] theorem uw:(LI "first"=LI "letters")=False:=by decide +kernel
@[simp] theorem xU:(LI "first"=LI "rooms")=False:=by decide +kernel
@[simp] theorem uu:(LI "letters"=LI "rooms")=False:=by decide +kernel
def holds(KY:Int)(s:Int×Int×Str):Bool:=decide (s.1<=KY) && decide (KY<s.2.1)
def handOf(spans:List (Int×Int×Str))(last:Str)(KY:Int):Str:=match spans.find? (holds KY) with
 | some s=>s.2.2
 | none=>last
abbrev Rooms:=List (Str×Room)
def lookR(rs:Rooms)(n:Str):Option Room:=(rs.find? fun r=>decide (r.1=n)).map (·.2)
def names(rs:Rooms):List Str:=rs.map (·.1)
theorem me(n:Str):∀rs:Rooms,bK (rs.map fun r=>.inr r.1) (rs.map fun r=>r.2.pv) (.inr n)=(lookR rs n).map Room.pv
 | []=>rfl
 | r::rs=>by
  have ih:=me n rs;unfold lookR at ih ⊢
  by_cases h:r.1=n
  ·simp[h]
  ·simp only[L8,lS]
   rw[if_neg (by simpa using h),Oa (by simpa using h)];exact ih
theorem ix_rooms(rs:Rooms)(n:Str):gIx (aw rs) (.str n)=(lookR rs n).map Room.pv:=me n rs
theorem look_some(rs:Rooms)(n:Str)(h:n∈names rs):∃r,lookR rs n=some r:=by
 unfold lookR;cases e:rs.find? fun r=>decide (r.1=n) with
 | some r=>exact⟨_,rfl⟩
 | none=>
  obtain⟨r,hr,e2⟩:=LG.mp h;exact absurd (Sm.mp e r hr) (by simpa using e2)
theorem keys_rooms(rs:Rooms):eD (aw rs)=some ((names rs).map .str):=by
 have e:eD (aw rs)=some ((rs.map fun r=>(Na r.1:Key)).map xX):=rfl;rw[e,LV];unfold names;rw[LV];rfl
end FA
end
namespace FA
open PySem L2 PU MT
theorem cut_from{α:Type}(xs:List α)(i:Nat)(h:i<xs.length):lI xs (some ((i:Int)+1)) none=xs.drop (i+1):=by
 unfold lI HT.sIx;simp;have e1:¬ ((i:Int)+1<0):=by omega
 have e2:((i:Int)+1).toNat=i+1:=by omega
 try simp[e1,e2]
 try rw[Nat.min_eq_left (by omega)]
 try exact Nl (by simp)
end FA
namespace MT
open PySem L2 PU
mutual
def flat:PV->Bool
 | .tup ps=>ub ps
 | .lst ps=>ub ps
 | .dct _ _=>false
 | .dtt _ _=>false
 | .fn _ _=>false
 | _=>true
def ub:List PV->Bool
 | []=>true
 | p::ps=>flat p && ub ps
end
mutual
theorem yV:∀(p:PV),flat p=true->bE p p=some true
 | .non,_=>by simp[bE]
 | .bl _,_=>by simp[bE]
 | .int _,_=>by simp[bE]
 | .str _,_=>by simp[bE]
 | .tup ps,h=>by
  simp only[bE];exact iC ps (by simpa [flat] using h)
 | .lst ps,h=>by
  simp only[bE];exact iC ps (by simpa [flat] using h)
 | .dct _ _,h=>by simp[flat] at h
 | .dtt _ _,h=>by simp[flat] at h
 | .fn _ _,h=>by simp[flat] at h
theorem iC:∀(ps:List PV),ub ps=true->cQ ps ps=some true
 | [],_=>by simp[cQ]
 | p::ps,h=>by
  simp only[ub,MH] at h;simp only[cQ,yV p h.1,iC ps h.2,Qe,Bool.and_self]
end
def qi(rs:List (Str×Room))(k:Str)(r:Room):List (Str×Room):=if k∈rs.map (·.1) then rs.map (fun x=>if x.1=k then (x.1,r) else x) else rs++[(k,r)]
theorem qw(rs:List (Str×Room))(k:Str)(r:Room):jA (rs.map fun r=>.inr r.1) (rs.map fun r=>r.2.pv) (.inr k) r.pv=aw (qi rs k r):=by
 unfold jA qi
 by_cases h:k∈rs.map (·.1)
 ·rw[if_pos h,if_pos (by
   obtain⟨x,hx,e⟩:=LG.mp h;rw[N6];exact⟨.inr x.1,LG.mpr ⟨x,hx,rfl⟩,by simp[e]⟩)]
  have e1:(rs.map fun x=>if x.1=k then (x.1,r) else x).map (fun r=>(Na r.1:Key))=rs.map fun r=>.inr r.1:=by
   rw[LV];apply NH;intro x _;simp only[NF]
   split <;> rfl
  have e2:jJ (rs.map fun r=>.inr r.1) (rs.map fun r=>r.2.pv) (.inr k) r.pv=(rs.map fun x=>if x.1=k then (x.1,r) else x).map fun r=>r.2.pv:=by
   unfold jJ;clear h e1
   induction rs with
   | nil=>rfl
   | cons x rs ih=>
    simp only[L8,MX,ih,Sum.inr.injEq]
    congr 1
    split <;> rfl
  unfold aw;rw[e1,e2]
 ·rw[if_neg h,if_neg (by
   rw[N6];rintro⟨j,hj,e⟩;obtain⟨x,hx,rfl⟩:=LG.mp hj;exact h (LG.mpr ⟨x,hx,by simpa using e⟩))]
  unfold aw;simp
theorem BC{rs:List (Str×Room)}{k:Str}{r:Room}(P:Str×Room->Prop)(h:∀x∈rs,P x)(hk:∀x:Str×Room,x.1=k->x.2=r->P x)(nd:(rs.map (·.1)).Nodup) :
  (∀x∈qi rs k r,P x)/\((qi rs k r).map (·.1)).Nodup/\(qi rs k r).length<=rs.length+1:=by
 unfold qi
 by_cases hm:k∈rs.map (·.1)
 ·rw[if_pos hm]
  refine⟨fun x hx=>?_,?_,by simp⟩
  ·obtain⟨y,hy,e⟩:=LG.mp hx
   by_cases hyk:y.1=k
   ·rw[if_pos hyk] at e
    subst e;exact hk _ hyk rfl
   ·rw[if_neg hyk] at e
    subst e;exact h _ hy
  ·rw[LV]
   have:(rs.map ((fun x=>x.1) ∘ fun x=>if x.1=k then (x.1,r) else x))=rs.map (·.1):=by
    apply NH;intro x _;simp only[NF]
    split <;> rfl
   rw[this];exact nd
 ·rw[if_neg hm]
  refine⟨fun x hx=>?_,?_,by simp⟩
  ·rcases Lh.mp hx with hx | hx
   ·exact h x hx
   ·have:x=(k,r):=by simpa using hx
    subst this;exact hk _ rfl rfl
  ·rw[Ld,MI]
   refine⟨nd,by simp,fun a ha b hb e=>?_⟩;have:b=k:=by simpa using hb
   subst this;subst e;exact hm ha
end MT
namespace NM
open PySem L2 PU MT
def c24:List Nat:=[97,99,100,101,102,103,104,105,106,108,109,110,111,112,113,114,115,116,117,118,119,120,121,122]
def EH(n:Int):Nat:=(1+n % 8).toNat
def K9(n:Int):Int:=n / 8 % (1+n % 8)
def EJ(n:Int)(t k:Nat):Nat:=c24.getD ((n / ((k:Int)+2)+(t:Int) * (if (k:Int)=K9 n then 1 else 0)) % 24).toNat 0
def C1(n:Int)(t i:Nat):List Nat:=(L7 i).map (EJ n t)
def nm(n:Int)(t:Nat):Str:=mkS (C1 n t (EH n))
theorem G3(KZ:List Str)(z:Int)(h:0<KZ.length):∃x∈KZ,atI (KZ.map PV.str) (z % (KZ.length:Int))=some (.str x):=by
 have h0:0<=z % (KZ.length:Int):=RD _ (by omega);have h1:z % (KZ.length:Int)<KZ.length:=QW _ (by omega);have h2:(z % (KZ.length:Int)).toNat<KZ.length:=by omega
 refine⟨KZ[(z % (KZ.length:Int)).toNat],Ml h2,aZ (n:=(z % (KZ.length:Int)).toNat) (by omega) ?_⟩;rw[LC,LU h2];rfl
theorem Kr(ss:List Str)(i:Nat)(hi:i<ss.length):atI (ss.map PV.str) (i:Int)=some (.str ss[i]):=aZ rfl (by
 rw[LC,LU hi];rfl)
theorem kJ(rs:FA.Rooms)(k:Str)(r:Room)(x:Str):x∈FA.names (qi rs k r) ↔ x∈FA.names rs\/x=k:=by
 unfold FA.names qi
 by_cases h:k∈rs.map (·.1)
 ·rw[if_pos h,LV]
  have:(rs.map ((fun x=>x.1) ∘ fun x=>if x.1=k then (x.1,r) else x))=rs.map (·.1):=by
   apply NH;intro x _;simp only[NF]
   split <;> rfl
  rw[this];exact⟨.inl,fun z=>z.elim id fun e=>e▸h⟩
 ·rw[if_neg h]
  simp
def comeGo(rs:FA.Rooms)(KY:Int):Nat->Str->Option Str
 | 0,_=>none
 | n+1,x=>match FA.lookR rs x with
  | some (.hours sp l)=>comeGo rs KY n (FA.handOf sp l KY)
  | some _=>some x
  | none=>none
theorem vQ(rs:FA.Rooms)(n:Str)(r:Room)(h:FA.lookR rs n=some r):(n,r)∈rs:=by
 unfold FA.lookR at h;cases e:rs.find? fun r=>decide (r.1=n) with
 | none=>rw[e] at h;cases h
 | some q=>
  rw[e] at h;cases h;have h1:=R6 e;have h1:q.1=n:=by simpa using h1
  subst h1;exact NY e
end NM
section
namespace PU
open PySem L2
def Hd(p:PV)(lh:Option Int×Option Int):R PV:=R.ofO (wI p lh.1 lh.2)
@[simp] theorem Kd(p:PV)(a b:Option Int):Hd p (a,b)=R.ofO (wI p a b):=by unfold Hd;exact Lm _
@[simp] theorem Ge{f:PSt->R PV}{l h:PSt->R (Option Int)}{ρ:PSt}:gN f l h ρ=mI Hd (f ρ) (mI tQ (l ρ) (h ρ)):=by unfold gN;cases f ρ <;> cases l ρ <;> cases h ρ <;> rfl
theorem yi{x:Str}(lo hi:Option Int)(h:x.length<=16777216):wI (.str x) lo hi=some (.str (Mm x lo hi)):=if_pos h
@[simp] theorem DE(ps:List PV)(lo hi:Option Int):wI (.lst ps) lo hi=some (.lst (lI ps lo hi)):=rfl
end PU
namespace NM
open PySem L2 PU MT
theorem bF(ls:List Int)(k:Nat)(hk:k<ls.length):atI (ls.map PV.int) (k:Int)=some (.int ls[k]):=aZ rfl (by rw[LC,LU hk];rfl)
theorem cut_1{α:Type}(xs:List α)(h:0<xs.length):lI xs (some 1) none=xs.drop 1:=FA.cut_from xs 0 h
end NM
end
section
namespace PU
open PySem L2 MT
def Ds:PV->PV->R (List PV)
 | .lst ps,.lst qs=>if (ps.all ic || qs.all ic)=true then .ok ((uD ps qs).map .tup) else .no
 | _,_=>.no
@[simp] theorem wd(ps qs:List PV)(h:(ps.all ic || qs.all ic)=true):Ds (.lst ps) (.lst qs)=.ok ((uD ps qs).map .tup):=by unfold Ds;exact if_pos h
@[simp] theorem pX{α:Type}(f:α->Str)(l:List α):(l.map fun x=>PV.str (f x)).all ic=true:=by induction l <;> simp_all [ic]
@[simp] theorem IG{f g:PSt->R PV}{ρ:PSt}:Dc f g ρ=mI Ds (f ρ) (g ρ):=by
 unfold Dc;cases f ρ with
 | ok p=>
  cases g ρ with
  | ok q=>rw[R.ok_bind,R.ok_bind,we];cases p <;> cases q <;> rfl
  | er x=>rfl
  | no=>rfl
 | er x=>rfl
 | no=>rfl
def GD(fe fd:PSt->R PV)(g:PV->PV->PV->Option PV)(ρ:PSt)(p:PV):R PV:=if Cp p=true then mI (fun q y=>R.ofO (g p q y)) (fe ρ) (fd ρ) else .no
@[simp] theorem Jl(fe fd:PSt->R PV)(g:PV->PV->PV->Option PV)(ρ:PSt)(ks:List Key)(ps:List PV):GD fe fd g ρ (.dct ks ps)=mI (fun q y=>R.ofO (g (.dct ks ps) q y)) (fe ρ) (fd ρ):=by unfold GD;exact if_pos rfl
@[simp] theorem Gh{fo fe fd:PSt->R PV}{g:PV->PV->PV->Option PV}{ρ:PSt}:rY fo fe fd g ρ=iZ (GD fe fd g ρ) (fo ρ):=by
 unfold rY;cases fo ρ with
 | ok p=>
  rw[R.ok_bind,kK];unfold GD
  split
  ·cases fe ρ with
   | ok q=>cases fd ρ <;> rfl
   | er x=>rfl
   | no=>rfl
  ·rfl
 | er x=>rfl
 | no=>rfl
theorem jQ(l:List Nat)(n:Nat):Mm (mkS l) none (some (n:Int))=mkS (l.take n):=by
 have main:∀m:Nat,m<=l.length->Mm (mkS l) none (some (m:Int))=mkS (l.take m):=fun m hm=>by
  have e:=PySem.StrLaws.sliceText_to (x:=mkS l) (j:=m) ⟨by omega,by rw[gp];omega⟩;have e2:Mm (mkS l) none (some (m:Int))=PySem.StrLaws.sliceText (mkS l) none (some (m:Int)):=rfl;rw[e2,e,gp];have:((m:Int)-0).toNat=m:=by omega
  rw[this];rfl
 by_cases h:n<=l.length
 ·exact main n h
 ·have e:Mm (mkS l) none (some (n:Int))=Mm (mkS l) none (some (l.length:Int)):=by
   have e1:Oi none (some (n:Int)) 1 (mkS l).length=Oi none (some (l.length:Int)) 1 (mkS l).length:=by
    rw[cA];unfold Oi;have a:¬ ((n:Int)<0):=by omega
    have b:¬ ((l.length:Int)<0):=by omega
    have c:max (0:Int) (min (n:Int) (l.length:Int))=max 0 (min (l.length:Int) (l.length:Int)):=by omega
    simp only[a,b,if_false,c,show (1:Int) > 0 from by decide,if_true]
   unfold Mm;rw[e1]
  rw[e,main l.length (LX _),Qq,Nl (by omega)]
end PU
namespace BG
open PySem L2 PU MT
abbrev W:=List Nat
def pre(p c:W):Bool:=p.isPrefixOf c
theorem jh{p c:W}:pre p c=true ↔ p <+: c:=List.isPrefixOf_iff_prefix
def many(cs:List W)(p:W):Nat:=(cs.filter (pre p)).length
def own(cs:List W)(c:W):W:=match (L7 (c.length-1)).find? (fun i=>decide (many cs (c.take (i+1))=1)) with
 | some i=>c.take (i+1)
 | none=>c
def Code(c:W):Prop:=∃x:W,c=x++[35]/\35 ∉ x
theorem zI{c d:W}(hc:Code c)(hd:Code d)(h:c <+: d):c=d:=by
 obtain⟨x,rfl,hx⟩:=hc;obtain⟨y,rfl,hy⟩:=hd;obtain⟨t,e⟩:=h;cases ht:t.reverse with
 | nil=>
  have:t=[]:=by simpa using ht
  rw[this,Mh] at e;exact e
 | cons a r=>
  exfalso
  have e1:t=r.reverse++[a]:=by
   have:=congrArg List.reverse ht;simpa using this
  rw[e1,← Mr] at e;have e2:=List.append_inj' e rfl;exact hy (by rw[← e2.1];simp)
theorem nH(cs:List W)(c:W):own cs c <+: c:=by
 unfold own
 split
 ·exact OH _ _
 ·exact PZ _
theorem Ar(cs:List W)(c:W)(h:c≠[]):own cs c≠[]:=by
 unfold own
 split
 ·intro e
  cases c with
  | nil=>exact h rfl
  | cons a r=>simp at e
 ·exact h
theorem vA{cs:List W}(hcs:∀c∈cs,Code c){c d:W}(hc:c∈cs)(hd:d∈cs)(h:own cs c <+: d):c=d:=by
 unfold own at h;split at h
 ·rename_i i e
  have h1:many cs (c.take (i+1))=1:=by simpa using R6 e
  unfold many at h1;have m1:c∈cs.filter (pre (c.take (i+1))):=MD.mpr ⟨hc,jh.mpr (OH _ _)⟩;have m2:d∈cs.filter (pre (c.take (i+1))):=MD.mpr ⟨hd,jh.mpr h⟩;generalize cs.filter (pre (c.take (i+1)))=l at h1 m1 m2
  match l,h1,m1,m2 with
  | [a],_,m1,m2=>rw[LH.mp m1,LH.mp m2]
 ·exact zI (hcs c hc) (hcs d hd) h
theorem BH{p q r:W}(hp:p <+: r)(hq:q <+: r):p <+: q\/q <+: p:=by
 rcases Nat.le_total p.length q.length with h | h
 ·exact .inl (Ql hp hq h)
 ·exact .inr (Ql hq hp h)
theorem vB{cs:List W}(hcs:∀c∈cs,Code c){c d r:W}(hc:c∈cs)(hd:d∈cs)(h1:own cs c <+: r)(h2:own cs d <+: r):c=d:=by
 rcases BH h1 h2 with h | h
 ·exact vA hcs hc hd (PY h (nH cs d))
 ·exact(vA hcs hd hc (PY h (nH cs c))).symm
def uy(c:W):List W:=(L7 c.length).map fun i=>c.take (i+1)
theorem xu{l:List W}{p:W}(nd:l.Nodup)(h:p∈l):l.count p=1:=by
 induction l with
 | nil=>cases h
 | cons a r ih=>
  rw[Lq] at nd
  by_cases e:a=p
  ·subst e
   rw[List.count_cons_self,QP.mpr nd.1]
  ·rw[List.count_cons_of_ne e]
   exact ih nd.2 ((LR.mp h).resolve_left fun z=>e z.symm)
theorem uf(c p:W):(uy c).count p=if p≠[]/\p <+: c then 1 else 0:=by
 have nd:(uy c).Nodup:=by
  unfold uy Sn;rw[T6];refine O6 (R:=fun a b=>a<b) (fun {a b} ha hb hab e=>?_) Ru;rw[MF] at ha hb;have:=congrArg NR e;rw[MY,MY] at this;omega
 by_cases h:p≠[]/\p <+: c
 ·rw[if_pos h]
  refine xu nd ?_;unfold uy;refine LG.mpr ⟨p.length-1,MF.mpr ?_,?_⟩
  ·have:=h.2.length_le
   have:p.length≠0:=fun e=>h.1 (Pa.mp e);omega
  ·have:p.length≠0:=fun e=>h.1 (Pa.mp e)
   rw[show p.length-1+1=p.length by omega];exact(OW.mp h.2).symm
 ·rw[if_neg h]
  refine QP.mpr fun hm=>h ?_;unfold uy at hm;obtain⟨i,hi,rfl⟩:=LG.mp hm;rw[MF] at hi;refine⟨fun e=>?_,OH _ _⟩;have:=congrArg NR e;rw[MY,NB] at this;omega
theorem xw(cs:List W)(p:W)(hp:p≠[]):(cs.flatMap uy).count p=many cs p:=by
 induction cs with
 | nil=>rfl
 | cons c r ih=>
  rw[Qg,T7,ih,uf];unfold many
  by_cases h:p <+: c
  ·rw[if_pos ⟨hp,h⟩,Pc (jh.mpr h),Lj]
   omega
  ·rw[if_neg fun z=>h z.2,Pd fun z=>h (jh.mp z)]
   omega
structure Cnt(L:List W)(ks:List Key)(ps:List PV):Prop where
 len:ks.length=ps.length
 le:ks.length<=L.length
 at_:∀p:W,bK ks ps (.inr (mkS p))=if L.count p=0 then none else some (.int (L.count p))
theorem mkS_inj{a b:W}(h:mkS a=mkS b):a=b:=by
 have:=congrArg (fun s:Str=>s.cps.toList) h;simpa using this
theorem look_put(ks:List Key)(ps:List PV)(k:Key)(v:PV)(hl:ks.length=ps.length):∃ks' ps',jA ks ps k v=.dct ks' ps'/\ks'.length=ps'.length/\ks'.length<=ks.length+1/\∀j,bK ks' ps' j=if k=j then some v else bK ks ps j:=by
 unfold jA
 by_cases hk:(ks.any fun j=>decide (j=k))=true
 ·rw[if_pos hk]
  refine⟨ks,jJ ks ps k v,rfl,by simp[jJ,hl],by omega,fun j=>?_⟩
  induction ks generalizing ps with
  | nil=>simp at hk
  | cons a ks ih=>
   cases ps with
   | nil=>simp at hl
   | cons b ps=>
    have hl':ks.length=ps.length:=by simpa using hl
    have e:jJ (a::ks) (b::ps) k v=(if a=k then v else b)::jJ ks ps k v:=rfl;rw[e];simp only[lS]
    by_cases haj:a=j
    ·rw[if_pos haj,if_pos haj]
     by_cases hkj:k=j
     ·rw[if_pos (haj.trans hkj.symm),if_pos hkj]
     ·rw[if_neg fun z=>hkj (z.symm.trans haj),if_neg hkj]
    ·rw[if_neg haj,if_neg haj]
     by_cases hk2:(ks.any fun j=>decide (j=k))=true
     ·exact ih ps hl' hk2
     ·have hak:a=k:=by
       rw[MV] at hk;simp only[P0,decide_eq_true_eq] at hk;exact hk.resolve_right hk2
      have hkj:¬ k=j:=fun z=>haj (hak.trans z);rw[if_neg hkj]
      have:jJ ks ps k v=ps:=by
       clear ih hk e hl
       induction ks generalizing ps with
       | nil=>cases ps with
        | nil=>rfl
        | cons=>simp at hl'
       | cons c ks ih=>
        cases ps with
        | nil=>simp at hl'
        | cons d ps=>
         have e:jJ (c::ks) (d::ps) k v=(if c=k then v else d)::jJ ks ps k v:=rfl;rw[MV] at hk2;simp only[P0,decide_eq_true_eq,not_or] at hk2;rw[e,if_neg hk2.1,ih ps (by simpa using hl') hk2.2]
      rw[this]
 ·rw[if_neg hk]
  refine⟨ks++[k],ps++[v],rfl,by simp[hl],by simp,fun j=>?_⟩
  induction ks generalizing ps with
  | nil=>
   cases ps with
   | nil=>simp[bK]
   | cons=>simp at hl
  | cons a ks ih=>
   cases ps with
   | nil=>simp at hl
   | cons b ps=>
    rw[MV] at hk;simp only[P0,decide_eq_true_eq,not_or] at hk;simp only[OI,lS]
    by_cases haj:a=j
    ·rw[if_pos haj,if_pos haj,if_neg fun z=>hk.1 (haj.trans z.symm)]
    ·rw[if_neg haj,if_neg haj]
     exact ih ps (by simpa using hl) hk.2
theorem CY{L:List W}{ks:List Key}{ps:List PV}(c:Cnt L ks ps)(p:W):∃ks' ps',jA ks ps (.inr (mkS p)) (.int ((L.count p:Int)+1))=.dct ks' ps'/\Cnt (L++[p]) ks' ps':=by
 obtain⟨ks',ps',e,h1,h2,h3⟩:=look_put ks ps (.inr (mkS p)) (.int ((L.count p:Int)+1)) c.len;refine⟨ks',ps',e,h1,by rw[Lp,O0];have:=c.le;omega,fun q=>?_⟩;rw[h3,T7]
 by_cases hq:p=q
 ·subst hq
  rw[if_pos rfl,List.count_singleton_self,if_neg (by omega)]
  congr 2
 ·rw[if_neg fun z=>hq (mkS_inj (Nf z)),c.at_ q]
  have:List.count q [p]=0:=QP.mpr (by simp;exact fun z=>hq z.symm);rw[this,Nat.add_zero]
theorem CZ{L:List W}{ks:List Key}{ps:List PV}(c:Cnt L ks ps)(p:W):u9 (.dct ks ps) (.str (mkS p)) (.int 0)=some (.int (L.count p)):=by
 show some ((bK ks ps (.inr (mkS p))).getD (.int 0))=_;rw[c.at_ p]
 split
 ·rename_i h
  rw[h];rfl
 ·rfl
end BG
end
namespace NW
open PySem L2 PU MT BG
def jH(p:W)(o:Option PV)(x:W×Str):Option PV:=if x.1=p then some (.str x.2) else if p≠[]/\p <+: x.1 then some .non else o
def B6(bs:List (W×Str))(p:W):Option PV:=bs.foldl (jH p) none
def xY(p:W)(x:W×Str):Bool:=decide (p≠[]) && pre p x.1
theorem gF{p:W}{x:W×Str}:xY p x=true ↔ p≠[]/\p <+: x.1:=by simp[xY,jh]
theorem iq(p:W)(hp:p≠[]):∀(bs:List (W×Str))(o:Option PV),bs.foldl (jH p) o=match (bs.filter (xY p)).getLast? with
  | none=>o
  | some x=>if x.1=p then some (.str x.2) else some .non
 | [],o=>rfl
 | x::bs,o=>by
  rw[MM,iq p hp bs]
  by_cases h:xY p x=true
  ·rw[Pc h]
   have h':=(gF.mp h)
   have e:jH p o x=if x.1=p then some (.str x.2) else some .non:=by
    unfold jH;rw[if_pos h']
   cases hl:bs.filter (xY p) with
   | nil=>simp only[List.getLast?_nil,List.getLast?_singleton];exact e
   | cons a r=>
    rw[List.getLast?_cons_cons];cases hg:(a::r).getLast? with
    | none=>simp at hg
    | some y=>rfl
  ·rw[Pd h]
   have h':¬ (p≠[]/\p <+: x.1):=fun z=>h (gF.mpr z)
   have e:jH p o x=o:=by
    unfold jH;rw[if_neg h',if_neg fun e=>h' ⟨hp,by rw[e];exact PZ _⟩]
   rw[e]
section
variable{bs : List (W×Str)}(hne : ∀x ∈ bs, x.1 ≠ [])(hpf : ∀x ∈ bs, ∀y ∈ bs, x.1 <+: y.1 → x = y)
include hne hpf
theorem yg{x:W×Str}(hx:x∈bs):B6 bs x.1=some (.str x.2):=by
 unfold B6;rw[iq x.1 (hne x hx)];have m:x∈bs.filter (xY x.1):=MD.mpr ⟨hx,gF.mpr ⟨hne x hx,PZ _⟩⟩;cases e:(bs.filter (xY x.1)).getLast? with
 | none=>rw[Ra.mp e] at m;cases m
 | some y=>
  have my:=MD.mp (SL e);have:=hpf x hx y my.1 (gF.mp my.2).2;subst this;simp
theorem yf{x:W×Str}(hx:x∈bs){p:W}(hp:p≠[])(h1:p <+: x.1)(h2:p≠x.1):B6 bs p=some .non:=by
 unfold B6;rw[iq p hp];have m:x∈bs.filter (xY p):=MD.mpr ⟨hx,gF.mpr ⟨hp,h1⟩⟩;cases e:(bs.filter (xY p)).getLast? with
 | none=>rw[Ra.mp e] at m;cases m
 | some y=>
  have my:=MD.mp (SL e)
  have h3:¬ y.1=p:=fun z=>by
   have:y=x:=hpf y my.1 x hx (by rw[z];exact h1);exact h2 (by rw[← z,this])
  simp only[if_neg h3]
omit hpf in
theorem uI{p:W}(h:∀x∈bs,p≠[]->¬ p <+: x.1):B6 bs p=none:=by
 unfold B6
 by_cases hp:p=[]
 ·subst hp
  have:∀(l:List (W×Str)),(∀x∈l,x.1≠[])->l.foldl (jH []) none=none:=by
   intro l
   induction l with
   | nil=>intro _;rfl
   | cons x l ih=>
    intro hl;rw[MM]
    have e:jH [] none x=none:=by
     unfold jH;rw[if_neg (hl x Le),if_neg (by simp)]
    rw[e];exact ih fun y hy=>hl y (Lg _ hy)
  exact this bs hne
 ·rw[iq p hp]
  have:bs.filter (xY p)=[]:=List.filter_eq_nil_iff.mpr fun x hx z=>h x hx hp (gF.mp z).2;rw[this];rfl
end
structure Tells(ks:List Key)(ps:List PV)(F:W->Option PV):Prop where
 len:ks.length=ps.length
 at_:∀p,bK ks ps (.inr (mkS p))=F p
 nf:∀x∈ps,noFn x=true
theorem gm:∀ps:List PV,br ps=true ↔ ∀p∈ps,noFn p=true
 | []=>by simp[br]
 | p::ps=>by
  have e:br (p::ps)=(noFn p && br ps):=by simp[br]
  rw[e,MH,gm ps];constructor
  ·rintro⟨h1,h2⟩ q hq
   rcases LR.mp hq with rfl | hq
   ·exact h1
   ·exact h2 q hq
  ·intro h
   exact⟨h p (by simp),fun q hq=>h q (by simp[hq])⟩
theorem uC{k:Key}{v x:PV}:∀(ks:List Key)(ps:List PV),x∈ks.zipWith (fun j q=>if j=k then v else q) ps->x∈ps\/x=v
 | [],_,h=>by simp at h
 | _::_,[],h=>by simp at h
 | j::ks,p::ps,h=>by
  rw[MX] at h;rcases LR.mp h with h | h
  ·by_cases e:j=k
   ·rw[if_pos e] at h;exact .inr h
   ·rw[if_neg e] at h;exact .inl (by simp[h])
  ·rcases uC ks ps h with h | h
   ·exact .inl (by simp[h])
   ·exact .inr h
theorem vf{ks ks':List Key}{ps ps':List PV}{k:Key}{v:PV}(e:jA ks ps k v=.dct ks' ps'){x:PV}(hx:x∈ps'):x∈ps\/x=v:=by
 unfold jA at e;split at e
 ·injection e with e1 e2
  subst e2;exact uC ks ps hx
 ·injection e with e1 e2
  subst e2;simpa using hx
theorem Tells.put{ks:List Key}{ps:List PV}{F:W->Option PV}(h:Tells ks ps F)(p0:W)(v:PV)(hv:noFn v=true):∃ks' ps',jA ks ps (.inr (mkS p0)) v=.dct ks' ps'/\ks'.length<=ks.length+1/\Tells ks' ps' (fun p=>if p0=p then some v else F p):=by
 obtain⟨ks',ps',e,h1,h2,h3⟩:=look_put ks ps (.inr (mkS p0)) v h.len;refine⟨ks',ps',e,h2,h1,fun p=>?_,fun x hx=>(vf e hx).elim (h.nf x) fun z=>z▸hv⟩;rw[h3,h.at_]
 by_cases hp:p0=p
 ·rw[if_pos hp,if_pos (by rw[hp])]
 ·rw[if_neg hp,if_neg fun z=>hp (mkS_inj (Nf z))]
theorem sd{k:Key}:∀(ks:List Key)(ps:List PV),ks.length=ps.length->(ks.any fun j=>decide (j=k))=(bK ks ps k).isSome
 | [],[],_=>rfl
 | [],_::_,h=>by simp at h
 | _::_,[],h=>by simp at h
 | j::ks,p::ps,h=>by
  rw[lS,MV]
  by_cases e:j=k
  ·simp[e]
  ·rw[if_neg e,sd ks ps (by simpa using h)]
   simp[e]
theorem Tells.notIn{ks:List Key}{ps:List PV}{F:W->Option PV}(h:Tells ks ps F)(p:W):dX (.str (mkS p)) (.dct ks ps)=some (.bl (!(F p).isSome)):=by
 have e:dX (.str (mkS p)) (.dct ks ps)=some (.bl (!(ks.any fun j=>decide (j=.inr (mkS p))))):=rfl;rw[e,sd ks ps h.len,h.at_]
theorem Tells.ix{ks:List Key}{ps:List PV}{F:W->Option PV}(h:Tells ks ps F)(p:W):gIx (.dct ks ps) (.str (mkS p))=F p:=h.at_ p
def A0(wt:List (W×Str)):PV:=.tup (wt.map fun p=>.tup [.str (mkS p.1),.str p.2])
def wtD(wt:List (W×Str)):PV:=.dct (wt.map fun p=>.inr (mkS p.1)) (wt.map fun p=>.str p.2)
theorem pq:∀wt:List (W×Str),f6 (wt.map fun p=>PV.tup [.str (mkS p.1),.str p.2])=some (wt.map fun p=>(.inr (mkS p.1),.str p.2))
 | []=>rfl
 | p::wt=>by
  rw[L8,L8];unfold f6;rw[pq wt];rfl
theorem nr{ks:List Key}{ps:List PV}{k:Key}{v:PV}(h:k ∉ ks):jA ks ps k v=.dct (ks++[k]) (ps++[v]):=by
 unfold jA;rw[if_neg]
 ·simpa using h
theorem wU:∀(wt:List (W×Str))(ks:List Key)(ps:List PV),((wt.map (·.1)).Nodup)->(∀p∈wt,(.inr (mkS p.1):Key) ∉ ks)->(wt.map fun p=>((.inr (mkS p.1):Key),PV.str p.2)).foldl uo (.dct ks ps)=.dct (ks++wt.map fun p=>.inr (mkS p.1)) (ps++wt.map fun p=>.str p.2)
 | [],ks,ps,_,_=>by simp
 | p::wt,ks,ps,nd,hk=>by
  rw[L8,MM];have e:uo (.dct ks ps) (.inr (mkS p.1),.str p.2)=.dct (ks++[.inr (mkS p.1)]) (ps++[.str p.2]):=nr (hk p Le);rw[e,wU wt _ _ (Lq.mp nd).2]
  ·simp
  ·intro q hq z
   rcases Lh.mp z with z | z
   ·exact hk q (Lg _ hq) z
   ·have z:=Nf (LH.mp z)
    have z:=mkS_inj z;exact(Lq.mp nd).1 (LG.mpr ⟨q,hq,z⟩)
theorem xk(wt:List (W×Str))(hl:wt.length<=1000)(nd:(wt.map (·.1)).Nodup):pR (A0 wt)=some (wtD wt):=by
 have e:pR (A0 wt)=if (wt.map fun p=>PV.tup [.str (mkS p.1),.str p.2]).length<=1000 then (f6 (wt.map fun p=>PV.tup [.str (mkS p.1),.str p.2])).map eJ else none:=rfl
 rw[e,if_pos (by simpa using hl),pq];show some (eJ _)=_;have m:∀l,eJ l=l.foldl uo (.dct [] []):=fun l=>rfl;rw[m,wU wt [] [] nd (by simp)];simp[wtD]
theorem C9(wt:List (W×Str)):wK (wtD wt)=some (.lst (wt.map fun p=>.str (mkS p.1))):=by
 show some (PV.lst ((wt.map fun p=>(.inr (mkS p.1):Key)).map xX))=_;rw[LV];rfl
theorem yw(wt:List (W×Str))(nd:(wt.map (·.1)).Nodup){p:W×Str}(hp:p∈wt):bK (wt.map fun p=>.inr (mkS p.1)) (wt.map fun p=>.str p.2) (.inr (mkS p.1))=some (.str p.2):=by
 induction wt with
 | nil=>cases hp
 | cons q wt ih=>
  rw[L8,L8,lS];rcases LR.mp hp with rfl | h
  ·rw[if_pos rfl]
  ·have nd':=Lq.mp nd
   rw[if_neg fun z=>nd'.1 (LG.mpr ⟨p,h,(mkS_inj (Nf z)).symm⟩)];exact ih nd'.2 h
theorem pP{α β:Type}(f:α->β):∀(l:List α),(l.map f).Nodup->∀x∈l,∀y∈l,f x=f y->x=y
 | [],_,x,hx,_,_,_=>by cases hx
 | a::l,nd,x,hx,y,hy,e=>by
  rw[L8,Lq] at nd;rcases LR.mp hx with h1 | h1
  ·rcases LR.mp hy with h2 | h2
   ·rw[h1,h2]
   ·exact absurd (LG.mpr ⟨y,h2,by rw[← e,h1]⟩) nd.1
  ·rcases LR.mp hy with h2 | h2
   ·exact absurd (LG.mpr ⟨x,h1,by rw[e,h2]⟩) nd.1
   ·exact pP f l nd.2 x h1 y h2 e
end NW
namespace PU
open PySem L2
theorem rG{m n:Nat}{g:PSt->R Fl}{ps:List PV}{p:PV}(hl:ps.length=m)(h:g (PU.start n ps)=.ok (.ret p)):runN m n g ps=some p:=by
 unfold runN;rw[if_pos hl,h]
@[simp] theorem GJ(p:PV)(ρ:PSt):yF 0 (.own p::ρ)=.ok (.ret p):=by unfold yF;exact Lm _
@[simp] theorem GI(i:Nat)(l:Sl)(ρ:PSt):yF (i+1) (l::ρ)=yF i ρ:=by unfold yF;rw[MG]
end PU
namespace K33
open PySem L2 PU
noncomputable section
abbrev PT:Addr:=165
abbrev tw (w:Ln):TW:={ w:=w,tabs:=[PT],qual:=fun _ _=>"places.<locals>.<lambda>" }
def c_CODE_END:PV:=(.str "#")
def c_HEARD:PV:=(.dct [(.inr "menu"),(.inr "names"),(.inr "hand"),(.inr "end")] [(.str "asked"),(.str "asked"),(.str "hand"),(.str "end")])
def c_SIGNS:PV:=(.str "0123456789*#w")
def c_WAIT:PV:=(.str "w")
def eB:PSt->R Fl:=(aF (qh 2 (ab (getV 3) (kI 5040) dy)) (cx 3 (ab (getV 3) (kI 5040) Fx)))
def eA:PSt->R Fl:=(aF (cx 3 (ab (ab (ab (ab (getV 3) (getV 4) eX) (kI 1) eX) (kI 48271) wJ) (kI 2147483647) dy)) (qh 2 (ab (ab (getV 3) (kI 69621) wJ) (kI 2147483629) dy)))
def dG:PSt->R Fl:=(aF (lH 2 (s9 aH)) (aF (cx 3 (ab (getV 0) (kI 2) Fx)) (aF (ifF (cH (ab (ab (getV 0) (kI 2) dy) (kI 1) gEq)) (aF (jL (Bu (getV 1)) (af 4) eB) (uB 2 (cy (getV 2)))) cF) (aF (cx 3 (ab (getV 3) (kI 2147483647) dy)) (aF (jL (Bu (ab (getV 1) (kI 1) eX)) (af 4) eA) (cy (lY (gS 2) (ij (kI 1)) f9)))))))
def aL:List PV->Option PV:=dF 2 5 dG
def dN:PSt->R Fl:=(cx 7 (ab (getV 7) (ab (getV 1) (ab (ab (ab (getV 2) (getV 8) gIx) (ab (ab (kI 3) (getV 6) wJ) (un1 (ab (getV 8) (getV 4) gEq) GF) wJ) eX) (kI 20) dy) gIx) eX))
def dM:PSt->R Fl:=(aF (cx 7 (kS "")) (aF (jL (Bu (getV 3)) (af 8) dN) (qh 5 (getV 7))))
def i7:PSt->R Fl:=(aF (cx 1 (kS "bcdfghjlmnpqrstvwxyz")) (aF (cx 2 (aE (a6 (getV 0) (a6 (kI 10) aH)) aL)) (aF (cx 3 (ab (kI 1) (ab (ab (getV 2) (kI 8) gIx) (kI 8) dy) eX)) (aF (cx 4 (ab (ab (getV 2) (kI 9) gIx) (getV 3) dy)) (aF (lH 5 (s9 aH)) (aF (jL (Bu (kI 5)) (af 6) dM) (uB 5 (cy (getV 5)))))))))
def fL:List PV->Option PV:=dF 1 9 i7
def dH:PSt->R Fl:=(aF (ifF (cH (ab (getV 1) (un1 (getV 0) l7) gLt)) (cy (ab (getV 0) (getV 1) gIx)) cF) (cy (kI 0)))
def aB:List PV->Option PV:=dF 2 2 dH
def cY:PSt->R Fl:=(ifF (cH (ab (ab (ab (getV 3) (getV 6) gIx) (kI 3) dy) (kI 0) gEq)) (qh 5 (gK (a6 (getV 7) (a6 (ab (ab (lY (getV 1) f9 (ij (getV 2))) (s9 (a6 (kS "back") aH)) eX) (ab (ab (getV 3) (ab (getV 6) (kI 12) eX) gIx) (ab (getV 2) (kI 1) eX) dy) gIx) aH)))) cF)
def ia:PSt->R Fl:=(aF (cx 1 (aE (a6 (aE (a6 (getV 0) (a6 (kI 0) aH)) aB) aH) fL)) (aF (cx 2 (ab (s9 (a6 (kI 5) (a6 (kI 5) (a6 (kI 3) aH)))) (ab (aE (a6 (getV 0) (a6 (kI 1) aH)) aB) (kI 3) dy) gIx)) (aF (cx 3 (aE (a6 (aE (a6 (getV 0) (a6 (kI 2) aH)) aB) (a6 (kI 30) aH)) aL)) (aF (cx 4 (aE (a6 (aE (a6 (getV 0) (a6 (kI 3) aH)) aB) (a6 (kI 16) aH)) aL)) (aF (lH 5 (s9 aH)) (aF (jL (uc (kS "0123456789*#")) (fU 2 (aD (af 6) (aD (af 7) fV))) cY) (aF (cx 8 (gK (a6 (ab (kI 1) (ab (ab (getV 3) (kI 24) gIx) (kI 3) dy) eX) (a6 (ab (getV 1) (ab (ab (getV 3) (kI 25) gIx) (getV 2) dy) gIx) aH)))) (aF (cx 9 (gK (a6 (kS "menu") (a6 (kS "Hello") (a6 (un1 (gS 5) sC) (a6 (getV 8) (a6 (gK (a6 (ab (kI 1) (ab (ab (getV 3) (kI 26) gIx) (kI 3) dy) eX) (a6 (ab (getV 1) (ab (ab (getV 3) (kI 27) gIx) (getV 2) dy) gIx) aH))) aH))))))) (aF (cx 10 (rC (gK (a6 (gK (a6 (kS "bo") (a6 (ab (getV 1) (ab (ab (getV 4) (kI 0) gIx) (getV 2) dy) gIx) aH))) (a6 (gK (a6 (kS "lee") (a6 (ab (getV 1) (ab (ab (getV 4) (kI 1) gIx) (getV 2) dy) gIx) aH))) aH))) f9 (ij (ab (kI 1) (ab (ab (getV 4) (kI 2) gIx) (kI 2) dy) eX)))) (aF (cx 8 (gK (a6 (ab (kI 1) (ab (ab (getV 4) (kI 3) gIx) (kI 2) dy) eX) (a6 (ab (getV 1) (ab (ab (getV 4) (kI 4) gIx) (getV 2) dy) gIx) aH)))) (aF (cx 11 (gK (a6 (kS "names") (a6 (kS "Spell") (a6 (getV 10) (a6 (getV 8) (a6 (gK (a6 (kI 1) (a6 (ab (getV 1) (ab (ab (getV 4) (kI 8) gIx) (getV 2) dy) gIx) aH))) aH))))))) (aF (cx 12 (gK (a6 (ab (ab (getV 4) (kI 5) gIx) (kI 24) dy) (a6 (kI 24) (a6 (ab (getV 1) (ab (s9 (a6 (kI 0) (a6 (kI 1) (a6 (kI 3) aH)))) (ab (ab (getV 4) (kI 6) gIx) (kI 3) dy) gIx) gIx) aH))))) (aF (ifF (cH (ab (getV 2) (kI 3) gEq)) (cx 12 (gK (a6 (ab (ab (getV 4) (kI 5) gIx) (kI 24) dy) (a6 (kI 24) (a6 (ab (getV 1) (ab (ab (getV 4) (kI 6) gIx) (kI 2) dy) gIx) aH))))) cF) (aF (lH 13 (xl (ou (ab (getV 1) (kI 0) gIx) (getV 9) (ou (ab (getV 1) (kI 1) gIx) (getV 11) (ou (ab (getV 1) (kI 2) gIx) (gK (a6 (kS "hours") (a6 (gK (a6 (getV 12) aH)) (a6 (ab (getV 1) (ab (ab (getV 4) (kI 9) gIx) (kI 2) dy) gIx) aH)))) EK))))) (aF (ux 13 (ab (getV 1) (kI 3) gIx) (gK (a6 (kS "hand") (a6 (kS "Ann") aH)))) (aF (ux 13 (ab (getV 1) (kI 4) gIx) (gK (a6 (kS "end") (a6 (kS "Bye") aH)))) (aF (cx 14 (s9 (a6 (gK (a6 (kS "3") (a6 (kS "def") aH))) (a6 (gK (a6 (kS "4") (a6 (kS "abc") aH))) (a6 (gK (a6 (kS "5") (a6 (kS "jkl") aH))) (a6 (gK (a6 (kS "6") (a6 (kS "mno") aH))) aH)))))) (uB 13 (cy (xl (ou (kS "first") (ab (getV 1) (ab (ab (getV 4) (kI 10) gIx) (getV 2) dy) gIx) (ou (kS "letters") (getV 14) (ou (kS "rooms") (getV 13) EK)))))))))))))))))))))))
def fM:List PV->Option PV:=dF 1 15 ia
def bx:PSt->R Fl:=(ux 1 (gN (getV 2) f9 (ij (getV 3))) (ab (rY (gS 1) (gN (getV 2) f9 (ij (getV 3))) (kI 0) u9) (kI 1) eX))
def bw:PSt->R Fl:=(jL (Dh (kI 1) (ab (un1 (getV 2) l7) (kI 1) eX)) (af 3) bx)
def cT:PSt->R Fl:=(aF (lH 1 newD) (aF (jL (itF (getV 0)) (af 2) bw) (uB 1 (cy (getV 1)))))
def bq:List PV->Option PV:=dF 1 4 cT
def gI:PSt->R Fl:=(ifF (cH (ab (getV 1) (getV 3) gIn)) (cy (getV 2)) cF)
def jV:PSt->R Fl:=(aF (jL (itF (getV 0)) (fU 2 (aD (af 2) (aD (af 3) fV))) gI) (cy kN))
def jX:List PV->Option PV:=dF 2 4 jV
def ig:PSt->R PV:=(aE (a6 (getV 1) (a6 (getV 0) aH)) jX)
def l0:PSt->R Fl:=(aF (cx 2 (ff (itF (getV 1)) (af 0) jM ig 1 [0])) (cy (ifV (cH (ab kN (getV 2) gIn)) kN (qE (kS "") (getV 2) qR))))
def gy:List PV->Option PV:=dF 2 3 l0
def bX:PSt->R Fl:=(ifF (cH (ab (ab (getV 1) (gN (getV 0) f9 (ij (getV 2))) gIx) (kI 1) gEq)) (cy (gN (getV 0) f9 (ij (getV 2)))) cF)
def cS:PSt->R Fl:=(aF (jL (Dh (kI 1) (un1 (getV 0) l7)) (af 2) bX) (cy (getV 0)))
def cU:List PV->Option PV:=dF 2 3 cS
def eU:PSt->R PV:=(ab (aE (a6 (getV 1) (a6 (getV 0) aH)) gy) (kP c_CODE_END) eX)
def eT:PSt->R PV:=(gK (a6 (getV 0) (a6 (aE (a6 (getV 1) (a6 (getV 2) aH)) cU) aH)))
def gw:PSt->R Fl:=(aF (cx 2 (ff (itF (getV 1)) (af 0) jM eU 1 [0])) (aF (cx 3 (aE (a6 (getV 2) aH) bq)) (cy (ff (Dc (getV 1) (getV 2)) (fU 2 (aD (af 0) (aD (af 1) fV))) jM eT 2 [3]))))
def dv:List PV->Option PV:=dF 2 4 gw
def cg:PSt->R Fl:=(ux 2 (gN (getV 4) f9 (ij (getV 5))) kN)
def cb:PSt->R Fl:=(aF (jL (Dh (kI 1) (un1 (getV 4) l7)) (af 5) cg) (ux 2 (getV 4) (ab (getV 1) (getV 3) gIx)))
def gs:PSt->R Fl:=(aF (lH 2 newD) (aF (jL (itF (aE (a6 (getV 0) (a6 (un1 (getV 1) wK) aH)) dv)) (fU 2 (aD (af 3) (aD (af 4) fV))) cb) (uB 2 (cy (getV 2)))))
def eL:List PV->Option PV:=dF 2 6 gs
def d6:PSt->R Fl:=(aF (cx 2 (ab (ab (getV 0) (kS "rooms") gIx) (getV 1) gIx)) (aF (ifF (cH (ab (ab (getV 2) (kI 0) gIx) (kS "menu") gEq)) (cy (un1 (ab (getV 2) (kI 2) gIx) pR)) cF) (aF (ifF (cH (ab (ab (getV 2) (kI 0) gIx) (kS "names") gEq)) (cy (aE (a6 (ab (getV 0) (kS "letters") gIx) (a6 (un1 (ab (getV 2) (kI 2) gIx) pR) aH)) eL)) cF) (cy newD))))
def aC:List PV->Option PV:=dF 2 3 d6
def eV:PSt->R Fl:=(ux 1 (getV 2) (aE (a6 (getV 0) (a6 (getV 2) aH)) aC))
def gu:PSt->R Fl:=(aF (lH 1 newD) (aF (jL (itF (ab (getV 0) (kS "rooms") gIx)) (af 2) eV) (uB 1 (cy (getV 1)))))
def aX:List PV->Option PV:=dF 1 3 gu
def fh:PSt->R Fl:=(ifF (cH (sW (getV 2) (getV 1) (getV 3) gLe gLt)) (cy (getV 4)) cF)
def jW:PSt->R Fl:=(aF (jL (itF (ab (getV 0) (kI 1) gIx)) (fU 3 (aD (af 2) (aD (af 3) (aD (af 4) fV)))) fh) (cy (ab (getV 0) (kI 2) gIx)))
def jY:List PV->Option PV:=dF 2 5 jW
def fQ:PSt->R Fl:=(cx 3 (aE (a6 (ab (ab (getV 0) (kS "rooms") gIx) (getV 3) gIx) (a6 (getV 1) aH)) jY))
def kZ:PSt->R Fl:=(aF (cx 3 (getV 2)) (aF (whS 300 (cH (ab (ab (ab (ab (getV 0) (kS "rooms") gIx) (getV 3) gIx) (kI 0) gIx) (kS "hours") gEq)) fQ) (cy (getV 3))))
def iP:List PV->Option PV:=dF 3 4 kZ
def l6:PSt->R Fl:=(cy (gK (a6 (aE (a6 (getV 0) (a6 (getV 1) (a6 (getV 2) aH))) iP) (a6 (getV 3) (a6 (kI 0) (a6 (kI 0) (a6 (kS "") aH)))))))
def bG:List PV->Option PV:=dF 4 4 l6
def d8:PSt->R Fl:=(aF (cx 3 (ab (ab (ab (getV 0) (kS "rooms") gIx) (ab (getV 2) (kI 0) gIx) gIx) (kI 3) gIx)) (aF (cx 4 (ab (ab (getV 2) (kI 2) gIx) (kI 1) eX)) (aF (ifF (cH (ab (getV 4) (ab (getV 3) (kI 0) gIx) gEq)) (cy (aE (a6 (getV 0) (a6 (getV 1) (a6 (ab (getV 3) (kI 1) gIx) (a6 (ab (getV 2) (kI 0) gIx) aH)))) bG)) cF) (cy (gK (a6 (ab (getV 2) (kI 0) gIx) (a6 (ab (getV 2) (kI 1) gIx) (a6 (getV 4) (a6 (ab (getV 2) (kI 3) gIx) (a6 (kS "") aH))))))))))
def bt:List PV->Option PV:=dF 3 5 d8
def fJ:PSt->R Fl:=(aF (cx 5 (ab (ab (getV 3) (kI 4) gIx) (getV 4) eX)) (aF (ifF (cH (ab (getV 5) (getV 2) dX)) (cy (aE (a6 (getV 0) (a6 (getV 1) (a6 (getV 3) aH))) bt)) cF) (aF (cx 6 (ifV (cH (ab (ab (getV 2) (getV 5) gIx) (kS "back") gEq)) (ab (getV 3) (kI 1) gIx) (ab (getV 2) (getV 5) gIx))) (aF (ifF (cH (ab (getV 6) kN qS)) (cy (gK (a6 (ab (getV 3) (kI 0) gIx) (a6 (ab (getV 3) (kI 1) gIx) (a6 (ab (getV 3) (kI 2) gIx) (a6 (ab (getV 3) (kI 3) gIx) (a6 (getV 5) aH))))))) cF) (aF (ifF (cH (ab (getV 6) (kS "") gEq)) (cy (aE (a6 (getV 0) (a6 (getV 1) (a6 (getV 3) aH))) bt)) cF) (cy (aE (a6 (getV 0) (a6 (getV 1) (a6 (getV 6) (a6 (ab (getV 3) (kI 0) gIx) aH)))) bG)))))))
def dJ:List PV->Option PV:=dF 5 7 fJ
def iM:PSt->R Fl:=(aF (cx 3 (ab (ab (ab (getV 0) (kS "rooms") gIx) (ab (getV 2) (kI 0) gIx) gIx) (kI 4) gIx)) (aF (cx 4 (ab (ab (getV 2) (kI 3) gIx) (kI 1) eX)) (aF (ifF (cH (ab (getV 4) (ab (getV 3) (kI 0) gIx) gEq)) (cy (aE (a6 (getV 0) (a6 (getV 1) (a6 (ab (getV 3) (kI 1) gIx) (a6 (ab (getV 2) (kI 0) gIx) aH)))) bG)) cF) (cy (gK (a6 (ab (getV 2) (kI 0) gIx) (a6 (ab (getV 2) (kI 1) gIx) (a6 (ab (getV 2) (kI 2) gIx) (a6 (getV 4) (a6 (kS "") aH))))))))))
def iQ:List PV->Option PV:=dF 3 5 iM
def eK:PSt->R Fl:=(aF (cx 5 (ab (ab (ab (getV 0) (kS "rooms") gIx) (ab (getV 3) (kI 0) gIx) gIx) (kI 0) gIx)) (aF (ifF (orB (cH (ab (getV 5) (kS "hand") gEq)) (cH (ab (getV 5) (kS "end") gEq))) (cy (getV 3)) cF) (aF (ifF (cH (ab (getV 4) (kP c_WAIT) gEq)) (cy (aE (a6 (getV 0) (a6 (getV 1) (a6 (getV 3) aH))) iQ)) cF) (cy (aE (a6 (getV 0) (a6 (getV 1) (a6 (getV 2) (a6 (getV 3) (a6 (getV 4) aH))))) dJ)))))
def bW:List PV->Option PV:=dF 5 6 eK
def fP:PSt->R Fl:=(qh 5 (aE (a6 (getV 0) (a6 (getV 1) (a6 (ab (getV 4) (ab (ab (gS 5) (un1 (kI 1) y7) gIx) (kI 0) gIx) gIx) (a6 (ab (gS 5) (un1 (kI 1) y7) gIx) (a6 (getV 6) aH))))) bW))
def kW:PSt->R Fl:=(aF (cx 4 (aE (a6 (getV 0) aH) aX)) (aF (lH 5 (s9 (a6 (getV 2) aH))) (aF (jL (itF (getV 3)) (af 6) fP) (yF 5))))
def iO:List PV->Option PV:=runN 4 7 kW
def qQ:PSt->R Fl:=(cy (aE (a6 (getV 0) (a6 (getV 1) (a6 (ab (getV 0) (kS "first") gIx) (a6 (kS "") aH)))) bG))
def dD:List PV->Option PV:=dF 2 2 qQ
def AL:PSt->R Fl:=(cy (aE (a6 (getV 0) (a6 (getV 1) (a6 (aE (a6 (getV 0) (a6 (getV 1) aH)) dD) (a6 (getV 2) aH)))) iO))
def sJ:List PV->Option PV:=dF 3 3 AL
def lP:Expr:=Ai 1 (.Constant .none 0 ⟨0,0,0,0⟩) ((aT (M8.main.body.getD 30 (.Pass ⟨0,0,0,0⟩))).getD 1 (.Pass ⟨0,0,0,0⟩))
def bA:Lam:=Cd "places.<locals>.<lambda>" ["ways","hour","H"] (a7 (M8.main.body.getD 30 (.Pass ⟨0,0,0,0⟩))) lP
def gH:PSt->R PV:=(aE (a6 (getV 4) (a6 (getV 3) (a6 (ab (getV 2) (ab (getV 0) (kI 0) gIx) gIx) (a6 (getV 0) (a6 (getV 1) aH))))) bW)
def lO:Expr:=Ai 2 (.Constant .none 0 ⟨0,0,0,0⟩) ((aT (M8.main.body.getD 30 (.Pass ⟨0,0,0,0⟩))).getD 1 (.Pass ⟨0,0,0,0⟩))
def bg:Lam:=Cd "places.<locals>.<lambda>" [] (a7 (M8.main.body.getD 30 (.Pass ⟨0,0,0,0⟩))) lO
def mE:PSt->R PV:=(kB false)
open Classical in
noncomputable def appL(L:Lam)(qs cs:List PV):Option PV:=if L=bA then Dk 2 gH qs cs else if L=bg then Dk 1 mE qs cs else none
def bu:PSt->R Fl:=(aF (cx 8 (lD 1 (a6 (ab (getV 6) (kI 0) gIx) (a6 (getV 7) aH)) appL)) (ifF (cH (ab (getV 8) (gS 3) fK)) (aF (nu 3 (getV 8) (kB true)) (aF (qh 4 (gK (a6 (getV 8) (a6 (ab (ab (getV 6) (kI 1) gIx) (getV 7) eX) aH)))) (ifF (cH (lD 2 (a6 (getV 8) aH) appL)) Iz cF))) cF))
def cj:PSt->R Fl:=(aF (cx 6 (ab (gS 4) (getV 5) gIx)) (aF (B0 5 (kI 1)) (jL (itF (kP c_SIGNS)) (af 7) bu)))
def gv:PSt->R Fl:=(aF (lH 3 (zE (getV 0) (kB true))) (aF (lH 4 (s9 (a6 (gK (a6 (getV 0) (a6 (kS "") aH))) aH))) (aF (cx 5 (kI 0)) (aF (whS 20000 (B4 (cH (ab (getV 5) (un1 (gS 4) l7) gLt)) (EF (cH (lD 2 (a6 (ab (ab (gS 4) (un1 (kI 1) y7) gIx) (kI 0) gIx) aH) appL)))) cj) (yF 4)))))
def dq:List PV->Option PV:=runN 3 9 gv
def o4:PSt->R Fl:=(aF (cx 2 (aE (a6 (getV 0) aH) aX)) (cy (sZ (Dw (aE (a6 (getV 0) (a6 (getV 1) aH)) dD) (AA bA [2,1,0] (AA bg [] aH))) dq)))
def bV:List PV->Option PV:=dF 2 3 o4
def jq:PSt->R Fl:=(aF (cx 2 (ab (ab (getV 0) (kS "rooms") gIx) (ab (getV 1) (kI 0) gIx) gIx)) (cy (gK (a6 (ab (kP c_HEARD) (ab (getV 2) (kI 0) gIx) gIx) (a6 (ab (getV 2) (kI 1) gIx) aH)))))
def gx:List PV->Option PV:=dF 2 3 jq
def o5:PSt->R Fl:=(cy (ab (ab (aE (a6 (getV 0) (a6 (getV 1) aH)) gx) (kI 0) gIx) (kS "asked") gNe))
def gG:List PV->Option PV:=dF 2 2 o5
def oA:PSt->R Fl:=(ifF (cH (aE (a6 (getV 0) (a6 (getV 3) aH)) gG)) (uV 2 (ab (getV 3) (kI 0) gIx) (getV 4)) cF)
def wH:PSt->R Fl:=(aF (lH 2 newD) (aF (jL (itF (aE (a6 (getV 0) (a6 (getV 1) aH)) bV)) (fU 2 (aD (af 3) (aD (af 4) fV))) oA) (cy (un1 (gS 2) o6))))
def sM:List PV->Option PV:=dF 2 5 wH
def gr:PSt->R Fl:=pbF
def bO:List PV->Option PV:=dF 1 5 gr
def cX:PSt->R Fl:=(nu 4 (ab (getV 6) (kI 0) gIx) (getV 5))
def cW:PSt->R PV:=(ab (getV 1) (aE (a6 (getV 2) (a6 (getV 3) (a6 (ab (getV 5) (ab (getV 4) (kI 0) gIx) gIx) (a6 (getV 4) (a6 (getV 0) aH))))) bW) u7)
def bR:PSt->R Fl:=(uB 4 (qh 7 (ff (itF (kP c_SIGNS)) (af 0) jM cW 1 [4,0,1,8,3])))
def fI:PSt->R Fl:=(aF (cx 3 (aE (a6 (getV 0) aH) aX)) (aF (lH 4 HN) (aF (jL (uc (getV 2)) (fU 2 (aD (af 5) (aD (af 6) fV))) cX) (aF (lH 7 (s9 aH)) (aF (jL (itF (getV 2)) (fU 2 (aD (af 8) (aD (af 9) fV))) bR) (uB 7 (cy (getV 7))))))))
def dI:List PV->Option PV:=dF 3 10 fI
def fO:PSt->R PV:=(ifV (cH (aE (a6 (getV 2) (a6 (getV 0) aH)) gG)) (kI 0) kN)
def lq:PSt->R PV:=(getV 0)
def fu:PSt->R Bool:=(cH (ab (getV 1) (kI 0) gEq))
def e9:PSt->R Fl:=(ifF (cH (ab (ab (gS 3) (getV 8) gIx) kN qS)) (aF (qF 3 (getV 8) (ab (ab (gS 3) (getV 7) gIx) (kI 1) eX)) (qh 5 (getV 8))) cF)
def e8:PSt->R Fl:=(aF (cx 7 (ab (gS 5) (getV 6) gIx)) (aF (B0 6 (kI 1)) (jL (itF (ab (getV 4) (getV 7) gIx)) (af 8) e9)))
def kX:PSt->R Fl:=(aF (lH 3 (ff (itF (getV 2)) (fU 2 (aD (af 0) (aD (af 1) fV))) jM fO 2 [0])) (aF (cx 4 (aE (a6 (aE (a6 (getV 0) (a6 (getV 1) (a6 (getV 2) aH))) dI) aH) bO)) (aF (lH 5 (ff (CI (gS 3)) (fU 2 (aD (af 0) (aD (af 1) fV))) fu lq 2 [])) (aF (cx 6 (kI 0)) (aF (whS 20000 (cH (ab (getV 6) (un1 (gS 5) l7) gLt)) e8) (uB 3 (cy (getV 3))))))))
def dY:List PV->Option PV:=dF 3 9 kX
def pZ:PSt->R PV:=(getV 0)
def iw:PSt->R Bool:=(cH (ab (getV 1) kN qS))
def qP:PSt->R Fl:=(aF (cx 2 (aE (a6 (getV 0) (a6 (getV 1) aH)) bV)) (cy (ff (Dc (getV 2) (aE (a6 (getV 0) (a6 (getV 1) (a6 (getV 2) aH))) dY)) (fU 2 (aD (af 0) (aD (af 1) fV))) iw pZ 2 [])))
def o7:List PV->Option PV:=dF 2 3 qP
def om:PSt->R PV:=(qE (kP c_SIGNS) (getV 0) mz)
def wF:PSt->R Fl:=(cy (gK (a6 (un1 (getV 0) l7) (a6 (ff (itF (getV 0)) (af 0) jM om 1 []) aH))))
def pY:List PV->Option PV:=dF 1 1 wF
def kY:PSt->R Fl:=(cy (ab (aE (a6 (getV 0) aH) pY) (aE (a6 (getV 1) aH) pY) Fw))
def du:List PV->Option PV:=dF 2 2 kY
def dW:PSt->R Fl:=(cy (G5 (ab (getV 0) kN u3) (G5 (ab (getV 1) kN u3) (ab (getV 1) (ab (getV 0) (kI 1) Cy) gLt))))
def d7:List PV->Option PV:=dF 2 2 dW
def wG:PSt->R Fl:=(cy (aE (a6 (getV 0) (a6 (getV 1) (a6 (aE (a6 (getV 0) (a6 (getV 1) aH)) bV) aH))) dY))
def sL:List PV->Option PV:=dF 2 2 wG
def oq:PSt->R PV:=(ab (kS "0123456789*#w") (ab (getV 0) (kI 13) dy) gIx)
def qY:PSt->R PV:=(gK (a6 (ab (getV 0) (kI 0) gIx) (a6 (getV 1) aH)))
def oo:PSt->R PV:=(getV 0)
def lE:PSt->R Fl:=(aF (ifF (orB (cH (ab (getV 10) (getV 4) fK)) (cH (aE (a6 (gN (getV 3) f9 (ij (getV 9))) (a6 (ab (getV 4) (getV 10) u7) aH)) du))) (cy (kB false)) cF) (aF (ifF (B4 (cH (ab (getV 9) (kI 0) gGt)) (cH (aE (a6 (ab (getV 5) (ab (getV 8) (ab (getV 9) (kI 1) Cy) gIx) u7) (a6 (ab (getV 5) (getV 10) u7) aH)) d7))) (cy (kB false)) cF) (aF (ifF (B4 (cH (ab (getV 9) (kI 0) gGt)) (B4 (cH (ab (ab (getV 8) (ab (getV 9) (kI 1) Cy) gIx) (getV 6) uA)) (cH (ab (getV 10) (getV 6) ib)))) (cy (kB false)) cF) (ifF (cH (ab (ab (aE (a6 (getV 1) (a6 (getV 10) aH)) gx) (kI 0) gIx) (kS "asked") gNe)) (ifF (orB (cH (ab (ab (getV 10) (kI 0) gIx) (getV 7) dX)) (orB (cH (aE (a6 (gN (getV 3) f9 (ij (getV 9))) (a6 (ab (getV 7) (ab (getV 10) (kI 0) gIx) gIx) aH)) du)) (cH (ab (ab (getV 8) (un1 (kI 1) y7) gIx) (getV 10) gNe)))) (cy (kB false)) cF) cF))))
def zr:PSt->R Fl:=(aF (cx 1 (aE (a6 (getV 0) aH) fM)) (aF (cx 2 (ab (aE (a6 (getV 0) (a6 (kI 4) aH)) aB) (kI 24) dy)) (aF (cx 3 (qE (kS "") (ff (itF (lY (getV 0) (ij (kI 5)) (ij (kI 205)))) (af 0) jM oq 1 []) qR)) (aF (cx 4 (un1 (aE (a6 (getV 1) (a6 (getV 2) aH)) bV) mB)) (aF (cx 5 (un1 (ff (Dc (aE (a6 (getV 1) (a6 (getV 2) aH)) bV) (aE (a6 (getV 1) (a6 (getV 2) aH)) sL)) (fU 2 (aD (af 0) (aD (af 1) fV))) jM qY 2 []) mB)) (aF (cx 6 (ff (itF (aE (a6 (getV 1) (a6 (getV 2) aH)) o7)) (fU 2 (aD (af 0) (aD (af 1) fV))) jM oo 2 [])) (aF (cx 7 (un1 (aE (a6 (getV 1) (a6 (getV 2) aH)) sM) wL)) (aF (cx 8 (aE (a6 (getV 1) (a6 (getV 2) (a6 (getV 3) aH))) sJ)) (aF (ifF (cH (ab (un1 (getV 8) l7) (ab (un1 (getV 3) l7) (kI 1) eX) gNe)) (cy (kB false)) cF) (aF (jL (uc (getV 8)) (fU 2 (aD (af 9) (aD (af 10) fV))) lE) (cy (kB true))))))))))))
def wY:List PV->Option PV:=dF 1 11 zr
end
end K33
namespace K33
open PySem L2 PU MT
theorem Dv(ls:WO.Lts)(c:Nat):jX [WO.ltPv ls,WO.sg c]=some (WO.keyPv (WO.keyL ls c)):=by
 refine aq rfl ?_
 obtain⟨k1,k2⟩:=iN (enc:=fun l:Nat×List Nat=>PV.tup [WO.sg l.1,.str (mkS l.2)]) (h:=fU 2 (aD (af 2) (aD (af 3) fV))) (g:=gI) (fun l=>decide (c∈l.2)) (fun l=>WO.sg l.1)
  (I:=fun ρ=>∃a b,ρ=[.val (WO.ltPv ls),.val (WO.sg c),a,b]) (by
   rintro l ρ ⟨a,b,rfl⟩;have e:=WO.in_one c l.2;refine⟨_,rfl,fun hp=>?_,fun hp=>⟨_,?_,.val (WO.sg l.1),.val (.str (mkS l.2)),rfl⟩⟩
   ·rw[hp] at e
    simp[gI,e]
   ·rw[hp] at e
    simp[gI,e]) ls [.val (WO.ltPv ls),.val (WO.sg c),.no,.no] ⟨_,_,rfl⟩
 have ei:eD (WO.ltPv ls)=some (ls.map fun l=>PV.tup [WO.sg l.1,.str (mkS l.2)]):=rfl;cases e:ls.find? (fun l=>decide (c∈l.2)) with
 | some l=>
  have k:=k1 l e;simp[jV,PU.start,ei];rw[k];simp[WO.keyPv,WO.keyL,e]
 | none=>
  obtain⟨ρ',k,a,b,rfl⟩:=k2 e;simp[jV,PU.start,ei];rw[k];simp[WO.keyPv,WO.keyL,e]
theorem Bc(ls:WO.Lts)(x:List Nat)(hx:x.length<=1000):gy [WO.ltPv ls,.str (mkS x)]=some (WO.codePv (WO.codeL ls x)):=by
 refine aq rfl ?_
 have c1:bL (af 0) jM ig [.no,.val (WO.ltPv ls)] (x.map WO.sg)=.ok (x.map fun c=>WO.keyPv (WO.keyL ls c)):=
  WO.in_list_comp (fun c=>WO.keyPv (WO.keyL ls c)) x fun c _=>⟨_,qk _,by simp[ig,Dv]⟩
 have c2:=WO.none_in ls x;have hl:x.length<=16777216:=by omega
 simp[l0,PU.start,WO.it_mk,uG,M3,c1,hl,c2];cases h:x.all fun c=>(WO.keyL ls c).isSome with
 | false=>simp[WO.codeL,h,WO.codePv]
 | true=>
  have e:(x.map fun c=>WO.keyPv (WO.keyL ls c))=(x.map fun c=>(WO.keyL ls c).getD 0).map WO.sg:=by
   rw[LV];apply NH;intro c hc;have:=Nh.mp h c hc;cases h2:WO.keyL ls c with
   | none=>rw[h2] at this;cases this
   | some k=>simp[WO.keyPv,h2]
  have j:=WO.joinV (x.map fun c=>(WO.keyL ls c).getD 0) (by simpa using hx);rw[e];simp[-LV,j,WO.codeL,h,WO.codePv]
open BG
abbrev bst(codes:PV)(ks:List Key)(ps:List PV)(a b:Sl):PSt:=[.val codes,.own (.dct ks ps),a,b]
theorem ID(codes:PV)(L:List W)(ks:List Key)(ps:List PV)(h:Cnt L ks ps)(c:W)(n:Nat)(hc:c.length<=100)(hL:L.length<=10000):∃ks' ps',Cnt (L++[c.take n]) ks' ps'/\
  bx (bst codes ks ps (.val (.str (mkS c))) (.val (.int n)))=.ok (.next (bst codes ks' ps' (.val (.str (mkS c))) (.val (.int n)))):=by
 obtain⟨ks',ps',e,h'⟩:=CY h (c.take n);have e1:=yi (x:=mkS c) none (some (n:Int)) (by rw[cA];omega);rw[jQ] at e1;have e2:=CZ h (c.take n);have z:ks.length<16777216:=by have:=h.le;omega
 refine⟨ks',ps',h',?_⟩;simp[bx,bst,e1,e2,z,e]
theorem IC(codes:PV)(L:List W)(ks:List Key)(ps:List PV)(h:Cnt L ks ps)(c:W)(b:Sl)(hc:c.length<=100)(hL:L.length<=9000):∃ks' ps' b',Cnt (L++uy c) ks' ps'/\
  bw (bst codes ks ps (.val (.str (mkS c))) b)=.ok (.next (bst codes ks' ps' (.val (.str (mkS c))) b')):=by
 obtain⟨ρ',f1,ks',ps',b',rfl,h'⟩:=forR (n:=c.length) (lo:=1) (h:=af 3) (g:=bx) (ρ:=bst codes ks ps (.val (.str (mkS c))) b)
  (I:=fun i ρ=>∃ks ps b,ρ=bst codes ks ps (.val (.str (mkS c))) b/\Cnt (L++(L7 i).map fun j=>c.take (j+1)) ks ps) ⟨ks,ps,b,rfl,by simpa using h⟩ (by
   rintro i ρ hi ⟨ks,ps,b,rfl,h⟩;obtain⟨ks',ps',h',e⟩:=ID codes _ ks ps h c (i+1) hc (by simp;omega);have ei:(1:Int)+(i:Int)=((i+1:Nat):Int):=by omega
   rw[ei];refine⟨_,_,rfl,.inl e,ks',ps',_,rfl,?_⟩;rw[Oz,Ld,← Mr];exact h')
 refine⟨ks',ps',b',h',?_⟩;have e1:l7 (.str (mkS c))=some (.int c.length):=by rw[fW (by rw[cA];omega),cA]
 have e2:Dg (.int 1) (.int ((c.length:Int)+1))=.ok (c7 1 c.length):=by rw[uK (by omega) (by omega) (by omega) (by omega)];congr 2;omega
 simp[bw,e1,e2];exact f1
theorem xH(cs:List W)(hn:cs.length<=12)(hc:∀c∈cs,c.length<=20):∃ks ps,Cnt (cs.flatMap uy) ks ps/\bq [.lst (cs.map fun c=>.str (mkS c))]=some (.dct ks ps):=by
 obtain⟨ρ',f1,ks,ps,a,b,rfl,h⟩:=forM (enc:=fun c:W=>PV.str (mkS c)) (xs:=cs) (h:=af 2) (g:=bw) (ρ:=bst (.lst (cs.map fun c=>.str (mkS c))) [] [] .no .no)
  (I:=fun pre ρ=>∃ks ps a b,ρ=bst (.lst (cs.map fun c=>.str (mkS c))) ks ps a b/\Cnt (pre.flatMap uy) ks ps) ⟨[],[],_,_,rfl,⟨rfl,by simp,fun p=>by simp[bK]⟩⟩ (by
   rintro pre c post ρ hx ⟨ks,ps,a,b,rfl,h⟩;have hcm:c∈cs:=by rw[hx];simp
   have hpl:pre.length<=12:=by
    have:=congrArg NR hx;rw[Lp] at this;omega
   have hfl:=wW (l:=pre) (f:=uy) (b:=20) fun x hxm=>by
    unfold uy;rw[LA,Mq];exact hc x (by rw[hx];exact MJ _ hxm)
   obtain⟨ks',ps',b',h',e⟩:=IC (.lst (cs.map fun c=>.str (mkS c))) _ ks ps h c b (by have:=hc c hcm;omega) (by omega);refine⟨_,_,rfl,.inl e,ks',ps',_,_,rfl,?_⟩;rw[List.flatMap_append];simpa using h')
 refine⟨ks,ps,h,aq rfl ?_⟩;simp[cT,PU.start];rw[f1];simp
theorem G0(cs:List W)(ks:List Key)(ps:List PV)(h:Cnt (cs.flatMap uy) ks ps)(c:W)(hc:c∈cs)(hne:c≠[])(hl:c.length<=100):cU [.str (mkS c),.dct ks ps]=some (.str (mkS (own cs c))):=by
 refine aq rfl ?_
 have key:∀i:Nat,gIx (.dct ks ps) (.str (mkS (c.take (i+1))))=some (.int (many cs (c.take (i+1)))):=fun i=>by
  have hp:c.take (i+1)≠[]:=fun e=>by
   cases c with
   | nil=>exact hne rfl
   | cons a r=>simp at e
  show bK ks ps (.inr (mkS (c.take (i+1))))=_;rw[h.at_,xw cs _ hp,if_neg];intro e;unfold many at e;have:c∈cs.filter (pre (c.take (i+1))):=MD.mpr ⟨hc,jh.mpr (OH _ _)⟩;rw[Pa.mp e] at this;cases this
 obtain⟨k1,k2⟩:=iN (enc:=fun i:Nat=>PV.int (1+(i:Nat))) (h:=af 2) (g:=bX) (fun i=>decide (many cs (c.take (i+1))=1)) (fun i=>PV.str (mkS (c.take (i+1))))
  (I:=fun ρ=>∃a,ρ=[.val (.str (mkS c)),.val (.dct ks ps),a]) (by
   rintro i ρ ⟨a,rfl⟩;have e1:=yi (x:=mkS c) none (some ((i+1:Nat):Int)) (by rw[cA];omega);rw[jQ] at e1;have ei:(1:Int)+(i:Int)=((i+1:Nat):Int):=by omega
   have e2:=key i;have e2:((ft (.str (mkS (c.take (i+1))))).bind fun k=>bK ks ps k)=some (.int (many cs (c.take (i+1)))):=e2;rw[ei];refine⟨_,rfl,fun hp=>?_,fun hp=>⟨_,?_,.val (.int ((i+1:Nat):Int)),rfl⟩⟩
   ·have hp:many cs (c.take (i+1))=1:=by simpa using hp
    rw[hp] at e2;have e2:bK ks ps (.inr (mkS (c.take (i+1))))=some (.int 1):=e2;have e1:wI (.str (mkS c)) none (some ((i:Int)+1))=some (.str (mkS (c.take (i+1)))):=e1;simp[bX,e1,e2]
   ·have hp:¬ many cs (c.take (i+1))=1:=by simpa using hp
    have hp2:¬ ((many cs (c.take (i+1)):Nat):Int)=1:=by omega
    have e2:bK ks ps (.inr (mkS (c.take (i+1))))=some (.int (many cs (c.take (i+1)))):=e2;have e1:wI (.str (mkS c)) none (some ((i:Int)+1))=some (.str (mkS (c.take (i+1)))):=e1;simp[bX,e1,e2,hp2]) (L7 (c.length-1)) [.val (.str (mkS c)),.val (.dct ks ps),.no] ⟨_,rfl⟩
 have e1:l7 (.str (mkS c))=some (.int c.length):=by rw[fW (by rw[cA];omega),cA]
 have e2:Dg (.int 1) (.int (c.length:Int))=.ok ((L7 (c.length-1)).map fun i:Nat=>PV.int (1+(i:Nat))):=by rw[uK (by omega) (by omega) (by omega) (by omega),show ((c.length:Int)-1).toNat=c.length-1 by omega];rfl
 unfold own;cases e:(L7 (c.length-1)).find? (fun i=>decide (many cs (c.take (i+1))=1)) with
 | some i=>
  have k:=k1 i e;simp only[cS,PU.start,L8,Nm,Lj,NB,M3,OI,Nv,uF,zY,zW,IV,Dt,qm,kK,Fd,e1,R.ofO_some,we,e2,Fg,k,wg]
 | none=>
  obtain⟨ρ',k,a,rfl⟩:=k2 e;simp only[cS,PU.start,L8,Nm,Lj,NB,M3,OI,Nv,uF,zY,zW,IV,Dt,qm,kK,Fd,e1,R.ofO_some,we,e2,Fg,k,mi,zX,Fe]
def cdW(ls:WO.Lts)(w:W):W:=w.map (fun c=>(WO.keyL ls c).getD 0)
def cdH(ls:WO.Lts)(w:W):W:=cdW ls w++[35]
def Bj(ls:WO.Lts)(ws:List W)(w:W):PV:=.tup [.str (mkS w),.str (mkS (own (ws.map (cdH ls)) (cdH ls w)))]
theorem zO(ls:WO.Lts)(ws:List W)(hn:ws.length<=12)(hw:∀w∈ws,w.length<=12/\∀c∈w,(WO.keyL ls c).isSome=true):dv [WO.ltPv ls,.lst (ws.map fun w=>.str (mkS w))]=some (.lst (ws.map (Bj ls ws))):=by
 refine aq rfl ?_;have hash:("#":Str)=mkS [35]:=by decide +kernel
 have c1:bL (af 0) jM eU [.no,.val (WO.ltPv ls)] (ws.map fun w=>.str (mkS w))=.ok (ws.map fun w=>.str (mkS (cdH ls w))):=
  WO.in_list_comp (enc:=fun w:W=>PV.str (mkS w)) (fun w=>.str (mkS (cdH ls w))) ws fun w hwm=>by
   have h:=hw w hwm;have e:=Bc ls w (by omega)
   have e2:WO.codeL ls w=some (cdW ls w):=by
    unfold WO.codeL;rw[if_pos (Nh.mpr fun c hc=>h.2 c hc)];rfl
   rw[e2] at e;have e:gy [WO.ltPv ls,.str (mkS w)]=some (.str (mkS (cdW ls w))):=e
   have e3:eX (.str (mkS (cdW ls w))) c_CODE_END=some (.str (mkS (cdH ls w))):=by
    show eX (.str (mkS (cdW ls w))) (.str "#")=_;rw[hash,k8 (by simp[cdW];omega),kG];rfl
   exact⟨_,qk _,by simp[eU,e,e3]⟩
 obtain⟨ks,ps,h,e2⟩:=xH (ws.map (cdH ls)) (by simpa using hn) (fun c hc=>by
  obtain⟨w,hwm,rfl⟩:=LG.mp hc;have:=(hw w hwm).1;simp[cdH,cdW];omega)
 have e2:bq [.lst (ws.map fun w=>.str (mkS (cdH ls w)))]=some (.dct ks ps):=by rw[← e2,LV];rfl
 have ez:∀l:List W,(uD (l.map fun w=>PV.str (mkS w)) (l.map fun w=>PV.str (mkS (cdH ls w)))).map PV.tup=l.map fun w=>PV.tup [.str (mkS w),.str (mkS (cdH ls w))]:=by
  intro l;unfold uD
  induction l with
  | nil=>rfl
  | cons a r ih=>simp only[L8,MX];rw[ih]
 have c2:bL (fU 2 (aD (af 0) (aD (af 1) fV))) jM eT [.no,.no,.val (.dct ks ps)] (ws.map fun w=>PV.tup [.str (mkS w),.str (mkS (cdH ls w))])=.ok (ws.map (Bj ls ws)):=
  WO.in_list_comp (enc:=fun w:W=>PV.tup [.str (mkS w),.str (mkS (cdH ls w))]) (Bj ls ws) ws fun w hwm=>by
   have:=(hw w hwm).1;have e:=G0 (ws.map (cdH ls)) ks ps h (cdH ls w) (LG.mpr ⟨w,hwm,rfl⟩) (by simp[cdH]) (by simp[cdH,cdW];omega);exact⟨[.val (.str (mkS w)),.val (.str (mkS (cdH ls w))),.val (.dct ks ps)],rfl,by simp[eT,e,Bj]⟩
 have z:ws.length<=16777216:=by omega
 have ei:eD (.lst (ws.map fun w=>PV.str (mkS w)))=some (ws.map fun w=>PV.str (mkS w)):=rfl;have zq:=wd (ws.map fun w=>PV.str (mkS w)) (ws.map fun w=>PV.str (mkS (cdH ls w))) (by rw[pX];rfl);simp[gw,PU.start,uG,M3,c1,z,e2,zq];rw[ez,c2];simp[z]
open NW
abbrev xW(L D:PV)(ks:List Key)(ps:List PV)(a b c:Sl):PSt:=[.val L,.val D,.own (.dct ks ps),a,b,c]
theorem HL(L D:PV)(ks:List Key)(ps:List PV)(F:W->Option PV)(h:Tells ks ps F)(a:Sl)(b:W)(n:Nat)(hb:b.length<=100)(hk:ks.length<=100000):∃ks' ps',Tells ks' ps' (fun p=>if b.take n=p then some .non else F p)/\ks'.length<=ks.length+1/\
  cg (xW L D ks ps a (.val (.str (mkS b))) (.val (.int n)))=.ok (.next (xW L D ks' ps' a (.val (.str (mkS b))) (.val (.int n)))):=by
 obtain⟨ks',ps',e,h1,h2⟩:=h.put (b.take n) .non (by simp[noFn]);have e1:=yi (x:=mkS b) none (some (n:Int)) (by rw[cA];omega);rw[jQ] at e1;have z:ks.length<16777216:=by omega
 refine⟨ks',ps',h2,h1,?_⟩;simp[cg,xW,e1,z,e]
theorem HK(L D:PV)(ks:List Key)(ps:List PV)(F:W->Option PV)(h:Tells ks ps F)(w b:W)(t:Str)(hne:b≠[])(hD:gIx D (.str (mkS w))=some (.str t))(x:Sl)(hb:b.length<=100)(hk:ks.length<=10000):∃ks' ps' x',Tells ks' ps' (fun p=>jH p (F p) (b,t))/\ks'.length<=ks.length+100/\
  cb (xW L D ks ps (.val (.str (mkS w))) (.val (.str (mkS b))) x)=.ok (.next (xW L D ks' ps' (.val (.str (mkS w))) (.val (.str (mkS b))) x')):=by
 have hbl:1<=b.length:=by cases b with | nil=>exact absurd rfl hne | cons _ _=>simp
 obtain⟨ρ',f1,ks1,ps1,x1,rfl,h1,l1⟩:=forR (n:=b.length-1) (lo:=1) (h:=af 5) (g:=cg) (ρ:=xW L D ks ps (.val (.str (mkS w))) (.val (.str (mkS b))) x)
  (I:=fun i ρ=>∃ks1 ps1 x1,ρ=xW L D ks1 ps1 (.val (.str (mkS w))) (.val (.str (mkS b))) x1/\Tells ks1 ps1 (fun p=>if p∈(L7 i).map (fun j=>b.take (j+1)) then some .non else F p)/\ks1.length<=ks.length+i)
  ⟨ks,ps,x,rfl,⟨h.len,fun p=>by rw[h.at_,if_neg (by simp)],h.nf⟩,by omega⟩ (by
   rintro i ρ hi ⟨ks1,ps1,x1,rfl,h1,l1⟩;obtain⟨ks2,ps2,h2,l2,e⟩:=HL L D ks1 ps1 _ h1 (.val (.str (mkS w))) b (i+1) hb (by omega);have ei:(1:Int)+(i:Int)=((i+1:Nat):Int):=by omega
   rw[ei];refine⟨_,_,rfl,.inl e,ks2,ps2,_,rfl,⟨h2.len,fun p=>?_,h2.nf⟩,by omega⟩;rw[h2.at_,Oz,Ld]
   by_cases hp:b.take (i+1)=p
   ·rw[if_pos hp,if_pos (La _ (by simp[hp]))]
   ·rw[if_neg hp]
    by_cases hq:p∈(L7 i).map (fun j=>b.take (j+1))
    ·rw[if_pos hq,if_pos (MJ _ hq)]
    ·rw[if_neg hq,if_neg]
     intro z;rcases Lh.mp z with z | z
     ·exact hq z
     ·rw[QN,LH] at z
      exact hp z.symm)
 obtain⟨ks2,ps2,e2,l2,h2⟩:=h1.put b (.str t) (by simp[noFn]);refine⟨ks2,ps2,x1,⟨h2.len,fun p=>?_,h2.nf⟩,by omega,?_⟩
 ·rw[h2.at_]
  unfold jH
  by_cases hp:b=p
  ·simp only[if_pos hp]
  ·simp only[if_neg hp]
   by_cases hq:p≠[]/\p <+: b
   ·rw[if_pos hq,if_pos]
    have hl:=NV hq.2
    have h0:1<=p.length:=by
     cases p with
     | nil=>exact absurd rfl hq.1
     | cons _ _=>simp
    have ht:=OW.mp hq.2;have hlt:p.length≠b.length:=fun z=>hp (by rw[z,Qq] at ht;exact ht.symm);exact LG.mpr ⟨p.length-1,MF.mpr (by omega),by rw[show p.length-1+1=p.length by omega];exact ht.symm⟩
   ·rw[if_neg hq,if_neg]
    intro z;obtain⟨j,q2,rfl⟩:=LG.mp z;have q2:=MF.mp q2;refine hq ⟨fun z=>?_,OH _ _⟩;cases b with
    | nil=>exact hne rfl
    | cons a r=>simp at z
 ·have e1:l7 (.str (mkS b))=some (.int b.length):=by rw[fW (by rw[cA];omega),cA]
  have e3:Dg (.int 1) (.int (b.length:Int))=.ok (c7 1 (b.length-1)):=by rw[uK (by omega) (by omega) (by omega) (by omega)];congr 2;omega
  have z:ks1.length<16777216:=by omega
  have f1:gL (af 5) cg (c7 1 (b.length-1)) [.val L,.val D,.own (.dct ks ps),.val (.str (mkS w)),.val (.str (mkS b)),x]=.ok (.next [.val L,.val D,.own (.dct ks1 ps1),.val (.str (mkS w)),.val (.str (mkS b)),x1]):=f1;simp only[xW];simp[cb,e1,e3,f1,hD,z,e2]
def ya(ls:WO.Lts)(wt:List (W×Str)):List (W×Str):=wt.map fun p=>(own ((wt.map (·.1)).map (cdH ls)) (cdH ls p.1),p.2)
theorem zc(ls:WO.Lts)(wt:List (W×Str))(hn:wt.length<=12)(hw:∀p∈wt,p.1.length<=12/\∀c∈p.1,(WO.keyL ls c).isSome=true)(nd:(wt.map (·.1)).Nodup):∃ks ps,Tells ks ps (B6 (ya ls wt))/\eL [WO.ltPv ls,wtD wt]=some (.dct ks ps):=by
 have eb:=zO ls (wt.map (·.1)) (by simpa using hn) (fun w hwm=>by obtain⟨p,hp,rfl⟩:=LG.mp hwm;exact hw p hp);have el:=C9 wt;rw[LV] at eb;have eb:dv [WO.ltPv ls,.lst (wt.map fun p=>.str (mkS p.1))]=some (.lst ((wt.map (·.1)).map (Bj ls (wt.map (·.1))))):=eb;rw[LV] at eb
 let B:W×Str->W:=fun p=>own ((wt.map (·.1)).map (cdH ls)) (cdH ls p.1)
 have hB:∀p∈wt,B p≠[]/\(B p).length<=100:=fun p hp=>⟨Ar _ _ (by simp[cdH]),by
  have h1:=NV (nH ((wt.map (·.1)).map (cdH ls)) (cdH ls p.1));have h2:=(hw p hp).1;have h3:(cdH ls p.1).length=p.1.length+1:=by simp[cdH,cdW]
  show (own _ _).length<=100;omega⟩
 obtain⟨ρ',f1,ks,ps,a,b,c,rfl,h,l⟩:=forM (enc:=fun p:W×Str=>PV.tup [.str (mkS p.1),.str (mkS (B p))]) (xs:=wt) (h:=fU 2 (aD (af 3) (aD (af 4) fV))) (g:=cb) (ρ:=xW (WO.ltPv ls) (wtD wt) [] [] .no .no .no)
  (I:=fun pre ρ=>∃ks ps a b c,ρ=xW (WO.ltPv ls) (wtD wt) ks ps a b c/\Tells ks ps (fun p=>(pre.map fun q=>(B q,q.2)).foldl (jH p) none)/\ks.length<=pre.length * 100) ⟨[],[],.no,.no,.no,rfl,⟨rfl,fun p=>rfl,by simp⟩,by simp⟩ (by
   rintro pre p post ρ hx ⟨ks,ps,a,b,c,rfl,h,l⟩;have hp:p∈wt:=by rw[hx];simp
   have hpl:pre.length<=12:=by
    have:=congrArg NR hx;rw[Lp] at this;omega
   have hD:gIx (wtD wt) (.str (mkS p.1))=some (.str p.2):=yw wt nd hp;obtain⟨ks',ps',x',h',l',e⟩:=HK (WO.ltPv ls) (wtD wt) ks ps _ h p.1 (B p) p.2 (hB p hp).1 hD c (hB p hp).2 (by omega);refine⟨_,_,rfl,.inl e,ks',ps',_,_,_,rfl,⟨h'.len,fun q=>?_,h'.nf⟩,by simp;omega⟩;rw[h'.at_,Ld,N9];rfl)
 refine⟨ks,ps,h,aq rfl ?_⟩;have ei:eD (.lst (wt.map (Bj ls (wt.map (·.1)) ∘ fun x=>x.1)))=some (wt.map fun p:W×Str=>PV.tup [.str (mkS p.1),.str (mkS (B p))]):=rfl;have f1:gL (fU 2 (aD (af 3) (aD (af 4) fV))) cb (wt.map fun p:W×Str=>PV.tup [.str (mkS p.1),.str (mkS (B p))]) [.val (WO.ltPv ls),.val (wtD wt),.own (.dct [] []),.no,.no,.no]=.ok (.next [.val (WO.ltPv ls),.val (wtD wt),.own (.dct ks ps),a,b,c]):=f1;generalize (wt.map fun p:W×Str=>PV.tup [.str (mkS p.1),.str (mkS (B p))])=TL at *;generalize PV.lst (wt.map (Bj ls (wt.map (·.1)) ∘ fun x=>x.1))=TQ at *;generalize PV.lst (wt.map fun p=>.str (mkS p.1))=WL at *;generalize wtD wt=DD at *;generalize WO.ltPv ls=LL at *;simp[gs,PU.start,el,eb,ei,f1]
theorem Cg{ls:WO.Lts}{c:Nat}(h:(WO.keyL ls c).isSome=true):∃l∈ls,(WO.keyL ls c).getD 0=l.1:=by
 unfold WO.keyL at h ⊢;cases e:ls.find? fun l=>decide (c∈l.2) with
 | none=>rw[e] at h;cases h
 | some l=>exact⟨l,NY e,rfl⟩
theorem FT{ls:WO.Lts}(hk:∀l∈ls,l.1≠35){w:W}(hw:∀c∈w,(WO.keyL ls c).isSome=true):Code (cdH ls w):=by
 refine⟨cdW ls w,rfl,fun z=>?_⟩;obtain⟨c,hc,e⟩:=LG.mp z;obtain⟨l,hl,e2⟩:=Cg (hw c hc);exact hk l hl (by rw[← e2,e])
section
variable{ls : WO.Lts}{wt : List (W×Str)}(hk : ∀l ∈ ls, l.1 ≠ 35)(hw : ∀p ∈ wt, ∀c ∈ p.1, (WO.keyL ls c).isSome = true)(nc : (wt.map fun p => cdH ls p.1).Nodup)
omit hk hw nc in
theorem Iy:∀x∈ya ls wt,x.1≠[]:=fun x hx=>by
 obtain⟨p,_,rfl⟩:=LG.mp hx;exact Ar _ _ (by simp[cdH])
include hk hw nc
theorem CS:∀c∈(wt.map (·.1)).map (cdH ls),Code c:=fun c hc=>by
 obtain⟨w,hwm,rfl⟩:=LG.mp hc;obtain⟨p,hp,rfl⟩:=LG.mp hwm;exact FT hk (hw p hp)
omit hk hw in
theorem FU{p q:W×Str}(hp:p∈wt)(hq:q∈wt)(e:cdH ls p.1=cdH ls q.1):p=q:=
 pP (fun p:W×Str=>cdH ls p.1) wt nc p hp q hq e
theorem Iw:∀x∈ya ls wt,∀y∈ya ls wt,x.1 <+: y.1->x=y:=fun x hx y hy h=>by
 obtain⟨p,hp,rfl⟩:=LG.mp hx;obtain⟨q,hq,rfl⟩:=LG.mp hy;have m:∀{p:W×Str},p∈wt->cdH ls p.1∈(wt.map (·.1)).map (cdH ls):=fun hp=>LG.mpr ⟨_,LG.mpr ⟨_,hp,rfl⟩,rfl⟩;have:=vB (CS hk hw nc) (m hp) (m hq) h (PZ _);rw[FU nc hp hq this]
end
theorem Cv (H:PV) (rs:FA.Rooms) (hR:gIx H (.str "rooms")=some (aw rs)) (hl:rs.length<=1000) (Dn:Str->PV) (hD:∀n∈FA.names rs,aC [H,.str n]=some (Dn n)) (hF:∀n∈FA.names rs,noFn (Dn n)=true):∃ks ps,aX [H]=some (.dct ks ps)/\(∀n∈FA.names rs,gIx (.dct ks ps) (.str n)=some (Dn n))/\noFn (.dct ks ps)=true:=by
 have hnl:(FA.names rs).length=rs.length:=by simp[FA.names]
 obtain⟨ρ',f1,ks,ps,a,rfl,h1,h2,h3,h4⟩:=forM (enc:=PV.str) (xs:=FA.names rs) (h:=af 2) (g:=eV) (ρ:=[.val H,.own (.dct [] []),.no])
  (I:=fun pre ρ=>∃ks ps a,ρ=[.val H,.own (.dct ks ps),a]/\ks.length=ps.length/\ks.length<=pre.length/\(∀n∈pre,bK ks ps (.inr n)=some (Dn n))/\∀x∈ps,noFn x=true) ⟨[],[],.no,rfl,rfl,by simp,by simp,by simp⟩ (by
   rintro pre n post ρ hx ⟨ks,ps,a,rfl,h1,h2,h3,h4⟩;have hn:n∈FA.names rs:=by rw[hx];simp
   have hpl:pre.length<=1000:=by
    have:=congrArg NR hx;rw[Lp] at this;omega
   obtain⟨ks',ps',e,g1,g2,g3⟩:=BG.look_put ks ps (.inr n) (Dn n) h1;have z:ks.length<16777216:=by omega
   have ed:=hD n hn;refine⟨_,[.val H,.own (.dct ks' ps'),.val (.str n)],qk _,.inl ?_,ks',ps',_,rfl,g1,by simp;omega,fun m hm=>?_,fun x hx=>(vf e hx).elim (h4 x) fun z=>z▸hF n hn⟩
   ·simp[eV,ed,z,e]
   ·rw[g3]
    by_cases hmn:n=m
    ·rw[if_pos (by rw[hmn]),hmn]
    ·rw[if_neg fun z=>hmn (Nf z)]
     rcases Lh.mp hm with hm | hm
     ·exact h3 m hm
     ·exact absurd (LH.mp hm).symm hmn)
 refine⟨ks,ps,aq rfl ?_,h3,by have:=(gm ps).mpr h4;simpa [noFn] using this⟩;have ei:=FA.keys_rooms rs;generalize (FA.names rs).map PV.str=NL at *;generalize aw rs=RM at *;simp[gu,PU.start,hR,ei,f1]
theorem wX(spans:List (Int×Int×Str))(last:Str)(KY:Int):jY [(Room.hours spans last).pv,.int KY]=some (.str (FA.handOf spans last KY)):=by
 refine aq rfl ?_
 obtain⟨k1,k2⟩:=iN (enc:=pv3) (h:=fU 3 (aD (af 2) (aD (af 3) (aD (af 4) fV)))) (g:=fh) (FA.holds KY) (fun s=>PV.str s.2.2)
  (I:=fun ρ=>∃a b c,ρ=[.val (Room.hours spans last).pv,.val (.int KY),a,b,c]) (by
   rintro s ρ ⟨a,b,c,rfl⟩;refine⟨_,rfl,fun hp=>?_,fun hp=>⟨_,?_,.val (.int s.1),.val (.int s.2.1),.val (.str s.2.2),rfl⟩⟩
   ·unfold FA.holds at hp
    simp only[MH,decide_eq_true_eq] at hp;simp[fh,hp.1,hp.2]
   ·unfold FA.holds at hp
    by_cases h1:s.1<=KY
    ·have h2:¬ KY<s.2.1:=by simpa [h1] using hp
     simp[fh,h1,h2]
    ·simp[fh,h1]) spans [.val (Room.hours spans last).pv,.val (.int KY),.no,.no,.no] ⟨_,_,_,rfl⟩
 unfold FA.handOf;cases e:spans.find? (FA.holds KY) with
 | some s=>
  have k:=k1 s e;simp only[Room.pv] at k ⊢;simp[jW,PU.start];rw[k];rfl
 | none=>
  obtain⟨ρ',k,a,b,c,rfl⟩:=k2 e;simp only[Room.pv] at k ⊢;simp[jW,PU.start];rw[k];simp
theorem xy (H:PV) (rs:FA.Rooms) (hR:gIx H (.str "rooms")=some (aw rs)) (KY:Int) (a:Sl):∀(n N:Nat) (x y:Str),n<=N->NM.comeGo rs KY n x=some y->
  whF (cH (ab (ab (ab (ab (getV 0) (kS "rooms") gIx) (getV 3) gIx) (kI 0) gIx) (kS "hours") gEq)) fQ N [.val H,.val (.int KY),a,.val (.str x)]=.ok (.next [.val H,.val (.int KY),a,.val (.str y)])
 | 0,N,x,y,h,e=>by cases e
 | n+1,0,x,y,h,e=>by omega
 | n+1,N+1,x,y,h,e=>by
  have n2:=FA.ix_rooms rs x;unfold NM.comeGo at e;unfold whF;cases hr:FA.lookR rs x with
  | none=>rw[hr] at e;cases e
  | some r=>
   rw[hr] at e n2;have n2:gIx (aw rs) (.str x)=some r.pv:=n2;cases r with
   | hours sp l=>
    have n3:gIx (Room.hours sp l).pv (.int 0)=some (.str "hours"):=rfl;have n4:=wX sp l KY;have ih:=xy H rs hR KY a n N (FA.handOf sp l KY) y (by omega) e;have t:cH (ab (ab (ab (ab (getV 0) (kS "rooms") gIx) (getV 3) gIx) (kI 0) gIx) (kS "hours") gEq) [.val H,.val (.int KY),a,.val (.str x)]=.ok true:=by simp[hR,n2,n3]
    have b:fQ [.val H,.val (.int KY),a,.val (.str x)]=.ok (.next [.val H,.val (.int KY),a,.val (.str (FA.handOf sp l KY))]):=by simp[fQ,hR,n2,n4]
    simp only[t,R.ok_bind,if_true,b];exact ih
   | menu t ks wr wa=>
    have n3:gIx (Room.menu t ks wr wa).pv (.int 0)=some (.str "menu"):=rfl;have t:cH (ab (ab (ab (ab (getV 0) (kS "rooms") gIx) (getV 3) gIx) (kI 0) gIx) (kS "hours") gEq) [.val H,.val (.int KY),a,.val (.str x)]=.ok false:=by simp[hR,n2,n3]
    cases e;simp only[t,R.ok_bind,M9,if_false]
   | names t ks wr wa=>
    have n3:gIx (Room.names t ks wr wa).pv (.int 0)=some (.str "names"):=rfl;have t:cH (ab (ab (ab (ab (getV 0) (kS "rooms") gIx) (getV 3) gIx) (kI 0) gIx) (kS "hours") gEq) [.val H,.val (.int KY),a,.val (.str x)]=.ok false:=by simp[hR,n2,n3]
    cases e;simp only[t,R.ok_bind,M9,if_false]
   | hand t=>
    have n3:gIx (Room.hand t).pv (.int 0)=some (.str "hand"):=rfl;have t:cH (ab (ab (ab (ab (getV 0) (kS "rooms") gIx) (getV 3) gIx) (kI 0) gIx) (kS "hours") gEq) [.val H,.val (.int KY),a,.val (.str x)]=.ok false:=by simp[hR,n2,n3]
    cases e;simp only[t,R.ok_bind,M9,if_false]
   | fin t=>
    have n3:gIx (Room.fin t).pv (.int 0)=some (.str "end"):=rfl;have t:cH (ab (ab (ab (ab (getV 0) (kS "rooms") gIx) (getV 3) gIx) (kI 0) gIx) (kS "hours") gEq) [.val H,.val (.int KY),a,.val (.str x)]=.ok false:=by simp[hR,n2,n3]
    cases e;simp only[t,R.ok_bind,M9,if_false]
theorem CW (H:PV) (rs:FA.Rooms) (hR:gIx H (.str "rooms")=some (aw rs)) (KY:Int) (n:Nat) (x y:Str) (hn:n<=300) (e:NM.comeGo rs KY n x=some y):iP [H,.int KY,.str x]=some (.str y):=by
 refine aq rfl ?_;have k:=xy H rs hR KY (.val (.str x)) n 300 x y hn e;simp only[kZ,PU.start,L8,Nm,Lj,NB,M3,OI,Nv,uF,Du,Ba,qm,Fe,HW,mi,List.set_cons_succ,List.set_cons_zero,GH,k,zX]
theorem lB(ns:List Int)(k:Nat):aB [.lst (ns.map .int),.int k]=some (.int (ns.getD k 0)):=by
 refine aq rfl ?_
 by_cases hk:k<ns.length
 ·have h2:(k:Int)<ns.length:=by omega
  have h3:atI (ns.map PV.int) (k:Int)=some (.int ns[k]):=aZ rfl (by simp[hk]);simp[dH,PU.start,h2,h3,hk]
 ·have h2:¬ (k:Int)<ns.length:=by omega
  simp[dH,PU.start,h2,hk]
theorem numbers(cell:Int)(many:Nat)(hm:many<=100):∃ls:List Int,ls.length=many/\(∀x∈ls,0<=x)/\aL [.int cell,.int many]=some (.lst (ls.map .int)):=by
 by_cases h2:cell % 2=1
 ·obtain⟨ρ',f1,ls,n,a,rfl,h1,h3⟩:=forR (n:=many) (lo:=0) (h:=af 4) (g:=eB) (ρ:=[.val (.int cell),.val (.int many),.own (.lst []),.val (.int (cell / 2)),.no])
   (I:=fun i ρ=>∃(ls:List Int)(n:Int)(a:Sl),ρ=[.val (.int cell),.val (.int many),.own (.lst (ls.map .int)),.val (.int n),a]/\ls.length=i/\∀x∈ls,0<=x) ⟨[],_,_,rfl,rfl,by simp⟩ (by
    rintro i ρ hi ⟨ls,n,a,rfl,h1,h3⟩;have hq:ls.length<16777216:=by omega
    refine⟨_,[.val (.int cell),.val (.int many),.own (.lst ((ls++[n % 5040]).map .int)),.val (.int (n / 5040)),.val (.int (0+(i:Int)))],rfl,.inl ?_,ls++[n % 5040],n / 5040,_,rfl,by simp[h1],fun x hx=>?_⟩
    ·simp (disch:=omega) [eB,da,Bg,hq]
    ·rcases Lh.mp hx with hx | hx
     ·exact h3 x hx
     ·rw[LH.mp hx];omega)
  refine⟨ls,h1,h3,aq rfl ?_⟩;simp (disch:=omega) [dG,PU.start,da,Bg,h2,yj];rw[f1];simp
 ·obtain⟨ρ',f1,ls,n,a,rfl,h1,h3⟩:=forR (n:=many+1) (lo:=0) (h:=af 4) (g:=eA) (ρ:=[.val (.int cell),.val (.int many),.own (.lst []),.val (.int (cell / 2 % 2147483647)),.no])
   (I:=fun i ρ=>∃(ls:List Int)(n:Int)(a:Sl),ρ=[.val (.int cell),.val (.int many),.own (.lst (ls.map .int)),.val (.int n),a]/\ls.length=i/\∀x∈ls,0<=x) ⟨[],_,_,rfl,rfl,by simp⟩ (by
    rintro i ρ hi ⟨ls,n,a,rfl,h1,h3⟩;have hq:ls.length<16777216:=by omega
    rw[SF];have m1:wJ (.int (n+(i:Int)+1)) (.int 48271)=some (.int ((n+(i:Int)+1) * 48271)):=ym (.inr (by decide));have m2:∀z:Int,wJ (.int z) (.int 69621)=some (.int (z * 69621)):=fun z=>ym (.inr (by decide));refine⟨_,[.val (.int cell),.val (.int many),.own (.lst ((ls++[(n+(i:Int)+1) * 48271 % 2147483647 * 69621 % 2147483629]).map .int)),.val (.int ((n+(i:Int)+1) * 48271 % 2147483647)),.val (.int (i:Int))],rfl,.inl ?_,_,_,_,rfl,by simp[h1],fun x hx=>?_⟩
    ·simp (disch:=omega) [eA,da,m1,m2,hq]
    ·rcases Lh.mp hx with hx | hx
     ·exact h3 x hx
     ·rw[LH.mp hx];omega)
  refine⟨ls.drop 1,by simp[h1],fun x hx=>h3 x (List.mem_of_mem_drop hx),aq rfl ?_⟩;have e1:(((many:Int)+1)).toNat=many+1:=by omega
  have e2:=NM.cut_1 (ls.map PV.int) (by rw[LA];omega);simp (disch:=omega) [dG,PU.start,da,Bg,h2,yj,e1];rw[f1];simp[e2]
end K33
namespace K33
open PySem L2 PU MT NM BG NW
def c20:List Nat:=[98,99,100,102,103,104,106,108,109,110,112,113,114,115,116,118,119,120,121,122]
theorem FZ:("bcdfghjlmnpqrstvwxyz":Str)=mkS c20:=by decide +kernel
theorem zL:∀i:Fin 20,∀j:Fin 20,c20.getD i.1 0=c20.getD j.1 0->i.1=j.1:=by decide +kernel
theorem D4(i j:Nat)(hi:i<20)(hj:j<20)(e:c20.getD i 0=c20.getD j 0):i=j:=zL ⟨i,hi⟩ ⟨j,hj⟩ e
def sgn(ls:List Int)(at_:Int)(t k:Nat):Nat:=c20.getD ((ls.getD k 0+3 * (t:Int) * (if (k:Int)=at_ then 1 else 0)) % 20).toNat 0
def cds(ls:List Int)(at_:Int)(t i:Nat):List Nat:=(L7 i).map (sgn ls at_ t)
abbrev nst(c:Int)(ls:List Int)(size at_:Int)(done:List PV)(a b d:Sl):PSt:=
 [.val (.int c),.val (.str (mkS c20)),.val (.lst (ls.map .int)),.val (.int size),.val (.int at_),.own (.lst done),a,b,d]
theorem zf(c:Int)(ls:List Int)(size at_:Int)(done:List PV)(t k:Nat)(x:List Nat)(hl:ls.length=10)(hk:k<8)(hx:x.length<=100) :
  dN (nst c ls size at_ done (.val (.int t)) (.val (.str (mkS x))) (.val (.int k)))=.ok (.next (nst c ls size at_ done (.val (.int t)) (.val (.str (mkS (x++[sgn ls at_ t k])))) (.val (.int k)))):=by
 have i1:atI (ls.map PV.int) (k:Int)=some (.int (ls.getD k 0)):=by
  rw[bF ls k (by omega),Lk,LU (by omega)];rfl
 have m1:wJ (.int 3) (.int t)=some (.int (3 * t)):=ym (.inl (by decide));have hq:(if (k:Int)=at_ then (1:Int) else 0).natAbs<18446744073709551616:=by split <;> decide
 have m2:wJ (.int (3 * (t:Int))) (.int (if (k:Int)=at_ then 1 else 0))=some (.int (3 * (t:Int) * (if (k:Int)=at_ then 1 else 0))):=ym (.inr hq);have h3:∀z:Int,gIx (.str (mkS c20)) (.int (z % 20))=some (.str ⟨#[c20.getD (z % 20).toNat 0]⟩):=fun z=>zj c20 (z % 20) (by omega) (by show _<(20:Int);omega) (by decide);have h4:=gJ x (sgn ls at_ t k) (by omega);unfold sgn at h4 ⊢;simp (disch:=omega) [-Lk,dN,nst,i1,m1,m2,da,h3,h4]
theorem ze(c:Int)(ls:List Int)(size:Nat)(at_:Int)(done:List PV)(t:Nat)(b d:Sl)(hl:ls.length=10)(hs:size<=8)(hd:done.length<=100):∃d',
  dM (nst c ls size at_ done (.val (.int t)) b d)=.ok (.next (nst c ls size at_ (done++[.str (mkS (cds ls at_ t size))]) (.val (.int t)) (.val (.str (mkS (cds ls at_ t size)))) d')):=by
 obtain⟨ρ',f1,d',rfl⟩:=forR (n:=size) (lo:=0) (h:=af 8) (g:=dN) (ρ:=nst c ls size at_ done (.val (.int t)) (.val (.str (mkS []))) d)
  (I:=fun i ρ=>∃d,ρ=nst c ls size at_ done (.val (.int t)) (.val (.str (mkS (cds ls at_ t i)))) d) ⟨d,rfl⟩ (by
   rintro i ρ hi ⟨d,rfl⟩;have e:=zf c ls size at_ done t i (cds ls at_ t i) hl (by omega) (by simp[cds];omega);have:cds ls at_ t (i+1)=cds ls at_ t i++[sgn ls at_ t i]:=by simp[cds,Oz]
   rw[SF,this];exact⟨_,_,rfl,.inl e,_,rfl⟩)
 refine⟨d',?_⟩;have hq:done.length<16777216:=by omega
 simp (disch:=omega) [dM,eM,yj];rw[f1];simp[hq]
theorem names (c:Int):∃KZ:List Str,KZ.length=5/\KZ.Nodup/\(∀x∈KZ,x≠"back"/\x≠"")/\fL [.int c]=some (.lst (KZ.map .str)):=by
 obtain⟨ls,l1,l2,el⟩:=numbers c 10 (by omega);have el:aL [.int c,.int 10]=some (.lst (ls.map .int)):=el;have i8:atI (ls.map PV.int) 8=some (.int ls[8]):=bF ls 8 (by omega);have i9:atI (ls.map PV.int) 9=some (.int ls[9]):=bF ls 9 (by omega);generalize ls[8]=z8 at i8;generalize ls[9]=z9 at i9;obtain⟨size,hsz,h1,h8⟩:∃size:Nat,(1+z8 % 8)=(size:Int)/\1<=size/\size<=8:=⟨(1+z8 % 8).toNat,by omega,by omega,by omega⟩;obtain⟨at_,hat,ha0,ha1⟩:∃at_:Int,z9 % (size:Int)=at_/\0<=at_/\at_<size:=⟨z9 % (size:Int),rfl,RD _ (by omega),QW _ (by omega)⟩
 obtain⟨ρ',f1,a,b,d,rfl⟩:=forR (n:=5) (lo:=0) (h:=af 6) (g:=dM) (ρ:=nst c ls size at_ [] .no .no .no)
  (I:=fun i ρ=>∃a b d,ρ=nst c ls size at_ ((L7 i).map fun t=>.str (mkS (cds ls at_ t size))) a b d) ⟨_,_,_,rfl⟩ (by
   rintro i ρ hi ⟨a,b,d,rfl⟩;obtain⟨d',e⟩:=ze c ls size at_ ((L7 i).map fun t=>.str (mkS (cds ls at_ t size))) i b d l1 h8 (by simp;omega);rw[SF,Oz,Ld];exact⟨_,_,rfl,.inl e,_,_,_,rfl⟩)
 refine⟨(L7 5).map fun t=>mkS (cds ls at_ t size),by simp,?_,?_,aq rfl ?_⟩
 ·unfold Sn
  rw[T6];refine O6 (R:=fun a b=>a<b) (fun {i j} hi hj hij e=>?_) Ru;rw[MF] at hi hj;have e:=BG.mkS_inj e;have hs:at_.toNat<size:=by omega
  have e2:=congrArg (fun l:List Nat=>l[at_.toNat]?) e;simp only[cds,LC,Ms hs,Ph] at e2;have e3:sgn ls at_ i at_.toNat=sgn ls at_ j at_.toNat:=M4 e2;unfold sgn at e3;rw[if_pos (by omega)] at e3;have e4:=D4 _ _ (by omega) (by omega) e3;omega
 ·intro x hx
  obtain⟨t,_,rfl⟩:=LG.mp hx;have hb:("back":Str)=mkS [98,97,99,107]:=by decide +kernel
  refine⟨fun e=>?_,fun e=>?_⟩
  ·rw[hb] at e
   have e:=BG.mkS_inj e;have m:97∈cds ls at_ t size:=by rw[e];simp
   obtain⟨k,_,ek⟩:=LG.mp m;have:∀z:Nat,z<20->c20.getD z 0≠97:=by decide +kernel
   exact this _ (by omega) ek
  ·rw[eM] at e
   have e:=BG.mkS_inj e;have:=congrArg NR e;simp[cds] at this;omega
 ·simp only[nst] at f1
  have hsz0:(0:Int)<size:=by omega
  simp (disch:=omega) [-LV,i7,PU.start,FZ,el,i8,i9,da,hsz,hat,yj];rw[f1];simp
def enc(w:W):PV:=.str (mkS w)
def W8:List W:=[[98,111],[108,101,101]]
def LS5:WO.Lts:=[(51,[100,101,102]),(52,[97,98,99]),(53,[106,107,108]),(54,[109,110,111])]
theorem F0:∀w∈W8,∀c∈w,(WO.keyL LS5 c).isSome=true:=by decide +kernel
theorem HS:(W8.map (cdH LS5)).Nodup:=by decide +kernel
theorem HR:∀l∈LS5,l.1≠35:=by decide +kernel
theorem GU:W8.Nodup:=by decide +kernel
theorem A9:∀w∈W8,w.length<=4:=by decide +kernel
theorem lp5:PV.lst [.tup [.str "3",.str "def"],.tup [.str "4",.str "abc"],.tup [.str "5",.str "jkl"],.tup [.str "6",.str "mno"]]=WO.ltPv LS5:=by kernel_rfl
def K12:List Nat:=[48,49,50,51,52,53,54,55,56,57,42,35]
def E12:List (Nat×Nat):=[(0,48),(1,49),(2,50),(3,51),(4,52),(5,53),(6,54),(7,55),(8,56),(9,57),(10,42),(11,35)]
def e12(p:Nat×Nat):PV:=.tup [.int p.1,WO.sg p.2]
theorem FN:oh (.str "0123456789*#")=some (E12.map e12):=by kernel_rfl
theorem Iv:E12.map (·.2)=K12:=by decide
theorem FM:∀p∈E12,p.1<12:=by decide
theorem Fm:K12.Nodup:=by decide
def pvk(p:Nat×Str):PV:=.tup [WO.sg p.1,.str p.2]
def mk2(p:Nat×Str):Str×Str:=(⟨#[p.1]⟩,p.2)
theorem Ax(ks:List (Nat×Str)):(ks.map mk2).map pv2=ks.map pvk:=by rw[LV];rfl
def mw2(p:W×Str):Str×Str:=(mkS p.1,p.2)
theorem ES(wt:List (W×Str)):PV.tup ((wt.map mw2).map pv2)=A0 wt:=by rw[LV];rfl
def RW(KZ:List Str):Room->Prop
 | .menu _ ks wr wa=>(∃kt:List (Nat×Str),ks=kt.map mk2/\Nn (kt.map (·.1)) K12/\∀k∈kt,k.2="back"\/k.2∈KZ)/\wr.2∈KZ/\wa.2∈KZ/\(1<=wr.1/\wr.1<=3)/\(1<=wa.1/\wa.1<=3)
 | .names _ ws wr wa=>(∃wt:List (W×Str),ws=wt.map mw2/\Nn (wt.map (·.1)) W8/\wt≠[]/\∀p∈wt,p.2∈KZ)/\wr.2∈KZ/\wa.2∈KZ/\(1<=wr.1/\wr.1<=3)/\(1<=wa.1/\wa.1<=3)
 | _=>True
structure Low(KZ:List Str)(low:Nat)(lw:List Str):Prop where
 cut:lI (KZ.map PV.str) none (some (low:Int))=lw.map PV.str
 ln:lw.length=low
 sub:∀x∈lw,x∈KZ
 le:low<=KZ.length
 pos:0<low
 sm:low<=100
theorem Low.at_{KZ lw:List Str}{low:Nat}(L:Low KZ low lw)(z:Int):∃x∈KZ,atI (KZ.map PV.str) (z % (low:Int))=some (.str x):=by
 have:=L.pos;have h0:=RD z (b:=(low:Int)) (by omega);have h1:=QW z (b:=(low:Int)) (by omega);obtain⟨k,hk⟩:∃k:Nat,z % (low:Int)=(k:Int):=⟨(z % (low:Int)).toNat,by omega⟩;have hl:=L.le;rw[hk];exact⟨_,Ml (by omega),Kr KZ k (by omega)⟩
theorem Low.bk {KZ lw:List Str} {low:Nat} (L:Low KZ low lw) (z:Int):∃x:Str,(x="back"\/x∈KZ)/\atI (lw.map PV.str++[.str "back"]) (z % ((low:Int)+1))=some (.str x):=by
 have hl:(lw++[LI "back"]).length=low+1:=by simp[L.ln]
 obtain⟨x,hx,e⟩:=G3 (lw++[LI "back"]) z (by omega);rw[hl,Ld] at e;refine⟨x,?_,e⟩;rcases Lh.mp hx with h | h
 ·exact .inr (L.sub x h)
 ·simp only[LR,Mk,or_false] at h
  exact .inl h
def Fit(KZ ord:List Str)(r:Str×Room):Prop:=∃(k:Nat)(hk:k<ord.length),ord[k]=r.1/\(∀sp l,r.2=.hours sp l->l∈ord.drop (k+1)/\∀s∈sp,s.2.2∈ord.drop (k+1))/\RW KZ r.2
structure Good(KZ ord:List Str)(rs:FA.Rooms):Prop where
 ok:∀r∈rs,Fit KZ ord r
 nd:(rs.map (·.1)).Nodup
theorem oX(KZ:List Str)(rs:FA.Rooms)(k:Str)(r:Room)(ord:List Str)(g:Good KZ ord rs)(hr:Fit KZ ord (k,r)):Good KZ ord (qi rs k r)/\(qi rs k r).length<=rs.length+1:=by
 obtain⟨a,b,c⟩:=BC (rs:=rs) (k:=k) (r:=r) (Fit KZ ord) g.ok (fun x e1 e2=>by have:x=(k,r):=RL e1 e2;rw[this];exact hr) g.nd;exact⟨⟨a,b⟩,c⟩
theorem k9(rs:FA.Rooms):aw rs=.dct (rs.map fun r=>.inr r.1) (rs.map fun r=>r.2.pv):=rfl
theorem xx(KZ ord:List Str)(rs:FA.Rooms)(nd:ord.Nodup)(g:Good KZ ord rs)(hall:∀x∈ord,x∈FA.names rs)(KY:Int):∀(n k:Nat)(hk:k<ord.length),ord.length-k<=n->∃y r,comeGo rs KY n ord[k]=some y/\FA.lookR rs y=some r/\y∈ord/\∀sp l,r≠.hours sp l
 | 0,k,hk,h=>by omega
 | n+1,k,hk,h=>by
  obtain⟨r,hr⟩:=FA.look_some rs ord[k] (hall _ (Ml hk));obtain⟨k',hk',e,ht,_⟩:=g.ok _ (vQ rs _ r hr);have ek:k'=k:=(Pb nd).mp e;subst ek;unfold comeGo;rw[hr]
  by_cases hh:∃sp l,r=.hours sp l
  ·obtain⟨sp,l,rfl⟩:=hh
   obtain⟨h1,h2⟩:=ht sp l rfl
   have hin:FA.handOf sp l KY∈ord.drop (k'+1):=by
    unfold FA.handOf;cases e:sp.find? (FA.holds KY) with
    | none=>exact h1
    | some s=>exact h2 s (NY e)
   obtain⟨j,hj,e2⟩:=NI hin;rw[Qu] at hj;rw[List.getElem_drop] at e2;dsimp only;rw[← e2];exact xx KZ ord rs nd g hall KY n (k'+1+j) (by omega) (by omega)
  ·refine⟨ord[k'],r,?_,hr,Ml _,fun sp l e=>hh ⟨sp,l,e⟩⟩
   cases r with
   | hours sp l=>exact absurd ⟨sp,l,rfl⟩ hh
   | _=>rfl
structure HG(h:House)(KZ ord:List Str):Prop where
 nd:ord.Nodup
 ol:ord.length<=20
 g:Good KZ ord h.rooms
 all:∀x∈ord,x∈FA.names h.rooms
 nm:∀x∈KZ,x∈ord
 mn:∀x∈ord,x∈KZ
 nb:∀x∈KZ,x≠"back"/\x≠""
 fst:h.first∈KZ
 lets:gIx h.pv (.str "letters")=some (WO.ltPv LS5)
 rl:h.rooms.length<=20
 nl:KZ.length<=5
def ltS(ls:WO.Lts):List (Str×Str):=ls.map fun l=>(⟨#[l.1]⟩,mkS l.2)
theorem EZ(ls:WO.Lts):PV.lst ((ltS ls).map pv2)=WO.ltPv ls:=by
 unfold ltS WO.ltPv;rw[LV];rfl
theorem F3(n0 n1 n2 n3 n4:Str)(z:Int):∃(low:Nat)(lw:List Str),Low [n0,n1,n2,n3,n4] low lw/\atI [PV.int 5,.int 5,.int 3] (z % 3)=some (.int low):=by
 have l5:Low [n0,n1,n2,n3,n4] 5 [n0,n1,n2,n3,n4]:=⟨rfl,rfl,fun x h=>h,by simp,by omega,by omega⟩;have l3:Low [n0,n1,n2,n3,n4] 3 [n0,n1,n2]:=⟨rfl,rfl,fun x h=>by simp only[LR,Mk,or_false] at h ⊢;rcases h with h | h | h <;> simp[h],by simp,by omega,by omega⟩
 obtain⟨k,hk,hk9⟩:∃k:Nat,z % 3=(k:Int)/\k<3:=⟨(z % 3).toNat,by omega,by omega⟩;rw[hk]
 match k,hk9 with
 | 0,_=>exact⟨5,_,l5,aZ (n:=0) rfl rfl⟩
 | 1,_=>exact⟨5,_,l5,aZ (n:=1) rfl rfl⟩
 | 2,_=>exact⟨3,_,l3,aZ (n:=2) rfl rfl⟩
abbrev hst(S N:PV)(low:Nat)(ls:List Int)(M:PV)(kt:List PV)(a b:Sl):PSt:=[.val S,.val N,.val (.int low),.val (.lst (ls.map .int)),.val M,.own (.lst kt),a,b,.no,.no,.no,.no,.no,.no,.no]
theorem keys {KZ lw:List Str} {low:Nat} (L:Low KZ low lw) (S M:PV) (ls:List Int) (l1:ls.length=30):∃(kt:List (Nat×Str)) (a b:Sl),Nn (kt.map (·.1)) K12/\(∀k∈kt,k.2="back"\/k.2∈KZ)/\
  gL (fU 2 (aD (af 6) (aD (af 7) fV))) cY (E12.map e12) (hst S (.lst (KZ.map .str)) low ls M [] .no .no)=.ok (.next (hst S (.lst (KZ.map .str)) low ls M (kt.map pvk) a b)):=by
 have hlow:=L.pos;have hsm:=L.sm;have cu:=L.cut;have ad:eX (.lst (lw.map .str)) (.lst [.str "back"])=some (.lst (lw.map .str++[.str "back"])):=uM (by simp[L.ln];omega)
 obtain⟨ρ',f1,kt,a,b,rfl,h1,h2⟩:=forM (enc:=e12) (xs:=E12) (h:=fU 2 (aD (af 6) (aD (af 7) fV))) (g:=cY) (ρ:=hst S (.lst (KZ.map .str)) low ls M [] .no .no)
  (I:=fun pre ρ=>∃(kt:List (Nat×Str)) (a b:Sl),ρ=hst S (.lst (KZ.map .str)) low ls M (kt.map pvk) a b/\Nn (kt.map (·.1)) (pre.map (·.2))/\∀k∈kt,k.2="back"\/k.2∈KZ) ⟨[],.no,.no,rfl,Rc _,by simp⟩ (by
   rintro pre p post ρ hx ⟨kt,a,b,rfl,h1,h2⟩;have hp:p.1<12:=FM p (by rw[hx];simp);have hE:E12.length=12:=rfl
   have hkl:kt.length<=12:=by
    have e1:=h1.length_le;have e2:=congrArg NR hx;rw[Lp] at e2;simp at e1;omega
   have i1:=bF ls p.1 (by omega);have i2:=bF ls (p.1+12) (by omega);have n2:((p.1+12:Nat):Int)=(p.1:Int)+12:=by omega
   rw[n2] at i2;generalize ls[p.1]=x at i1;generalize ls[p.1+12]=y at i2;obtain⟨tg,ht,et⟩:=L.bk y;have m3:dy (.int x) (.int 3)=some (.int (x % 3)):=da (by decide);have m11:dy (.int y) (.int ((low:Int)+1))=some (.int (y % ((low:Int)+1))):=da (by omega);have z:(kt.map pvk).length<16777216:=by simp;omega
   by_cases g1:x % 3=0
   ·refine⟨hst S (.lst (KZ.map .str)) low ls M (kt.map pvk) (.val (.int p.1)) (.val (WO.sg p.2)),hst S (.lst (KZ.map .str)) low ls M ((kt++[(p.2,tg)]).map pvk) (.val (.int p.1)) (.val (WO.sg p.2)),rfl,.inl ?_,kt++[(p.2,tg)],_,_,rfl,?_,?_⟩
    ·rw[Ld]
     simp only[hst];generalize kt.map pvk=KT at *;generalize KZ.map PV.str=NN at *;generalize lw.map PV.str=LW at *;simp[cY,i1,i2,m3,m11,g1,cu,ad,et,z,pvk]
    ·rw[Ld,Ld]
     exact List.Sublist.append h1 (Rc _)
    ·intro k hk
     rcases Lh.mp hk with hk | hk
     ·exact h2 k hk
     ·rw[LH.mp hk];exact ht
   ·refine⟨hst S (.lst (KZ.map .str)) low ls M (kt.map pvk) (.val (.int p.1)) (.val (WO.sg p.2)),hst S (.lst (KZ.map .str)) low ls M (kt.map pvk) (.val (.int p.1)) (.val (WO.sg p.2)),rfl,.inl ?_,kt,_,_,rfl,?_,h2⟩
    ·simp[cY,i1,m3,g1]
    ·rw[Ld]
     exact List.Sublist.trans h1 (List.sublist_append_left _ _))
 rw[Iv] at h1;exact⟨kt,a,b,h1,h2,f1⟩
def J9(p:PV)(q:Option Int×Option Int):R PV:=R.ofO (GE p q.1 q.2)
@[simp] theorem Gb{f:PSt->R PV}{ρ:PSt}{l h:PSt->R (Option Int)}:rC f l h ρ=mI J9 (f ρ) (mI tQ (l ρ) (h ρ)):=by unfold rC;cases f ρ <;> cases l ρ <;> cases h ρ <;> rfl
theorem D7(rs:FA.Rooms)(k:Str)(r:Room):uo (aw rs) (.inr k,r.pv)=aw (qi rs k r):=by
 rw[k9];exact qw rs k r
theorem Ii(ns:List Int):∃(h:House)(KZ ord:List Str),HG h KZ ord/\fM [.lst (ns.map .int)]=some h.pv:=by
 have c0:aB [PV.lst (ns.map PV.int),PV.int 0]=some (PV.int (ns.getD 0 0)):=lB ns 0;have c1:aB [PV.lst (ns.map PV.int),PV.int 1]=some (PV.int (ns.getD 1 0)):=lB ns 1;have c2:aB [PV.lst (ns.map PV.int),PV.int 2]=some (PV.int (ns.getD 2 0)):=lB ns 2;have c3:aB [PV.lst (ns.map PV.int),PV.int 3]=some (PV.int (ns.getD 3 0)):=lB ns 3;generalize ns.getD 0 0=z0 at c0;generalize ns.getD 1 0=z1 at c1;generalize ns.getD 2 0=z2 at c2;generalize ns.getD 3 0=z3 at c3;obtain⟨KZ,hnl,hnd,hnb,en⟩:=names z0
 obtain⟨n0,n1,n2,n3,n4,rfl⟩:∃n0 n1 n2 n3 n4,KZ=[n0,n1,n2,n3,n4]:=by
  match KZ,hnl with
  | [a,b,c,d,e],_=>exact⟨a,b,c,d,e,rfl⟩
 obtain⟨low,lw,L,elow⟩:=F3 n0 n1 n2 n3 n4 z1;obtain⟨ls,l1,_,el⟩:=numbers z2 30 (by omega);have el:aL [.int z2,.int 30]=some (.lst (ls.map .int)):=el;obtain⟨ms,m1,_,em⟩:=numbers z3 16 (by omega);have em:aL [.int z3,.int 16]=some (.lst (ms.map .int)):=em;obtain⟨kt,ka,kb,hk1,hk2,f1⟩:=keys L (.lst (ns.map .int)) (.lst (ms.map .int)) ls l1;have i24:atI (ls.map PV.int) 24=some (.int ls[24]):=bF ls 24 (by omega);have i25:atI (ls.map PV.int) 25=some (.int ls[25]):=bF ls 25 (by omega);have i26:atI (ls.map PV.int) 26=some (.int ls[26]):=bF ls 26 (by omega);have i27:atI (ls.map PV.int) 27=some (.int ls[27]):=bF ls 27 (by omega);have j0:atI (ms.map PV.int) 0=some (.int ms[0]):=bF ms 0 (by omega);have j1:atI (ms.map PV.int) 1=some (.int ms[1]):=bF ms 1 (by omega);have j2:atI (ms.map PV.int) 2=some (.int ms[2]):=bF ms 2 (by omega);have j3:atI (ms.map PV.int) 3=some (.int ms[3]):=bF ms 3 (by omega);have j4:atI (ms.map PV.int) 4=some (.int ms[4]):=bF ms 4 (by omega);have j5:atI (ms.map PV.int) 5=some (.int ms[5]):=bF ms 5 (by omega);have j6:atI (ms.map PV.int) 6=some (.int ms[6]):=bF ms 6 (by omega);have j8:atI (ms.map PV.int) 8=some (.int ms[8]):=bF ms 8 (by omega);have j9:atI (ms.map PV.int) 9=some (.int ms[9]):=bF ms 9 (by omega);have j10:atI (ms.map PV.int) 10=some (.int ms[10]):=bF ms 10 (by omega);generalize ls[24]=x24 at i24;generalize ls[25]=x25 at i25;generalize ls[26]=x26 at i26;generalize ls[27]=x27 at i27;generalize ms[0]=y0 at j0;generalize ms[1]=y1 at j1;generalize ms[2]=y2 at j2;generalize ms[3]=y3 at j3;generalize ms[4]=y4 at j4;generalize ms[5]=y5 at j5;generalize ms[6]=y6 at j6;generalize ms[8]=y8 at j8;generalize ms[9]=y9 at j9;generalize ms[10]=y10 at j10;obtain⟨w1,hw1,ew1⟩:=L.at_ x25;obtain⟨w2,hw2,ew2⟩:=L.at_ x27;obtain⟨t0,ht0,et0⟩:=L.at_ y0;obtain⟨t1,ht1,et1⟩:=L.at_ y1;obtain⟨w3,hw3,ew3⟩:=L.at_ y4;obtain⟨w4,hw4,ew4⟩:=L.at_ y8;obtain⟨fst,hfst,ef⟩:=L.at_ y10;have lp:=L.pos;have q25:dy (.int x25) (.int low)=some (.int (x25 % low)):=da (by omega);have q27:dy (.int x27) (.int low)=some (.int (x27 % low)):=da (by omega);have r0:dy (.int y0) (.int low)=some (.int (y0 % low)):=da (by omega);have r1:dy (.int y1) (.int low)=some (.int (y1 % low)):=da (by omega);have r4:dy (.int y4) (.int low)=some (.int (y4 % low)):=da (by omega);have r8:dy (.int y8) (.int low)=some (.int (y8 % low)):=da (by omega);have r10:dy (.int y10) (.int low)=some (.int (y10 % low)):=da (by omega);have q24:dy (.int x24) (.int 3)=some (.int (x24 % 3)):=da (by decide);have q26:dy (.int x26) (.int 3)=some (.int (x26 % 3)):=da (by decide);have r2:dy (.int y2) (.int 2)=some (.int (y2 % 2)):=da (by decide);have r3:dy (.int y3) (.int 2)=some (.int (y3 % 2)):=da (by decide);have r5:dy (.int y5) (.int 24)=some (.int (y5 % 24)):=da (by decide);have r6:dy (.int y6) (.int 3)=some (.int (y6 % 3)):=da (by decide);have r6':dy (.int y6) (.int 2)=some (.int (y6 % 2)):=da (by decide);have r9:dy (.int y9) (.int 2)=some (.int (y9 % 2)):=da (by decide);have m13:dy (.int z1) (.int 3)=some (.int (z1 % 3)):=da (by decide);obtain⟨KZ,hnms⟩:∃KZ,KZ=[n0,n1,n2,n3,n4]:=⟨_,rfl⟩;obtain⟨ord,hord⟩:∃ord,ord=[n2,n0,n1,n3,n4]:=⟨_,rfl⟩
 have hperm:∀x,x∈KZ ↔ x∈ord:=fun x=>by
  rw[hord,hnms];simp only[LR,Mk,or_false];constructor
  ·rintro (h | h | h | h | h) <;> simp[h]
  ·rintro (h | h | h | h | h) <;> simp[h]
 have hond:ord.Nodup:=by
  rw[hord]
  have pm:List.Perm [n0,n1,n2,n3,n4] [n2,n0,n1,n3,n4]:=by
   show List.Perm ([n0,n1]++([n2]++[n3,n4])) ([n2]++([n0,n1]++[n3,n4]));rw[← Mr,← Mr];exact List.Perm.append_right _ List.perm_append_comm
  exact pm.nodup_iff.mp hnd
 have plain:∀(x:Str)(r:Room),x∈KZ->(∀sp l,r≠.hours sp l)->RW KZ r->Fit KZ ord (x,r):=fun x r hx hr hw=>by
  obtain⟨k,hk,e⟩:=NI ((hperm x).mp hx);exact⟨k,hk,e,fun sp l e=>absurd e (hr sp l),hw⟩
 have ol:ord.length=5:=by rw[hord];rfl
 have dr:∀x∈[n0,n1,n3],x∈ord.drop 1:=fun x hx=>by
  rw[hord];simp only[LR,Mk,or_false] at hx;rcases hx with h | h | h <;> simp[h]
 have two:∀z:Int,∃t,t∈ord.drop 1/\atI ([n0,n1,n2,n3,n4].map PV.str) (z % 2)=some (.str t):=fun z=>by
  obtain⟨k,hk,hk9⟩:∃k:Nat,z % 2=(k:Int)/\k<2:=⟨(z % 2).toNat,by omega,by omega⟩;rw[hk]
  match k,hk9 with
  | 0,_=>exact⟨n0,dr _ (by simp),aZ (n:=0) rfl rfl⟩
  | 1,_=>exact⟨n1,dr _ (by simp),aZ (n:=1) rfl rfl⟩
 obtain⟨tl,htl,etl⟩:=two y9;obtain⟨ts2,hts2,ets2⟩:=two y6
 obtain⟨kk,ts3,hts3,ek3,ets3⟩:∃(kk:Int)(ts3:Str),ts3∈ord.drop 1/\atI [PV.int 0,.int 1,.int 3] (y6 % 3)=some (.int kk)/\atI ([n0,n1,n2,n3,n4].map PV.str) kk=some (.str ts3):=by
  obtain⟨k,hk,hk9⟩:∃k:Nat,y6 % 3=(k:Int)/\k<3:=⟨(y6 % 3).toNat,by omega,by omega⟩;rw[hk]
  match k,hk9 with
  | 0,_=>exact⟨0,n0,dr _ (by simp),aZ (n:=0) rfl rfl,aZ (n:=0) rfl rfl⟩
  | 1,_=>exact⟨1,n1,dr _ (by simp),aZ (n:=1) rfl rfl,aZ (n:=1) rfl rfl⟩
  | 2,_=>exact⟨3,n3,dr _ (by simp),aZ (n:=2) rfl rfl,aZ (n:=3) rfl rfl⟩
 have nin:∀x∈[n0,n1,n2,n3,n4],x∈KZ:=fun x h=>by rw[hnms];exact h
 have rwm:RW KZ (.menu "Hello" (kt.map mk2) (1+x24 % 3,w1) (1+x26 % 3,w2)):=⟨⟨kt,rfl,hk1,fun k hk=>(hk2 k hk).imp id (nin _)⟩,nin _ hw1,nin _ hw2,⟨by show 1<=1+x24 % 3;omega,by show 1+x24 % 3<=3;omega⟩,⟨by show 1<=1+x26 % 3;omega,by show 1+x26 % 3<=3;omega⟩⟩;have pvm:(Room.menu "Hello" (kt.map mk2) (1+x24 % 3,w1) (1+x26 % 3,w2)).pv=.tup [.str "menu",.str "Hello",.tup (kt.map pvk),.tup [.int (1+x24 % 3),.str w1],.tup [.int (1+x26 % 3),.str w2]]:=by rw[← Ax];rfl
 obtain⟨wt,hws,hwn,hwm,esl⟩:∃wt:List (W×Str),Nn (wt.map (·.1)) W8/\wt≠[]/\(∀p∈wt,p.2∈KZ)/\GE (.tup [.tup [.str "bo",.str t0],.tup [.str "lee",.str t1]]) none (some (1+y2 % 2))=some (.tup ((wt.map mw2).map pv2)):=by
  have eb:(LI "bo")=mkS [98,111]:=by decide +kernel
  have ee:(LI "lee")=mkS [108,101,101]:=by decide +kernel
  obtain⟨k,hk,hk9⟩:∃k:Nat,y2 % 2=(k:Int)/\k<2:=⟨(y2 % 2).toNat,by omega,by omega⟩;rw[hk,eb,ee]
  match k,hk9 with
  | 0,_=>exact⟨[([98,111],t0)],show Nn [[98,111]] W8 from by decide +kernel,by simp,fun p hp=>by rw[LH.mp hp];exact nin _ ht0,rfl⟩
  | 1,_=>exact⟨[([98,111],t0),([108,101,101],t1)],show Nn [[98,111],[108,101,101]] W8 from by decide +kernel,by simp,(fun p hp=>by rcases LR.mp hp with rfl | hp;exact nin _ ht0;rw[LH.mp hp];exact nin _ ht1),rfl⟩
 have rwn:RW KZ (.names "Spell" (wt.map mw2) (1+y3 % 2,w3) (1,w4)):=⟨⟨wt,rfl,hws,hwn,hwm⟩,nin _ hw3,nin _ hw4,⟨by show 1<=1+y3 % 2;omega,by show 1+y3 % 2<=3;omega⟩,⟨by show (1:Int)<=1;omega,by show (1:Int)<=3;omega⟩⟩;have pvn:(Room.names "Spell" (wt.map mw2) (1+y3 % 2,w3) (1,w4)).pv=.tup [.str "names",.str "Spell",.tup ((wt.map mw2).map pv2),.tup [.int (1+y3 % 2),.str w3],.tup [.int 1,.str w4]]:=rfl
 obtain⟨ts,hts,ets⟩:∃ts:Str,ts∈ord.drop 1/\(((low:Int)=3/\ts=ts2)\/(¬ (low:Int)=3/\ts=ts3)):=by
  by_cases c:(low:Int)=3
  ·exact⟨ts2,hts2,.inl ⟨c,rfl⟩⟩
  ·exact⟨ts3,hts3,.inr ⟨c,rfl⟩⟩
 have fit2:Fit KZ ord (n2,.hours [(y5 % 24,24,ts)] tl):=⟨0,by omega,by simp[hord],fun sp l e=>by cases e;exact⟨htl,by simpa using hts⟩,trivial⟩;have pvh:(Room.hours [(y5 % 24,24,ts)] tl).pv=.tup [.str "hours",.tup [.tup [.int (y5 % 24),.int 24,.str ts]],.str tl]:=rfl;obtain⟨g1,e1⟩:=oX KZ [] n0 _ ord ⟨by simp,by simp⟩ (plain n0 _ (nin _ (by simp)) (fun _ _ e=>by cases e) rwm);have p1:=D7 [] n0 (.menu "Hello" (kt.map mk2) (1+x24 % 3,w1) (1+x26 % 3,w2));have q1:=fun x=>kJ [] n0 (.menu "Hello" (kt.map mk2) (1+x24 % 3,w1) (1+x26 % 3,w2)) x;generalize qi [] n0 (.menu "Hello" (kt.map mk2) (1+x24 % 3,w1) (1+x26 % 3,w2))=rs1 at g1 e1 p1 q1;obtain⟨g2,e2⟩:=oX KZ rs1 n1 _ ord g1 (plain n1 _ (nin _ (by simp)) (fun _ _ e=>by cases e) rwn);have p2:=D7 rs1 n1 (.names "Spell" (wt.map mw2) (1+y3 % 2,w3) (1,w4));have q2:=fun x=>kJ rs1 n1 (.names "Spell" (wt.map mw2) (1+y3 % 2,w3) (1,w4)) x;generalize qi rs1 n1 (.names "Spell" (wt.map mw2) (1+y3 % 2,w3) (1,w4))=rs2 at g2 e2 p2 q2;obtain⟨g3,e3⟩:=oX KZ rs2 n2 _ ord g2 fit2;have p3:=D7 rs2 n2 (.hours [(y5 % 24,24,ts)] tl);have q3:=fun x=>kJ rs2 n2 (.hours [(y5 % 24,24,ts)] tl) x;generalize qi rs2 n2 (.hours [(y5 % 24,24,ts)] tl)=rs3 at g3 e3 p3 q3;obtain⟨g4,e4⟩:=oX KZ rs3 n3 (.hand "Ann") ord g3 (plain n3 _ (nin _ (by simp)) (fun _ _ e=>by cases e) trivial);have p4:=qw rs3 n3 (.hand "Ann");have q4:=fun x=>kJ rs3 n3 (.hand "Ann") x;generalize qi rs3 n3 (.hand "Ann")=rs4 at g4 e4 p4 q4;obtain⟨g5,e5⟩:=oX KZ rs4 n4 (.fin "Bye") ord g4 (plain n4 _ (nin _ (by simp)) (fun _ _ e=>by cases e) trivial);have p5:=qw rs4 n4 (.fin "Bye");have q5:=fun x=>kJ rs4 n4 (.fin "Bye") x;generalize qi rs4 n4 (.fin "Bye")=rs5 at g5 e5 p5 q5
 have hall:∀x∈ord,x∈FA.names rs5:=fun x hx=>by
  rw[q5,q4,q3,q2,q1];rw[hord] at hx;simp only[LR,Mk,or_false] at hx;rcases hx with h | h | h | h | h <;> simp[h]
 have uH:House.pv ⟨fst,ltS LS5,rs5⟩=.dct [.inr "first",.inr "letters",.inr "rooms"] [.str fst,WO.ltPv LS5,aw rs5]:=by rw[← EZ];rfl
 have e1:rs1.length<=0+1:=e1;refine⟨⟨fst,ltS LS5,rs5⟩,KZ,ord,⟨hond,by omega,g5,hall,fun x hx=>(hperm x).mp hx,fun x hx=>(hperm x).mpr hx,by rw[hnms];exact hnb,nin _ hfst,by rw[uH];simp,by show rs5.length<=20;omega,by rw[hnms];simp⟩,aq rfl ?_⟩;rw[uH,← lp5];have k4:(Room.hand "Ann").pv=.tup [.str "hand",.str "Ann"]:=rfl;have k5:(Room.fin "Bye").pv=.tup [.str "end",.str "Bye"]:=rfl;have p0:aw []=.dct [] []:=rfl;rw[k4] at p4;rw[k5] at p5;rw[p0,pvm] at p1;rw[pvn] at p2;rw[pvh] at p3;have u4:rs3.length<16777216:=by omega
 have u5:rs4.length<16777216:=by omega
 have b0:atI ([n0,n1,n2,n3,n4].map PV.str) 0=some (.str n0):=aZ (n:=0) rfl rfl;have b1:atI ([n0,n1,n2,n3,n4].map PV.str) 1=some (.str n1):=aZ (n:=1) rfl rfl;have b2:atI ([n0,n1,n2,n3,n4].map PV.str) 2=some (.str n2):=aZ (n:=2) rfl rfl;have b3:atI ([n0,n1,n2,n3,n4].map PV.str) 3=some (.str n3):=aZ (n:=3) rfl rfl;have b4:atI ([n0,n1,n2,n3,n4].map PV.str) 4=some (.str n4):=aZ (n:=4) rfl rfl
 have kl:(kt.map pvk).length<=16777216:=by
  have:=hk1.length_le;simp only[LA] at this ⊢;have h12:K12.length=12:=rfl;omega
 clear uH hall plain hperm hnb hnd fit2 dr two nin q1 q2 q3 q4 q5 rwm rwn;have ee:=FN;simp only[hst] at f1;generalize E12.map e12=EE at *;generalize kt.map pvk=KT at *;generalize (wt.map mw2).map pv2=WT at *;generalize ([n0,n1,n2,n3,n4].map PV.str)=N at *;generalize ls.map PV.int=LN at *;generalize ms.map PV.int=MN at *;simp[ia,PU.start,c0,c1,c2,c3,m13,elow,en,el,em,ee];rw[f1];simp[i24,i25,q24,q25,ew1,i26,i27,q26,q27,ew2,j0,r0,et0,j1,r1,et1,j2,r2,tQ,J9,esl,j3,r3,j4,r4,ew3,j8,r8,ew4];simp[j5,r5,j6,r6,ek3,ets3];rcases ets with⟨c,rfl⟩|⟨c,rfl⟩
 ·rw[c] at r10 ef
  simp[c,j5,r5,j6,r6',ets2,b0,b1,b2,j9,r9,etl,iG,p1,p2,p3];simp[k9 rs3,u4,b3,p4];simp[k9 rs4,u5,b4,p5];simp[j10,r10,ef,eJ,jA]
 ·simp[c,b0,b1,b2,j9,r9,etl,iG,p1,p2,p3]
  simp[k9 rs3,u4,b3,p4];simp[k9 rs4,u5,b4,p5];simp[j10,r10,ef,eJ,jA]
def sT(r b:Str)(w v:Int)(t:W):PV:=.tup [.str r,.str b,.int w,.int v,.str (mkS t)]
def beg(wt:List (W×Str))(w:W):W:=own ((wt.map (·.1)).map (cdH LS5)) (cdH LS5 w)
def TY:Room->W->Prop
 | .menu ..,t=>t=[]
 | .names _ ws _ _,t=>∀wt:List (W×Str),ws=wt.map mw2->(t=[]\/∃p∈wt,t <+: beg wt p.1/\t≠beg wt p.1)
 | _,t=>t=[]
theorem uN(r:Room):TY r []:=by
 cases r with
 | names=>exact fun _ _=>.inl rfl
 | _=>exact rfl
def wrB:Room->Int
 | .menu _ _ wr _=>wr.1
 | .names _ _ wr _=>wr.1
 | _=>2
def waB:Room->Int
 | .menu _ _ _ wa=>wa.1
 | .names _ _ _ wa=>wa.1
 | _=>2
theorem RW.b{KZ:List Str}{room:Room}(h:RW KZ room):(1<=wrB room/\wrB room<=3)/\1<=waB room/\waB room<=3:=by
 cases room with
 | menu t ks wr wa=>exact⟨h.2.2.2.1,h.2.2.2.2⟩
 | names t ks wr wa=>exact⟨h.2.2.2.1,h.2.2.2.2⟩
 | _=>exact⟨⟨show (1:Int)<=2 by decide,show (2:Int)<=3 by decide⟩,show (1:Int)<=2 by decide,show (2:Int)<=3 by decide⟩
structure OK(h:House)(KZ:List Str)(r b:Str)(room:Room)(w v:Int)(t:W):Prop where
 lk:FA.lookR h.rooms r=some room
 nh:∀sp l,room≠.hours sp l
 rn:r∈KZ
 bn:b=""\/b∈KZ
 tl:t.length<=50
 ty:TY room t
 hw:0<=w/\w<wrB room
 hv:0<=v/\v<waB room
section
variable{h : House}{KZ ord : List Str}(hg : HG h KZ ord)(KY : Int)
include hg
theorem hRo:gIx h.pv (.str "rooms")=some (aw h.rooms):=by simp[House.pv]
theorem tW(r:Str)(room:Room)(lk:FA.lookR h.rooms r=some room):RW KZ room:=by
 obtain⟨_,_,_,_,hw⟩:=hg.g.ok _ (vQ h.rooms r room lk);exact hw
theorem cm (x:Str) (hx:x∈KZ):∃y room,comeGo h.rooms KY 20 x=some y/\∀b:Str,(b=""\/b∈KZ)->OK h KZ y b room 0 0 []:=by
 obtain⟨k,hk,ek⟩:=NI (hg.nm x hx);obtain⟨y,r,ey,hr,hy,hh⟩:=xx KZ ord h.rooms hg.nd hg.g hg.all KY 20 k hk (by have:=hg.ol;omega);rw[ek] at ey;have bb:=(tW hg y r hr).b;exact⟨y,r,ey,fun b hb=>⟨hr,hh,hg.mn y hy,hb,by simp,uN r,⟨by omega,by omega⟩,⟨by omega,by omega⟩⟩⟩
theorem arr (x:Str) (hx:x∈KZ) (b:Str) (hb:b=""\/b∈KZ):∃y room,OK h KZ y b room 0 0 []/\bG [h.pv,.int KY,.str x,.str b]=some (sT y b 0 0 []):=by
 obtain⟨y,room,e,ok⟩:=cm hg KY x hx;refine⟨y,room,ok b hb,?_⟩;have k:=CW h.pv h.rooms (hRo hg) KY 20 x y (by omega) e;refine aq rfl ?_;have em:=eM;have u:sT y b 0 0 []=.tup [.str y,.str b,.int 0,.int 0,.str ""]:=by unfold sT;rw[← em]
 rw[u];simp[l6,PU.start,k]
theorem wrong(r b:Str)(w v:Int)(t:W)(room:Room)(ok:OK h KZ r b room w v t)(m:Int)(x:Str)(h3:gIx room.pv (.int 3)=some (.tup [.int m,.str x]))(hm:wrB room=m)(hx:x∈KZ) :
  ∃r' b' w' v' room',OK h KZ r' b' room' w' v' []/\bt [h.pv,.int KY,sT r b w v t]=some (sT r' b' w' v' []):=by
 have n2:=FA.ix_rooms h.rooms r;rw[ok.lk] at n2;have n2:gIx (aw h.rooms) (.str r)=some room.pv:=n2;have hR:=hRo hg;have em:=eM;have u:∀r b w v,sT r b w v []=.tup [.str r,.str b,.int w,.int v,.str ""]:=fun r b w v=>by unfold sT;rw[← em]
 by_cases hw:w+1=m
 ·obtain⟨y,room',ok',e1⟩:=arr hg KY x hx r (.inr ok.rn)
  refine⟨y,r,0,0,room',ok',aq rfl ?_⟩;unfold sT at e1 ⊢;generalize mkS t=T at *;generalize room.pv=RP at *;generalize aw h.rooms=RM at *;generalize h.pv=H at *;simp[d8,PU.start,hR,n2,h3,hw,e1]
 ·have hw1:=ok.hw
  refine⟨r,b,w+1,v,room,⟨ok.lk,ok.nh,ok.rn,ok.bn,by simp,uN room,⟨by omega,by omega⟩,ok.hv⟩,aq rfl ?_⟩;rw[u];unfold sT;generalize mkS t=T at *;generalize room.pv=RP at *;generalize aw h.rooms=RM at *;generalize h.pv=H at *;simp[d8,PU.start,hR,n2,h3,hw]
theorem wait(r b:Str)(w v:Int)(t:W)(room:Room)(ok:OK h KZ r b room w v t)(m:Int)(x:Str)(h3:gIx room.pv (.int 4)=some (.tup [.int m,.str x]))(hm:waB room=m)(hx:x∈KZ) :
  ∃r' b' w' v' room',OK h KZ r' b' room' w' v' []/\iQ [h.pv,.int KY,sT r b w v t]=some (sT r' b' w' v' []):=by
 have n2:=FA.ix_rooms h.rooms r;rw[ok.lk] at n2;have n2:gIx (aw h.rooms) (.str r)=some room.pv:=n2;have hR:=hRo hg;have em:=eM;have u:∀r b w v,sT r b w v []=.tup [.str r,.str b,.int w,.int v,.str ""]:=fun r b w v=>by unfold sT;rw[← em]
 by_cases hw:v+1=m
 ·obtain⟨y,room',ok',e1⟩:=arr hg KY x hx r (.inr ok.rn)
  refine⟨y,r,0,0,room',ok',aq rfl ?_⟩;unfold sT at e1 ⊢;generalize mkS t=T at *;generalize room.pv=RP at *;generalize aw h.rooms=RM at *;generalize h.pv=H at *;simp[iM,PU.start,hR,n2,h3,hw,e1]
 ·have hw1:=ok.hv
  refine⟨r,b,w,v+1,room,⟨ok.lk,ok.nh,ok.rn,ok.bn,by simp,uN room,ok.hw,⟨by omega,by omega⟩⟩,aq rfl ?_⟩;rw[u];unfold sT;generalize mkS t=T at *;generalize room.pv=RP at *;generalize aw h.rooms=RM at *;generalize h.pv=H at *;simp[iM,PU.start,hR,n2,h3,hw]
end
theorem He(a b:Nat):gEq (WO.sg a) (WO.sg b)=some (.bl (decide (a=b))):=by
 unfold WO.sg;rw[yp]
 congr 2
 exact decide_eq_decide.mpr ⟨fun e=>by injection e with e;injection e with e;injection e,fun e=>by rw[e]⟩
theorem JH:PV.str "w"=WO.sg 119:=by kernel_rfl
theorem Ja (c:Nat):gEq (WO.sg c) (.str "w")=some (.bl (decide (c=119))):=by rw[JH,He]
section
variable{h : House}{KZ ord : List Str}(hg : HG h KZ ord)(KY : Int)
include hg
structure Goes(h:House)(KZ:List Str)(KY:Int)(D:PV)(st:PV)(c:Nat)(r' b':Str)(w' v':Int)(t':W)(room':Room):Prop where
 ok:OK h KZ r' b' room' w' v' t'
 fo:bW [h.pv,.int KY,D,st,WO.sg c]=some (sT r' b' w' v' t')
theorem o3 (r b:Str) (w v:Int) (t:W) (room:Room) (ok:OK h KZ r b room w v t) (c:Nat) (k:Str) (h0:gIx room.pv (.int 0)=some (.str k)) (hk:k="hand"\/k="end") (D:PV):Goes h KZ KY D (sT r b w v t) c r b w v t room:=by
 have n2:=FA.ix_rooms h.rooms r;rw[ok.lk] at n2;have n2:gIx (aw h.rooms) (.str r)=some room.pv:=n2;have hR:=hRo hg;have s0:gIx (sT r b w v t) (.int 0)=some (.str r):=rfl;refine⟨ok,aq rfl ?_⟩;generalize sT r b w v t=S at *;generalize room.pv=RP at *;generalize aw h.rooms=RM at *;generalize h.pv=H at *;rcases hk with rfl | rfl
 ·simp[eK,PU.start,s0,hR,n2,h0]
 ·simp[eK,PU.start,s0,hR,n2,h0]
theorem AK (r b:Str) (w v:Int) (t:W) (room:Room) (ok:OK h KZ r b room w v t) (k:Str) (h0:gIx room.pv (.int 0)=some (.str k)) (hk:k="menu"\/k="names") (m:Int) (x:Str) (h4:gIx room.pv (.int 4)=some (.tup [.int m,.str x])) (hm:waB room=m) (hx:x∈KZ) (D:PV):∃r' b' w' v' t' room',Goes h KZ KY D (sT r b w v t) 119 r' b' w' v' t' room':=by
 obtain⟨r',b',w',v',room',ok',e1⟩:=wait hg KY r b w v t room ok m x h4 hm hx;have n2:=FA.ix_rooms h.rooms r;rw[ok.lk] at n2;have n2:gIx (aw h.rooms) (.str r)=some room.pv:=n2;have hR:=hRo hg;have s0:gIx (sT r b w v t) (.int 0)=some (.str r):=rfl;have q:=Ja 119;have cw:c_WAIT=.str "w":=rfl;refine⟨r',b',w',v',[],room',ok',aq rfl ?_⟩;generalize sT r b w v t=S at *;generalize sT r' b' w' v' []=S' at *;generalize room.pv=RP at *;generalize aw h.rooms=RM at *;generalize h.pv=H at *;generalize WO.sg 119=G at *;rcases hk with rfl | rfl
 ·simp[eK,PU.start,s0,hR,n2,h0,cw,q,e1]
 ·simp[eK,PU.start,s0,hR,n2,h0,cw,q,e1]
theorem l8 (r b:Str) (w v:Int) (t:W) (room:Room) (ok:OK h KZ r b room w v t) (k:Str) (h0:gIx room.pv (.int 0)=some (.str k)) (hk:k="menu"\/k="names") (D X:PV) (c:Nat) (hc:c≠119) (e:dJ [h.pv,.int KY,D,sT r b w v t,WO.sg c]=some X):bW [h.pv,.int KY,D,sT r b w v t,WO.sg c]=some X:=by
 have n2:=FA.ix_rooms h.rooms r;rw[ok.lk] at n2;have n2:gIx (aw h.rooms) (.str r)=some room.pv:=n2;have hR:=hRo hg;have s0:gIx (sT r b w v t) (.int 0)=some (.str r):=rfl;have q:=Ja c;rw[decide_eq_false hc] at q;have cw:c_WAIT=.str "w":=rfl;generalize sT r b w v t=S at *;generalize room.pv=RP at *;generalize aw h.rooms=RM at *;generalize h.pv=H at *;generalize WO.sg c=G at *;refine aq rfl ?_;rcases hk with rfl | rfl
 ·simp[eK,PU.start,s0,hR,n2,h0,cw,q,e]
 ·simp[eK,PU.start,s0,hR,n2,h0,cw,q,e]
end
section
variable{h : House}{KZ ord : List Str}(hg : HG h KZ ord)(KY : Int)
theorem AC(r b:Str)(w v:Int)(t:W)(c:Nat)(ht:t.length<=100)(ks:List Key)(ps:List PV)(F:W->Option PV)(T:Tells ks ps F)(hF:F (t++[c])=none)(X:PV)(e:bt [h.pv,.int KY,sT r b w v t]=some X):dJ [h.pv,.int KY,.dct ks ps,sT r b w v t,WO.sg c]=some X:=by
 have ad:eX (.str (mkS t)) (WO.sg c)=some (.str (mkS (t++[c]))):=gJ t c (by omega);have ni:=T.notIn (t++[c]);rw[hF] at ni;have ni:dX (.str (mkS (t++[c]))) (.dct ks ps)=some (.bl true):=ni;have s4:gIx (sT r b w v t) (.int 4)=some (.str (mkS t)):=rfl;generalize sT r b w v t=S at *;generalize PV.dct ks ps=D at *;generalize WO.sg c=G at *;generalize mkS (t++[c])=TT at *;generalize h.pv=H at *;refine aq rfl ?_;simp[fJ,PU.start,s4,ad,ni,e]
theorem Cf(r b:Str)(w v:Int)(t:W)(c:Nat)(ht:t.length<=100)(ks:List Key)(ps:List PV)(F:W->Option PV)(T:Tells ks ps F)(hF:F (t++[c])=some .non):dJ [h.pv,.int KY,.dct ks ps,sT r b w v t,WO.sg c]=some (sT r b w v (t++[c])):=by
 have ad:eX (.str (mkS t)) (WO.sg c)=some (.str (mkS (t++[c]))):=gJ t c (by omega);have ni:=T.notIn (t++[c]);have ix:=T.ix (t++[c]);rw[hF] at ni ix;have ni:dX (.str (mkS (t++[c]))) (.dct ks ps)=some (.bl false):=ni;have s0:gIx (sT r b w v t) (.int 0)=some (.str r):=rfl;have s1:gIx (sT r b w v t) (.int 1)=some (.str b):=rfl;have s2:gIx (sT r b w v t) (.int 2)=some (.int w):=rfl;have s3:gIx (sT r b w v t) (.int 3)=some (.int v):=rfl;have s4:gIx (sT r b w v t) (.int 4)=some (.str (mkS t)):=rfl;have q:gEq .non (.str "back")=some (.bl false):=rfl;have n:qS .non .non=some (.bl true):=rfl;generalize sT r b w v t=S at *;generalize PV.dct ks ps=D at *;generalize WO.sg c=G at *;unfold sT;generalize mkS (t++[c])=TT at *;generalize h.pv=H at *;refine aq rfl ?_;simp[fJ,PU.start,s0,s1,s2,s3,s4,ad,ni,ix,q,n]
theorem AD (r b:Str) (w v:Int) (t:W) (c:Nat) (ht:t.length<=100) (ks:List Key) (ps:List PV) (F:W->Option PV) (T:Tells ks ps F) (x:Str) (hF:F (t++[c])=some (.str x)) (h1:x≠"back") (h2:x≠"") (X:PV) (e:bG [h.pv,.int KY,.str x,.str r]=some X):dJ [h.pv,.int KY,.dct ks ps,sT r b w v t,WO.sg c]=some X:=by
 have ad:eX (.str (mkS t)) (WO.sg c)=some (.str (mkS (t++[c]))):=gJ t c (by omega);have ni:=T.notIn (t++[c]);have ix:=T.ix (t++[c]);rw[hF] at ni ix;have ni:dX (.str (mkS (t++[c]))) (.dct ks ps)=some (.bl false):=ni;have s0:gIx (sT r b w v t) (.int 0)=some (.str r):=rfl;have s1:gIx (sT r b w v t) (.int 1)=some (.str b):=rfl;have s4:gIx (sT r b w v t) (.int 4)=some (.str (mkS t)):=rfl;have n:qS (.str x) .non=some (.bl false):=rfl;generalize sT r b w v t=S at *;generalize PV.dct ks ps=D at *;generalize WO.sg c=G at *;generalize mkS (t++[c])=TT at *;generalize h.pv=H at *;refine aq rfl ?_;simp[fJ,PU.start,s0,s1,s4,ad,ni,ix,h1,h2,n,e]
theorem zh (r b:Str) (w v:Int) (t:W) (c:Nat) (ht:t.length<=100) (ks:List Key) (ps:List PV) (F:W->Option PV) (T:Tells ks ps F) (hF:F (t++[c])=some (.str "back")) (h2:b≠"") (X:PV) (e:bG [h.pv,.int KY,.str b,.str r]=some X):dJ [h.pv,.int KY,.dct ks ps,sT r b w v t,WO.sg c]=some X:=by
 have ad:eX (.str (mkS t)) (WO.sg c)=some (.str (mkS (t++[c]))):=gJ t c (by omega);have ni:=T.notIn (t++[c]);have ix:=T.ix (t++[c]);rw[hF] at ni ix;have ni:dX (.str (mkS (t++[c]))) (.dct ks ps)=some (.bl false):=ni;have s0:gIx (sT r b w v t) (.int 0)=some (.str r):=rfl;have s1:gIx (sT r b w v t) (.int 1)=some (.str b):=rfl;have s4:gIx (sT r b w v t) (.int 4)=some (.str (mkS t)):=rfl;have n:qS (.str b) .non=some (.bl false):=rfl;generalize sT r b w v t=S at *;generalize PV.dct ks ps=D at *;generalize WO.sg c=G at *;generalize mkS (t++[c])=TT at *;generalize h.pv=H at *;refine aq rfl ?_;simp[fJ,PU.start,s0,s1,s4,ad,ni,ix,h2,n,e]
theorem qJ (r:Str) (w v:Int) (t:W) (c:Nat) (ht:t.length<=100) (ks:List Key) (ps:List PV) (F:W->Option PV) (T:Tells ks ps F) (hF:F (t++[c])=some (.str "back")) (X:PV) (e:bt [h.pv,.int KY,sT r "" w v t]=some X):dJ [h.pv,.int KY,.dct ks ps,sT r "" w v t,WO.sg c]=some X:=by
 have ad:eX (.str (mkS t)) (WO.sg c)=some (.str (mkS (t++[c]))):=gJ t c (by omega);have ni:=T.notIn (t++[c]);have ix:=T.ix (t++[c]);rw[hF] at ni ix;have ni:dX (.str (mkS (t++[c]))) (.dct ks ps)=some (.bl false):=ni;have s0:gIx (sT r "" w v t) (.int 0)=some (.str r):=rfl;have s1:gIx (sT r "" w v t) (.int 1)=some (.str ""):=rfl;have s4:gIx (sT r "" w v t) (.int 4)=some (.str (mkS t)):=rfl;have n:qS (.str "") .non=some (.bl false):=rfl;generalize sT r "" w v t=S at *;generalize PV.dct ks ps=D at *;generalize WO.sg c=G at *;generalize mkS (t++[c])=TT at *;generalize h.pv=H at *;refine aq rfl ?_;simp[fJ,PU.start,s0,s1,s4,ad,ni,ix,n,e]
def kw(kt:List (Nat×Str)):List (W×Str):=kt.map fun p=>([p.1],p.2)
def kF(kt:List (Nat×Str))(p:W):Option PV:=((kw kt).find? fun q=>decide (q.1=p)).map fun q=>.str q.2
theorem jc:∀(wt:List (W×Str)),Tells (wt.map fun p=>.inr (mkS p.1)) (wt.map fun p=>.str p.2) fun p=>(wt.find? fun q=>decide (q.1=p)).map fun q=>.str q.2
 | []=>⟨rfl,fun p=>rfl,by simp⟩
 | q::wt=>⟨by simp,fun p=>by
   rw[L8,L8,lS]
   by_cases h:q.1=p
   ·rw[if_pos (by rw[h]),Rw (by simpa using h)]
    rfl
   ·rw[if_neg fun z=>h (mkS_inj (Nf z)),Oa (by simpa using h)]
    exact(jc wt).at_ p,fun x hx=>by
   obtain⟨p,_,rfl⟩:=LG.mp hx;simp[noFn]⟩
theorem Ce(kt:List (Nat×Str))(c:Nat):kF kt [c]=(kt.find? fun q=>decide (q.1=c)).map fun q=>.str q.2:=by
 unfold kF kw;rw[List.find?_map,Option.map_map]
 have:((fun q:W×Str=>decide (q.1=[c])) ∘ fun p:Nat×Str=>([p.1],p.2))=fun q:Nat×Str=>decide (q.1=c):=by
  funext q
  simp
 rw[this];rfl
include hg in
theorem kH(r:Str)(room:Room)(lk:FA.lookR h.rooms r=some room)(t:Str)(kt:List (Nat×Str))(wr wa:Int×Str)(hr:room=.menu t (kt.map mk2) wr wa)(hs:Nn (kt.map (·.1)) K12):aC [h.pv,.str r]=some (wtD (kw kt)):=by
 have n2:=FA.ix_rooms h.rooms r;rw[lk,hr] at n2;have n2:gIx (aw h.rooms) (.str r)=some (.tup [.str "menu",.str t,.tup ((kt.map mk2).map pv2),.tup [.int wr.1,.str wr.2],.tup [.int wa.1,.str wa.2]]):=n2;have hR:=hRo hg
 have e:PV.tup ((kt.map mk2).map pv2)=A0 (kw kt):=by
  rw[Ax];unfold A0 kw;rw[LV];rfl
 have kl:kt.length<=12:=by
  have h1:=hs.length_le;have h2:K12.length=12:=rfl;rw[LA] at h1;omega
 have d:=xk (kw kt) (by simp[kw];omega) (by
  unfold kw;rw[LV];have nd:=hs.nodup Fm;have:(RT ((fun x:W×Str=>x.1) ∘ fun p:Nat×Str=>([p.1],p.2)) kt)=(kt.map (·.1)).map (fun c=>[c]):=by rw[LV];rfl
  rw[this]
  have inj:∀l:List Nat,l.Nodup->(l.map fun c=>[c]).Nodup:=by
   intro l
   induction l with
   | nil=>intro _;simp
   | cons a l ih=>
    intro h1;rw[Lq] at h1;rw[L8,Lq];refine⟨fun z=>?_,ih h1.2⟩;obtain⟨b,hb,e⟩:=LG.mp z;have:b=a:=by simpa using e
    subst this;exact h1.1 hb
  exact inj _ nd)
 rw[e] at n2;generalize A0 (kw kt)=KP at *;generalize wtD (kw kt)=KD at *;generalize aw h.rooms=RM at *;generalize h.pv=H at *;refine aq rfl ?_;simp[d6,PU.start,hR,n2,d]
include hg in
theorem wC(r b:Str)(w v:Int)(room:Room)(tt:W)(ok:OK h KZ r b room w v tt)(t:Str)(ks:List (Str×Str))(wr wa:Int×Str)(hr:room=.menu t ks wr wa)(c:Nat)(hc:c≠119):∃D r' b' w' v' t' room',aC [h.pv,.str r]=some D/\Goes h KZ KY D (sT r b w v tt) c r' b' w' v' t' room':=by
 have hw:=tW hg r room ok.lk;rw[hr] at hw;obtain⟨⟨kt,rfl,hs,ht⟩,hwr,hwa,_,_⟩:=hw;have tt0:tt=[]:=by have:=ok.ty;rw[hr] at this;exact this
 subst tt0;have ew:=kH hg r room ok.lk t kt wr wa hr hs;have TL:=jc (kw kt);have TLf:∀c,((kw kt).find? fun q=>decide (q.1=[c])).map (fun q=>PV.str q.2)=(kt.find? fun q=>decide (q.1=c)).map fun q=>.str q.2:=Ce kt;have h0:gIx room.pv (.int 0)=some (.str "menu"):=by rw[hr];rfl
 have h3:gIx room.pv (.int 3)=some (.tup [.int wr.1,.str wr.2]):=by rw[hr];rfl
 obtain⟨r1,b1,w1,v1,room1,ok1,e1⟩:=wrong hg KY r b w v [] room ok wr.1 wr.2 h3 (by rw[hr];rfl) hwr;cases hf:kt.find? fun q=>decide (q.1=c) with
 | none=>
  refine⟨_,r1,b1,w1,v1,[],room1,ew,ok1,l8 hg KY r b w v [] room ok "menu" h0 (.inl rfl) _ _ c hc ?_⟩;exact AC KY r b w v [] c (by simp) _ _ _ TL (by show ((kw kt).find? fun q=>decide (q.1=[c])).map (fun q=>PV.str q.2)=none;rw[TLf,hf];rfl) _ e1
 | some p=>
  have pm:=NY hf
  have hF:((kw kt).find? fun q=>decide (q.1=[]++[c])).map (fun q=>PV.str q.2)=some (.str p.2):=by
   show ((kw kt).find? fun q=>decide (q.1=[c])).map (fun q=>PV.str q.2)=_;rw[TLf,hf];rfl
  by_cases hb:p.2=LI "back"
  ·by_cases hbb:b=LI ""
   ·subst hbb
    rw[hb] at hF;refine⟨_,r1,b1,w1,v1,[],room1,ew,ok1,l8 hg KY r "" w v [] room ok "menu" h0 (.inl rfl) _ _ c hc ?_⟩;exact qJ KY r w v [] c (by simp) _ _ _ TL hF _ e1
   ·have hbn:b∈KZ:=ok.bn.resolve_left hbb
    obtain⟨y,room2,ok2,a1⟩:=arr hg KY b hbn r (.inr ok.rn);rw[hb] at hF;refine⟨_,y,r,0,0,[],room2,ew,ok2,l8 hg KY r b w v [] room ok "menu" h0 (.inl rfl) _ _ c hc ?_⟩;exact zh KY r b w v [] c (by simp) _ _ _ TL hF hbb _ a1
  ·have hpn:p.2∈KZ:=(ht p pm).resolve_left hb
   obtain⟨y,room2,ok2,a1⟩:=arr hg KY p.2 hpn r (.inr ok.rn);refine⟨_,y,r,0,0,[],room2,ew,ok2,l8 hg KY r b w v [] room ok "menu" h0 (.inl rfl) _ _ c hc ?_⟩;exact AD KY r b w v [] c (by simp) _ _ _ TL p.2 hF hb (hg.nb p.2 hpn).2 _ a1
end
theorem D0{a:W}(ha:a∈W8):(cdH LS5 a).length<=5/\1<=(cdH LS5 a).length:=by
 have:=A9 a ha;simp[cdH,cdW];omega
structure WT(wt:List (W×Str))(KZ:List Str):Prop where
 sb:Nn (wt.map (·.1)) W8
 ne:wt≠[]
 tn:∀p∈wt,p.2∈KZ
section
variable{wt : List (W×Str)}{KZ : List Str}(k : WT wt KZ)
include k
theorem WT.w8:∀p∈wt,p.1∈W8:=fun p hp=>k.sb.subset (LG.mpr ⟨p,hp,rfl⟩)
theorem WT.nd:(wt.map (·.1)).Nodup:=k.sb.nodup GU
theorem WT.len:wt.length<=8:=by
 have h1:=k.sb.length_le;have h2:W8.length<=8:=by decide
 rw[LA] at h1;omega
theorem WT.ok:∀p∈wt,p.1.length<=12/\∀c∈p.1,(WO.keyL LS5 c).isSome=true:=fun p hp=>⟨by have:=A9 p.1 (k.w8 p hp);omega,F0 p.1 (k.w8 p hp)⟩
theorem WT.nc:(wt.map fun p=>cdH LS5 p.1).Nodup:=by
 have:((wt.map (·.1)).map (cdH LS5)).Nodup:=(k.sb.map (cdH LS5)).nodup HS;rw[LV] at this;exact this
theorem WT.bs:(∀x∈ya LS5 wt,x.1≠[])/\∀x∈ya LS5 wt,∀y∈ya LS5 wt,x.1 <+: y.1->x=y:=⟨Iy,Iw HR (fun p hp=>(k.ok p hp).2) k.nc⟩
theorem WT.mem{p:W×Str}(hp:p∈wt):(beg wt p.1,p.2)∈ya LS5 wt:=LG.mpr ⟨p,hp,rfl⟩
theorem WT.inv{x:W×Str}(hx:x∈ya LS5 wt):∃p∈wt,x=(beg wt p.1,p.2):=by
 obtain⟨p,hp,rfl⟩:=LG.mp hx;exact⟨p,hp,rfl⟩
theorem WT.pre{p:W×Str}(hp:p∈wt):beg wt p.1 <+: cdH LS5 p.1:=by unfold beg;exact nH _ _
theorem WT.bl{p:W×Str}(hp:p∈wt):(beg wt p.1).length<=5:=by
 have h1:=NV (k.pre hp);have h2:=(D0 (k.w8 p hp)).1;omega
end
theorem rz(b ty:W):b.take ty.length=ty ↔ ty <+: b:=⟨fun e=>by rw[← e];exact OH _ _,fun e=>(OW.mp e).symm⟩
def fits(wt:List (W×Str))(ty:W)(q:W×Str):Bool:=decide ((beg wt q.1).take ty.length=ty)
theorem C7:∀(a b:List (W×Str)),a.map mw2=b.map mw2->a=b:=by
 intro a
 induction a with
 | nil=>intro b e;cases b with | nil=>rfl | cons _ _=>cases e
 | cons x a ih=>
  intro b e;cases b with
  | nil=>cases e
  | cons y b=>
   rw[L8,L8] at e;injection e with e1 e2;have e3:x.1=y.1:=mkS_inj (show (mw2 x).1=(mw2 y).1 by rw[e1]);have e4:x.2=y.2:=(show (mw2 x).2=(mw2 y).2 by rw[e1]);rw[ih b e2,RL e3 e4]
section
variable{h : House}{KZ ord : List Str}(hg : HG h KZ ord)(KY : Int)
include hg
theorem E7 (r:Str) (room:Room) (lk:FA.lookR h.rooms r=some room) (t:Str) (wt:List (W×Str)) (wr wa:Int×Str) (hr:room=.names t (wt.map mw2) wr wa):gIx (aw h.rooms) (.str r)=some (.tup [.str "names",.str t,A0 wt,.tup [.int wr.1,.str wr.2],.tup [.int wa.1,.str wa.2]]):=by
 have n2:=FA.ix_rooms h.rooms r;rw[lk,hr] at n2;rw[← ES];exact n2
theorem jT(r:Str)(room:Room)(lk:FA.lookR h.rooms r=some room)(t:Str)(ks:List (Str×Str))(wr wa:Int×Str)(hr:room=.names t ks wr wa):∃wt,ks=wt.map mw2/\WT wt KZ/\wr.2∈KZ/\wa.2∈KZ:=by
 have hw:=tW hg r room lk;rw[hr] at hw;obtain⟨⟨wt,e,hs,hne,ht⟩,hwr,hwa,_,_⟩:=hw;exact⟨wt,e,⟨hs,hne,ht⟩,hwr,hwa⟩
theorem fG(r:Str)(room:Room)(lk:FA.lookR h.rooms r=some room)(t:Str)(wt:List (W×Str))(wr wa:Int×Str)(hr:room=.names t (wt.map mw2) wr wa)(k:WT wt KZ):∃ks ps,Tells ks ps (B6 (ya LS5 wt))/\aC [h.pv,.str r]=some (.dct ks ps):=by
 obtain⟨ks,ps,tl,e⟩:=zc LS5 wt (by have:=k.len;omega) k.ok k.nd;have d:=xk wt (by have:=k.len;omega) k.nd;have n2:=E7 hg r room lk t wt wr wa hr;have hR:=hRo hg;have hL:=hg.lets;refine⟨ks,ps,tl,aq rfl ?_⟩;generalize A0 wt=WP at *;generalize wtD wt=WD at *;generalize WO.ltPv LS5=LL at *;generalize aw h.rooms=RM at *;generalize h.pv=H at *;simp[d6,PU.start,hR,n2,hL,d,e]
theorem tZ(r b:Str)(w v:Int)(room:Room)(tt:W)(ok:OK h KZ r b room w v tt)(t:Str)(ks:List (Str×Str))(wr wa:Int×Str)(hr:room=.names t ks wr wa)(c:Nat)(hc:c≠119):∃D r' b' w' v' t' room',aC [h.pv,.str r]=some D/\Goes h KZ KY D (sT r b w v tt) c r' b' w' v' t' room':=by
 obtain⟨wt,rfl,k,hwr,hwa⟩:=jT hg r room ok.lk t ks wr wa hr;obtain⟨dk,dp,TL,ew⟩:=fG hg r room ok.lk t wt wr wa hr k;have h0:gIx room.pv (.int 0)=some (.str "names"):=by rw[hr];rfl
 have h3:gIx room.pv (.int 3)=some (.tup [.int wr.1,.str wr.2]):=by rw[hr];rfl
 have tl:=ok.tl;obtain⟨b1,b2⟩:=k.bs;cases hf:wt.find? (fits wt (tt++[c])) with
 | none=>
  obtain⟨r1,bb1,w1,v1,room1,ok1,e1⟩:=wrong hg KY r b w v tt room ok wr.1 wr.2 h3 (by rw[hr];rfl) hwr;refine⟨_,r1,bb1,w1,v1,[],room1,ew,ok1,l8 hg KY r b w v tt room ok "names" h0 (.inr rfl) _ _ c hc ?_⟩;refine AC KY r b w v tt c (by omega) _ _ _ TL ?_ _ e1;refine uI b1 fun x hx _ hp=>?_;obtain⟨p,hp2,rfl⟩:=k.inv hx;have:=Sm.mp hf p hp2;exact this (decide_eq_true ((rz _ _).mpr hp))
 | some p=>
  have pm:=NY hf;have pf:fits wt (tt++[c]) p=true:=R6 hf;have pp:(tt++[c]) <+: beg wt p.1:=(rz _ _).mp (of_decide_eq_true pf)
  by_cases hb:beg wt p.1=tt++[c]
  ·have hpn:=k.tn p pm
   obtain⟨y,room2,ok2,a1⟩:=arr hg KY p.2 hpn r (.inr ok.rn);refine⟨_,y,r,0,0,[],room2,ew,ok2,l8 hg KY r b w v tt room ok "names" h0 (.inr rfl) _ _ c hc ?_⟩;refine AD KY r b w v tt c (by omega) _ _ _ TL p.2 ?_ (hg.nb p.2 hpn).1 (hg.nb p.2 hpn).2 _ a1;rw[← hb];exact yg b1 b2 (k.mem pm)
  ·have bl:=k.bl pm
   have ttl:=NV pp;refine⟨_,r,b,w,v,tt++[c],room,ew,⟨ok.lk,ok.nh,ok.rn,ok.bn,by omega,?_,ok.hw,ok.hv⟩,l8 hg KY r b w v tt room ok "names" h0 (.inr rfl) _ _ c hc ?_⟩
   ·rw[hr]
    intro wt' e';have:=C7 wt wt' e';subst this;exact .inr ⟨p,pm,pp,fun z=>hb z.symm⟩
   ·refine Cf KY r b w v tt c (by omega) _ _ _ TL ?_
    exact yf b1 b2 (k.mem pm) (by simp) pp (fun z=>hb z.symm)
theorem Kl(r b:Str)(w v:Int)(room:Room)(tt:W)(ok:OK h KZ r b room w v tt)(c:Nat):∃D r' b' w' v' t' room',aC [h.pv,.str r]=some D/\Goes h KZ KY D (sT r b w v tt) c r' b' w' v' t' room':=by
 have n2:=FA.ix_rooms h.rooms r;rw[ok.lk] at n2;have n2:gIx (aw h.rooms) (.str r)=some room.pv:=n2;have hR:=hRo hg
 have plain:∀k:Str,gIx room.pv (.int 0)=some (.str k)->¬ k="menu"->¬ k="names"->aC [h.pv,.str r]=some (.dct [] []):=fun k h0 h1 h2=>by
  refine aq rfl ?_;generalize room.pv=RP at *;generalize aw h.rooms=RM at *;generalize h.pv=H at *;simp[d6,PU.start,hR,n2,h0,h1,h2]
 cases hroom:room with
 | hours sp l=>exact absurd hroom (ok.nh sp l)
 | menu t ks wr wa=>
  by_cases hc:c=119
  ·subst hc
   have hw:=tW hg r room ok.lk;rw[hroom] at hw;obtain⟨⟨kt,rfl,hs,ht⟩,hwr,hwa,_,_⟩:=hw;have ew:=kH hg r room ok.lk t kt wr wa hroom hs;obtain⟨r',b',w',v',t',room',B⟩:=AK hg KY r b w v tt room ok "menu" (by rw[hroom];rfl) (.inl rfl) wa.1 wa.2 (by rw[hroom];rfl) (by rw[hroom];rfl) hwa (wtD (kw kt));exact⟨_,r',b',w',v',t',room',ew,B⟩
  ·exact wC hg KY r b w v room tt ok t ks wr wa hroom c hc
 | names t ks wr wa=>
  by_cases hc:c=119
  ·subst hc
   obtain⟨wt,rfl,k,hwr,hwa⟩:=jT hg r room ok.lk t ks wr wa hroom;obtain⟨dk,dp,TL,ew⟩:=fG hg r room ok.lk t wt wr wa hroom k;obtain⟨r',b',w',v',t',room',B⟩:=AK hg KY r b w v tt room ok "names" (by rw[hroom];rfl) (.inr rfl) wa.1 wa.2 (by rw[hroom];rfl) (by rw[hroom];rfl) hwa (.dct dk dp);exact⟨_,r',b',w',v',t',room',ew,B⟩
  ·exact tZ hg KY r b w v room tt ok t ks wr wa hroom c hc
 | hand t=>exact⟨_,r,b,w,v,tt,room,plain "hand" (by rw[hroom];rfl) (by simp) (by simp),o3 hg KY r b w v tt room ok c "hand" (by rw[hroom];rfl) (.inl rfl) _⟩
 | fin t=>exact⟨_,r,b,w,v,tt,room,plain "end" (by rw[hroom];rfl) (by simp) (by simp),o3 hg KY r b w v tt room ok c "end" (by rw[hroom];rfl) (.inr rfl) _⟩
theorem Bt(n:Str)(room:Room)(lk:FA.lookR h.rooms n=some room):∃D,aC [h.pv,.str n]=some D/\noFn D=true:=by
 have n2:=FA.ix_rooms h.rooms n;rw[lk] at n2;have n2:gIx (aw h.rooms) (.str n)=some room.pv:=n2;have hR:=hRo hg
 have plain:∀k:Str,gIx room.pv (.int 0)=some (.str k)->¬ k="menu"->¬ k="names"->aC [h.pv,.str n]=some (.dct [] []):=fun k h0 h1 h2=>by
  refine aq rfl ?_;generalize room.pv=RP at *;generalize aw h.rooms=RM at *;generalize h.pv=H at *;simp[d6,PU.start,hR,n2,h0,h1,h2]
 have z:noFn (.dct [] [])=true:=by simp[noFn,br]
 cases hroom:room with
 | hours sp l=>exact⟨_,plain "hours" (by rw[hroom];rfl) (by simp) (by simp),z⟩
 | hand t=>exact⟨_,plain "hand" (by rw[hroom];rfl) (by simp) (by simp),z⟩
 | fin t=>exact⟨_,plain "end" (by rw[hroom];rfl) (by simp) (by simp),z⟩
 | menu t ks wr wa=>
  have hw:=tW hg n room lk;rw[hroom] at hw;obtain⟨⟨kt,rfl,hs,ht⟩,hwr,hwa,_,_⟩:=hw;refine⟨_,kH hg n room lk t kt wr wa hroom hs,?_⟩;have:=(gm _).mpr (jc (kw kt)).nf;simpa [wtD,noFn] using this
 | names t ks wr wa=>
  obtain⟨wt,rfl,k,hwr,hwa⟩:=jT hg n room lk t ks wr wa hroom;obtain⟨dk,dp,TL,ew⟩:=fG hg n room lk t wt wr wa hroom k;refine⟨_,ew,?_⟩;have:=(gm _).mpr TL.nf;simpa [noFn] using this
theorem Be:∃WD,aX [h.pv]=some WD/\noFn WD=true/\∀r b room w v tt,OK h KZ r b room w v tt->∀D,aC [h.pv,.str r]=some D->gIx WD (.str r)=some D:=by
 have rx:∀n∈FA.names h.rooms,∃D,aC [h.pv,.str n]=some D/\noFn D=true:=fun n hn=>by
  obtain⟨room,hr⟩:=FA.look_some h.rooms n hn;exact Bt hg n room hr
 obtain⟨ks,ps,e,g,nf⟩:=Cv h.pv h.rooms (hRo hg) (by have:=hg.rl;omega) (fun n=>(aC [h.pv,.str n]).getD .non) (fun n hn=>by
  obtain⟨D,e,_⟩:=rx n hn;rw[e];rfl) (fun n hn=>by
  obtain⟨D,e,f⟩:=rx n hn;rw[e];exact f)
 refine⟨_,e,nf,fun r b room w v tt ok D hD=>?_⟩;rw[g r (hg.all r (hg.nm r ok.rn)),hD];rfl
theorem zN:∃y room,OK h KZ y "" room 0 0 []/\dD [h.pv,.int KY]=some (sT y "" 0 0 []):=by
 obtain⟨y,room,ok,e1⟩:=arr hg KY h.first hg.fst "" (.inl rfl);refine⟨y,room,ok,aq rfl ?_⟩;have hF:gIx h.pv (.str "first")=some (.str h.first):=by simp[House.pv]
 generalize h.pv=H at *;simp[qQ,PU.start,hF,e1]
end
structure St where
 r:Str
 b:Str
 w:Int
 v:Int
 t:W
deriving DecidableEq
def St.pv(s:St):PV:=sT s.r s.b s.w s.v s.t
def St.key(s:St):List Key:=[.inr s.r,.inr s.b,.inl s.w,.inl s.v,.inr (mkS s.t)]
theorem St.tk(s:St):jN s.pv=some s.key:=rfl
theorem St.kinj{a b:St}(e:a.key=b.key):a=b:=by
 cases a;cases b;simp only[St.key,Ni,Sum.inr.injEq,Sum.inl.injEq,and_true] at e;obtain⟨h1,h2,h3,h4,h5⟩:=e;have h5:=mkS_inj h5;subst h1 h2 h3 h4 h5;rfl
theorem St.nf(s:St):noFn s.pv=true:=by simp[St.pv,sT,noFn,br]
def Ok(h:House)(KZ:List Str)(s:St):Prop:=∃room,OK h KZ s.r s.b room s.w s.v s.t
def S13:List Nat:=[48,49,50,51,52,53,54,55,56,57,42,35,119]
def cd(i:Nat):Nat:=S13.getD i 0
theorem Ag:eD (.str "0123456789*#w")=some ((L7 13).map fun i=>WO.sg (cd i)):=by kernel_rfl
def Nx(h:House)(KZ:List Str)(KY:Int)(s:St)(i:Nat)(s':St):Prop:=Ok h KZ s'/\∃D,aC [h.pv,.str s.r]=some D/\bW [h.pv,.int KY,D,s.pv,WO.sg (cd i)]=some s'.pv
open Classical in
noncomputable def lead(h:House)(KZ:List Str)(KY:Int)(s:St)(i:Nat):St:=if e:∃s',Nx h KZ KY s i s' then e.choose else s
def TL:List W:=W8.flatMap fun w=>(L7 6).map fun n=>(cdH LS5 w).take n
def univ (KZ:List Str):List St:=KZ.flatMap fun r=>(LI ""::KZ).flatMap fun b=>[(0:Int),1,2].flatMap fun w=>[(0:Int),1,2].flatMap fun v=>TL.map fun t=>⟨r,b,w,v,t⟩
theorem pL{α β:Type}(f:α->List β)(n:Nat):∀l:List α,(∀x∈l,(f x).length=n)->(l.flatMap f).length=l.length * n
 | [],_=>by simp
 | x::l,h=>by
  rw[Qg,Lp,h x (by simp),pL f n l fun y hy=>h y (by simp[hy]),Lj,Nat.add_mul];omega
theorem yr(KZ:List Str)(h:KZ.length<=5):(univ KZ).length<=19999:=by
 have hT:TL.length=12:=by decide +kernel
 have e:(univ KZ).length=KZ.length * ((KZ.length+1) * (3 * (3 * 12))):=by
  unfold univ;refine pL _ _ _ fun r _=>?_;refine(pL _ (3 * (3 * 12)) _ fun b _=>?_);refine(pL _ (3 * 12) _ fun w _=>?_);refine(pL _ 12 _ fun v _=>?_);rw[LA,hT]
 rw[e];have h2:KZ.length * ((KZ.length+1) * (3 * (3 * 12)))<=5 * ((5+1) * (3 * (3 * 12))):=Nat.mul_le_mul h (Nat.mul_le_mul (by omega) (LX _));omega
section
variable{h : House}{KZ ord : List Str}(hg : HG h KZ ord)(KY : Int)
include hg
theorem yq(s:St)(hs:Ok h KZ s):s∈univ KZ:=by
 obtain⟨room,ok⟩:=hs;have bb:=(tW hg s.r room ok.lk).b;have h1:=ok.hw;have h2:=ok.hv
 have ht:s.t∈TL:=by
  have z:([]:W)∈TL:=by decide +kernel
  have ty:=ok.ty;cases hroom:room with
  | names t ks wr wa=>
   obtain⟨wt,rfl,k,_,_⟩:=jT hg s.r room ok.lk t ks wr wa hroom;rw[hroom] at ty;rcases ty wt rfl with e | ⟨p,hp,h1,h2⟩
   ·rw[e];exact z
   ·have pre:=PY h1 (k.pre hp)
    have l1:=NV h1;have l2:=k.bl hp;refine Om.mpr ⟨p.1,k.w8 p hp,LG.mpr ⟨s.t.length,MF.mpr (by omega),?_⟩⟩;exact(OW.mp pre).symm
  | _=>
   rw[hroom] at ty;have ty:s.t=[]:=ty;rw[ty];exact z
 have hw:s.w=0\/s.w=1\/s.w=2:=by omega
 have hv:s.v=0\/s.v=1\/s.v=2:=by omega
 refine Om.mpr ⟨s.r,ok.rn,Om.mpr ⟨s.b,?_,Om.mpr ⟨s.w,?_,Om.mpr ⟨s.v,?_,LG.mpr ⟨s.t,ht,rfl⟩⟩⟩⟩⟩
 ·rcases ok.bn with e | e
  ·rw[e];exact Le
  ·exact Lg _ e
 ·rcases hw with e | e | e <;> simp[e]
 ·rcases hv with e | e | e <;> simp[e]
theorem nQ(s:St)(hs:Ok h KZ s)(i:Nat):Nx h KZ KY s i (lead h KZ KY s i):=by
 have ex:∃s',Nx h KZ KY s i s':=by
  obtain⟨room,ok⟩:=hs;obtain⟨D,r',b',w',v',t',room',e,g⟩:=Kl hg KY s.r s.b s.w s.v room s.t ok (cd i);exact⟨⟨r',b',w',v',t'⟩,⟨room',g.ok⟩,D,e,g.fo⟩
 unfold lead;rw[dif_pos ex];exact ex.choose_spec
end
theorem rf(L:List PV)(st:PV):gIx (.lst (L++[st])) (.int (-1))=some st:=by
 show atI (L++[st]) (-1)=some st
 have e:ixN (L++[st]).length (-1)=some L.length:=by
  rw[Lp,O0];unfold ixN;rw[if_neg (by omega)]
  first
   | (rw[if_pos (by omega)];congr 1;omega)
   | (simp;omega)
   | simp
 unfold atI;rw[e];simp
structure WD(h:House)(KZ:List Str)(D:PV):Prop where
 eq:aX [h.pv]=some D
 nf:noFn D=true
 ix:∀s:St,Ok h KZ s->∀X,aC [h.pv,.str s.r]=some X->gIx D (.str s.r)=some X
theorem Bd{h:House}{KZ ord:List Str}(hg:HG h KZ ord):∃D,WD h KZ D:=by
 obtain⟨D,h1,h2,h3⟩:=Be hg;exact⟨D,h1,h2,fun s ⟨room,ok⟩ X hX=>h3 s.r s.b room s.w s.v s.t ok X hX⟩
section
variable{h : House}{KZ ord : List Str}(hg : HG h KZ ord)(KY : Int){D : PV}(hD : WD h KZ D)
include hg hD
theorem Io(s:St)(hs:Ok h KZ s)(i:Nat):∃X,gIx D (.str s.r)=some X/\bW [h.pv,.int KY,X,s.pv,WO.sg (cd i)]=some (lead h KZ KY s i).pv:=by
 obtain⟨_,X,e1,e2⟩:=nQ hg KY s hs i;exact⟨X,hD.ix s hs X e1,e2⟩
end
theorem vY{n:Nat}{fe:PSt->R PV}{qs cs:List PV}{p:PV}(hl:qs.length=n)(h:fe ((qs++cs).map .val)=.ok p):Dk n fe qs cs=some p:=by
 unfold Dk;rw[if_pos hl,h]
theorem si(q:Str)(k:List Str)(sc:Scope)(e:Expr):(Cd q k sc e).kept=k:=by
 cases e <;> rfl
theorem qo{i:Nat}{fs:PSt->R (List PV)}{app:Lam->List PV->List PV->Option PV}{ρ:PSt}{L:Lam}{cs qs:List PV}{p:PV}(h:ρ[i]?=some (.val (.fn L cs)))(hq:fs ρ=.ok qs)(n1:br qs=true)(n2:br cs=true)(e:app L qs cs=some p):lD i fs app ρ=.ok p:=by
 unfold lD;rw[h];show (fs ρ >>= fun qs=>if br qs=true/\br cs=true then R.ofO (app L qs cs) else .no)=_;rw[hq];show (if br qs=true/\br cs=true then R.ofO (app L qs cs) else .no)=_;rw[if_pos ⟨n1,n2⟩,e];rfl
theorem Kw(S G W_ T X:PV)(KY:Int)(H:PV)(r:Str)(h0:gIx S (.int 0)=some (.str r))(h1:gIx W_ (.str r)=some X)(h2:bW [H,.int KY,X,S,G]=some T):appL bA [S,G] [W_,.int KY,H]=some T:=by
 unfold appL;rw[if_pos rfl];refine vY rfl ?_;show gH [.val S,.val G,.val W_,.val (.int KY),.val H]=_;simp[gH,h0,h1,h2]
theorem Jy(S:PV):appL bg [S] []=some (.bl false):=by
 unfold appL;rw[if_neg,if_pos rfl]
 ·exact vY rfl rfl
 ·intro e
  have:=congrArg Lam.kept e;unfold bA bg at this;rw[si,si] at this;cases this
theorem f7{α:Type}(f:α->PV)(l:List α)(h:∀x∈l,noFn (f x)=true):br (l.map f)=true:=(gm _).mpr fun p hp=>by
 obtain⟨x,hx,rfl⟩:=LG.mp hp;exact h x hx
theorem vJ(p:Str×Str):noFn (pv2 p)=true:=by simp[pv2,noFn,br]
theorem EM(p:Int×Int×Str):noFn (pv3 p)=true:=by simp[pv3,noFn,br]
theorem C2(r:Room):noFn r.pv=true:=by
 cases r with
 | menu t ks wr wa=>simp[Room.pv,pvI,noFn,br,f7 pv2 ks fun x _=>vJ x]
 | names t ks wr wa=>simp[Room.pv,pvI,noFn,br,f7 pv2 ks fun x _=>vJ x]
 | hours sp l=>simp[Room.pv,noFn,br,f7 pv3 sp fun x _=>EM x]
 | hand t=>simp[Room.pv,noFn,br]
 | fin t=>simp[Room.pv,noFn,br]
theorem zd(h:House):noFn h.pv=true:=by
 have h1:=f7 pv2 h.letters fun x _=>vJ x;have h2:=f7 (fun r:Str×Room=>r.2.pv) h.rooms fun x _=>C2 x.2;simp[House.pv,aw,noFn,br,h1,h2]
theorem rM{ks:List (List Key)}{ps:List PV}{k:List Key}{v:PV}(h:(ks.any fun j=>decide (j=k))=false):tK ks ps k v=.dtt (ks++[k]) (ps++[v]):=by
 unfold tK;rw[h];rfl
theorem uL{i:Nat}{fk fv:PSt->R PV}{ρ:PSt}{ks:List (List Key)}{ps:List PV}{p kp:PV}{k:List Key}(h:ρ[i]?=some (.own (.dtt ks ps)))(hv:fv ρ=.ok p)(hk:fk ρ=.ok kp)(ht:jN kp=some k)(hl:ks.length<16777216):nu i fk fv ρ=.ok (.next (ρ.set i (.own (tK ks ps k p)))):=by
 unfold nu;rw[h];show (fv ρ >>= fun p=>fk ρ >>= fun kp=>R.ofO (jN kp) >>= fun k=>if ks.length<16777216 then R.ok (Fl.next (ρ.set i (.own (tK ks ps k p)))) else R.no)=_;rw[hv];show (fk ρ >>= fun kp=>R.ofO (jN kp) >>= fun k=>if ks.length<16777216 then R.ok (Fl.next (ρ.set i (.own (tK ks ps k p)))) else R.no)=_;rw[hk];show (R.ofO (jN kp) >>= fun k=>if ks.length<16777216 then R.ok (Fl.next (ρ.set i (.own (tK ks ps k p)))) else R.no)=_;rw[ht];exact if_pos hl
theorem Il(S0 F1 F2:PV)(KS:List (List Key))(PS FS:List PV)(d:Int)(NP SG T:PV)(c:Sl)(x x':Str)(k:List Key)
  (h1:lD 1 (a6 (ab (getV 6) (kI 0) gIx) (a6 (getV 7) aH)) appL [.val S0,.val F1,.val F2,.own (.dtt KS PS),.own (.lst FS),.val (.int d),.val NP,.val SG,c]=.ok T)
  (h2:∀KS PS FS,lD 2 (a6 (getV 8) aH) appL [.val S0,.val F1,.val F2,.own (.dtt KS PS),.own (.lst FS),.val (.int d),.val NP,.val SG,.val T]=.ok (.bl false))
  (hk:jN T=some k) (hx:gIx NP (.int 1)=some (.str x)) (ha:eX (.str x) SG=some (.str x')) (hl:KS.length<16777216) (hf:FS.length<16777216) :
  bu [.val S0,.val F1,.val F2,.own (.dtt KS PS),.own (.lst FS),.val (.int d),.val NP,.val SG,c]=.ok (.next (if (KS.any fun j=>decide (j=k))=true then [.val S0,.val F1,.val F2,.own (.dtt KS PS),.own (.lst FS),.val (.int d),.val NP,.val SG,.val T] else [.val S0,.val F1,.val F2,.own (.dtt (KS++[k]) (PS++[.bl true])),.own (.lst (FS++[.tup [T,.str x']])),.val (.int d),.val NP,.val SG,.val T])):=by
 have ni:fK T (.dtt KS PS)=some (.bl (!(KS.any fun j=>decide (j=k)))):=by
  show (jN T).map _=_;rw[hk];rfl
 by_cases hh:(KS.any fun j=>decide (j=k))=true
 ·rw[if_pos hh]
  rw[hh] at ni;simp[bu,h1,ni]
 ·have hh':(KS.any fun j=>decide (j=k))=false:=(On _).mp hh
  rw[if_neg hh];rw[hh'] at ni
  have pt:nu 3 (getV 8) (kB true) [.val S0,.val F1,.val F2,.own (.dtt KS PS),.own (.lst FS),.val (.int d),.val NP,.val SG,.val T]=.ok (.next [.val S0,.val F1,.val F2,.own (.dtt (KS++[k]) (PS++[.bl true])),.own (.lst FS),.val (.int d),.val NP,.val SG,.val T]):=by
   rw[uL (ks:=KS) (ps:=PS) (p:=.bl true) (kp:=T) (k:=k) rfl rfl rfl hk hl,rM hh'];rfl
  have h3:=h2 (KS++[k]) (PS++[.bl true]) (FS++[.tup [T,.str x']]);simp[bu,h1,ni,pt,hx,ha,hf,h3]
theorem xN(x:List Nat)(c:Nat)(hx:x.length<=1000000):eX (.str (mkS x)) (.str ⟨#[c]⟩)=some (.str (mkS (x++[c]))):=by
 rw[qC,k8 (by simp;omega),kG]
def dA(l:List Nat):Str:=mkS (l.map cd)
def ax(p:BF.Row St):PV:=.tup [p.1.pv,.str (dA p.2)]
theorem Bs(r:List Nat)(i:Nat)(h:r.length<=100000):eX (.str (dA r)) (WO.sg (cd i))=some (.str (dA (r++[i]))):=by
 unfold dA;rw[Ld];exact xN (r.map cd) (cd i) (by simp;omega)
def kL(KU:List (BF.Row St)):List (List Key):=KU.map fun p=>p.1.key
def tL(KU:List (BF.Row St)):List PV:=KU.map fun _=>PV.bl true
theorem rh(KU:List (BF.Row St))(s:St):((kL KU).any fun j=>decide (j=s.key))=decide (s∈KU.map (·.1)):=by
 rw[ND];simp only[kL,NO,N6,NF,decide_eq_true_eq,LG];constructor
 ·rintro⟨p,hp,e⟩
  exact⟨p,hp,St.kinj e⟩
 ·rintro⟨p,hp,e⟩
  exact⟨p,hp,by rw[e]⟩
abbrev oC(S0 F1 F2:PV)(KU:List (BF.Row St))(d:Nat)(a b c:Sl):PSt:=[.val S0,.val F1,.val F2,.own (.dtt (kL KU) (tL KU)),.own (.lst (KU.map ax)),.val (.int d),a,b,c]
abbrev F1(h:House)(KY:Int)(D:PV):PV:=.fn bA [D,.int KY,h.pv]
abbrev F2:PV:=.fn bg []
section
variable{h : House}{KZ ord : List Str}(hg : HG h KZ ord)(KY : Int){D : PV}(hD : WD h KZ D)(S0 : PV)
include hg hD
theorem FB(KU:List (BF.Row St))(near:BF.Row St)(hn:Ok h KZ near.1)(i d:Nat)(c:Sl)(hl:KU.length<1000000)(hr:near.2.length<=100000) :
  bu (oC S0 (F1 h KY D) F2 KU d (.val (ax near)) (.val (WO.sg (cd i))) c)=.ok (.next (oC S0 (F1 h KY D) F2 (BF.inn (lead h KZ KY) near KU i) d (.val (ax near)) (.val (WO.sg (cd i))) (.val (lead h KZ KY near.1 i).pv))):=by
 obtain⟨X,e1,e2⟩:=Io hg KY hD near.1 hn i;have n1:br [near.1.pv,WO.sg (cd i)]=true:=by simp[br,St.nf,WO.sg,noFn]
 have n2:br [D,.int KY,h.pv]=true:=by simp[br,hD.nf,zd,noFn]
 have n3:br [(lead h KZ KY near.1 i).pv]=true:=by simp[br,St.nf]
 have B:=Il S0 (F1 h KY D) F2 (kL KU) (tL KU) (KU.map ax) d (ax near) (WO.sg (cd i)) (lead h KZ KY near.1 i).pv c (dA near.2) (dA (near.2++[i])) (lead h KZ KY near.1 i).key
  (qo (L:=bA) (cs:=[D,.int KY,h.pv]) (qs:=[near.1.pv,WO.sg (cd i)]) rfl rfl n1 n2 (Kw near.1.pv (WO.sg (cd i)) D _ X KY h.pv near.1.r rfl e1 e2))
  (fun KS PS FS=>qo (L:=bg) (cs:=[]) (qs:=[(lead h KZ KY near.1 i).pv]) rfl rfl n3 rfl (Jy _))
  (St.tk _) rfl (Bs near.2 i hr) (by simp[kL];omega) (by simp;omega)
 rw[rh] at B;unfold BF.inn
 by_cases hm:lead h KZ KY near.1 i∈KU.map (·.1)
 ·rw[if_pos hm]
  rw[if_pos (decide_eq_true hm)] at B;exact B
 ·rw[if_neg hm]
  rw[if_neg (by simpa using hm)] at B;rw[B];simp only[oC,kL,tL,Ld];rfl
theorem Ct(lead:St->Nat->St)(near:BF.Row St)(KU:List (BF.Row St))(i:Nat):(BF.inn lead near KU i).length<=KU.length+1:=by
 unfold BF.inn
 split
 ·omega
 ·simp
theorem sG(near:BF.Row St)(hn:Ok h KZ near.1)(d:Nat)(hr:near.2.length<=100000):∀(l:List Nat)(KU:List (BF.Row St))(b c:Sl),KU.length+l.length<1000000->∃b' c',
  gL (af 7) bu (l.map fun i=>WO.sg (cd i)) (oC S0 (F1 h KY D) F2 KU d (.val (ax near)) b c)=.ok (.next (oC S0 (F1 h KY D) F2 (l.foldl (BF.inn (lead h KZ KY) near) KU) d (.val (ax near)) b' c'))
 | [],KU,b,c,_=>⟨b,c,rfl⟩
 | i::l,KU,b,c,hl=>by
  rw[Lj] at hl;have e1:=FB hg KY hD S0 KU near hn i d c (by omega) hr;have il:=Ct hg hD (lead h KZ KY) near KU i;obtain⟨b',c',e2⟩:=sG near hn d hr l (BF.inn (lead h KZ KY) near KU i) (.val (WO.sg (cd i))) (.val (lead h KZ KY near.1 i).pv) (by omega);refine⟨b',c',?_⟩;have e0:af 7 (WO.sg (cd i)) (oC S0 (F1 h KY D) F2 KU d (.val (ax near)) b c)=some (oC S0 (F1 h KY D) F2 KU d (.val (ax near)) (.val (WO.sg (cd i))) c):=rfl;rw[L8,MM];unfold gL;rw[e0];simp only[R.ofO_some,R.ok_bind,e1];exact e2
theorem Ik(KU:List (BF.Row St))(near:BF.Row St)(d:Nat)(hd:KU[d]?=some near)(hn:Ok h KZ near.1)(hr:near.2.length<=100000)(a b c:Sl)(hl:KU.length<100000):∃b' c',
  cj (oC S0 (F1 h KY D) F2 KU d a b c)=.ok (.next (oC S0 (F1 h KY D) F2 (BF.sweep (lead h KZ KY) near KU) (d+1) (.val (ax near)) b' c')):=by
 obtain⟨b',c',e⟩:=sG hg KY hD S0 near hn (d+1) hr (L7 13) KU b c (by simp;omega);refine⟨b',c',?_⟩;have i0:atI (KU.map ax) (d:Int)=some (ax near):=aZ rfl (by rw[LC,hd];rfl);have es:c_SIGNS=.str "0123456789*#w":=rfl;have it:=Ag;have ag:∀(A1 A2 A3 A4 A5 A6 A7 A8:Sl),B0 5 (kI 1) [A1,A2,A3,A4,A5,.val (.int d),A6,A7,A8]=.ok (.next [A1,A2,A3,A4,A5,.val (.int ((d+1:Nat):Int)),A6,A7,A8]):=fun _ _ _ _ _ _ _ _=>rfl;have e:gL (af 7) bu ((L7 13).map fun i=>WO.sg (cd i)) [.val S0,.val (F1 h KY D),.val F2,.own (.dtt (kL KU) (tL KU)),.own (.lst (KU.map ax)),.val (.int ((d+1:Nat):Int)),.val (ax near),b,c]=_:=e;show _=R.ok (Fl.next (oC S0 (F1 h KY D) F2 ((L7 13).foldl (BF.inn (lead h KZ KY) near) KU) (d+1) (.val (ax near)) b' c'));rw[← e];simp only[oC];generalize F1 h KY D=G1 at *;generalize F2=G2 at *;generalize KU.map ax=FS at *;generalize PV.dtt (kL KU) (tL KU)=KD at *;generalize ax near=NP at *;generalize (L7 13).map (fun i=>WO.sg (cd i))=SS at *;simp[cj,i0,ag,es,it]
noncomputable def tst:PSt->R Bool:=(B4 (cH (ab (getV 5) (un1 (gS 4) l7) gLt)) (EF (cH (lD 2 (a6 (ab (ab (gS 4) (un1 (kI 1) y7) gIx) (kI 0) gIx) aH) appL))))
omit hg hD in
theorem Fz(G1:PV)(KU:List (BF.Row St))(hne:KU≠[])(d:Nat)(a b c:Sl):tst (oC S0 G1 F2 KU d a b c)=.ok (decide (d<KU.length)):=by
 by_cases hd:d<KU.length
 ·obtain⟨f',p,rfl⟩:∃f' p,KU=f'++[p]:=⟨KU.dropLast,KU.getLast hne,(List.dropLast_concat_getLast hne).symm⟩
  have l:gIx (.lst ((f'++[p]).map ax)) (.int (-1))=some (ax p):=by
   rw[Ld];exact rf (f'.map ax) (ax p)
  have ng:y7 (.int 1)=some (.int (-1)):=rfl;have g0:gIx (ax p) (.int 0)=some p.1.pv:=rfl
  have cv:lD 2 (a6 (ab (ab (gS 4) (un1 (kI 1) y7) gIx) (kI 0) gIx) aH) appL (oC S0 G1 F2 (f'++[p]) d a b c)=.ok (.bl false):=by
   refine qo (L:=bg) (cs:=[]) (qs:=[p.1.pv]) rfl ?_ (by simp[br,St.nf]) rfl (Jy _);simp only[oC];generalize (f'++[p]).map ax=FS at *;generalize ax p=NP at *;simp[ng,l,g0]
  have hd':(d:Int)<((f'++[p]).map ax).length:=by rw[LA];omega
  rw[decide_eq_true hd];simp only[oC] at cv ⊢;generalize (f'++[p]).map ax=FS at *;generalize PV.dtt (kL (f'++[p])) (tL (f'++[p]))=KD at *;simp[tst,hd',cv]
 ·rw[decide_eq_false hd]
  have hd':¬ (d:Int)<((KU.map ax).length:Nat):=by rw[LA];omega
  simp only[oC];generalize KU.map ax=FS at *;simp[tst,hd']
theorem sE(s0:St)(U:List St)(hUl:U.length<=19999)(hU:∀KU,BF.Inv (lead h KZ KY) s0 KU->∀p∈KU,p.1∈U)(hP:∀KU,BF.Inv (lead h KZ KY) s0 KU->∀p∈KU,Ok h KZ p.1):∀(n d:Nat)(KU:List (BF.Row St))(a b c:Sl),BF.Inv (lead h KZ KY) s0 KU->(∀near,KU[d]?=some near->∀p∈KU,BF.lt p.2 (near.2++[0]))->d<=KU.length->U.length<d+n->∃d' a' b' c',
  whF tst cj n (oC S0 (F1 h KY D) F2 KU d a b c)=.ok (.next (oC S0 (F1 h KY D) F2 (BF.bfs (lead h KZ KY) n d KU) d' a' b' c'))
 | 0,d,KU,a,b,c,I,top,hd,hn=>by
  have:=BF.inv_len (lead h KZ KY) s0 U hU I;omega
 | n+1,d,KU,a,b,c,I,top,hd,hn=>by
  have hl:=BF.inv_len (lead h KZ KY) s0 U hU I;have hne:KU≠[]:=by obtain⟨tl,e⟩:=I.h0;rw[e];simp
  have ht:=Fz S0 (F1 h KY D) KU hne d a b c;unfold whF BF.bfs;rw[ht];cases e:KU[d]? with
  | none=>
   have:¬ d<KU.length:=by have:=MK.mp e;omega
   rw[decide_eq_false this];exact⟨d,a,b,c,rfl⟩
  | some near=>
   have hdl:d<KU.length:=(L4.mp e).1;rw[decide_eq_true hdl];have nm:near∈KU:=LM e;obtain⟨b',c',eb⟩:=Ik hg KY hD S0 KU near d e (hP KU I near nm) (by have:=I.len d near e;omega) a b c (by omega);obtain⟨I2,⟨tl,e2⟩,t2⟩:=BF.sweep_keep (lead h KZ KY) s0 I e (top near e);obtain⟨d',a2,b2,c2,ew⟩:=sE s0 U hUl hU hP n (d+1) (BF.sweep (lead h KZ KY) near KU) (.val (ax near)) b' c' I2 t2 (by rw[e2,Lp];omega) (by omega);refine⟨d',a2,b2,c2,?_⟩;rw[R.ok_bind,if_pos rfl,eb,R.ok_bind];exact ew
end
structure Found(h:House)(KZ:List Str)(KY:Int)(s0:St)(KU:List (BF.Row St)):Prop where
 inv:BF.Inv (lead h KZ KY) s0 KU
 cl:∀p∈KU,∀i<13,BF.Cl (lead h KZ KY) KU p i
 ok:∀p∈KU,Ok h KZ p.1
 ln:KU.length<=19999
section
variable{h : House}{KZ ord : List Str}(hg : HG h KZ ord)(KY : Int)
include hg
theorem zM:∃s0:St,Ok h KZ s0/\dD [h.pv,.int KY]=some s0.pv:=by
 obtain⟨y,room,ok,e⟩:=zN hg KY;exact⟨⟨y,"",0,0,[]⟩,⟨room,ok⟩,e⟩
theorem E6(p:BF.Row St):noFn (ax p)=true:=by simp[ax,noFn,br,St.nf]
theorem vn(s0:St)(h0:Ok h KZ s0)(hb:dD [h.pv,.int KY]=some s0.pv):∃KU,Found h KZ KY s0 KU/\bV [h.pv,.int KY]=some (.lst (KU.map ax)):=by
 obtain⟨D,hD⟩:=Bd hg;have hP:∀KU,BF.Inv (lead h KZ KY) s0 KU->∀p∈KU,Ok h KZ p.1:=BF.inv_P _ s0 (Ok h KZ) h0 fun s hs i _=>(nQ hg KY s hs i).1;have hU:∀KU,BF.Inv (lead h KZ KY) s0 KU->∀p∈KU,p.1∈univ KZ:=fun KU I p hp=>yq hg p.1 (hP KU I p hp);have hUl:=yr KZ hg.nl;obtain⟨J1,J2⟩:=BF.bfs_all (lead h KZ KY) s0 (univ KZ) 20000 (by omega) hU;obtain⟨d',a',b',c',ew⟩:=sE hg KY hD s0.pv s0 (univ KZ) hUl hU hP 20000 0 [(s0,[])] .no .no .no (BF.inv_0 _ s0) (fun near e=>BF.top_0 s0 near e) (by simp) (by omega);have hl:=BF.inv_len (lead h KZ KY) s0 (univ KZ) hU J1;refine⟨BF.bfs (lead h KZ KY) 20000 0 [(s0,[])],⟨J1,J2,hP _ J1,by omega⟩,?_⟩
 have nfl:noFn (.lst ((BF.bfs (lead h KZ KY) 20000 0 [(s0,[])]).map ax))=true:=by
  have:=f7 ax (BF.bfs (lead h KZ KY) 20000 0 [(s0,[])]) fun p _=>E6 hg p;simpa [noFn] using this
 have r0:ax (s0,[])=.tup [s0.pv,.str ""]:=by
  unfold ax dA;rw[eM];rfl
 have tk:=s0.tk;have ew:whF tst cj 20000 [.val s0.pv,.val (F1 h KY D),.val F2,.own (.dtt [s0.key] [.bl true]),.own (.lst [ax (s0,[])]),.val (.int 0),.no,.no,.no]=.ok (.next [.val s0.pv,.val (F1 h KY D),.val F2,.own (.dtt (kL (BF.bfs (lead h KZ KY) 20000 0 [(s0,[])])) (tL (BF.bfs (lead h KZ KY) 20000 0 [(s0,[])]))),.own (.lst ((BF.bfs (lead h KZ KY) 20000 0 [(s0,[])]).map ax)),.val (.int d'),a',b',c']):=ew;rw[r0] at ew
 have dt:zE (getV 0) (kB true) [.val s0.pv,.val (F1 h KY D),.val F2,.no,.no,.no,.no,.no,.no]=.ok (.dtt [s0.key] [.bl true]):=by
  unfold zE;rw[show getV 0 [.val s0.pv,.val (F1 h KY D),.val F2,.no,.no,.no,.no,.no,.no]=.ok s0.pv from rfl];simp only[R.ok_bind,JD,tk,R.ofO_some]
 have snf:=s0.nf;have hW:=hD.eq;generalize (BF.bfs (lead h KZ KY) 20000 0 [(s0,[])]).map ax=FS at *;generalize PV.dtt (kL (BF.bfs (lead h KZ KY) 20000 0 [(s0,[])])) (tL (BF.bfs (lead h KZ KY) 20000 0 [(s0,[])]))=KD at *
 have fr:dq [s0.pv,F1 h KY D,F2]=some (.lst FS):=by
  refine rG rfl ?_;unfold tst at ew;generalize F1 h KY D=G1 at *;generalize F2=G2 at *;generalize PV.dtt [s0.key] [.bl true]=K0 at *;generalize s0.pv=S at *;simp[gv,PU.start,dt];rw[ew];simp
 have ca:xC [.val h.pv,.val (.int KY),.val D] [2,1,0]=.ok [D,.int KY,h.pv]:=rfl
 have fa:(Dw (aE (a6 (getV 0) (a6 (getV 1) aH)) dD) (AA bA [2,1,0] (AA bg [] aH))) [.val h.pv,.val (.int KY),.val D]=.ok [s0.pv,F1 h KY D,F2]:=by
  unfold Dw;rw[show aE (a6 (getV 0) (a6 (getV 1) aH)) dD [.val h.pv,.val (.int KY),.val D]=.ok s0.pv by simp[hb]];simp only[R.ok_bind,snf,if_true];rfl
 have cl:sZ (Dw (aE (a6 (getV 0) (a6 (getV 1) aH)) dD) (AA bA [2,1,0] (AA bg [] aH))) dq [.val h.pv,.val (.int KY),.val D]=.ok (.lst FS):=by
  unfold sZ;rw[fa];simp only[R.ok_bind,fr,R.ofO_some,nfl,if_true]
 refine aq rfl ?_;generalize h.pv=H at *;simp[o4,PU.start,hW,cl]
end
def c8:List (BF.Row St)->St->Nat
 | [],_=>0
 | p::f,s=>if p.1=s then 0 else c8 f s+1
theorem rQ:∀(f:List (BF.Row St))(s:St),s∈f.map (·.1)->∃p,f[c8 f s]?=some p/\p.1=s
 | [],_,h=>by simp at h
 | p::f,s,h=>by
  unfold c8
  by_cases e:p.1=s
  ·rw[if_pos e]
   exact⟨p,rfl,e⟩
  ·rw[if_neg e]
   rw[L8] at h;rcases LR.mp h with z | z
   ·exact absurd z.symm e
   ·exact rQ f s z
theorem vm:∀(f:List (BF.Row St))(j:Nat)(p:BF.Row St),(f.map (·.1)).Nodup->f[j]?=some p->c8 f p.1=j
 | [],_,_,_,e=>by simp at e
 | q::f,0,p,_,e=>by
  cases e;unfold c8;rw[if_pos rfl]
 | q::f,j+1,p,nd,e=>by
  rw[L8,Lq] at nd;have e:f[j]?=some p:=e;unfold c8;rw[if_neg,vm f j p nd.2 e];intro z;apply nd.1;rw[z];exact LG.mpr ⟨p,LM e,rfl⟩
theorem vk{f:List (BF.Row St)}{s:St}(h:s∈f.map (·.1)):c8 f s<f.length:=by
 obtain⟨p,e,_⟩:=rQ f s h;exact(L4.mp e).1
def nums:Nat->List (BF.Row St)->List PV
 | _,[]=>[]
 | o,_::f=>.int o::nums (o+1) f
theorem pC:∀(f:List (BF.Row St))(o:Nat)(p:BF.Row St),nums o (f++[p])=nums o f++[.int ((o+f.length:Nat):Int)]
 | [],o,p=>rfl
 | q::f,o,p=>by
  show PV.int o::nums (o+1) (f++[p])=_;rw[pC f (o+1) p,Lj,show o+1+f.length=o+(f.length+1) by omega];rfl
theorem pD:∀(f:List (BF.Row St))(o:Nat)(s:St),s∈f.map (·.1)->jK (kL f) (nums o f) s.key=some (.int ((o+c8 f s:Nat):Int))
 | [],_,_,h=>by simp at h
 | p::f,o,s,h=>by
  show (if p.1.key=s.key then some (PV.int (o:Int)) else jK (kL f) (nums (o+1) f) s.key)=_;unfold c8
  by_cases e:p.1=s
  ·rw[if_pos (by rw[e]),if_pos e]
   rfl
  ·rw[if_neg fun z=>e (St.kinj z),if_neg e]
   rw[L8] at h;rcases LR.mp h with z | z
   ·exact absurd z.symm e
   ·rw[pD f (o+1) s z,show o+1+c8 f s=o+(c8 f s+1) by omega]
def enI(x:Nat×BF.Row St):PV:=.tup [.int x.1,ax x.2]
theorem AO:∀(l:List Nat)(f:List (BF.Row St)),(l.zipWith (fun (i:Nat) p=>[PV.int (i:Int),p]) (f.map ax)).map PV.tup=(l.zip f).map enI
 | [],_=>by simp
 | _::_,[]=>by simp
 | i::l,p::f=>by
  rw[L8,MX,L8,AO l f,OS,L8];rfl
theorem Iu(f:List (BF.Row St)):oh (.lst (f.map ax))=some (((L7 f.length).zip f).map enI):=by
 have:=AO (L7 f.length) f;rw[← this];show some ((rV (f.map ax)).map PV.tup)=_;unfold rV;rw[LA]
theorem Dr{f:List (BF.Row St)}{pre post:List (Nat×BF.Row St)}{x:Nat×BF.Row St}(e:(L7 f.length).zip f=pre++x::post):x.1=pre.length/\f=pre.map (·.2)++x.2::post.map (·.2):=by
 have h1:((L7 f.length).zip f).map (·.1)=L7 f.length:=Qt (by simp);have h2:((L7 f.length).zip f).map (·.2)=f:=Qs (by simp);rw[e] at h1 h2;refine⟨?_,?_⟩
 ·rw[Ld,L8] at h1
  have:(L7 f.length)[pre.length]?=some x.1:=by
   rw[← h1,Lv (by simp)];simp
  obtain⟨q,q2⟩:=L4.mp this;rw[Sk] at q2;exact q2.symm
 ·rw[Ld,L8] at h2
  exact h2.symm
theorem yo{T:PV}{k:List Key}(KS:List (List Key))(PS:List PV)(hk:jN T=some k):u7 (.dtt KS PS) T=jK KS PS k:=by
 show (jN T).bind _=_;rw[hk];rfl
noncomputable def nxt(h:House)(KZ:List Str)(KY:Int)(KU:List (BF.Row St))(p:BF.Row St):List Int:=(L7 13).map fun i=>((c8 KU (lead h KZ KY p.1 i):Nat):Int)
section
variable{h : House}{KZ ord : List Str}(hg : HG h KZ ord)(KY : Int){s0 : St}{KU : List (BF.Row St)}(F : Found h KZ KY s0 KU)
include hg F
theorem xB(p:BF.Row St)(hp:p∈KU)(i:Nat)(hi:i<13):lead h KZ KY p.1 i∈KU.map (·.1):=by
 obtain⟨q,hq,e,_⟩:=F.cl p hp i hi;exact LG.mpr ⟨q,hq,e⟩
abbrev rW(h:House)(KY:Int)(KU:List (BF.Row St))(D:PV)(s4 a b s7 c d:Sl):PSt:=[.val h.pv,.val (.int KY),.val (.lst (KU.map ax)),.val D,s4,a,b,s7,c,d]
theorem np1(D:PV):∃a b,gL (fU 2 (aD (af 5) (aD (af 6) fV))) cX (((L7 KU.length).zip KU).map enI) (rW h KY KU D (.own (.dtt [] [])) .no .no .no .no .no)=.ok (.next (rW h KY KU D (.own (.dtt (kL KU) (nums 0 KU))) a b .no .no .no)):=by
 obtain⟨ρ',f1,a,b,rfl⟩:=forM (enc:=enI) (xs:=(L7 KU.length).zip KU) (h:=fU 2 (aD (af 5) (aD (af 6) fV))) (g:=cX) (ρ:=rW h KY KU D (.own (.dtt [] [])) .no .no .no .no .no)
  (I:=fun pre ρ=>∃a b,ρ=rW h KY KU D (.own (.dtt (kL (pre.map (·.2))) (nums 0 (pre.map (·.2))))) a b .no .no .no) ⟨_,_,rfl⟩ (by
   rintro pre x post ρ hx ⟨a,b,rfl⟩;obtain⟨hi,hf⟩:=Dr hx;obtain⟨i,p⟩:=x;have hi:i=pre.length:=hi;have hf:KU=pre.map (·.2)++p::post.map (·.2):=hf
   have fresh:p.1 ∉ (pre.map (·.2)).map (·.1):=fun z=>by
    have nd:=F.inv.nd;rw[hf,Ld,L8,MI] at nd;exact nd.2.2 p.1 z p.1 (by simp) rfl
   have hany:((kL (pre.map (·.2))).any fun j=>decide (j=p.1.key))=false:=by
    rw[rh];exact decide_eq_false fresh
   have hlen:=F.ln;have hpl:pre.length<KU.length:=by rw[hf];simp
   refine⟨rW h KY KU D (.own (.dtt (kL (pre.map (·.2))) (nums 0 (pre.map (·.2))))) (.val (.int i)) (.val (ax p)) .no .no .no,rW h KY KU D (.own (.dtt (kL ((pre++[(i,p)]).map (·.2))) (nums 0 ((pre++[(i,p)]).map (·.2))))) (.val (.int i)) (.val (ax p)) .no .no .no,rfl,.inl ?_,_,_,rfl⟩;unfold cX;rw[uL (ks:=kL (pre.map (·.2))) (ps:=nums 0 (pre.map (·.2))) (p:=.int i) (kp:=p.1.pv) (k:=p.1.key) rfl rfl rfl p.1.tk (by simp[kL];omega),rM hany]
   have:nums 0 ((pre++[(i,p)]).map (·.2))=nums 0 (pre.map (·.2))++[.int i]:=by
    rw[Ld];show nums 0 (pre.map (·.2)++[p])=_;rw[pC,LA,Pp,hi]
   rw[this];simp only[kL,Ld];rfl)
 have h2:((L7 KU.length).zip KU).map (·.2)=KU:=Qs (by simp);rw[h2] at f1;exact⟨a,b,f1⟩
theorem vH{D:PV}(hD:WD h KZ D)(p:BF.Row St)(hp:p∈KU):∀l:List Nat,(∀i∈l,i<13)->bL (af 0) jM cW [.no,.val (.dtt (kL KU) (nums 0 KU)),.val h.pv,.val (.int KY),.val p.1.pv,.val D] (l.map fun i=>WO.sg (cd i))=.ok (l.map fun i=>PV.int ((c8 KU (lead h KZ KY p.1 i):Nat):Int))
 | [],_=>rfl
 | i::l,hl=>by
  have ih:=vH hD p hp l fun j hj=>hl j (by simp[hj]);have hi:=hl i (by simp);obtain⟨X,e1,e2⟩:=Io hg KY hD p.1 (F.ok p hp) i
  have ix:u7 (.dtt (kL KU) (nums 0 KU)) (lead h KZ KY p.1 i).pv=some (.int ((c8 KU (lead h KZ KY p.1 i):Nat):Int)):=by
   rw[yo _ _ (St.tk _),pD KU 0 _ (xB hg KY F p hp i hi),Pp]
  have g0:gIx p.1.pv (.int 0)=some (.str p.1.r):=rfl
  have ee:cW [.val (WO.sg (cd i)),.val (.dtt (kL KU) (nums 0 KU)),.val h.pv,.val (.int KY),.val p.1.pv,.val D]=.ok (.int ((c8 KU (lead h KZ KY p.1 i):Nat):Int)):=by
   generalize (lead h KZ KY p.1 i).pv=S' at *;generalize c8 KU (lead h KZ KY p.1 i)=PO at *;generalize PV.dtt (kL KU) (nums 0 KU)=KD at *;generalize WO.sg (cd i)=G at *;generalize p.1.pv=S at *;generalize h.pv=H at *;simp[cW,g0,e1,e2,ix]
  rw[L8];unfold bL;rw[show af 0 (WO.sg (cd i)) [.no,.val (.dtt (kL KU) (nums 0 KU)),.val h.pv,.val (.int KY),.val p.1.pv,.val D]=some [.val (WO.sg (cd i)),.val (.dtt (kL KU) (nums 0 KU)),.val h.pv,.val (.int KY),.val p.1.pv,.val D] from rfl];simp only[R.ofO_some,R.ok_bind,uE,if_true,ee,ih];rfl
theorem np2{D:PV}(hD:WD h KZ D)(a b:Sl):∃s4 c d,gL (fU 2 (aD (af 8) (aD (af 9) fV))) bR (KU.map ax) (rW h KY KU D (.own (.dtt (kL KU) (nums 0 KU))) a b (.own (.lst [])) .no .no)=.ok (.next (rW h KY KU D s4 a b (.own (.lst (KU.map fun p=>jP (nxt h KZ KY KU p)))) c d)):=by
 obtain⟨ρ',f1,s4,c,d,rfl,_⟩:=forM (enc:=ax) (xs:=KU) (h:=fU 2 (aD (af 8) (aD (af 9) fV))) (g:=bR) (ρ:=rW h KY KU D (.own (.dtt (kL KU) (nums 0 KU))) a b (.own (.lst [])) .no .no)
  (I:=fun pre ρ=>∃s4 c d,ρ=rW h KY KU D s4 a b (.own (.lst (pre.map fun p=>jP (nxt h KZ KY KU p)))) c d/\(s4=.own (.dtt (kL KU) (nums 0 KU))\/s4=.val (.dtt (kL KU) (nums 0 KU)))) ⟨_,_,_,rfl,.inl rfl⟩ (by
   rintro pre p post ρ hx ⟨s4,c,d,rfl,hs4⟩;have pm:p∈KU:=by rw[hx];simp
   have hlen:=F.ln;have hpl:pre.length<KU.length:=by rw[hx];simp
   have ec:=vH hg KY F hD p pm (L7 13) fun i hi=>MF.mp hi;have es:c_SIGNS=.str "0123456789*#w":=rfl;have it:=Ag;have z:(pre.map fun p=>jP (nxt h KZ KY KU p)).length<16777216:=by simp;omega
   have z13:((L7 13).map fun i=>PV.int ((c8 KU (lead h KZ KY p.1 i):Nat):Int)).length<=16777216:=by simp
   have nx:PV.lst ((L7 13).map fun i=>PV.int ((c8 KU (lead h KZ KY p.1 i):Nat):Int))=jP (nxt h KZ KY KU p):=by
    unfold jP nxt;rw[LV];rfl
   refine⟨rW h KY KU D s4 a b (.own (.lst (pre.map fun p=>jP (nxt h KZ KY KU p)))) (.val p.1.pv) (.val (.str (dA p.2))),rW h KY KU D (.val (.dtt (kL KU) (nums 0 KU))) a b (.own (.lst ((pre++[p]).map fun p=>jP (nxt h KZ KY KU p)))) (.val p.1.pv) (.val (.str (dA p.2))),rfl,.inl ?_,_,_,_,rfl,.inr rfl⟩;rw[Ld,QN,← nx];generalize ((L7 13).map fun i=>PV.int ((c8 KU (lead h KZ KY p.1 i):Nat):Int))=R13 at *;simp only[rW];generalize (pre.map fun p=>jP (nxt h KZ KY KU p))=PN at *;generalize PV.dtt (kL KU) (nums 0 KU)=KD at *;generalize (L7 13).map (fun i=>WO.sg (cd i))=SS at *;generalize KU.map ax=FS at *;generalize p.1.pv=S at *;generalize h.pv=H at *;rcases hs4 with rfl | rfl
   ·simp[bR,es,it,ba,roS,ec,z13,z]
   ·simp[bR,es,it,ba,roS,ec,z13,z])
 exact⟨s4,c,d,f1⟩
theorem C3:dI [h.pv,.int KY,.lst (KU.map ax)]=some (.lst (KU.map fun p=>jP (nxt h KZ KY KU p))):=by
 obtain⟨D,hD⟩:=Bd hg;obtain⟨a,b,l1⟩:=np1 hg KY F D;obtain⟨s4,c,d,l2⟩:=np2 hg KY F hD a b;have en:=Iu KU;have it:eD (.lst (KU.map ax))=some (KU.map ax):=rfl;have hW:=hD.eq;refine aq rfl ?_;simp only[rW] at l1 l2;generalize (KU.map fun p=>jP (nxt h KZ KY KU p))=NX at *;generalize PV.dtt (kL KU) (nums 0 KU)=KD at *;generalize ((L7 KU.length).zip KU).map enI=EN at *;generalize hFS:KU.map ax=FS at *;generalize h.pv=H at *;simp[fI,PU.start,hW,HN,en];rw[l1];simp[it];rw[l2];simp
end
theorem Ah(k:Nat):∀(js:List Int)(M:Nat)(pss:List (List Int)),(∀j∈js,0<=j/\j<pss.length)->(∀l∈pss,l.length<=M)->M+js.length<16777216->∃q,va k js pss=some q/\q.length=pss.length/\(∀l∈q,l.length<=M+js.length)/\∀(m:Nat)(x:Int),x∈q.getD m [] ↔ x∈pss.getD m []\/(x=(k:Int)/\(m:Int)∈js/\m<pss.length)
 | [],M,pss,_,hl,_=>⟨pss,rfl,rfl,by simpa using hl,fun m x=>by simp⟩
 | j::r,M,pss,hj,hl,hM=>by
  obtain⟨h0,h1⟩:=hj j (by simp);have hlt:j.toNat<pss.length:=by omega
  obtain⟨l,el⟩:∃l,pss[j.toNat]?=some l:=⟨_,LU hlt⟩;have ll:=hl l (LM el);rw[Lj] at hM
  have ep:Di k pss j=some (pss.set j.toNat (l++[(k:Int)])):=by
   unfold Di;rw[if_pos h0,el];exact if_pos (by omega)
  obtain⟨q,e,q1,q2,q3⟩:=Ah k r (M+1) (pss.set j.toNat (l++[(k:Int)])) (fun i hi=>by rw[Ny];exact hj i (by simp[hi])) (fun m hm=>by
   rcases List.mem_or_eq_of_mem_set hm with h | h
   ·have:=hl m h;omega
   ·rw[h];simp;omega) (by omega)
  refine⟨q,by show (Di k pss j).bind (va k r)=_;rw[ep];exact e,by rw[q1,Ny],fun m hm=>by have:=q2 m hm;rw[Lj];omega,fun m x=>?_⟩;rw[q3,Ny]
  have g:(pss.set j.toNat (l++[(k:Int)])).getD m []=if m=j.toNat then l++[(k:Int)] else pss.getD m []:=by
   rw[Lk,Lk]
   by_cases h:m=j.toNat
   ·subst h
    rw[Lr hlt,if_pos rfl];rfl
   ·rw[Lx (MU h),if_neg h]
  rw[g]
  by_cases h:m=j.toNat
  ·rw[if_pos h]
   have gl:pss.getD m []=l:=by rw[Lk,h,el];rfl
   have mj:(m:Int)=j:=by omega
   rw[gl];simp only[Lh,LR,Mk,or_false];constructor
   ·rintro ((z | z) | ⟨z1,z2,z3⟩)
    ·exact .inl z
    ·exact .inr ⟨z,.inl mj,by omega⟩
    ·exact .inr ⟨z1,.inr z2,z3⟩
   ·rintro (z | ⟨z1,z2,z3⟩)
    ·exact .inl (.inl z)
    ·exact .inl (.inr z1)
  ·rw[if_neg h]
   have mj:(m:Int)≠j:=by omega
   simp only[LR,mj,false_or]
theorem B5:∀(jss:List (List Int))(k0 M:Nat)(pss:List (List Int)),(∀js∈jss,js.length=13/\∀j∈js,0<=j/\j<pss.length)->(∀l∈pss,l.length<=M)->M+13 * jss.length<16777216->
  ∃q,allB k0 jss pss=some q/\q.length=pss.length/\∀(m:Nat)(x:Int),x∈q.getD m [] ↔ x∈pss.getD m []\/∃(t:Nat)(js:List Int),jss[t]?=some js/\x=((k0+t:Nat):Int)/\(m:Int)∈js/\m<pss.length
 | [],k0,M,pss,_,_,_=>⟨pss,rfl,rfl,fun m x=>by simp⟩
 | js::r,k0,M,pss,hj,hl,hM=>by
  rw[Lj] at hM;obtain⟨h13,hjs⟩:=hj js (by simp);obtain⟨q,e,q1,q2,q3⟩:=Ah k0 js M pss hjs hl (by omega);obtain⟨q',e',q1',q3'⟩:=B5 r (k0+1) (M+13) q (fun i hi=>by rw[q1];exact hj i (by simp[hi])) (fun l h=>by have:=q2 l h;omega) (by omega);refine⟨q',by show (va k0 js pss).bind (allB (k0+1) r)=_;rw[e];exact e',by rw[q1',q1],fun m x=>?_⟩;rw[q3',q3,q1];constructor
  ·rintro ((z | ⟨z1,z2,z3⟩) | ⟨t,i,z1,z2,z3,z4⟩)
   ·exact .inl z
   ·exact .inr ⟨0,js,rfl,by simpa using z1,z2,z3⟩
   ·exact .inr ⟨t+1,i,z1,by rw[z2];congr 1;omega,z3,z4⟩
  ·rintro (z | ⟨t,i,z1,z2,z3,z4⟩)
   ·exact .inl (.inl z)
   ·cases t with
    | zero=>
     cases z1;exact .inl (.inr ⟨by simpa using z2,z3,z4⟩)
    | succ t=>exact .inr ⟨t,i,z1,by rw[z2];congr 1;omega,z3,z4⟩
theorem qO:∀js:List Int,jo (js.map PV.int)=some js
 | []=>rfl
 | j::js=>by
  show (jo (js.map PV.int)).map (j::·)=_;rw[qO js];rfl
theorem AG:∀jss:List (List Int),Ci (jss.map jP)=some jss
 | []=>rfl
 | js::jss=>by
  show (jo (js.map PV.int)).bind (fun js=>(Ci (jss.map jP)).map (js::·))=_;rw[qO js,AG jss];rfl
theorem xG(jss q:List (List Int))(hl:jss.length<=16777216)(e:allB 0 jss (M3 jss.length [])=some q):bO [.lst (jss.map jP)]=some (.lst (q.map jP)):=by
 refine aq rfl ?_;show pbF [.val (.lst (jss.map jP)),.no,.no,.no,.no]=_;unfold pbF
 show (match Ci (jss.map jP) with
  | some jss'=>if (jss.map jP).length<=16777216/\5=5 then (match allB 0 jss' (M3 (jss.map jP).length []) with
   | some pss=>R.ok (Fl.ret (.lst (pss.map fun l:List Int=>PV.lst (l.map PV.int))))
   | none=>.no) else .no
  | none=>.no)=_
 rw[AG]
 show (if (jss.map jP).length<=16777216/\5=5 then (match allB 0 jss (M3 (jss.map jP).length []) with
   | some pss=>R.ok (Fl.ret (.lst (pss.map fun l:List Int=>PV.lst (l.map PV.int))))
   | none=>.no) else .no)=_
 rw[LA,if_pos ⟨hl,rfl⟩,e]
def kindOf:Room->Str
 | .hand _=>"hand"
 | .fin _=>"end"
 | _=>"asked"
def oK:Room->Str
 | .menu t ..=>t
 | .names t ..=>t
 | .hand t=>t
 | .fin t=>t
 | .hours ..=>""
section
variable{h : House}{KZ ord : List Str}(hg : HG h KZ ord)
include hg
theorem heard(r b:Str)(w v:Int)(room:Room)(tt:W)(ok:OK h KZ r b room w v tt):gx [h.pv,sT r b w v tt]=some (.tup [.str (kindOf room),.str (oK room)]):=by
 refine aq rfl ?_;have n2:=FA.ix_rooms h.rooms r;rw[ok.lk] at n2;have n2:gIx (aw h.rooms) (.str r)=some room.pv:=n2;have hR:=hRo hg;have g0:gIx (sT r b w v tt) (.int 0)=some (.str r):=rfl;have c:c_HEARD=.dct [.inr "menu",.inr "names",.inr "hand",.inr "end"] [.str "asked",.str "asked",.str "hand",.str "end"]:=rfl;have nh:=ok.nh;generalize sT r b w v tt=S at *;generalize aw h.rooms=RM at *;generalize h.pv=H at *;cases room with
 | hours sp l=>exact absurd rfl (nh sp l)
 | menu t ks wr wa=>
  have n2:gIx RM (.str r)=some (.tup [.str "menu",.str t,.tup (ks.map pv2),.tup [.int wr.1,.str wr.2],.tup [.int wa.1,.str wa.2]]):=n2;simp[jq,PU.start,hR,g0,n2,c,kindOf,oK]
 | names t ks wr wa=>
  have n2:gIx RM (.str r)=some (.tup [.str "names",.str t,.tup (ks.map pv2),.tup [.int wr.1,.str wr.2],.tup [.int wa.1,.str wa.2]]):=n2;simp[jq,PU.start,hR,g0,n2,c,kindOf,oK]
 | hand t=>
  have n2:gIx RM (.str r)=some (.tup [.str "hand",.str t]):=n2;simp[jq,PU.start,hR,g0,n2,c,kindOf,oK]
 | fin t=>
  have n2:gIx RM (.str r)=some (.tup [.str "end",.str t]):=n2;simp[jq,PU.start,hR,g0,n2,c,kindOf,oK]
def nJ(h:House)(s:St):Bool:=match FA.lookR h.rooms s.r with
 | some (.hand _)=>true
 | some (.fin _)=>true
 | _=>false
theorem As (s:St) (hs:Ok h KZ s):∃k t:Str,gx [h.pv,s.pv]=some (.tup [.str k,.str t])/\decide (k=LI "asked")=!nJ h s:=by
 obtain⟨room,ok⟩:=hs;refine⟨_,_,heard hg s.r s.b s.w s.v room s.t ok,?_⟩;unfold nJ;rw[ok.lk];cases room with
 | hours sp l=>exact absurd rfl (ok.nh sp l)
 | menu t ks wr wa=>simp[kindOf]
 | names t ks wr wa=>simp[kindOf]
 | hand t=>simp[kindOf];kernel_rfl
 | fin t=>simp[kindOf];kernel_rfl
theorem is_out(s:St)(hs:Ok h KZ s):gG [h.pv,s.pv]=some (.bl (nJ h s)):=by
 obtain⟨k,t,e,d⟩:=As hg s hs;refine aq rfl ?_;generalize s.pv=S at *;generalize h.pv=H at *;simp[o5,PU.start,e,d]
end
def oP:Option Nat->PV
 | some x=>.int x
 | none=>.non
def nP(k:Nat):PV:=.int k
def rd(q:List (List Int))(m:Nat):List Nat:=(q.getD m []).map Int.toNat
theorem gn1(y:Int):qS (.int y) .non=some (.bl false):=rfl
theorem gn2:qS .non .non=some (.bl true):=rfl
theorem DG{i:Nat}{fk fv:PSt->R PV}{ρ:PSt}{ps:List PV}{p:PV}{j:Nat}(h:ρ[i]?=some (.own (.lst ps)))(hv:fv ρ=.ok p)(hk:fk ρ=.ok (.int j))(hj:j<ps.length):qF i fk fv ρ=.ok (.next (ρ.set i (.own (.lst (ps.set j p))))):=by
 unfold qF;rw[h];show (fv ρ >>= _)=_;rw[hv,R.ok_bind,hk,R.ok_bind];show (if 0<=(j:Int)/\(j:Int)<ps.length then _ else _)=_;rw[if_pos ⟨by omega,by omega⟩];rfl
abbrev ost(HV HO FS:PV)(q:List (List Int))(s:BO.S)(d:Nat)(a b:Sl):PSt:=[.val HV,.val HO,.val FS,.own (.lst (s.1.map oP)),.val (.lst (q.map jP)),.own (.lst (s.2.map nP)),.val (.int d),a,b]
section
variable(HV HO FS : PV)(q : List (List Int))
theorem EC(s:BO.S)(d m k x:Nat)(o:Option Nat)(hk:s.1[k]?=some o)(hm:s.1[m]?=some (some x))(hl:s.2.length<16777216):e9 (ost HV HO FS q s d (.val (.int m)) (.val (.int k)))=.ok (.next (ost HV HO FS q (BO.stepB m s k) d (.val (.int m)) (.val (.int k)))):=by
 obtain⟨c,r⟩:=s;have hk:c[k]?=some o:=hk;have hm:c[m]?=some (some x):=hm;have hl:r.length<16777216:=hl;have ik:atI (c.map oP) (k:Int)=some (oP o):=aZ rfl (by rw[LC,hk];rfl);have im:atI (c.map oP) (m:Int)=some (.int x):=aZ rfl (by rw[LC,hm];rfl);have kl:k<c.length:=(L4.mp hk).1;unfold BO.stepB;cases o with
 | some y=>
  rw[if_neg (by show ¬ c[k]?=some none;rw[hk];simp)];simp only[ost];generalize c.map oP=C at *;generalize q.map jP=Q at *;generalize r.map nP=RR at *;simp[e9,ik,oP,gn1]
 | none=>
  rw[if_pos hk,BO.val_of hm];have st:(c.set k (some (x+1))).map oP=(c.map oP).set k (.int ((x+1:Nat):Int)):=List.map_set
  have e1:qF 3 (getV 8) (ab (ab (gS 3) (getV 7) gIx) (kI 1) eX) (ost HV HO FS q (c,r) d (.val (.int m)) (.val (.int k)))=.ok (.next (ost HV HO FS q (c.set k (some (x+1)),r) d (.val (.int m)) (.val (.int k)))):=by
   rw[DG (ps:=c.map oP) (p:=.int ((x+1:Nat):Int)) (j:=k) rfl ?_ rfl (by simpa using kl),← st]
   ·rfl
   ·simp only[ost]
    generalize c.map oP=C at *;generalize q.map jP=Q at *;generalize r.map nP=RR at *;simp[im]
  have t1:cH (ab (ab (gS 3) (getV 8) gIx) kN qS) (ost HV HO FS q (c,r) d (.val (.int m)) (.val (.int k)))=.ok true:=by
   simp only[ost];generalize c.map oP=C at *;generalize q.map jP=Q at *;generalize r.map nP=RR at *;simp[ik,oP,gn2]
  have a1:qh 5 (getV 8) (ost HV HO FS q (c.set k (some (x+1)),r) d (.val (.int m)) (.val (.int k)))=.ok (.next (ost HV HO FS q (c.set k (some (x+1)),r++[k]) d (.val (.int m)) (.val (.int k)))):=by
   have z:(r.map nP).length<16777216:=by simpa using hl
   simp only[ost,Ld,QN];generalize (c.set k (some (x+1))).map oP=C at *;generalize q.map jP=Q at *;generalize r.map nP=RR at *;simp[z,nP]
  show (cH (ab (ab (gS 3) (getV 8) gIx) kN qS) _ >>= fun b=>if b=true then (qF 3 (getV 8) (ab (ab (gS 3) (getV 7) gIx) (kI 1) eX) _ >>= fun fl=>_) else _)=_;rw[t1,R.ok_bind,if_pos rfl,e1,R.ok_bind];exact a1
theorem jn0{n:Nat}{out:Nat->Bool}{E:Nat->Nat->Prop}{s:BO.S}{d m:Nat}(j:BO.J n out E s d)(hm:s.2[d]?=some m):BO.Jn n out E s d m []:=⟨j.b,hm,j.le1 m hm,fun k x e hx=>by
  obtain⟨m',h1,h2⟩:=j.frm k x e hx;exact⟨m',by rw[O4];exact MJ _ h1,h2⟩,j.dn,by simp⟩
variable{n : Nat}{out : Nat → Bool}{E : Nat → Nat → Prop}(hb : ∀m, m<n → ∀k, k ∈ rd q m ↔ (k<n ∧ E k m))(hn : n ≤ 19999)
include hb hn
theorem HJ(s:BO.S)(d m:Nat)(j:BO.J n out E s d)(hm:s.2[d]?=some m)(d1:Nat)(b:Sl):∃b',gL (af 8) e9 ((rd q m).map nP) (ost HV HO FS q s d1 (.val (.int m)) b)=.ok (.next (ost HV HO FS q ((rd q m).foldl (BO.stepB m) s) d1 (.val (.int m)) b')):=by
 obtain⟨ρ',f1,b',rfl⟩:=forM (enc:=nP) (xs:=rd q m) (h:=af 8) (g:=e9) (ρ:=ost HV HO FS q s d1 (.val (.int m)) b)
  (I:=fun pre ρ=>∃b,ρ=ost HV HO FS q (pre.foldl (BO.stepB m) s) d1 (.val (.int m)) b) ⟨_,rfl⟩ (by
   rintro pre k post ρ hx ⟨b,rfl⟩;have mn:m<n:=j.b.lt (LM hm);have kn:=((hb m mn k).mp (by rw[hx];simp)).1;have j1:=BO.Jn.all pre [] s (jn0 j hm) fun i hi=>(hb m mn i).mp (by rw[hx];simp[hi]);rw[N9];show ∃ρ1 ρ2,_/\_/\∃b,ρ2=ost HV HO FS q (BO.stepB m (pre.foldl (BO.stepB m) s) k) d1 (.val (.int m)) b;generalize pre.foldl (BO.stepB m) s=s' at *;obtain⟨x,ex⟩:=(j1.b.mem m).mp (LM j1.hm);have kl:k<s'.1.length:=by rw[j1.b.len];exact kn
   have:=j1.b.rl;exact⟨_,_,rfl,.inl (EC HV HO FS q s' d1 m k x _ (LU kl) ex (by omega)),_,rfl⟩)
 exact⟨b',f1⟩
variable(ql : q.length = n)(qn : ∀m, ∀x ∈ q.getD m [], 0 ≤ x)
include ql qn
theorem K8(s:BO.S)(d m:Nat)(j:BO.J n out E s d)(hm:s.2[d]?=some m)(a b:Sl):∃a' b',e8 (ost HV HO FS q s d a b)=.ok (.next (ost HV HO FS q ((rd q m).foldl (BO.stepB m) s) (d+1) a' b')):=by
 obtain⟨b',f1⟩:=HJ HV HO FS q hb hn s d m j hm (d+1) b;have mn:m<n:=j.b.lt (LM hm);have i5:atI (s.2.map nP) (d:Int)=some (.int m):=aZ rfl (by rw[LC,hm];rfl)
 have hq:q[m]?=some (q.getD m []):=by
  rw[Lk,LU (by omega)];rfl
 have i4:atI (q.map jP) (m:Int)=some (jP (q.getD m [])):=aZ rfl (by rw[LC,hq];rfl)
 have it:eD (jP (q.getD m []))=some ((rd q m).map nP):=by
  show some ((q.getD m []).map PV.int)=some (((q.getD m []).map Int.toNat).map nP);rw[LV]
  congr 1
  refine NH fun x hx=>?_;have:=qn m x hx;show PV.int x=PV.int ((x.toNat:Nat):Int)
  congr 1
  omega
 have ag:∀(A1 A2 A3 A4 A5 A6 A7 A8:Sl),B0 6 (kI 1) [A1,A2,A3,A4,A5,A6,.val (.int d),A7,A8]=.ok (.next [A1,A2,A3,A4,A5,A6,.val (.int ((d+1:Nat):Int)),A7,A8]):=fun _ _ _ _ _ _ _ _=>rfl;refine⟨.val (.int m),b',?_⟩;rw[← f1];simp only[ost];generalize (rd q m).map nP=BQ at *;generalize jP (q.getD m [])=JJ at *;generalize s.1.map oP=C at *;generalize q.map jP=Q at *;generalize s.2.map nP=RR at *;simp[e8,i5,ag,i4,it]
noncomputable def otst:PSt->R Bool:=(cH (ab (getV 6) (un1 (gS 5) l7) gLt))
omit hb hn ql qn in
theorem HI(s:BO.S)(d:Nat)(a b:Sl):otst (ost HV HO FS q s d a b)=.ok (decide (d<s.2.length)):=by
 have z:decide (d<s.2.length)=decide ((d:Int)<(s.2.map nP).length):=by
  rw[LA]
  by_cases h:d<s.2.length
  ·rw[decide_eq_true h,decide_eq_true (by omega)]
  ·rw[decide_eq_false h,decide_eq_false (by omega)]
 rw[z];simp only[ost];generalize s.1.map oP=C at *;generalize q.map jP=Q at *;generalize s.2.map nP=RR at *;simp[otst]
theorem vG:∀(f d:Nat)(s:BO.S)(a b:Sl),BO.J n out E s d->d<=s.2.length->n<d+f->∃d' a' b',whF otst e8 f (ost HV HO FS q s d a b)=.ok (.next (ost HV HO FS q (BO.loopB (rd q) f d s) d' a' b'))
 | 0,d,s,a,b,j,hd,hf=>by have:=j.b.rl;omega
 | f+1,d,s,a,b,j,hd,hf=>by
  have ht:=HI HV HO FS q s d a b;unfold whF BO.loopB;rw[ht];cases e:s.2[d]? with
  | none=>
   have:¬ d<s.2.length:=by have:=MK.mp e;omega
   rw[decide_eq_false this];exact⟨d,a,b,rfl⟩
  | some m=>
   have hdl:d<s.2.length:=(L4.mp e).1;rw[decide_eq_true hdl];have mn:m<n:=j.b.lt (LM e);obtain⟨a1,b1,e5⟩:=K8 HV HO FS q hb hn ql qn s d m j e a b;have jn:=BO.Jn.all (rd q m) [] s (jn0 j e) fun i hi=>(hb m mn i).mp hi;have dl:=(L4.mp jn.hm).1;obtain⟨d',a',b',ew⟩:=vG f (d+1) ((rd q m).foldl (BO.stepB m) s) a1 b1 (j.next (rd q) hb e) (by omega) (by omega);refine⟨d',a',b',?_⟩;rw[R.ok_bind,if_pos rfl,e5,R.ok_bind];exact ew
end
def rS(h:House)(KU:List (BF.Row St))(k:Nat):Bool:=match KU[k]? with
 | some p=>nJ h p.1
 | none=>false
def EN(h:House)(KZ:List Str)(KY:Int)(KU:List (BF.Row St))(k m:Nat):Prop:=∃p,KU[k]?=some p/\∃i,i<13/\c8 KU (lead h KZ KY p.1 i)=m
section
variable{h : House}{KZ ord : List Str}(hg : HG h KZ ord)(KY : Int){s0 : St}{KU : List (BF.Row St)}(F : Found h KZ KY s0 KU)
include hg F
theorem xE:∃q:List (List Int),bO [.lst (KU.map fun p=>jP (nxt h KZ KY KU p))]=some (.lst (q.map jP))/\q.length=KU.length/\(∀m,∀x∈q.getD m [],0<=x)/\∀m,m<KU.length->∀k,k∈rd q m ↔ (k<KU.length/\EN h KZ KY KU k m):=by
 have hln:=F.ln
 obtain⟨q,e,l,hq⟩:=B5 (KU.map (nxt h KZ KY KU)) 0 0 (M3 KU.length []) (by
  intro js hjs;obtain⟨p,hp,rfl⟩:=LG.mp hjs;refine⟨by simp[nxt],fun j hj=>?_⟩;unfold nxt at hj;obtain⟨i,hi,rfl⟩:=LG.mp hj;have:=vk (xB hg KY F p hp i (MF.mp hi));rw[My];omega) (by
  intro l hl;rw[List.eq_of_mem_replicate hl];exact LX _) (by rw[LA];omega)
 have hq':∀(m:Nat)(x:Int),x∈q.getD m [] ↔ ∃t:Nat,x=(t:Int)/\m<KU.length/\EN h KZ KY KU t m:=by
  intro m x;rw[hq,My];constructor
  ·rintro (z | ⟨t,js,z1,z2,z3,z4⟩)
   ·rw[Lk,M7] at z
    split at z <;> simp at z
   ·rw[LC] at z1
    cases ep:KU[t]? with
    | none=>rw[ep] at z1;cases z1
    | some p=>
     rw[ep] at z1;cases z1;unfold nxt at z3;obtain⟨i,hi,e3⟩:=LG.mp z3;exact⟨t,by rw[z2,Pp],z4,p,ep,i,MF.mp hi,by omega⟩
  ·rintro⟨t,rfl,hm,p,ep,i,hi,e3⟩
   refine .inr ⟨t,nxt h KZ KY KU p,by rw[LC,ep];rfl,by rw[Pp],?_,hm⟩;unfold nxt;exact LG.mpr ⟨i,MF.mpr hi,by rw[e3]⟩
 refine⟨q,?_,by rw[l,My],fun m x hx=>?_,fun m hm k=>?_⟩
 ·have:=xG (KU.map (nxt h KZ KY KU)) q (by rw[LA];omega) (by rw[LA];exact e)
  rw[LV] at this;exact this
 ·obtain⟨t,rfl,_⟩:=(hq' m x).mp hx
  omega
 ·unfold rd
  rw[LG];constructor
  ·rintro⟨x,hx,rfl⟩
   obtain⟨t,rfl,h1,h2⟩:=(hq' m x).mp hx;have h3:=h2;obtain⟨p,ep,_⟩:=h3;have:=(L4.mp ep).1;rw[O7];exact⟨this,h2⟩
  ·rintro⟨h1,h2⟩
   exact⟨(k:Int),(hq' m k).mpr ⟨k,rfl,hm,h2⟩,O7 k⟩
theorem Kq(a b:Sl):bL (fU 2 (aD (af 0) (aD (af 1) fV))) jM fO [.no,.no,.val h.pv] (KU.map ax)=.ok (((L7 KU.length).map fun k=>if rS h KU k=true then some 0 else none).map oP):=by
 rw[WO.in_list_comp (fun p=>oP (if nJ h p.1=true then some 0 else none)) KU fun p hp=>?_]
 ·congr 1
  refine O5 fun k=>?_;rw[LC,LV,LC];cases ep:KU[k]? with
  | none=>
   rw[MP (by have:=MK.mp ep;simpa using this)];rfl
  | some p=>
   rw[Ms (L4.mp ep).1];show some _=some (oP (if rS h KU k=true then some 0 else none));unfold rS;rw[ep]
 ·refine⟨[.val p.1.pv,.val (.str (dA p.2)),.val h.pv],rfl,?_⟩
  have e:=is_out hg p.1 (F.ok p hp);cases o:nJ h p.1 with
  | true=>
   rw[o] at e;generalize p.1.pv=S at *;generalize h.pv=H at *;simp[fO,e,oP]
  | false=>
   rw[o] at e;generalize p.1.pv=S at *;generalize h.pv=H at *;simp[fO,e,oP]
omit hg F in
theorem K2(n:Nat)(out:Nat->Bool):∃EI,zy (.lst (((L7 n).map fun k=>if out k=true then some 0 else none).map oP))=some EI/\bL (fU 2 (aD (af 0) (aD (af 1) fV))) fu lq [.no,.no] EI=.ok (((L7 n).filter out).map nP):=by
 have e:zy (.lst (((L7 n).map fun k=>if out k=true then some 0 else none).map oP))=some ((L7 n).map fun k:Nat=>PV.tup [.int (k:Int),oP (if out k=true then some 0 else none)]):=by
  show some ((rV _).map PV.tup)=_
  congr 1
  unfold rV;refine O5 fun k=>?_;simp only[LA,Mq,LC,Mz]
  by_cases hk:k<n
  ·rw[Ms hk]
   rfl
  ·rw[MP (l:=L7 n) (by simpa using hk)]
   rfl
 refine⟨_,e,?_⟩;refine eN (enc:=fun k:Nat=>PV.tup [.int (k:Int),oP (if out k=true then some 0 else none)]) out nP (L7 n) fun k _=>⟨[.val (.int k),.val (oP (if out k=true then some 0 else none))],rfl,?_,fun _=>rfl⟩;cases out k with
 | true=>simp[fu,oP]
 | false=>simp[fu,oP,show gEq .non (.int 0)=some (.bl false) by kernel_rfl]
theorem tR:∃c:List (Option Nat),dY [h.pv,.int KY,.lst (KU.map ax)]=some (.lst (c.map oP))/\BO.Fin_ KU.length (rS h KU) (EN h KZ KY KU) c:=by
 obtain⟨q,e2,ql,qn,hb⟩:=xE hg KY F;have e1:=C3 hg KY F;have hln:=F.ln;obtain⟨EI,e3,e4⟩:=K2 KU.length (rS h KU);have e5:=Kq hg KY F .no .no;have J0:=BO.J.start KU.length (rS h KU) (EN h KZ KY KU);obtain⟨d',a',b',ew⟩:=vG h.pv (.int KY) (.lst (KU.map ax)) q hb hln ql qn 20000 0 _ .no .no J0 (M0 _) (by omega);obtain⟨d2,J1,J2⟩:=BO.loopB_ok (beh:=rd q) hb 20000 0 _ J0 (by omega);refine⟨_,aq rfl ?_,J1.fin J2⟩;generalize BO.loopB (rd q) 20000 0 _=sF at *;have it:eD (.lst (KU.map ax))=some (KU.map ax):=rfl;have z0:((RT (fun k=>if rS h KU k=true then some 0 else none) (L7 KU.length)).map oP).length<=16777216:=by simp;omega
 have z1:(((L7 KU.length).filter (rS h KU)).map nP).length<=16777216:=by
  have:=Py (rS h KU) (L7 KU.length);rw[Mq] at this;rw[LA];omega
 simp only[ost] at ew;generalize (RT (fun k=>if rS h KU k=true then some 0 else none) (L7 KU.length)).map oP=C0 at *;generalize ((L7 KU.length).filter (rS h KU)).map nP=R0 at *;generalize (KU.map fun p=>jP (nxt h KZ KY KU p))=NX at *;generalize q.map jP=Q at *;generalize KU.map ax=FS at *;generalize sF.1.map oP=CF at *;generalize sF.2.map nP=RF at *;generalize h.pv=H at *;have ew:whF (cH (ab (getV 6) (un1 (gS 5) l7) gLt)) e8 20000 [.val H,.val (.int KY),.val (.lst FS),.own (.lst C0),.val (.lst Q),.own (.lst R0),.val (.int 0),.no,.no]=_:=ew;simp[kX,PU.start,it,ba,roS,e5,z0,e1,e2,CI,e3,e4,z1,whS];rw[ew];simp
end
theorem sq{f g:PSt->R Fl}{ρ ρ1:PSt}(h:f ρ=.ok (.next ρ1)):aF f g ρ=g ρ1:=by
 unfold aF;rw[h];rfl
theorem Jv{t:PSt->R Bool}{f g:PSt->R Fl}{ρ:PSt}(h:t ρ=.ok true):ifF t f g ρ=f ρ:=by
 unfold ifF;rw[h];rfl
theorem Cu{t:PSt->R Bool}{f g:PSt->R Fl}{ρ:PSt}(h:t ρ=.ok false):ifF t f g ρ=g ρ:=by
 unfold ifF;rw[h];rfl
theorem gm1(y:Int):u3 (.int y) .non=some (.bl true):=rfl
theorem gm2:u3 .non .non=some (.bl false):=rfl
def cK(c:List (Option Nat))(k:Nat):Option Nat:=c.getD k none
def bI(c:List (Option Nat))(x:Nat×BF.Row St):PV:=.tup [ax x.2,oP (cK c x.1)]
def stk(c:List (Option Nat))(L:List (Nat×BF.Row St)):List PV:=(L.filter fun x=>(cK c x.1).isNone).map fun x=>ax x.2
theorem k7(f:List (BF.Row St))(k:Nat):((L7 f.length).zip f)[k]?=f[k]?.map fun p=>(k,p):=by
 unfold List.zip;rw[Mz];cases ep:f[k]? with
 | none=>cases (L7 f.length)[k]? <;> rfl
 | some p=>
  rw[Ms (L4.mp ep).1];rfl
theorem Aa(c:List (Option Nat))(f:List (BF.Row St))(hl:c.length=f.length):(uD (f.map ax) (c.map oP)).map PV.tup=((L7 f.length).zip f).map (bI c):=by
 refine O5 fun k=>?_;unfold uD;rw[LC,Mz,LC,LC,LC,k7];cases ep:f[k]? with
 | none=>rfl
 | some p=>
  have hk:=(L4.mp ep).1
  have ec:c[k]?=some (cK c k):=by
   unfold cK;rw[Lk,LU (by omega)];rfl
  rw[ec];rfl
section
variable{h : House}{KY : Int}{KU : List (BF.Row St)}{c : List (Option Nat)}
theorem yv(ep:bV [h.pv,.int KY]=some (.lst (KU.map ax)))(eo:dY [h.pv,.int KY,.lst (KU.map ax)]=some (.lst (c.map oP)))(hl:c.length=KU.length)(hn:KU.length<=19999):o7 [h.pv,.int KY]=some (.lst (stk c ((L7 KU.length).zip KU))):=by
 refine aq rfl ?_
 have hz:Ds (.lst (KU.map ax)) (.lst (c.map oP))=.ok (((L7 KU.length).zip KU).map (bI c)):=by
  rw[wd _ _ (by
   rw[P0];refine .inr (Nh.mpr fun p hp=>?_);obtain⟨o,_,rfl⟩:=LG.mp hp;cases o <;> rfl),Aa c KU hl]
 have ec:bL (fU 2 (aD (af 0) (aD (af 1) fV))) iw pZ [.no,.no] (((L7 KU.length).zip KU).map (bI c))=.ok (stk c ((L7 KU.length).zip KU)):=by
  refine eN (enc:=bI c) (fun x=>(cK c x.1).isNone) (fun x=>ax x.2) _ fun x _=>⟨[.val (ax x.2),.val (oP (cK c x.1))],rfl,?_,fun _=>rfl⟩;generalize ax x.2=RP;cases cK c x.1 with
  | none=>simp[iw,oP,gn2]
  | some y=>simp[iw,oP,gn1]
 have z:(stk c ((L7 KU.length).zip KU)).length<=16777216:=by
  unfold stk;rw[LA];have:=Py (fun x:Nat×BF.Row St=>(cK c x.1).isNone) ((L7 KU.length).zip KU);rw[Nw,Mq] at this;omega
 generalize stk c ((L7 KU.length).zip KU)=SK at *;generalize ((L7 KU.length).zip KU).map (bI c)=ZZ at *;generalize KU.map ax=FS at *;generalize c.map oP=CO at *;generalize h.pv=H at *;simp[qP,PU.start,ep,eo,hz,ba,ec,z]
def gq(h:House)(L:List (Str×Str))(p:BF.Row St):List (Str×Str):=if nJ h p.1=true then (if (L.any fun x=>decide (x.1=p.1.r))=true then L else L++[(p.1.r,dA p.2)]) else L
def cG(h:House)(f:List (BF.Row St)):List (Str×Str):=f.foldl (gq h) []
def dP(L:List (Str×Str)):PV:=.dct (L.map fun x=>.inr x.1) (L.map fun x=>.str x.2)
def p2(x:Str×Str):PV:=.tup [.str x.1,.str x.2]
theorem tX(f:List (BF.Row St))(p:BF.Row St):cG h (f++[p])=gq h (cG h f) p:=by
 unfold cG;rw[N9];rfl
theorem vW(L:List (Str×Str))(p:BF.Row St):(gq h L p).length<=L.length+1:=by
 unfold gq
 split
 ·split <;> simp
 ·omega
theorem nR(f:List (BF.Row St)):∀L,(f.foldl (gq h) L).length<=L.length+f.length:=by
 induction f with
 | nil=>intro L;simp
 | cons p f ih=>
  intro L;rw[MM];have:=ih (gq h L p);have:=vW (h:=h) L p;rw[Lj];omega
theorem vV(f:List (BF.Row St)):∀L:List (Str×Str),(L.map (·.1)).Nodup->((f.foldl (gq h) L).map (·.1)).Nodup:=by
 induction f with
 | nil=>intro L n;exact n
 | cons p f ih=>
  intro L n;rw[MM];refine ih _ ?_;unfold gq
  split
  ·split
   ·exact n
   ·rename_i z
    rw[Ld,MI];refine⟨n,by simp,fun a ha b hb e=>z ?_⟩;obtain⟨x,hx,rfl⟩:=LG.mp ha;rw[N6];refine⟨x,hx,decide_eq_true ?_⟩;simp at hb;rw[e,hb]
  ·exact n
theorem B3(L:List (Str×Str))(r:Str):((L.map fun x=>(.inr x.1:Key)).any fun j=>decide (j=.inr r))=L.any fun x=>decide (x.1=r):=by
 rw[NO]
 congr 1
 funext x
 simp[NF]
theorem E1{i:Nat}{fk fv:PSt->R PV}{ρ:PSt}{L:List (Str×Str)}{p:BF.Row St}(hi:ρ[i]?=some (.own (dP L)))(hk:fk ρ=.ok (.str p.1.r))(hv:fv ρ=.ok (.str (dA p.2)))(ho:nJ h p.1=true)(hl:L.length<16777216) :
  uV i fk fv ρ=.ok (.next (ρ.set i (.own (dP (gq h L p))))):=by
 have il:i<ρ.length:=(L4.mp hi).1;have z:(L.map fun x=>(.inr x.1:Key)).length<16777216:=by simpa using hl
 unfold uV;rw[hi];show (fk ρ >>= _)=_;rw[hk,R.ok_bind,hv,R.ok_bind];show (if (L.map fun x=>(.inr x.1:Key)).length<16777216 then R.ok (Fl.next (if ((L.map fun x=>(.inr x.1:Key)).any fun j=>decide (j=.inr p.1.r))=true then ρ else ρ.set i (.own (jA (L.map fun x=>.inr x.1) (L.map fun x=>.str x.2) (.inr p.1.r) (.str (dA p.2)))))) else .no)=_;rw[if_pos z];unfold gq jA;rw[if_pos ho,B3]
 by_cases a:(L.any fun x=>decide (x.1=p.1.r))=true
 ·rw[if_pos a,if_pos a]
  have:ρ.set i (.own (dP L))=ρ:=by
   refine O5 fun j=>?_
   by_cases e:j=i
   ·subst e
    rw[Lr il,hi]
   ·rw[Lx (MU e)]
  rw[this]
 ·rw[if_neg a,if_neg a,if_neg a]
  unfold dP;rw[Ld,Ld];rfl
theorem iK(L:List (Str×Str))(hl:L.length<=16777216):o6 (dP L)=some (.lst (L.map p2)):=by
 show (if (L.map fun x=>(.inr x.1:Key)).length<=16777216 then some (PV.lst ((jC (L.map fun x=>.inr x.1) (L.map fun x=>.str x.2)).map .tup)) else none)=_;rw[if_pos (by simpa using hl)]
 congr 2
 unfold jC
 induction L with
 | nil=>rfl
 | cons x L ih=>
  rw[L8,L8,MX,L8,ih (by rw[Lj] at hl;omega),L8];rfl
theorem pF:∀(L:List (Str×Str)),(L.map (·.1)).Nodup->∀x∈L,bK (L.map fun x=>.inr x.1) (L.map fun x=>.str x.2) (.inr x.1)=some (.str x.2)
 | [],_,x,hx=>by simp at hx
 | y::L,nd,x,hx=>by
  rw[L8,Lq] at nd;show (if (.inr y.1:Key)=.inr x.1 then some (PV.str y.2) else bK (L.map fun x=>.inr x.1) (L.map fun x=>.str x.2) (.inr x.1))=_;rcases LR.mp hx with e | e
  ·rw[e,if_pos rfl]
  ·rw[if_neg fun z=>nd.1 (by rw[Nf z];exact LG.mpr ⟨x,e,rfl⟩)]
   exact pF L nd.2 x e
end
section
variable{h : House}{KZ ord : List Str}(hg : HG h KZ ord){KY : Int}{s0 : St}{KU : List (BF.Row St)}(F : Found h KZ KY s0 KU)
include hg F
theorem CJ(ep:bV [h.pv,.int KY]=some (.lst (KU.map ax))):sM [h.pv,.int KY]=some (.lst ((cG h KU).map p2)):=by
 refine aq rfl ?_;have hln:=F.ln
 obtain⟨ρ',f1,a,b,rfl⟩:=forM (enc:=ax) (xs:=KU) (h:=fU 2 (aD (af 3) (aD (af 4) fV))) (g:=oA) (ρ:=[.val h.pv,.val (.int KY),.own (dP []),.no,.no])
  (I:=fun pre ρ=>∃a b,ρ=[.val h.pv,.val (.int KY),.own (dP (cG h pre)),a,b]) ⟨_,_,rfl⟩ (by
   rintro pre p post ρ hx ⟨a,b,rfl⟩;have pm:p∈KU:=by rw[hx];simp
   have hpl:pre.length<KU.length:=by rw[hx];simp
   have ll:=nR (h:=h) pre [];have ll:(cG h pre).length<=pre.length:=by simpa [cG] using ll
   refine⟨[.val h.pv,.val (.int KY),.own (dP (cG h pre)),.val p.1.pv,.val (.str (dA p.2))],[.val h.pv,.val (.int KY),.own (dP (cG h (pre++[p]))),.val p.1.pv,.val (.str (dA p.2))],rfl,.inl ?_,_,_,rfl⟩;rw[tX];have e:=is_out hg p.1 (F.ok p pm);unfold oA;cases o:nJ h p.1 with
   | true=>
    rw[o] at e
    rw[Jv (by
     generalize p.1.pv=S at *;generalize h.pv=H at *;generalize dP (cG h pre)=D at *;simp[e]),E1 (h:=h) (L:=cG h pre) (p:=p) rfl rfl rfl o (by omega)]
    rfl
   | false=>
    rw[o] at e
    rw[Cu (by
     generalize p.1.pv=S at *;generalize h.pv=H at *;generalize dP (cG h pre)=D at *;simp[e])]
    unfold gq;rw[o];rfl)
 have ll:=nR (h:=h) KU [];have ll:(cG h KU).length<=KU.length:=by simpa [cG] using ll
 have it:eD (.lst (KU.map ax))=some (KU.map ax):=rfl;have e2:=iK (cG h KU) (by omega);have d0:dP []=.dct [] []:=rfl;rw[d0] at f1;generalize dP (cG h KU)=DD at *;generalize (cG h KU).map p2=EE at *;generalize KU.map ax=FS at *;generalize h.pv=H at *;simp[wH,PU.start,ep,it];rw[f1];simp[e2]
end
def kR(r:List Nat):PV:=.tup [.int r.length,.lst (r.map fun i:Nat=>PV.int (i:Int))]
theorem Kj (i:Nat) (hi:i<13):mz (.str "0123456789*#w") (WO.sg (cd i))=some (.int i):=by
 match i,hi with
 | 0,_=>kernel_rfl
 | 1,_=>kernel_rfl
 | 2,_=>kernel_rfl
 | 3,_=>kernel_rfl
 | 4,_=>kernel_rfl
 | 5,_=>kernel_rfl
 | 6,_=>kernel_rfl
 | 7,_=>kernel_rfl
 | 8,_=>kernel_rfl
 | 9,_=>kernel_rfl
 | 10,_=>kernel_rfl
 | 11,_=>kernel_rfl
 | 12,_=>kernel_rfl
theorem sj(ρ:PSt)(hρ:ρ=[.no]):∀(r:List Nat),(∀i∈r,i<13)->bL (af 0) jM om ρ (r.map fun i=>WO.sg (cd i))=.ok (r.map fun i:Nat=>PV.int (i:Int))
 | [],_=>rfl
 | i::r,h=>by
  have ih:=sj ρ hρ r fun j hj=>h j (by simp[hj]);have e:=Kj i (h i (by simp))
  have e1:om [.val (WO.sg (cd i))]=.ok (.int i):=by
   generalize WO.sg (cd i)=G at *;show qE (kS "0123456789*#w") (getV 0) mz _=_;simp[e]
  rw[L8];unfold bL;rw[show af 0 (WO.sg (cd i)) ρ=some [.val (WO.sg (cd i))] by rw[hρ];rfl];simp only[R.ofO_some,R.ok_bind,uE,if_true,e1,ih];rfl
theorem ve(r:List Nat)(h:∀i∈r,i<13)(hl:r.length<=100000):pY [.str (dA r)]=some (kR r):=by
 have ei:eD (.str (dA r))=some (r.map fun i=>WO.sg (cd i)):=by
  unfold dA;rw[WO.it_mk,LV];rfl
 have gl:l7 (.str (dA r))=some (.int r.length):=by
  unfold dA;rw[fW (by rw[cA,LA];omega),cA,LA]
 have ec:=sj [.no] rfl r h;have z:(r.map fun i:Nat=>PV.int (i:Int)).length<=16777216:=by simp;omega
 unfold kR;generalize dA r=RR at *;generalize (r.map fun i=>WO.sg (cd i))=RS at *;generalize (r.map fun i:Nat=>PV.int (i:Int))=RI at *;refine aq rfl ?_;simp[wF,PU.start,gl,ei,ba,ec,z]
def iL(r:List Nat):List Int:=r.map fun i:Nat=>(i:Int)
theorem C6(r:List Nat):jo (r.map fun i:Nat=>PV.int (i:Int))=some (iL r):=by
 have:=qO (iL r);unfold iL at this;rw[LV] at this;exact this
theorem rZ:∀a:List Nat,ltL (iL a) (iL a)=false
 | []=>rfl
 | x::xs=>by
  show (if (x:Int)=(x:Int) then ltL (iL xs) (iL xs) else _)=false;rw[if_pos rfl];exact rZ xs
theorem vP:∀a b:List Nat,a.length=b.length->BF.lexLt b a=true->ltL (iL a) (iL b)=false
 | [],[],_,h=>by simp[BF.lexLt] at h
 | [],_::_,h,_=>by simp at h
 | _::_,[],h,_=>by simp at h
 | x::xs,y::ys,hl,h=>by
  simp only[BF.lexLt] at h;show (if (x:Int)=(y:Int) then ltL (iL xs) (iL ys) else decide ((x:Int)<(y:Int)))=false
  by_cases e:y=x
  ·rw[if_pos e] at h
   rw[if_pos (by omega)];exact vP xs ys (by simpa using hl) h
  ·rw[if_neg e] at h
   rw[if_neg (by omega)];simp at h ⊢;omega
theorem HQ(a b:List Nat)(h:b=a\/BF.lt b a):Fw (kR a) (kR b)=some (.bl false):=by
 unfold kR;simp only[Fw,C6];have la:(iL a).length=a.length:=by simp[iL]
 have lb:(iL b).length=b.length:=by simp[iL]
 rcases h with rfl | h | ⟨h1,h2⟩
 ·rw[if_neg (by simp),if_pos rfl,rZ]
 ·rw[if_neg (by omega),if_neg (by omega)]
  simp;omega
 ·rw[if_neg (by omega),if_pos (by omega),vP a b (by omega) h2]
theorem Jx(a b:List Nat)(ha:∀i∈a,i<13)(hb:∀i∈b,i<13)(la:a.length<=100000)(lb:b.length<=100000)(h:b=a\/BF.lt b a):du [.str (dA a),.str (dA b)]=some (.bl false):=by
 have e1:=ve a ha la;have e2:=ve b hb lb;have e3:=HQ a b h;generalize dA a=A at *;generalize dA b=B at *;generalize kR a=KA at *;generalize kR b=KB at *;refine aq rfl ?_;simp[kY,PU.start,e1,e2,e3]
def scan(f:St->Nat->St):St->List Nat->List St
 | s,[]=>[s]
 | s,i::r=>s::scan f (f s i) r
theorem rE(f:St->Nat->St):∀(r:List Nat)(s:St),(scan f s r).length=r.length+1
 | [],_=>rfl
 | i::r,s=>by simp[scan,rE f r]
theorem mR(f:St->Nat->St):∀(r:List Nat)(s:St)(k:Nat),k<=r.length->(scan f s r)[k]?=some ((r.take k).foldl f s)
 | [],s,k,h=>by
  have:k=0:=by simpa using h
  subst this;rfl
 | i::r,s,0,_=>rfl
 | i::r,s,k+1,h=>by
  show (scan f (f s i) r)[k]?=_;rw[mR f r (f s i) k (by simpa using h)];rfl
theorem oQ(f:St->Nat->St):∀(r:List Nat)(s:St),∃L,scan f s r=L++[r.foldl f s]
 | [],s=>⟨[],rfl⟩
 | i::r,s=>by
  obtain⟨L,e⟩:=oQ f r (f s i);exact⟨s::L,by rw[scan,e];rfl⟩
section
variable{h : House}{KZ ord : List Str}(hg : HG h KZ ord)(KY : Int){D : PV}(hD : WD h KZ D)
include hg hD
theorem oG(z row:PV):∀(r:List Nat)(s:St)(L:List PV)(a:Sl),Ok h KZ s->L.length+r.length<=1000000->∃a',gL (af 6) fP (r.map fun i=>WO.sg (cd i)) [.val h.pv,.val (.int KY),.val z,.val row,.val D,.own (.lst (L++[s.pv])),a]=.ok (.next [.val h.pv,.val (.int KY),.val z,.val row,.val D,.own (.lst (L++(scan (lead h KZ KY) s r).map St.pv)),a'])
 | [],s,L,a,_,_=>⟨a,rfl⟩
 | i::r,s,L,a,hs,hl=>by
  rw[Lj] at hl;obtain⟨X,e1,e2⟩:=Io hg KY hD s hs i;have hs':=(nQ hg KY s hs i).1;have g0:gIx s.pv (.int 0)=some (.str s.r):=rfl;have e0:af 6 (WO.sg (cd i)) [.val h.pv,.val (.int KY),.val z,.val row,.val D,.own (.lst (L++[s.pv])),a]=some [.val h.pv,.val (.int KY),.val z,.val row,.val D,.own (.lst (L++[s.pv])),.val (WO.sg (cd i))]:=rfl;have hz:(L++[s.pv]).length<16777216:=by rw[Lp,O0];omega
  have b1:fP [.val h.pv,.val (.int KY),.val z,.val row,.val D,.own (.lst (L++[s.pv])),.val (WO.sg (cd i))]=.ok (.next [.val h.pv,.val (.int KY),.val z,.val row,.val D,.own (.lst ((L++[s.pv])++[(lead h KZ KY s i).pv])),.val (WO.sg (cd i))]):=by
   have l:=rf L s.pv;have ng:y7 (.int 1)=some (.int (-1)):=rfl;generalize L++[s.pv]=LS at *;generalize WO.sg (cd i)=G at *;generalize (lead h KZ KY s i).pv=S' at *;generalize s.pv=S at *;generalize h.pv=H at *;simp[fP,ng,l,g0,e1,e2,hz]
  obtain⟨a',f⟩:=oG z row r (lead h KZ KY s i) (L++[s.pv]) (.val (WO.sg (cd i))) hs' (by rw[Lp,O0];omega);refine⟨a',?_⟩;rw[L8];unfold gL;rw[e0];simp only[R.ofO_some,R.ok_bind,b1];rw[show L++(scan (lead h KZ KY) s (i::r)).map St.pv=(L++[s.pv])++(scan (lead h KZ KY) (lead h KZ KY s i) r).map St.pv by simp[scan]];exact f
theorem Bf(s0:St)(hb:dD [h.pv,.int KY]=some s0.pv)(h0:Ok h KZ s0)(r:List Nat)(hl:r.length<=100000):sJ [h.pv,.int KY,.str (dA r)]=some (.lst ((scan (lead h KZ KY) s0 r).map St.pv)):=by
 obtain⟨a,f⟩:=oG hg KY hD s0.pv (.str (dA r)) r s0 [] .no h0 (by simpa using by omega);have ei:eD (.str (dA r))=some (r.map fun i=>WO.sg (cd i)):=by unfold dA;rw[WO.it_mk,LV];rfl
 have hW:=hD.eq;simp only[Nv] at f;generalize (scan (lead h KZ KY) s0 r).map St.pv=T at *;generalize (r.map fun i=>WO.sg (cd i))=RS at *;generalize dA r=MR at *;generalize s0.pv=S0 at *;generalize h.pv=H at *
 have wo:iO [H,.int KY,S0,.str MR]=some (.lst T):=by
  refine rG rfl ?_;simp[kW,PU.start,hW,ei];rw[f];simp
 refine aq rfl ?_;simp[AL,PU.start,hb,wo]
end
theorem pU:∀(l:List (List Key×PV))(ks:List (List Key))(ps:List PV),(ks++l.map (·.1)).Nodup->l.foldl zQ (.dtt ks ps)=.dtt (ks++l.map (·.1)) (ps++l.map (·.2))
 | [],ks,ps,_=>by simp
 | (k,p)::l,ks,ps,nd=>by
  have e:zQ (.dtt ks ps) (k,p)=.dtt (ks++[k]) (ps++[p]):=by
   show tK ks ps k p=_;unfold tK;rw[if_neg];intro h;obtain⟨j,hj,e⟩:=N6.mp h;have e:=of_decide_eq_true e;subst e;rw[L8] at nd;exact(MI.mp nd).2.2 j hj j Le rfl
  rw[MM,e,pU l _ _ (by simpa using nd)];simp
theorem pk{α:Type}(g:α->St)(v:α->PV):∀L:List α,jB (L.map fun x=>PV.tup [(g x).pv,v x])=some (L.map fun x=>((g x).key,v x))
 | []=>rfl
 | x::L=>by
  show (jN (g x).pv).bind (fun k=>(jB (L.map fun x=>PV.tup [(g x).pv,v x])).map fun l=>(k,v x)::l)=_;rw[St.tk,pk g v L];rfl
theorem sU{α:Type}(g:α->St)(v:α->PV)(L:List α)(nd:(L.map g).Nodup)(hl:L.length<=16777216):mB (.lst (L.map fun x=>PV.tup [(g x).pv,v x]))=some (.dtt (L.map fun x=>(g x).key) (L.map v)):=by
 show (if (L.map fun x=>PV.tup [(g x).pv,v x]).length<=16777216 then (jB (L.map fun x=>PV.tup [(g x).pv,v x])).map fun l=>l.foldl zQ (.dtt [] []) else none)=_;rw[if_pos (by rw[LA];exact hl),pk];show some ((L.map fun x=>((g x).key,v x)).foldl zQ (.dtt [] []))=_
 rw[pU _ _ _ (by
  rw[Nv,LV];have e:((fun x:List Key×PV=>x.1) ∘ fun x=>((g x).key,v x))=St.key ∘ g:=rfl;rw[e,← LV];refine Pw St.key (fun a b hne e=>hne (St.kinj e)) nd)]
 rw[LV,LV];rfl
theorem pV:∀(l:List (Key×PV))(ks:List Key)(ps:List PV),(ks++l.map (·.1)).Nodup->l.foldl uo (.dct ks ps)=.dct (ks++l.map (·.1)) (ps++l.map (·.2))
 | [],ks,ps,_=>by simp
 | (k,p)::l,ks,ps,nd=>by
  have e:uo (.dct ks ps) (k,p)=.dct (ks++[k]) (ps++[p]):=by
   show jA ks ps k p=_;unfold jA;rw[if_neg];intro h;obtain⟨j,hj,e⟩:=N6.mp h;have e:=of_decide_eq_true e;subst e;rw[L8] at nd;exact(MI.mp nd).2.2 j hj j Le rfl
  rw[MM,e,pV l _ _ (by simpa using nd)];simp
theorem pz:∀L:List (Str×Str),f6 (L.map p2)=some (L.map fun x=>(.inr x.1,.str x.2))
 | []=>rfl
 | x::L=>by
  show (f6 (L.map p2)).map (fun l=>(.inr x.1,.str x.2)::l)=_;rw[pz L];rfl
theorem zF(L:List (Str×Str))(nd:(L.map (·.1)).Nodup)(hl:L.length<=16777216):wL (.lst (L.map p2))=some (dP L):=by
 show (if (L.map p2).length<=16777216 then (f6 (L.map p2)).map eJ else none)=_;rw[if_pos (by rw[LA];exact hl),pz];show some ((L.map fun x=>((.inr x.1:Key),PV.str x.2)).foldl uo (.dct [] []))=_
 rw[pV _ _ _ (by
  rw[Nv,LV];have e:((fun x:Key×PV=>x.1) ∘ fun x:Str×Str=>((.inr x.1:Key),PV.str x.2))=Na ∘ fun x:Str×Str=>x.1:=rfl;rw[e,← LV];exact Pw _ (fun a b hne e=>hne (Nf e)) nd)]
 rw[LV,LV];rfl
def rL(KU:List (BF.Row St)):List PV:=KU.map fun p=>PV.str (dA p.2)
theorem pH:∀(KU:List (BF.Row St)),(KU.map (·.1)).Nodup->∀q∈KU,jK (kL KU) (rL KU) q.1.key=some (.str (dA q.2))
 | [],_,_,h=>by cases h
 | p::KU,nd,q,hq=>by
  rw[L8,Lq] at nd;show (if p.1.key=q.1.key then some (PV.str (dA p.2)) else jK (kL KU) (rL KU) q.1.key)=_;rcases LR.mp hq with rfl | hq
  ·rw[if_pos rfl]
  ·rw[if_neg fun e=>nd.1 (LG.mpr ⟨q,hq,(St.kinj e).symm⟩)]
   exact pH KU nd.2 q hq
theorem yk{T:PV}{k:List Key}(KS:List (List Key))(PS:List PV)(hk:jN T=some k):fK T (.dtt KS PS)=some (.bl (!(KS.any fun j=>decide (j=k)))):=by
 show (jN T).map _=_;rw[hk];rfl
theorem Bi(KU:List (BF.Row St))(nd:(KU.map (·.1)).Nodup)(hl:KU.length<=16777216):mB (.lst (KU.map ax))=some (.dtt (kL KU) (rL KU)):=sU (fun p:BF.Row St=>p.1) (fun p=>PV.str (dA p.2)) KU nd hl
theorem vR:∀(f:List (BF.Row St))(c:List (Option Nat))(s:St),c.length=f.length->s∈f.map (·.1)->jK (kL f) (c.map oP) s.key=some (oP (cK c (c8 f s)))
 | [],_,_,_,h=>by simp at h
 | p::f,[],_,l,_=>by simp at l
 | p::f,o::c,s,l,h=>by
  show (if p.1.key=s.key then some (oP o) else jK (kL f) (c.map oP) s.key)=_;unfold c8
  by_cases e:p.1=s
  ·rw[if_pos (by rw[e]),if_pos e]
   rfl
  ·rw[if_neg fun z=>e (St.kinj z),if_neg e]
   rw[L8] at h;rw[Lj,Lj] at l;rcases LR.mp h with z | z
   ·exact absurd z.symm e
   ·exact vR f c s (by omega) z
theorem FV(f:List (BF.Row St))(c:List (Option Nat))(l:c.length=f.length):((L7 f.length).zip f).map (fun x=>oP (cK c x.1))=c.map oP:=by
 refine O5 fun k=>?_;rw[LC,LC,k7];cases ep:f[k]? with
 | none=>
  have:=MK.mp ep;rw[MP (l:=c) (by omega)];rfl
 | some p=>
  have hk:=(L4.mp ep).1
  have ec:c[k]?=some (cK c k):=by
   unfold cK;rw[Lk,LU (by omega)];rfl
  rw[ec];rfl
theorem B9(f:List (BF.Row St)):((L7 f.length).zip f).map (fun x=>x.2)=f:=by
 refine O5 fun k=>?_;rw[LC,k7];cases f[k]? <;> rfl
theorem Cz(KU:List (BF.Row St))(c:List (Option Nat))(nd:(KU.map (·.1)).Nodup)(hl:KU.length<=16777216)(l:c.length=KU.length):mB (.lst (((L7 KU.length).zip KU).map fun x=>PV.tup [x.2.1.pv,oP (cK c x.1)]))=some (.dtt (kL KU) (c.map oP)):=by
 have z:=B9 KU
 have e1:((L7 KU.length).zip KU).map (fun x=>x.2.1)=KU.map (·.1):=by
  have:((L7 KU.length).zip KU).map (fun x=>x.2.1)=(((L7 KU.length).zip KU).map fun x=>x.2).map (·.1):=by rw[LV];rfl
  rw[this,z]
 have e2:((L7 KU.length).zip KU).map (fun x=>x.2.1.key)=kL KU:=by
  have:((L7 KU.length).zip KU).map (fun x=>x.2.1.key)=(((L7 KU.length).zip KU).map fun x=>x.2).map (fun p=>p.1.key):=by rw[LV];rfl
  rw[this,z];rfl
 have h:=sU (fun x:Nat×BF.Row St=>x.2.1) (fun x=>oP (cK c x.1)) ((L7 KU.length).zip KU) (by rw[e1];exact nd) (by rw[Nw,Mq];omega);rw[FV KU c l,e2] at h;exact h
def stL(c:List (Option Nat))(KU:List (BF.Row St)):List St:=(((L7 KU.length).zip KU).filter fun x=>(cK c x.1).isNone).map fun x=>x.2.1
theorem uU(c:List (Option Nat))(KU:List (BF.Row St))(nd:(KU.map (·.1)).Nodup)(s:St)(hs:s∈KU.map (·.1)):s∈stL c KU ↔ cK c (c8 KU s)=none:=by
 unfold stL;obtain⟨p,e1,e2⟩:=rQ KU s hs;constructor
 ·intro h
  obtain⟨x,hx,rfl⟩:=LG.mp h;obtain⟨hm,hn⟩:=MD.mp hx;obtain⟨k,hk⟩:=Mg.mp hm;rw[k7] at hk;obtain⟨q,hq,rfl⟩:=LB.mp hk;rw[vm KU k q nd hq];exact Option.isNone_iff_eq_none.mp hn
 ·intro h
  refine LG.mpr ⟨(c8 KU s,p),MD.mpr ⟨Mg.mpr ⟨c8 KU s,by rw[k7,e1];rfl⟩,by rw[h];rfl⟩,e2⟩
theorem rm:∀L:List St,qp (L.map St.pv)=some (L.map St.key)
 | []=>rfl
 | s::L=>by
  show (jN s.pv).bind (fun k=>(qp (L.map St.pv)).map (k::·))=_;rw[St.tk,rm L];rfl
theorem AJ(s:St)(L:List St):uA s.pv (.lst (L.map St.pv))=some (.bl (decide (s∈L))):=by
 show (jN s.pv).bind (fun k=>(qp (L.map St.pv)).map fun ks=>PV.bl (ks.any fun j=>decide (j=k)))=_;rw[St.tk,rm];show some (PV.bl _)=_
 congr 2
 rw[NO,ND,N6];simp only[NF,decide_eq_true_eq];exact⟨fun ⟨x,hx,e⟩=>by rw[← St.kinj e];exact hx,fun h=>⟨s,h,rfl⟩⟩
theorem vI(s:St)(L:List St):ib s.pv (.lst (L.map St.pv))=some (.bl (!decide (s∈L))):=by
 unfold ib;rw[AJ];rfl
theorem Ip(a b:Option Nat)(hh:∀x y,a=some x->b=some y->x<=y+1):d7 [oP a,oP b]=some (.bl false):=by
 refine aq rfl ?_;cases a with
 | none=>simp[dW,PU.start,oP,gm2]
 | some x=>
  cases b with
  | none=>simp[dW,PU.start,oP,gm1,gm2]
  | some y=>
   have:=hh x y rfl rfl;have e:¬ ((y:Int)<(x:Int)-1):=by omega
   simp[dW,PU.start,oP,gm1,e]
theorem Eb{a b:St}(e:a.pv=b.pv):a=b:=by
 have h1:=St.tk a;rw[e,St.tk b] at h1;exact St.kinj (M4 h1).symm
section
variable{h : House}{KZ ord : List Str}(hg : HG h KZ ord){KY : Int}{s0 : St}{KU : List (BF.Row St)}(F : Found h KZ KY s0 KU)
include hg F
theorem reach(r:List Nat)(hr:∀i∈r,i<13):∀k,k<=r.length->∃q∈KU,q.1=(r.take k).foldl (lead h KZ KY) s0/\(q.2=r.take k\/BF.lt q.2 (r.take k))
 | 0,_=>by
  obtain⟨tl,e⟩:=F.inv.h0;exact⟨(s0,[]),by rw[e];simp,by simp,.inl (by simp)⟩
 | k+1,hk=>by
  obtain⟨q,hq,e1,e2⟩:=reach r hr k (by omega);have et:r.take (k+1)=r.take k++[r[k]]:=NZ (by omega);obtain⟨q',hq',e3,e4⟩:=F.cl q hq r[k] (hr _ (Ml _));refine⟨q',hq',?_,?_⟩
  ·rw[et,N9,← e1]
   exact e3
  ·rw[et]
   rcases e2 with e2 | e2
   ·rw[e2] at e4
    exact e4
   ·have l1:=BF.lt_snoc r[k] r[k] e2
    rcases e4 with e4 | e4
    ·rw[e4]
     exact .inr l1
    ·exact .inr (BF.lt_trans e4 l1)
theorem Ko{c:List (Option Nat)}(Fi:BO.Fin_ KU.length (rS h KU) (EN h KZ KY KU) c)(s:St)(hs:s∈KU.map (·.1))(i:Nat)(hi:i<13) :
  (∀x y,cK c (c8 KU s)=some x->cK c (c8 KU (lead h KZ KY s i))=some y->x<=y+1)/\(cK c (c8 KU s)=none->cK c (c8 KU (lead h KZ KY s i))=none):=by
 obtain⟨p,e1,e2⟩:=rQ KU s hs;have hp:=LM e1;have l1:=vk hs
 have m2:lead h KZ KY s i∈KU.map (·.1):=by
  rw[← e2];exact xB hg KY F p hp i hi
 have l2:=vk m2
 have ck:∀k,k<KU.length->c[k]?=some (cK c k):=fun k hk=>by
  unfold cK;rw[Lk,LU (by rw[Fi.len];exact hk)];rfl
 have ed:EN h KZ KY KU (c8 KU s) (c8 KU (lead h KZ KY s i)):=⟨p,e1,i,hi,by rw[e2]⟩;cases ho:rS h KU (c8 KU s) with
 | true=>
  have z:=(Fi.out0 _ l1).mp ho;rw[ck _ l1] at z;have z:=M4 z;rw[z];exact⟨fun x y e _=>by cases e;omega,fun e=>by cases e⟩
 | false=>
  refine⟨fun x y ex ey=>(Fi.some_ _ x l1 ho (by rw[ck _ l1,ex])).2 _ y l2 ed (by rw[ck _ l2,ey]),fun e=>?_⟩;have z:=Fi.none_ _ l1 ho (by rw[ck _ l1,e]) _ l2 ed;rw[ck _ l2] at z;exact M4 z
omit F in
theorem stay(s:St)(hs:Ok h KZ s)(ho:nJ h s=true)(i:Nat):lead h KZ KY s i=s:=by
 obtain⟨_,D,e1,e2⟩:=nQ hg KY s hs i;obtain⟨room,ok⟩:=hs;unfold nJ at ho;rw[ok.lk] at ho
 have key:∃k:Str,gIx room.pv (.int 0)=some (.str k)/\(k="hand"\/k="end"):=by
  cases room with
  | hand t=>exact⟨_,rfl,.inl rfl⟩
  | fin t=>exact⟨_,rfl,.inr rfl⟩
  | menu=>cases ho
  | names=>cases ho
  | hours=>cases ho
 obtain⟨k,h0,hk⟩:=key;have g:=(o3 hg KY s.r s.b s.w s.v s.t room ok (cd i) k h0 hk D).fo;have e3:some (lead h KZ KY s i).pv=some s.pv:=e2.symm.trans g;exact Eb (M4 e3)
omit F in
theorem stays:∀(l:List Nat)(s:St),Ok h KZ s->nJ h s=true->l.foldl (lead h KZ KY) s=s
 | [],_,_,_=>rfl
 | i::l,s,hs,ho=>by
  rw[MM,stay hg s hs ho i];exact stays l s hs ho
end
section
variable{h : House}
theorem pM:∀(f:List (BF.Row St))(L:List (Str×Str))(x:Str×Str),x∈L->x∈f.foldl (gq h) L
 | [],_,_,hx=>hx
 | p::f,L,x,hx=>by
  refine pM f _ x ?_;unfold gq
  split
  ·split
   ·exact hx
   ·exact MJ _ hx
  ·exact hx
theorem sh:∀(f:List (BF.Row St))(L:List (Str×Str))(q:BF.Row St),f.Pairwise (fun a b=>BF.lt a.2 b.2)->q∈f->nJ h q.1=true->(∀x∈L,x.1≠q.1.r)->∃q0∈f,(q0.2=q.2\/BF.lt q0.2 q.2)/\(q.1.r,dA q0.2)∈f.foldl (gq h) L
 | [],_,_,_,hq,_,_=>by cases hq
 | p::f,L,q,pw,hq,ho,hL=>by
  rw[List.pairwise_cons] at pw
  by_cases e:nJ h p.1=true/\p.1.r=q.1.r
  ·refine⟨p,Le,?_,pM f _ _ ?_⟩
   ·rcases LR.mp hq with rfl | hq
    ·exact .inl rfl
    ·exact .inr (pw.1 q hq)
   ·unfold gq
    rw[if_pos e.1,if_neg]
    ·rw[e.2]
     exact La _ (LH.mpr rfl)
    ·intro ha
     obtain⟨x,hx,ex⟩:=N6.mp ha;exact hL x hx ((of_decide_eq_true ex).trans e.2)
  ·rcases LR.mp hq with rfl | hq
   ·exact absurd ⟨ho,rfl⟩ e
   ·obtain⟨q0,m0,o0,i0⟩:=sh f (gq h L p) q pw.2 hq ho (fun x hx=>by
     unfold gq at hx;split at hx
     ·rename_i hp
      split at hx
      ·exact hL x hx
      ·rcases Lh.mp hx with hx | hx
       ·exact hL x hx
       ·rw[LH.mp hx]
        exact fun z=>e ⟨hp,z⟩
     ·exact hL x hx)
    exact⟨q0,Lg _ m0,o0,i0⟩
theorem met(KU:List (BF.Row St))(pw:KU.Pairwise fun a b=>BF.lt a.2 b.2)(q:BF.Row St)(hq:q∈KU)(ho:nJ h q.1=true):∃q0∈KU,(q0.2=q.2\/BF.lt q0.2 q.2)/\dX (.str q.1.r) (dP (cG h KU))=some (.bl false)/\gIx (dP (cG h KU)) (.str q.1.r)=some (.str (dA q0.2)):=by
 obtain⟨q0,m0,o0,i0⟩:=sh KU [] q pw hq ho (fun x hx=>by cases hx);have nd:=vV (h:=h) KU [] (by simp);have i0:(q.1.r,dA q0.2)∈cG h KU:=i0;refine⟨q0,m0,o0,?_,pF _ nd _ i0⟩
 have e:gIn (.str q.1.r) (dP (cG h KU))=some (.bl true):=by
  show some (PV.bl (((cG h KU).map fun x=>(.inr x.1:Key)).any fun j=>decide (j=.inr q.1.r)))=_;rw[B3]
  congr 2
  exact N6.mpr ⟨_,i0,decide_eq_true rfl⟩
 unfold dX;rw[e];rfl
end
theorem Hh(r b:Str)(w v:Int)(t:W):gNe (sT r b w v t) (sT r b w v t)=some (.bl false):=by
 have e:gNe (sT r b w v t) (sT r b w v t)=if dU [.str r,.str b,.int w,.int v,.str (mkS t)]<=60 then (cQ [.str r,.str b,.int w,.int v,.str (mkS t)] [.str r,.str b,.int w,.int v,.str (mkS t)]).map fun b=>.bl (!b) else none:=rfl
 rw[e,if_pos (by simp[z7,dU]),iC _ (by simp[flat,ub])];rfl
theorem ixs (i:Nat) (hi:i<13):gIx (.str "0123456789*#w") (.int i)=some (WO.sg (cd i)):=by
 match i,hi with
 | 0,_=>kernel_rfl
 | 1,_=>kernel_rfl
 | 2,_=>kernel_rfl
 | 3,_=>kernel_rfl
 | 4,_=>kernel_rfl
 | 5,_=>kernel_rfl
 | 6,_=>kernel_rfl
 | 7,_=>kernel_rfl
 | 8,_=>kernel_rfl
 | 9,_=>kernel_rfl
 | 10,_=>kernel_rfl
 | 11,_=>kernel_rfl
 | 12,_=>kernel_rfl
theorem CQ{α β:Type}(f:α->β)(l:List α)(a b:Option Int):lI (l.map f) a b=(lI l a b).map f:=by
 unfold lI;rw[LA,← List.map_drop,← List.map_take]
theorem yD:∀zs:List Int,bL (af 0) jM oq [.no] (zs.map PV.int)=.ok ((zs.map fun z=>(z % 13).toNat).map fun i=>WO.sg (cd i)):=fun zs=>by
 have:=WO.in_list_comp (enc:=PV.int) (h:=af 0) (fe:=oq) (ρ:=[.no]) (fun z:Int=>WO.sg (cd (z % 13).toNat)) zs fun z _=>⟨[.val (.int z)],rfl,by
  have m:dy (.int z) (.int 13)=some (.int (z % 13)):=da (by decide);have e:=ixs (z % 13).toNat (by omega);rw[show (((z % 13).toNat:Nat):Int)=z % 13 by omega] at e;generalize WO.sg (cd (z % 13).toNat)=G at *;simp[oq,m,e]⟩
 rw[LV];exact this
theorem b4(X H:PV)(KY:Int)(RR:Str)(TO FA ST ME SS SK:PV)(k:Nat)(R1 RK KD TX:Str)(o:Bool)(h1:fK SK TO=some (.bl false))(h2:u7 TO SK=some (.str R1))(h3:wI (.str RR) none (some (k:Int))=some (.str RK))(h4:du [.str RK,.str R1]=some (.bl false))
  (h5:k=0\/∃(S1 a b:PV)(st st':Bool),0<k/\gIx SS (.int ((k:Int)-1))=some S1/\u7 FA S1=some a/\u7 FA SK=some b/\d7 [a,b]=some (.bl false)/\uA S1 ST=some (.bl st)/\ib SK ST=some (.bl st')/\(st=true->st'=false))
  (h6:gx [H,SK]=some (.tup [.str KD,.str TX])) (h6':gNe (.str KD) (.str "asked")=some (.bl o))
  (h7:o=false\/∃(rr R2:Str)(LS:PV),gIx SK (.int 0)=some (.str rr)/\dX (.str rr) ME=some (.bl false)/\gIx ME (.str rr)=some (.str R2)/\du [.str RK,.str R2]=some (.bl false)/\gIx SS (.int (-1))=some LS/\gNe LS SK=some (.bl false)) :
  lE [.val X,.val H,.val (.int KY),.val (.str RR),.val TO,.val FA,.val ST,.val ME,.val SS,.val (.int k),.val SK]=.ok (.next [.val X,.val H,.val (.int KY),.val (.str RR),.val TO,.val FA,.val ST,.val ME,.val SS,.val (.int k),.val SK]):=by
 unfold lE;rw[sq (ρ1:=[.val X,.val H,.val (.int KY),.val (.str RR),.val TO,.val FA,.val ST,.val ME,.val SS,.val (.int k),.val SK]) (by rw[Cu (by simp[h1,h2,h3,h4])];rfl)]
 rw[sq (ρ1:=[.val X,.val H,.val (.int KY),.val (.str RR),.val TO,.val FA,.val ST,.val ME,.val SS,.val (.int k),.val SK]) (by
  rw[Cu (by
   rcases h5 with rfl | ⟨S1,a,b,st,st',hk,e1,e2,e3,e4,e5,e6,e7⟩
   ·simp
   ·simp[hk,e1,e2,e3,e4])]
  rfl)]
 rw[sq (ρ1:=[.val X,.val H,.val (.int KY),.val (.str RR),.val TO,.val FA,.val ST,.val ME,.val SS,.val (.int k),.val SK]) (by
  rw[Cu (by
   rcases h5 with rfl | ⟨S1,a,b,st,st',hk,e1,e2,e3,e4,e5,e6,e7⟩
   ·simp
   ·cases st with
    | false=>simp[hk,e1,e5]
    | true=>
     rw[e7 rfl] at e6;simp[hk,e1,e5,e6])]
  rfl)]
 rcases h7 with rfl | ⟨rr,R2,LS,e1,e2,e3,e4,e5,e6⟩
 ·rw[Cu (by simp[h6,h6'])]
  rfl
 ·cases o with
  | false=>
   rw[Cu (by simp[h6,h6'])];rfl
  | true=>
   have ng:y7 (.int 1)=some (.int (-1)):=rfl;rw[Jv (by simp[h6,h6']),Cu (by simp[e1,e2,e3,e4,ng,e5,e6,h3])];rfl
section
variable{h : House}{KZ ord : List Str}(hg : HG h KZ ord){KY : Int}{s0 : St}{KU : List (BF.Row St)}(F : Found h KZ KY s0 KU){c : List (Option Nat)}(Fi : BO.Fin_ KU.length (rS h KU) (EN h KZ KY KU) c)
include hg F Fi
theorem v9(p:BF.Row St)(hp:p∈KU):p.2.length<=100000:=by
 obtain⟨j,hj⟩:=Mg.mp hp;have h1:=F.inv.len j p hj;have h2:=(L4.mp hj).1;have h3:=F.ln;omega
abbrev lsw(X:PV)(h:House)(KY:Int)(r:List Nat)(KU:List (BF.Row St))(c:List (Option Nat))(T:List St)(a b:Sl):PSt:=[.val X,.val h.pv,.val (.int KY),.val (.str (dA r)),.val (.dtt (kL KU) (rL KU)),.val (.dtt (kL KU) (c.map oP)),.val (.lst ((stL c KU).map St.pv)),.val (dP (cG h KU)),.val (.lst (T.map St.pv)),a,b]
theorem body(X:PV)(r:List Nat)(hr:∀i∈r,i<13)(rl:r.length<=1000)(k:Nat)(hk:k<=r.length) :
  lE (lsw X h KY r KU c (scan (lead h KZ KY) s0 r) (.val (.int k)) (.val ((r.take k).foldl (lead h KZ KY) s0).pv))=.ok (.next (lsw X h KY r KU c (scan (lead h KZ KY) s0 r) (.val (.int k)) (.val ((r.take k).foldl (lead h KZ KY) s0).pv))):=by
 obtain⟨q,hq,e1,e2⟩:=reach hg F r hr k hk;have sk:q.1∈KU.map (·.1):=LG.mpr ⟨q,hq,rfl⟩;have nd:=F.inv.nd;have l2:=v9 hg F Fi q hq;have hrk:∀i∈r.take k,i<13:=fun i hi=>hr i (OC hi);have lk:(r.take k).length<=100000:=by rw[MY];omega
 have hs:=F.ok q hq;obtain⟨KD,T,eh,dh⟩:=As hg q.1 hs
 have gne:gNe (.str KD) (.str "asked")=some (.bl (nJ h q.1)):=by
  show (if mq (.str KD)=true/\mq (.str "asked")=true/\yB (scV (.str KD)) (scV (.str "asked"))=true then some (PV.bl (!decide (scV (.str KD)=scV (.str "asked")))) else none)=_;rw[if_pos ⟨rfl,rfl,rfl⟩]
  have:decide (scV (.str KD)=scV (.str "asked"))=decide (KD=LI "asked"):=by
   congr 1
   exact propext ⟨fun z=>V.str.inj z,fun z=>congrArg V.str z⟩
  rw[this,dh,Bool.not_not]
 have le:∀q0:BF.Row St,(q0.2=q.2\/BF.lt q0.2 q.2)->(q0.2=r.take k\/BF.lt q0.2 (r.take k)):=fun q0 h0=>by
  rcases h0 with h0 | h0
  ·rw[h0];exact e2
  ·rcases e2 with e2 | e2
   ·rw[← e2];exact .inr h0
   ·exact .inr (BF.lt_trans h0 e2)
 have gl:(scan (lead h KZ KY) s0 r).map St.pv=(scan (lead h KZ KY) s0 r).map St.pv:=rfl;obtain⟨L,el⟩:=oQ (lead h KZ KY) r s0
 have h5:k=0\/∃(S1 a b:PV)(st st':Bool),0<k/\gIx (.lst ((scan (lead h KZ KY) s0 r).map St.pv)) (.int ((k:Int)-1))=some S1/\u7 (.dtt (kL KU) (c.map oP)) S1=some a/\u7 (.dtt (kL KU) (c.map oP)) q.1.pv=some b/\d7 [a,b]=some (.bl false)/\uA S1 (.lst ((stL c KU).map St.pv))=some (.bl st)/\ib q.1.pv (.lst ((stL c KU).map St.pv))=some (.bl st')/\(st=true->st'=false):=by
  cases k with
  | zero=>exact .inl rfl
  | succ j=>
   obtain⟨q1,hq1,e3,e4⟩:=reach hg F r hr j (by omega);have m1:q1.1∈KU.map (·.1):=LG.mpr ⟨q1,hq1,rfl⟩;have et:r.take (j+1)=r.take j++[r[j]]:=NZ (by omega);have hi:r[j]<13:=hr _ (Ml _)
   have e5:q.1=lead h KZ KY q1.1 r[j]:=by
    rw[e1,et,N9,e3];rfl
   obtain⟨d1,d2⟩:=Ko hg F Fi q1.1 m1 r[j] hi;rw[← e5] at d1 d2;refine .inr ⟨q1.1.pv,_,_,_,_,by omega,?_,?_,?_,Ip _ _ d1,AJ q1.1 _,vI q.1 _,fun hst=>?_⟩
   ·have ej:(((j+1:Nat):Int)-1)=(j:Int):=by omega
    rw[ej];refine aZ (n:=j) ?_ ?_
    ·rfl
    ·rw[LC,mR _ r s0 j (by omega),e3]
     rfl
   ·rw[yo _ _ (St.tk q1.1)]
    exact vR KU c q1.1 Fi.len m1
   ·rw[yo _ _ (St.tk q.1)]
    exact vR KU c q.1 Fi.len sk
   ·have h1:=(uU c KU nd q1.1 m1).mp (of_decide_eq_true hst)
    have h2:=(uU c KU nd q.1 sk).mpr (d2 h1);rw[decide_eq_true h2];rfl
 have h7:nJ h q.1=false\/∃(rr R2:Str)(LS:PV),gIx q.1.pv (.int 0)=some (.str rr)/\dX (.str rr) (dP (cG h KU))=some (.bl false)/\gIx (dP (cG h KU)) (.str rr)=some (.str R2)/\du [.str (dA (r.take k)),.str R2]=some (.bl false)/\gIx (.lst ((scan (lead h KZ KY) s0 r).map St.pv)) (.int (-1))=some LS/\gNe LS q.1.pv=some (.bl false):=by
  cases ho:nJ h q.1 with
  | false=>exact .inl rfl
  | true=>
   obtain⟨q0,m0,o0,n0,i0⟩:=met (h:=h) KU F.inv.srt q hq ho;refine .inr ⟨q.1.r,dA q0.2,q.1.pv,rfl,n0,i0,Jx _ _ hrk (F.inv.rng q0 m0) lk (v9 hg F Fi q0 m0) (le q0 o0),?_,Hh _ _ _ _ _⟩;rw[el,Ld]
   have ef:r.foldl (lead h KZ KY) s0=q.1:=by
    have e:r=r.take k++r.drop k:=(List.take_append_drop k r).symm;rw[e,N9,← e1];exact stays hg _ q.1 hs ho
   rw[ef];exact rf _ _
 have h3:wI (.str (dA r)) none (some (k:Int))=some (.str (dA (r.take k))):=by
  unfold dA;rw[yi _ _ (by rw[cA,LA];omega),jQ,List.map_take]
 rw[← e1];refine b4 X h.pv KY (dA r) _ _ _ _ _ q.1.pv k (dA q.2) (dA (r.take k)) KD T (nJ h q.1) ?_ ?_ h3 (Jx _ _ hrk (F.inv.rng q hq) lk l2 e2) h5 eh gne h7
 ·rw[yk _ _ (St.tk q.1),rh,decide_eq_true sk]
  rfl
 ·rw[yo _ _ (St.tk q.1)]
  exact pH KU nd q hq
end
def enS(x:Nat×St):PV:=.tup [.int x.1,x.2.pv]
theorem x8:∀(l:List Nat)(f:List St),(l.zipWith (fun (i:Nat) p=>[PV.int (i:Int),p]) (f.map St.pv)).map PV.tup=(l.zip f).map enS
 | [],_=>by simp
 | _::_,[]=>by simp
 | i::l,p::f=>by
  simp only[L8,MX,OS,x8 l f];rfl
theorem FJ(f:List St):oh (.lst (f.map St.pv))=some (((L7 f.length).zip f).map enS):=by
 have e:=x8 (L7 f.length) f;have z:oh (.lst (f.map St.pv))=some (((L7 (f.map St.pv).length).zipWith (fun (i:Nat) p=>[PV.int (i:Int),p]) (f.map St.pv)).map PV.tup):=rfl;rw[z,LA,e]
theorem JB{α:Type}(f:List α)(k:Nat):((L7 f.length).zip f)[k]?=f[k]?.map fun p=>(k,p):=by
 by_cases hk:k<f.length
 ·rw[LU (by rw[Nw,Mq];omega),List.getElem_zip,Sk,LU hk]
  rfl
 ·rw[MP (by rw[Nw,Mq];omega),MP (by omega)]
  rfl
theorem zg(ns:List Int):wY [.lst (ns.map .int)]=some (.bl true):=by
 refine aq rfl ?_;obtain⟨h,KZ,ord,hg,eh⟩:=Ii ns;have c4:aB [PV.lst (ns.map PV.int),PV.int 4]=some (PV.int (ns.getD 4 0)):=lB ns 4;generalize ns.getD 4 0=z4 at c4;have m24:dy (.int z4) (.int 24)=some (.int (z4 % 24)):=da (by decide);generalize z4 % 24=KY at m24;obtain⟨s0,h0,hb⟩:=zM hg KY;obtain⟨KU,F,ep⟩:=vn hg KY s0 h0 hb;obtain⟨c,eo,Fi⟩:=tR hg KY F;have hl:=Fi.len;have hln:=F.ln;have et:=yv ep eo hl hln;have ee:=CJ hg F ep
 have eu:sL [h.pv,.int KY]=some (.lst (c.map oP)):=by
  refine aq rfl ?_;generalize KU.map ax=FS at *;generalize c.map oP=CO at *;generalize h.pv=H at *;simp[wG,PU.start,ep,eo]
 obtain⟨D,hD⟩:=Bd hg
 have sl:gSl (.lst (ns.map PV.int)) (some 5) (some 205)=some (.lst ((lI ns (some 5) (some 205)).map PV.int)):=by
  show some (PV.lst (lI (ns.map PV.int) (some 5) (some 205)))=_;rw[CQ]
 have zl:(lI ns (some 5) (some 205)).length<=205:=by
  unfold lI;rw[MY];have e:HT.sIx ns.length ns.length (some 205)=min 205 ns.length:=HT.sIx_nat ns.length ns.length 205;rw[e];omega
 generalize lI ns (some 5) (some 205)=zs at sl zl;have it:eD (.lst (zs.map PV.int))=some (zs.map PV.int):=rfl;have rc:=yD zs;obtain⟨r,er⟩:∃r,r=zs.map fun z=>(z % 13).toNat:=⟨_,rfl⟩
 have hr:∀i∈r,i<13:=fun i hi=>by
  rw[er] at hi;obtain⟨z,_,rfl⟩:=LG.mp hi;omega
 have rl:r.length<=205:=by rw[er,LA];exact zl
 rw[← er] at rc;have z1:(r.map fun i=>WO.sg (cd i)).length<=16777216:=by rw[LA];omega
 have jn:qR (.str "") (.lst (r.map fun i=>WO.sg (cd i)))=some (.str (dA r)):=by
  have:=WO.joinV (r.map cd) (by rw[LA];omega);rw[LV] at this;exact this
 have wk:=Bf hg KY hD s0 hb h0 r (by omega);have nd:=F.inv.nd;have dt:=Bi KU nd (by omega)
 have hz:Ds (.lst (KU.map ax)) (.lst (c.map oP))=.ok (((L7 KU.length).zip KU).map (bI c)):=by
  rw[wd _ _ (by
   rw[P0];refine .inr (Nh.mpr fun p hp=>?_);obtain⟨o,_,rfl⟩:=LG.mp hp;cases o <;> rfl),Aa c KU hl]
 have fc:bL (fU 2 (aD (af 0) (aD (af 1) fV))) jM qY [.no,.no] (((L7 KU.length).zip KU).map (bI c))=.ok (((L7 KU.length).zip KU).map fun x=>PV.tup [x.2.1.pv,oP (cK c x.1)]):=
  WO.in_list_comp (enc:=bI c) _ _ fun x _=>⟨[.val (ax x.2),.val (oP (cK c x.1))],rfl,by
   have g0:gIx (ax x.2) (.int 0)=some x.2.1.pv:=rfl;generalize ax x.2=RP at *;generalize x.2.1.pv=SP at *;generalize oP (cK c x.1)=OP at *;simp[qY,g0]⟩
 have z2:(((L7 KU.length).zip KU).map fun x=>PV.tup [x.2.1.pv,oP (cK c x.1)]).length<=16777216:=by rw[LA,Nw,Mq];omega
 have df:=Cz KU c nd (by omega) hl
 have sc:bL (fU 2 (aD (af 0) (aD (af 1) fV))) jM oo [.no,.no] (stk c ((L7 KU.length).zip KU))=.ok ((stL c KU).map St.pv):=by
  have:=WO.in_list_comp (enc:=fun x:Nat×BF.Row St=>ax x.2) (h:=fU 2 (aD (af 0) (aD (af 1) fV))) (fe:=oo) (ρ:=[.no,.no]) (fun x=>x.2.1.pv) (((L7 KU.length).zip KU).filter fun x=>(cK c x.1).isNone) fun x _=>⟨[.val x.2.1.pv,.val (.str (dA x.2.2))],rfl,by
   generalize x.2.1.pv=SP;simp[oo]⟩
  unfold stL;rw[LV];exact this
 have z3:((stL c KU).map St.pv).length<=16777216:=by
  unfold stL;rw[LA,LA];have:=Py (fun x:Nat×BF.Row St=>(cK c x.1).isNone) ((L7 KU.length).zip KU);rw[Nw,Mq] at this;omega
 have its:eD (.lst (stk c ((L7 KU.length).zip KU)))=some (stk c ((L7 KU.length).zip KU)):=rfl;have ll:=nR (h:=h) KU []
 have dk:=zF (cG h KU) (vV (h:=h) KU [] (by simp)) (by
  have:(cG h KU).length<=KU.length:=by simpa [cG] using ll
  omega)
 have sl2:=rE (lead h KZ KY) r s0
 obtain⟨ρ',f1,a,b,rfl⟩:=forM (enc:=enS) (xs:=(L7 (scan (lead h KZ KY) s0 r).length).zip (scan (lead h KZ KY) s0 r)) (h:=fU 2 (aD (af 9) (aD (af 10) fV))) (g:=lE) (ρ:=lsw (.lst (ns.map .int)) h KY r KU c (scan (lead h KZ KY) s0 r) .no .no)
  (I:=fun _ ρ=>∃a b,ρ=lsw (.lst (ns.map .int)) h KY r KU c (scan (lead h KZ KY) s0 r) a b) ⟨_,_,rfl⟩ (by
   rintro pre x post ρ hx ⟨a,b,rfl⟩;have hm:x∈(L7 (scan (lead h KZ KY) s0 r).length).zip (scan (lead h KZ KY) s0 r):=by rw[hx];simp
   obtain⟨k,hk⟩:=Mg.mp hm;rw[JB] at hk;obtain⟨s,es,rfl⟩:=LB.mp hk;have kl:=(L4.mp es).1;rw[mR _ r s0 k (by omega)] at es;cases es;exact⟨_,_,rfl,.inl (body hg F Fi (.lst (ns.map .int)) r hr (by omega) k (by omega)),_,_,rfl⟩)
 have en:=FJ (scan (lead h KZ KY) s0 r)
 have gl1:l7 (.lst ((scan (lead h KZ KY) s0 r).map St.pv))=some (.int ((r.length:Int)+1)):=by
  show some (PV.int (((scan (lead h KZ KY) s0 r).map St.pv).length:Int))=_;rw[LA,sl2];rfl
 have gl2:l7 (.str (dA r))=some (.int r.length):=by
  unfold dA;rw[fW (by rw[cA,LA];omega),cA,LA]
 simp only[lsw] at f1;generalize (scan (lead h KZ KY) s0 r).map St.pv=TS at *;generalize (stL c KU).map St.pv=SS at *;generalize dP (cG h KU)=DL at *;generalize (cG h KU).map p2=LP at *;generalize ((L7 KU.length).zip KU).map (fun x=>PV.tup [x.2.1.pv,oP (cK c x.1)])=FP at *;generalize ((L7 KU.length).zip KU).map (bI c)=BP at *;generalize stk c ((L7 KU.length).zip KU)=SK at *;generalize PV.dtt (kL KU) (rL KU)=DT at *;generalize PV.dtt (kL KU) (c.map oP)=DF at *;generalize KU.map ax=FS at *;generalize c.map oP=CO at *;generalize (r.map fun i=>WO.sg (cd i))=RS at *;generalize dA r=RR at *;generalize zs.map PV.int=ZS at *;generalize ns.map PV.int=NS at *;generalize h.pv=H at *;generalize ((L7 (scan (lead h KZ KY) s0 r).length).zip (scan (lead h KZ KY) s0 r)).map enS=EE at *;simp[zr,PU.start,eh,c4,m24,sl,it,ba,rc,z1,jn,ep,dt,eu,hz,fc,z2,df,et,its,sc,z3,ee,dk,wk,gl1,gl2,en];rw[f1];simp
end K33
namespace K33
open PySem PySem.Spec PyProof.Rows L2 PU
seal EV EO EN EA ET EW SV SVs TGt D8 TCt D9 EI ETs ED EOI EL
def top(i:Nat):Stmt:=M8.main.body.getD i (.Pass ⟨0,0,0,0⟩)
structure Txt(w:Ln)(K:L0)(mg:Str->Option L3):Prop where
 n_dict:mg "dict"=none
 n_enumerate:mg "enumerate"=none
 n_int:mg "int"=none
 n_len:mg "len"=none
 n_list:mg "list"=none
 n_range:mg "range"=none
 n_tuple:mg "tuple"=none
 n_zip:mg "zip"=none
 c_CODE_END:@Con (tw w) K mg "CODE_END" c_CODE_END
 c_HEARD:@Con (tw w) K mg "HEARD" c_HEARD
 c_SIGNS:@Con (tw w) K mg "SIGNS" c_SIGNS
 c_WAIT:@Con (tw w) K mg "WAIT" c_WAIT
end K33
namespace K33
open PySem PySem.Spec PyProof.Rows L2 PU
seal EV EO EN EA ET EW SV SVs TGt D8 TCt D9 EI ETs ED EOI EL
variable{P : Lf}{w : Ln}{K : L0}{mg : Str → Option L3}{base : Heap}
abbrev fA:Stmt:=top 40
theorem aU:FnScope ["_law_cell","_law_many","_law_found","_law_number","_law_k"] ["_law_cell","_law_many"] (a7 fA):=fsc
theorem bJ (T:Txt w K mg) (hs:Hs K mg "_law_numbers" fA):@PF (tw w) P w K mg base 1 "_law_numbers" aL:=
 letI:TW:=tw w
 hJ (g:=dG) hs aU fun _ _ _ _ _ _ _ hr=>have hu:=hr.units;(a5 (eY 2 aU.nd (gz aa)) (a5 (az 3 aU.nd (ar Ez (ao 0) a8)) (a5 (dj (aR (qj hu) cB (EV.o (ar cR (ao 0) a8)) a8) (a5 (cC (iR rfl T.n_range (av 1)) (aG 4 aU.nd) (a5 (dm 2 (ar cR (ao 3) a8)) (a9 (az 3 aU.nd (ar Ez (ao 3) a8))))) (a9 (SV.frz 2 (aA (av 2))))) aM) (a5 (az 3 aU.nd (ar cR (ao 3) a8)) (a5 (cC (iR rfl T.n_range (ar eC (ao 1) a8)) (aG 4 aU.nd) (a5 (az 3 aU.nd (ar cR (EV.o (ar zb (EV.o (ar eC (EV.o (ar eC (ao 3) (ao 4))) a8)) a8)) a8)) (a9 (dm 2 (ar cR (EV.o (ar zb (ao 3) a8)) a8))))) (a9 (aA (o8 (qX 2) (dz aI) eQ))))))))
abbrev gX:Stmt:=top 41
theorem aV:FnScope ["_law_cell","_law_letters","_law_some","_law_size","_law_at","_law_names_here","_law_turn","_law_name","_law_k"] ["_law_cell"] (a7 gX):=fsc
theorem gh (T:Txt w K mg) (hs:Hs K mg "_law_names" gX) (bJ:@PF (tw w) P w K mg base 1 "_law_numbers" aL):@PF (tw w) P w K mg base 2 "_law_names" fL:=
 letI:TW:=tw w
 hJ (g:=i7) hs aV fun _ _ _ _ _ _ _ hr=>have hu:=hr.units;(a5 (az 1 aV.nd aQ) (a5 (az 2 aV.nd (ak bJ hr (a0 (av 0) (a0 aI aa)))) (a5 (az 3 aV.nd (ar eC a8 (EV.o (ar cR (EV.o (ae (ixP hu) (ao 2) a8)) a8)))) (a5 (az 4 aV.nd (ar cR (EV.o (ae (ixP hu) (ao 2) a8)) (ao 3))) (a5 (eY 5 aV.nd (gz aa)) (a5 (cC (iR rfl T.n_range aI) (aG 6 aV.nd) (a5 (az 7 aV.nd aQ) (a5 (cC (iR rfl T.n_range (av 3)) (aG 8 aV.nd) (a9 (az 7 aV.nd (ar eC (ao 7) (EV.o (ae (ixP hu) (ao 1) (EV.o (ar cR (EV.o (ar eC (EV.o (ae (ixP hu) (ao 2) (ao 8))) (EV.o (ar zb (EV.o (ar zb a8 (ao 6))) (EV.o (FD cInt rfl T.n_int rfl (EV.o (mD (qj hu) (ao 8) (ao 4))))))))) a8)))))))) (a9 (dm 5 (av 7)))))) (a9 (SV.frz 5 (aA (av 5))))))))))
abbrev fB:Stmt:=top 39
theorem lK:FnScope ["_law_script","_law_k"] ["_law_script","_law_k"] (a7 fB):=fsc
theorem aW (T:Txt w K mg) (hs:Hs K mg "_law_cell_at" fB):@PF (tw w) P w K mg base 1 "_law_cell_at" aB:=
 letI:TW:=tw w
 hJ (g:=dH) hs lK fun _ _ _ _ _ _ _ hr=>have hu:=hr.units;(a5 (dj (aR Ey nW (ao 1) (EV.o (og zK rfl T.n_len rfl (ao 0)))) (a9 (aA (ae (ixP hu) (ao 0) (ao 1)))) aM) (a9 (aA aI)))
abbrev gY:Stmt:=top 42
theorem ay:FnScope ["_law_script","_law_names_here","_law_low","_law_some","_law_more","_law_keys","_law_k","_law_key","_law_wrong","_law_menu","_law_words","_law_room","_law_span","_law_rooms","_law_letters"] ["_law_script"] (a7 gY):=fsc
theorem gi (T:Txt w K mg) (hs:Hs K mg "_law_house" gY) (gh:@PF (tw w) P w K mg base 2 "_law_names" fL) (aW:@PF (tw w) P w K mg base 1 "_law_cell_at" aB) (bJ:@PF (tw w) P w K mg base 1 "_law_numbers" aL):@PF (tw w) P w K mg base 3 "_law_house" fM:=
 letI:TW:=tw w
 hJ (g:=ia) hs ay fun _ _ _ _ _ _ _ hr=>have hu:=hr.units;(a5 (az 1 ay.nd (ak gh hr (a0 (ak aW hr (a0 (av 0) (a0 aI aa))) aa))) (a5 (az 2 ay.nd (ae (ixP hu) (EN.o (gz (a0 aI (a0 aI (a0 aI aa))))) (EV.o (ar cR (EV.o (ak aW hr (a0 (av 0) (a0 aI aa)))) a8)))) (a5 (az 3 ay.nd (ak bJ hr (a0 (ak aW hr (a0 (av 0) (a0 aI aa))) (a0 aI aa)))) (a5 (az 4 ay.nd (ak bJ hr (a0 (ak aW hr (a0 (av 0) (a0 aI aa))) (a0 aI aa)))) (a5 (eY 5 ay.nd (gz aa)) (a5 (cC (oj rfl T.n_enumerate aQ) (jx rfl (bh (aG 6 ay.nd) (bh (aG 7 ay.nd) fX))) (a9 (dj (aR (qj hu) cB (EV.o (ar cR (EV.o (ae (ixP hu) (ao 3) (ao 6))) a8)) a8) (a9 (dm 5 (b8 (a0 (av 7) (a0 (ae (ixP hu) (EV.o (ar eC (EV.o (o8 (ao 1) eQ (dz (av 2)))) (EN.o (gz (a0 aQ aa))))) (EV.o (ar cR (EV.o (ae (ixP hu) (ao 3) (EV.o (ar eC (ao 6) a8)))) (EV.o (ar eC (ao 2) a8))))) aa))))) aM))) (a5 (az 8 ay.nd (b8 (a0 (ar eC a8 (EV.o (ar cR (EV.o (ae (ixP hu) (ao 3) a8)) a8))) (a0 (ae (ixP hu) (ao 1) (EV.o (ar cR (EV.o (ae (ixP hu) (ao 3) a8)) (ao 2)))) aa)))) (a5 (az 9 ay.nd (b8 (a0 aQ (a0 aQ (a0 (FD FW rfl T.n_tuple rfl (qX 5)) (a0 (av 8) (a0 (b8 (a0 (ar eC a8 (EV.o (ar cR (EV.o (ae (ixP hu) (ao 3) a8)) a8))) (a0 (ae (ixP hu) (ao 1) (EV.o (ar cR (EV.o (ae (ixP hu) (ao 3) a8)) (ao 2)))) aa))) aa))))))) (a5 (az 10 ay.nd (x5 (EV.o (b8 (a0 (b8 (a0 aQ (a0 (ae (ixP hu) (ao 1) (EV.o (ar cR (EV.o (ae (ixP hu) (ao 4) a8)) (ao 2)))) aa))) (a0 (b8 (a0 aQ (a0 (ae (ixP hu) (ao 1) (EV.o (ar cR (EV.o (ae (ixP hu) (ao 4) a8)) (ao 2)))) aa))) aa)))) eQ (dz (ar eC a8 (EV.o (ar cR (EV.o (ae (ixP hu) (ao 4) a8)) a8)))))) (a5 (az 8 ay.nd (b8 (a0 (ar eC a8 (EV.o (ar cR (EV.o (ae (ixP hu) (ao 4) a8)) a8))) (a0 (ae (ixP hu) (ao 1) (EV.o (ar cR (EV.o (ae (ixP hu) (ao 4) a8)) (ao 2)))) aa)))) (a5 (az 11 ay.nd (b8 (a0 aQ (a0 aQ (a0 (av 10) (a0 (av 8) (a0 (b8 (a0 aI (a0 (ae (ixP hu) (ao 1) (EV.o (ar cR (EV.o (ae (ixP hu) (ao 4) a8)) (ao 2)))) aa))) aa))))))) (a5 (az 12 ay.nd (b8 (a0 (ar cR (EV.o (ae (ixP hu) (ao 4) a8)) a8) (a0 aI (a0 (ae (ixP hu) (ao 1) (EV.o (ae (ixP hu) (EN.o (gz (a0 aI (a0 aI (a0 aI aa))))) (EV.o (ar cR (EV.o (ae (ixP hu) (ao 4) a8)) a8))))) aa))))) (a5 (dj (aR (qj hu) cB (ao 2) a8) (a9 (az 12 ay.nd (b8 (a0 (ar cR (EV.o (ae (ixP hu) (ao 4) a8)) a8) (a0 aI (a0 (ae (ixP hu) (ao 1) (EV.o (ar cR (EV.o (ae (ixP hu) (ao 4) a8)) a8))) aa)))))) aM) (a5 (eY 13 ay.nd (xa (jt (ae (ixP hu) (ao 1) a8) (av 9) (jt (ae (ixP hu) (ao 1) a8) (av 11) (jt (ae (ixP hu) (ao 1) a8) (b8 (a0 aQ (a0 (b8 (a0 (av 12) aa)) (a0 (ae (ixP hu) (ao 1) (EV.o (ar cR (EV.o (ae (ixP hu) (ao 4) a8)) a8))) aa)))) AR))))) (a5 (lW 13 hu (ae (ixP hu) (ao 1) a8) (b8 (a0 aQ (a0 aQ aa)))) (a5 (lW 13 hu (ae (ixP hu) (ao 1) a8) (b8 (a0 aQ (a0 aQ aa)))) (a5 (az 14 ay.nd (EN.v (gz (a0 (b8 (a0 aQ (a0 aQ aa))) (a0 (b8 (a0 aQ (a0 aQ aa))) (a0 (b8 (a0 aQ (a0 aQ aa))) (a0 (b8 (a0 aQ (a0 aQ aa))) aa))))))) (a9 (SV.frz 13 (aA (EN.v (xa (jt aQ (ae (ixP hu) (ao 1) (EV.o (ar cR (EV.o (ae (ixP hu) (ao 4) a8)) (ao 2)))) (jt aQ (av 14) (jt aQ (av 13) AR)))))))))))))))))))))))))
abbrev cM:Stmt:=top 8
theorem bB:FnScope ["codes","counts","code","size"] ["codes"] (a7 cM):=fsc
theorem cz (T:Txt w K mg) (hs:Hs K mg "beginning_counts" cM):@PF (tw w) P w K mg base 1 "beginning_counts" bq:=
 letI:TW:=tw w
 hJ (g:=cT) hs bB fun _ _ _ _ _ _ _ hr=>have hu:=hr.units;(a5 (eY 1 bB.nd lg) (a5 (cC (cV (av 0)) (aG 2 bB.nd) (a9 (cC (lj rfl T.n_range aI (ar eC (EV.o (og zK rfl T.n_len rfl (ao 2))) a8)) (aG 3 bB.nd) (a9 (lW 1 hu (dZ (ao 2) eQ (dz (av 3))) (ar eC (EV.o (CD (qX 1) (dZ (ao 2) eQ (dz (av 3))) aI)) a8)))))) (a9 (SV.frz 1 (aA (av 1))))))
abbrev mW:Stmt:=top 6
theorem kg:FnScope ["letters","letter","key","held"] ["letters","letter"] (a7 mW):=fsc
theorem kz (T:Txt w K mg) (hs:Hs K mg "key_of" mW):@PF (tw w) P w K mg base 1 "key_of" jX:=
 letI:TW:=tw w
 hJ (g:=jV) hs kg fun _ _ _ _ _ _ _ hr=>have hu:=hr.units;(a5 (cC (cV (av 0)) (jx rfl (bh (aG 2 kg.nd) (bh (aG 3 kg.nd) fX))) (a9 (dj (aR (Jf hu) wu (ao 1) (ao 3)) (a9 (aA (av 2))) aM))) (a9 (aA gT)))
abbrev ku:Stmt:=top 5
theorem jf:FnScope ["letters","word","keys"] ["letters","word"] (a7 ku):=fsc
theorem jk (T:Txt w K mg) (hs:Hs K mg "code_of" ku) (kz:@PF (tw w) P w K mg base 1 "key_of" jX):@PF (tw w) P w K mg base 2 "code_of" gy:=
 letI:TW:=tw w
 hJ (g:=l0) hs jf fun _ _ _ _ _ _ _ hr=>have hu:=hr.units;(a5 (mL false 2 jf.nd (N':=["letter","letters"]) (cok jf) (cV (av 1)) (fun _ _ _ _ _=>(oM 0)) (fun _ _ _ _ _=>(ak kz hr (a0 (av 1) (a0 (av 0) aa))))) (a9 (aA (CB (aR (Jf hu) wu (EV.o gT) (ao 2)) gT (CA E2 EX aQ (ao 2))))))
abbrev dR:Stmt:=top 9
theorem fS:FnScope ["code","counts","size"] ["code","counts"] (a7 dR):=fsc
theorem dC (T:Txt w K mg) (hs:Hs K mg "own_beginning" dR):@PF (tw w) P w K mg base 1 "own_beginning" cU:=
 letI:TW:=tw w
 hJ (g:=cS) hs fS fun _ _ _ _ _ _ _ hr=>have hu:=hr.units;(a5 (cC (lj rfl T.n_range aI (og zK rfl T.n_len rfl (ao 0))) (aG 2 fS.nd) (a9 (dj (aR (qj hu) cB (EV.o (ae (ixP hu) (ao 1) (EV.o (dZ (ao 0) eQ (dz (av 2)))))) a8) (a9 (aA (dZ (ao 0) eQ (dz (av 2))))) aM))) (a9 (aA (av 0))))
abbrev gc:Stmt:=top 7
theorem cJ:FnScope ["letters","words","codes","counts"] ["letters","words"] (a7 gc):=fsc
theorem fF (T:Txt w K mg) (hs:Hs K mg "beginnings" gc) (jk:@PF (tw w) P w K mg base 2 "code_of" gy) (cz:@PF (tw w) P w K mg base 1 "beginning_counts" bq) (dC:@PF (tw w) P w K mg base 1 "own_beginning" cU):@PF (tw w) P w K mg base 3 "beginnings" dv:=
 letI:TW:=tw w
 hJ (g:=gw) hs cJ fun _ _ _ _ _ _ _ hr=>have hu:=hr.units;(a5 (mL false 2 cJ.nd (N':=["word","letters"]) (cok cJ) (cV (av 1)) (fun _ _ _ _ _=>(oM 0)) (fun _ _ _ _ _=>(ar eC (EV.o (ak jk hr (a0 (av 1) (a0 (av 0) aa)))) (EV.o (mC rfl T.c_CODE_END))))) (a5 (az 3 cJ.nd (ak cz hr (a0 (av 2) aa))) (a9 (aA (EN.v (jr (N':=["word","code","counts"]) (cok cJ) (xc rfl T.n_zip (av 1) (av 2)) (fun _ _ _ _ _=>(lV rfl (cn (oM 0) (cn (oM 1) jd)))) (fun _ _ _ _ _=>(b8 (a0 (av 0) (a0 (ak dC hr (a0 (av 1) (a0 (av 2) aa))) aa))))))))))
abbrev g8:Stmt:=top 17
theorem cI:FnScope ["letters","names","ways","word","beginning","size"] ["letters","names"] (a7 g8):=fsc
theorem fD (T:Txt w K mg) (hs:Hs K mg "names_ways" g8) (fF:@PF (tw w) P w K mg base 3 "beginnings" dv):@PF (tw w) P w K mg base 4 "names_ways" eL:=
 letI:TW:=tw w
 hJ (g:=gs) hs cI fun _ _ _ _ _ _ _ hr=>have hu:=hr.units;(a5 (eY 2 cI.nd lg) (a5 (cC (cV (ak fF hr (a0 (av 0) (a0 (EN.v (ud FX rfl T.n_list rfl (ao 1))) aa)))) (jx rfl (bh (aG 3 cI.nd) (bh (aG 4 cI.nd) fX))) (a5 (cC (lj rfl T.n_range aI (og zK rfl T.n_len rfl (ao 4))) (aG 5 cI.nd) (a9 (lW 2 hu (dZ (ao 4) eQ (dz (av 5))) gT))) (a9 (lW 2 hu (av 4) (ae (ixP hu) (ao 1) (ao 3)))))) (a9 (SV.frz 2 (aA (av 2))))))
abbrev gW:Stmt:=top 16
theorem jy:FnScope ["H","name","room"] ["H","name"] (a7 gW):=fsc
theorem gg (T:Txt w K mg) (hs:Hs K mg "room_ways" gW) (fD:@PF (tw w) P w K mg base 4 "names_ways" eL):@PF (tw w) P w K mg base 5 "room_ways" aC:=
 letI:TW:=tw w
 hJ (g:=d6) hs jy fun _ _ _ _ _ _ _ hr=>have hu:=hr.units;(a5 (az 2 jy.nd (ae (ixP hu) (EV.o (ae (ixP hu) (ao 0) cE)) (ao 1))) (a5 (dj (aR (qj hu) cB (EV.o (ae (ixP hu) (ao 2) a8)) cE) (a9 (aA (EN.v (ud AY rfl T.n_dict rfl (EV.o (ae (ixP hu) (ao 2) a8)))))) aM) (a5 (dj (aR (qj hu) cB (EV.o (ae (ixP hu) (ao 2) a8)) cE) (a9 (aA (ak fD hr (a0 (ae (ixP hu) (ao 0) cE) (a0 (EN.v (ud AY rfl T.n_dict rfl (EV.o (ae (ixP hu) (ao 2) a8)))) aa))))) aM) (a9 (aA (EN.v lg))))))
abbrev g9:Stmt:=top 15
theorem fw:FnScope ["H","ways","name"] ["H"] (a7 g9):=fsc
theorem bC (T:Txt w K mg) (hs:Hs K mg "house_ways" g9) (gg:@PF (tw w) P w K mg base 5 "room_ways" aC):@PF (tw w) P w K mg base 6 "house_ways" aX:=
 letI:TW:=tw w
 hJ (g:=gu) hs fw fun _ _ _ _ _ _ _ hr=>have hu:=hr.units;(a5 (eY 1 fw.nd lg) (a5 (cC (cV (ae (ixP hu) (ao 0) cE)) (aG 2 fw.nd) (a9 (lW 1 hu (av 2) (ak gg hr (a0 (av 0) (a0 (av 2) aa)))))) (a9 (SV.frz 1 (aA (av 1))))))
abbrev mY:Stmt:=top 1
theorem iz:FnScope ["room","hour","since","till","name"] ["room","hour"] (a7 mY):=fsc
theorem kA (T:Txt w K mg) (hs:Hs K mg "handed" mY):@PF (tw w) P w K mg base 1 "handed" jY:=
 letI:TW:=tw w
 hJ (g:=jW) hs iz fun _ _ _ _ _ _ _ hr=>have hu:=hr.units;(a5 (cC (cV (ae (ixP hu) (ao 0) a8)) (jx rfl (bh (aG 2 iz.nd) (bh (aG 3 iz.nd) (bh (aG 4 iz.nd) fX)))) (a9 (dj (zx K7 Ey Cq nW (ao 2) (ao 1) (ao 3)) (a9 (aA (av 4))) aM))) (a9 (aA (ae (ixP hu) (ao 0) a8))))
abbrev ko:Stmt:=top 2
theorem je:FnScope ["H","hour","name","come"] ["H","hour","name"] (a7 ko):=fsc
theorem jj (T:Txt w K mg) (hs:Hs K mg "come_to" ko) (kA:@PF (tw w) P w K mg base 1 "handed" jY):@PF (tw w) P w K mg base 2 "come_to" iP:=
 letI:TW:=tw w
 hJ (g:=kZ) hs je fun _ _ _ _ _ _ _ hr=>have hu:=hr.units;(a5 (az 3 je.nd (av 2)) (a5 (mK 300 (aR (qj hu) cB (EV.o (ae (ixP hu) (EV.o (ae (ixP hu) (EV.o (ae (ixP hu) (ao 0) cE)) (ao 3))) a8)) cE) (a9 (az 3 je.nd (ak kA hr (a0 (ae (ixP hu) (EV.o (ae (ixP hu) (ao 0) cE)) (ao 3)) (a0 (av 1) aa)))))) (a9 (aA (av 3)))))
abbrev ky:Stmt:=top 14
theorem tE:FnScope ["H","hour","name","back"] ["H","hour","name","back"] (a7 ky):=fsc
theorem bT (T:Txt w K mg) (hs:Hs K mg "arrival" ky) (jj:@PF (tw w) P w K mg base 2 "come_to" iP):@PF (tw w) P w K mg base 3 "arrival" bG:=
 letI:TW:=tw w
 hJ (g:=l6) hs tE fun _ _ _ _ _ _ _ hr=>have hu:=hr.units;(a9 (aA (b8 (a0 (ak jj hr (a0 (av 0) (a0 (av 1) (a0 (av 2) aa)))) (a0 (av 3) (a0 aI (a0 aI (a0 aQ aa))))))))
abbrev eR:Stmt:=top 20
theorem dQ:FnScope ["H","hour","state","bound","wrong"] ["H","hour","state"] (a7 eR):=fsc
theorem cO (T:Txt w K mg) (hs:Hs K mg "by_wrong_key" eR) (bT:@PF (tw w) P w K mg base 3 "arrival" bG):@PF (tw w) P w K mg base 4 "by_wrong_key" bt:=
 letI:TW:=tw w
 hJ (g:=d8) hs dQ fun _ _ _ _ _ _ _ hr=>have hu:=hr.units;(a5 (az 3 dQ.nd (ae (ixP hu) (EV.o (ae (ixP hu) (EV.o (ae (ixP hu) (ao 0) cE)) (EV.o (ae (ixP hu) (ao 2) a8)))) a8)) (a5 (az 4 dQ.nd (ar eC (EV.o (ae (ixP hu) (ao 2) a8)) a8)) (a5 (dj (aR (qj hu) cB (ao 4) (EV.o (ae (ixP hu) (ao 3) a8))) (a9 (aA (ak bT hr (a0 (av 0) (a0 (av 1) (a0 (ae (ixP hu) (ao 3) a8) (a0 (ae (ixP hu) (ao 2) a8) aa))))))) aM) (a9 (aA (b8 (a0 (ae (ixP hu) (ao 2) a8) (a0 (ae (ixP hu) (ao 2) a8) (a0 (av 4) (a0 (ae (ixP hu) (ao 2) a8) (a0 aQ aa)))))))))))
abbrev n9:Stmt:=top 19
theorem kh:FnScope ["H","hour","ways","state","key","typed","target"] ["H","hour","ways","state","key"] (a7 n9):=fsc
theorem kC (T:Txt w K mg) (hs:Hs K mg "by_key" n9) (cO:@PF (tw w) P w K mg base 4 "by_wrong_key" bt) (bT:@PF (tw w) P w K mg base 3 "arrival" bG):@PF (tw w) P w K mg base 5 "by_key" dJ:=
 letI:TW:=tw w
 hJ (g:=fJ) hs kh fun _ _ _ _ _ _ _ hr=>have hu:=hr.units;(a5 (az 5 kh.nd (ar eC (EV.o (ae (ixP hu) (ao 3) a8)) (ao 4))) (a5 (dj (aR (vE hu) mx (ao 5) (ao 2)) (a9 (aA (ak cO hr (a0 (av 0) (a0 (av 1) (a0 (av 3) aa)))))) aM) (a5 (az 6 kh.nd (CB (aR (qj hu) cB (EV.o (ae (ixP hu) (ao 2) (ao 5))) cE) (ae (ixP hu) (ao 3) a8) (ae (ixP hu) (ao 2) (ao 5)))) (a5 (dj (aR BV nX (ao 6) (EV.o gT)) (a9 (aA (b8 (a0 (ae (ixP hu) (ao 3) a8) (a0 (ae (ixP hu) (ao 3) a8) (a0 (ae (ixP hu) (ao 3) a8) (a0 (ae (ixP hu) (ao 3) a8) (a0 (av 5) aa)))))))) aM) (a5 (dj (aR (qj hu) cB (ao 6) cE) (a9 (aA (ak cO hr (a0 (av 0) (a0 (av 1) (a0 (av 3) aa)))))) aM) (a9 (aA (ak bT hr (a0 (av 0) (a0 (av 1) (a0 (av 6) (a0 (ae (ixP hu) (ao 3) a8) aa))))))))))))
abbrev kx:Stmt:=top 21
theorem jg:FnScope ["H","hour","state","bound","waits"] ["H","hour","state"] (a7 kx):=fsc
theorem jl (T:Txt w K mg) (hs:Hs K mg "by_wait" kx) (bT:@PF (tw w) P w K mg base 3 "arrival" bG):@PF (tw w) P w K mg base 4 "by_wait" iQ:=
 letI:TW:=tw w
 hJ (g:=iM) hs jg fun _ _ _ _ _ _ _ hr=>have hu:=hr.units;(a5 (az 3 jg.nd (ae (ixP hu) (EV.o (ae (ixP hu) (EV.o (ae (ixP hu) (ao 0) cE)) (EV.o (ae (ixP hu) (ao 2) a8)))) a8)) (a5 (az 4 jg.nd (ar eC (EV.o (ae (ixP hu) (ao 2) a8)) a8)) (a5 (dj (aR (qj hu) cB (ao 4) (EV.o (ae (ixP hu) (ao 3) a8))) (a9 (aA (ak bT hr (a0 (av 0) (a0 (av 1) (a0 (ae (ixP hu) (ao 3) a8) (a0 (ae (ixP hu) (ao 2) a8) aa))))))) aM) (a9 (aA (b8 (a0 (ae (ixP hu) (ao 2) a8) (a0 (ae (ixP hu) (ao 2) a8) (a0 (ae (ixP hu) (ao 2) a8) (a0 (av 4) (a0 aQ aa)))))))))))
abbrev mZ:Stmt:=top 18
theorem oT:FnScope ["H","hour","ways","state","sign","kind"] ["H","hour","ways","state","sign"] (a7 mZ):=fsc
theorem cN (T:Txt w K mg) (hs:Hs K mg "follow" mZ) (jl:@PF (tw w) P w K mg base 4 "by_wait" iQ) (kC:@PF (tw w) P w K mg base 5 "by_key" dJ):@PF (tw w) P w K mg base 6 "follow" bW:=
 letI:TW:=tw w
 hJ (g:=eK) hs oT fun _ _ _ _ _ _ _ hr=>have hu:=hr.units;(a5 (az 5 oT.nd (ae (ixP hu) (EV.o (ae (ixP hu) (EV.o (ae (ixP hu) (ao 0) cE)) (EV.o (ae (ixP hu) (ao 3) a8)))) a8)) (a5 (dj (EW.et (zw (aR (qj hu) cB (ao 5) cE) (wZ (aR (qj hu) cB (ao 5) cE)))) (a9 (aA (av 3))) aM) (a5 (dj (aR (qj hu) cB (ao 4) (EV.o (mC rfl T.c_WAIT))) (a9 (aA (ak jl hr (a0 (av 0) (a0 (av 1) (a0 (av 3) aa)))))) aM) (a9 (aA (ak kC hr (a0 (av 0) (a0 (av 1) (a0 (av 2) (a0 (av 3) (a0 (av 4) aa)))))))))))
abbrev ki:Stmt:=top 23
theorem gD:FnScope ["H","hour","state","row","ways","states","sign"] ["H","hour","state","row"] (a7 ki):=fsc
theorem ji (T:Txt w K mg) (hs:Hs K mg "walk_on" ki) (bC:@PF (tw w) P w K mg base 6 "house_ways" aX) (cN:@PF (tw w) P w K mg base 6 "follow" bW):@PFN (tw w) P w K mg base 7 "walk_on" iO:=
 letI:TW:=tw w
 Aq (g:=kW) hs gD fun _ _ _ _ _ _ _ hr=>have hu:=hr.units;(eE (fZ _ _) (az 4 gD.nd (ak bC hr (a0 (av 0) aa))) (eE (kE _ _) (eY 5 gD.nd (gz (a0 (av 2) aa))) (eE (pT (qg _ _)) (cC (cV (av 3)) (aG 6 gD.nd) (a9 (dm 5 (ak cN hr (a0 (av 0) (a0 (av 1) (a0 (ae (ixP hu) (ao 4) (EV.o (ae (ixP hu) (EV.o (ae (ixP hu) (qX 5) (EV.o (sO aI)))) a8))) (a0 (ae (ixP hu) (qX 5) (EV.o (sO aI))) (a0 (av 6) aa))))))))) (rB 5))))
abbrev qv:Stmt:=top 13
theorem yC:FnScope ["H","hour"] ["H","hour"] (a7 qv):=fsc
theorem iB (T:Txt w K mg) (hs:Hs K mg "begin" qv) (bT:@PF (tw w) P w K mg base 3 "arrival" bG):@PF (tw w) P w K mg base 4 "begin" dD:=
 letI:TW:=tw w
 hJ (g:=qQ) hs yC fun _ _ _ _ _ _ _ hr=>have hu:=hr.units;(a9 (aA (ak bT hr (a0 (av 0) (a0 (av 1) (a0 (ae (ixP hu) (ao 0) cE) (a0 aQ aa)))))))
abbrev uZ:Stmt:=top 22
theorem Bq:FnScope ["H","hour","row"] ["H","hour","row"] (a7 uZ):=fsc
theorem qz (T:Txt w K mg) (hs:Hs K mg "walk" uZ) (ji:@PFN (tw w) P w K mg base 7 "walk_on" iO) (iB:@PF (tw w) P w K mg base 4 "begin" dD):@PFN (tw w) P w K mg base 8 "walk" sJ:=
 letI:TW:=tw w
 Hr hs Bq rfl fun _ _ _ _ _ _ _ hr=>have hu:=hr.units;(ie ji hr (a0 (av 0) (a0 (av 1) (a0 (ak iB hr (a0 (av 0) (a0 (av 1) aa))) (a0 (av 2) aa)))))
theorem nV (T:Txt w K mg) (cN:@PF (tw w) P w K mg base 6 "follow" bW):@LamB (tw w) P w K mg base 6 bA ["state","sign"] gH:=
 letI:TW:=tw w
 ⟨.of rfl rfl rfl (by decide +kernel) (by decide +kernel) (by decide +kernel) (by decide +kernel) (by decide +kernel),fun _ _ _ _ us h=>match us,h with | [_,_],_=>rfl,fun f c cl A outer s H hr=>by
  have hu:=hr.units;exact(ak cN hr (a0 (av 4) (a0 (av 3) (a0 (ae (ixP hu) (ao 2) (EV.o (ae (ixP hu) (ao 0) a8))) (a0 (av 0) (a0 (av 1) aa))))))⟩
theorem nU (T:Txt w K mg):@LamB (tw w) P w K mg base 6 bg ["state"] mE:=
 letI:TW:=tw w
 ⟨.of rfl rfl rfl (by decide +kernel) (by decide +kernel) (by decide +kernel) (by decide +kernel) (by decide +kernel),fun _ _ _ _ us h=>match us,h with | [_],_=>rfl,fun f c cl A outer s H hr=>by
  have hu:=hr.units;exact oe⟩
theorem Ka (T:Txt w K mg) (cN:@PF (tw w) P w K mg base 6 "follow" bW):@IE (tw w) P w K mg base 6 appL:=by
 letI:TW:=tw w
 intro L qs cs p e;unfold appL at e;split at e
 ·rename_i hL;subst hL;obtain⟨h1,h2⟩:=vX e;exact⟨_,_,nV T cN,h1,h2⟩
 split at e
 ·rename_i hL;subst hL;obtain⟨h1,h2⟩:=vX e;exact⟨_,_,nU T,h1,h2⟩
 cases e
abbrev gb:Stmt:=top 29
theorem bp:FnScope ["start","lead","is_last","known","found","done","near","sign","thing"] ["start","lead","is_last"] (a7 gb):=fsc
theorem fE (T:Txt w K mg) (hs:Hs K mg "first_rows" gb) (LT:@IE (tw w) P w K mg base 6 appL):@PFN (tw w) P w K mg base 8 "first_rows" dq:=
 letI:TW:=tw w
 Aq (g:=gv) hs bp fun _ _ _ _ _ _ _ hr=>have hu:=hr.units;(eE (kE _ _) (eY 3 bp.nd (zC hu (av 0) oe)) (eE (kE _ _) (eY 4 bp.nd (gz (a0 (b8 (a0 (av 0) (a0 aQ aa))) aa))) (eE (fZ _ _) (az 5 bp.nd aI) (eE (ye (g7 (fZ _ _) (g7 (xI _ _) (pT (g7 (fZ _ _) (sA (g7 (tJ _ _ _) (g7 (qg _ _) (sA xD m9))) m9)))))) (mK 20000 (EW.et (sN (aR Ey nW (ao 5) (EV.o (og zK rfl T.n_len rfl (qX 4)))) (qV (FF (fN (EV.o (o9 2 LT hr (a0 (ae (ixP hu) (EV.o (ae (ixP hu) (qX 4) (EV.o (sO aI)))) a8) aa)))))))) (a5 (az 6 bp.nd (ae (ixP hu) (qX 4) (ao 5))) (a5 (Ad 5 bp.nd aI) (a9 (cC (cV (mC rfl T.c_SIGNS)) (aG 7 bp.nd) (a5 (az 8 bp.nd (o9 1 LT hr (a0 (ae (ixP hu) (ao 6) a8) (a0 (av 7) aa)))) (a9 (dj (aR (rT hu) kM (ao 8) (qX 3)) (a5 (uS 3 hu (av 8) oe) (a5 (dm 4 (b8 (a0 (av 8) (a0 (ar eC (EV.o (ae (ixP hu) (ao 6) a8)) (ao 7)) aa)))) (a9 (dj (fN (EV.o (o9 2 LT hr (a0 (av 8) aa)))) (a9 yy) aM)))) aM)))))))) (rB 4)))))
abbrev eI:Stmt:=top 30
theorem oR:FnScope ["H","hour","ways"] ["H","hour"] (a7 eI):=fsc
theorem qU:∀y∈bA.scope.names,y.2=.free->(a7 eI).names.lookup y.1=some .cell:=by decide +kernel
theorem qT:∀y∈bg.scope.names,y.2=.free->(a7 eI).names.lookup y.1=some .cell:=by decide +kernel
theorem c9 {f:Addr} {fd:Mw} (T:Txt w K mg) (F:Fun K "places" "places" eI f fd) (hm:mg "places"=some (.ref f)) (hb:Binds K fd ["H","hour"] []) {cP:Addr} (hcode:fd.code=.ref cP) (hhd:PD K cP PT=true) (hKb:K.In base) (hbn:∃bm o,mg "__builtins__"=some (.ref bm)/\bm≠MZ/\bm≠mainGlobals/\base.get? bm=some o/\o.cls=.type "module"/\o.dict=some MZ/\o.data=.plain) (bC:@PF (tw w) P w K mg base 6 "house_ways" aX) (fE:@PFN (tw w) P w K mg base 8 "first_rows" dq) (iB:@PF (tw w) P w K mg base 4 "begin" dD):@PFN (tw w) P w K mg base 9 "places" bV:=
 letI:TW:=tw w
 yU F oR hm hb (g:=o4) (hr:=(zA _ _ _ (zB _))) fun cdv hcdv A outer s H E hr=>by
  have hu:=hr.units;exact(eE (fZ _ _) (az 2 oR.nd (ak bC hr (a0 (av 0) aa))) (Bl (zD fE hr (FK (ak iB hr (a0 (av 0) (a0 (av 1) aa))) (AQ (L:=bA) (idx:=[2,1,0]) (lp:=Az ⟨0,0,0,0⟩ lP) (c:=cP) (P:=PT) ⟨rfl,rfl,hcdv.trans hcode,Q1 hKb hhd,LH.mpr rfl,hbn,rfl,qU,rfl,by decide +kernel,rfl⟩ (AQ (L:=bg) (idx:=[]) (lp:=Az ⟨0,0,0,0⟩ lO) (c:=cP) (P:=PT) ⟨rfl,rfl,hcdv.trans hcode,Q1 hKb hhd,LH.mpr rfl,hbn,rfl,qT,rfl,by decide +kernel,rfl⟩ FL))))))
abbrev qu:Stmt:=top 24
theorem rF:FnScope ["H","state","room"] ["H","state"] (a7 qu):=fsc
theorem iA (T:Txt w K mg) (hs:Hs K mg "heard" qu):@PF (tw w) P w K mg base 1 "heard" gx:=
 letI:TW:=tw w
 hJ (g:=jq) hs rF fun _ _ _ _ _ _ _ hr=>have hu:=hr.units;(a5 (az 2 rF.nd (ae (ixP hu) (EV.o (ae (ixP hu) (ao 0) cE)) (EV.o (ae (ixP hu) (ao 1) a8)))) (a9 (aA (b8 (a0 (ae (ixP hu) (EV.o (mC rfl T.c_HEARD)) (EV.o (ae (ixP hu) (ao 2) a8))) (a0 (ae (ixP hu) (ao 2) a8) aa))))))
abbrev mX:Stmt:=top 32
theorem uY:FnScope ["H","state"] ["H","state"] (a7 mX):=fsc
theorem gk (T:Txt w K mg) (hs:Hs K mg "is_out" mX) (iA:@PF (tw w) P w K mg base 1 "heard" gx):@PF (tw w) P w K mg base 2 "is_out" gG:=
 letI:TW:=tw w
 hJ (g:=o5) hs uY fun _ _ _ _ _ _ _ hr=>have hu:=hr.units;(a9 (aA (mD (GC hu) (EV.o (ae (ixP hu) (EV.o (ak iA hr (a0 (av 0) (a0 (av 1) aa)))) a8)) cE)))
abbrev v8:Stmt:=top 37
theorem mU:FnScope ["H","hour","rows","state","row"] ["H","hour"] (a7 v8):=fsc
theorem qB (T:Txt w K mg) (hs:Hs K mg "ends" v8) (c9:@PFN (tw w) P w K mg base 9 "places" bV) (gk:@PF (tw w) P w K mg base 2 "is_out" gG):@PF (tw w) P w K mg base 10 "ends" sM:=
 letI:TW:=tw w
 hJ (g:=wH) hs mU fun _ _ _ _ _ _ _ hr=>have hu:=hr.units;(a5 (eY 2 mU.nd lg) (a5 (cC (cV (EN.v (ie c9 hr (a0 (av 0) (a0 (av 1) aa))))) (jx rfl (bh (aG 3 mU.nd) (bh (aG 4 mU.nd) fX))) (a9 (dj (fN (EV.o (ak gk hr (a0 (av 0) (a0 (av 3) aa))))) (a9 (Bm 2 (ae (ixP hu) (ao 3) a8) (av 4))) aM))) (a9 (aA (EN.v (x9 rfl T.n_list (qX 2)))))))
abbrev cL:Stmt:=top 35
theorem cq:FnScope ["nexts","behind","number","following","place"] ["nexts"] (a7 cL):=fsc
theorem dB (T:Txt w K mg) (hs:Hs K mg "places_behind" cL):@PF (tw w) P w K mg base 1 "places_behind" bO:=
 letI:TW:=tw w
 hJ (g:=gr) hs cq fun _ _ _ _ _ _ _ hr=>by
  have hu:=hr.units;refine tj (nt:=1) (idx:=[]) (h:=af 0) ?_ (fun p=>⟨[.val p],fun ρ=>rfl⟩) ?_ ?_
  ·refine yQ 1 cq.nd rfl (.inl rfl) (N':=["following"]) (show CompOk ["nexts","behind","number","following","place"] (a7 cL) _ ["following"] 1 [] from ⟨rfl,by decide +kernel,by decide +kernel,by decide +kernel,rfl,by decide +kernel⟩) rfl (cV (av 0)) ?_ (jU (by decide))
   intro _ _ _ _ _;exact uR 0 (show Sn (["following"]:List Str) from by decide +kernel) rfl (.inl rfl)
  ·refine Ef PK rfl rfl T.n_enumerate cq.nd rfl rfl rfl (.inl rfl) (.inl rfl) (.inl rfl) (by first | exact Ow rfl | exact Ov rfl) (by first | exact Ow rfl | exact Ov rfl) (by decide) (by decide) (bj rfl) (fun _=>rfl) rfl rfl rfl rfl ?_
   exact Ed PK rfl rfl cq.nd rfl rfl rfl rfl (.inl rfl) (.inl rfl) (.inl rfl) (.inl rfl) (.inl rfl) (by first | exact Ow rfl | exact Ov rfl) (by decide) (by decide) (by decide) (by decide) (by decide) (by decide) (by decide) (by decide) rfl rfl (bj rfl) (fun _ _=>rfl) (fun _=>rfl) rfl
  ·exact BE rfl (.inl rfl) (by decide) (by decide)
abbrev fz:Stmt:=top 31
theorem aK:FnScope ["H","hour","found","ways","numbers","number","place","nexts","state","row"] ["H","hour","found"] (a7 fz):=fsc
theorem eS (T:Txt w K mg) (hs:Hs K mg "next_places" fz) (bC:@PF (tw w) P w K mg base 6 "house_ways" aX) (cN:@PF (tw w) P w K mg base 6 "follow" bW):@PF (tw w) P w K mg base 7 "next_places" dI:=
 letI:TW:=tw w
 hJ (g:=fI) hs aK fun _ _ _ _ _ _ _ hr=>have hu:=hr.units;(a5 (az 3 aK.nd (ak bC hr (a0 (av 0) aa))) (a5 (eY 4 aK.nd CK) (a5 (cC (oj rfl T.n_enumerate (av 2)) (jx rfl (bh (aG 5 aK.nd) (bh (aG 6 aK.nd) fX))) (a9 (uS 4 hu (ae (ixP hu) (ao 6) a8) (av 5)))) (a5 (eY 7 aK.nd (gz aa)) (a5 (cC (cV (av 2)) (jx rfl (bh (aG 8 aK.nd) (bh (aG 9 aK.nd) fX))) (a9 (SV.frz 4 (dm 7 (EN.v (jr (N':=["sign","numbers","H","hour","state","ways"]) (cok aK) (cV (mC rfl T.c_SIGNS)) (fun _ _ _ _ _=>(oM 0)) (fun _ _ _ _ _=>(ae (ixT hu) (ao 1) (EV.o (ak cN hr (a0 (av 2) (a0 (av 3) (a0 (ae (ixP hu) (ao 5) (EV.o (ae (ixP hu) (ao 4) a8))) (a0 (av 4) (a0 (av 0) aa))))))))))))))) (a9 (SV.frz 7 (aA (av 7)))))))))
abbrev kj:Stmt:=top 34
theorem bH:FnScope ["H","hour","found","counts","behind","reached","done","near","number"] ["H","hour","found"] (a7 kj):=fsc
theorem eZ (T:Txt w K mg) (hs:Hs K mg "outs_of" kj) (gk:@PF (tw w) P w K mg base 2 "is_out" gG) (dB:@PF (tw w) P w K mg base 1 "places_behind" bO) (eS:@PF (tw w) P w K mg base 7 "next_places" dI):@PF (tw w) P w K mg base 8 "outs_of" dY:=
 letI:TW:=tw w
 hJ (g:=kX) hs bH fun _ _ _ _ _ _ _ hr=>have hu:=hr.units;(a5 (mL true 3 bH.nd (N':=["state","row","H"]) (cok bH) (cV (av 2)) (fun _ _ _ _ _=>(lV rfl (cn (oM 0) (cn (oM 1) jd)))) (fun _ _ _ _ _=>(CB (fN (EV.o (ak gk hr (a0 (av 2) (a0 (av 0) aa))))) aI gT))) (a5 (az 4 bH.nd (ak dB hr (a0 (ak eS hr (a0 (av 0) (a0 (av 1) (a0 (av 2) aa)))) aa))) (a5 (yx 5 bH.nd (N':=["number","count"]) (cok bH) (CL rfl T.n_enumerate (qX 3)) (fun _ _ _ _ _=>(lV rfl (cn (oM 0) (cn (oM 1) jd)))) (fun _ _ _ _ _=>(av 0)) (ht:=fun _ _ _ _ _=>(x6 (aR (qj hu) cB (ao 1) a8)))) (a5 (az 6 bH.nd aI) (a5 (mK 20000 (aR Ey nW (ao 6) (EV.o (og zK rfl T.n_len rfl (qX 5)))) (a5 (az 7 bH.nd (ae (ixP hu) (qX 5) (ao 6))) (a5 (Ad 6 bH.nd aI) (a9 (cC (cV (ae (ixP hu) (ao 4) (ao 7))) (aG 8 bH.nd) (a9 (dj (aR BV nX (EV.o (ae (ixP hu) (qX 3) (ao 8))) (EV.o gT)) (a5 (Bn 3 (av 8) (ar eC (EV.o (ae (ixP hu) (qX 3) (ao 7))) a8)) (a9 (dm 5 (av 8)))) aM))))))) (a9 (SV.frz 3 (aA (av 3)))))))))
abbrev qt:Stmt:=top 36
theorem mS:FnScope ["H","hour","found"] ["H","hour"] (a7 qt):=fsc
theorem nA (T:Txt w K mg) (hs:Hs K mg "traps" qt) (c9:@PFN (tw w) P w K mg base 9 "places" bV) (eZ:@PF (tw w) P w K mg base 8 "outs_of" dY):@PF (tw w) P w K mg base 10 "traps" o7:=
 letI:TW:=tw w
 hJ (g:=qP) hs mS fun _ _ _ _ _ _ _ hr=>have hu:=hr.units;(a5 (az 2 mS.nd (EN.v (ie c9 hr (a0 (av 0) (a0 (av 1) aa))))) (a9 (aA (EN.v (jr (N':=["place","count"]) (cok mS) (xc rfl T.n_zip (av 2) (ak eZ hr (a0 (av 0) (a0 (av 1) (a0 (av 2) aa))))) (fun _ _ _ _ _=>(lV rfl (cn (oM 0) (cn (oM 1) jd)))) (fun _ _ _ _ _=>(av 0)) (ht:=fun _ _ _ _ _=>(x6 (aR BV nX (ao 1) (EV.o gT)))))))))
abbrev v5:Stmt:=top 28
theorem uX:FnScope ["row"] ["row"] (a7 v5):=fsc
theorem nB (T:Txt w K mg) (hs:Hs K mg "rank" v5):@PF (tw w) P w K mg base 1 "rank" pY:=
 letI:TW:=tw w
 hJ (g:=wF) hs uX fun _ _ _ _ _ _ _ hr=>have hu:=hr.units;(a9 (aA (b8 (a0 (og zK rfl T.n_len rfl (ao 0)) (a0 (EN.v (jr (N':=["sign"]) (cok uX) (cV (av 0)) (fun _ _ _ _ _=>(oM 0)) (fun _ _ _ _ _=>(CA E4 EY (mC rfl T.c_SIGNS) (ao 0))))) aa)))))
abbrev km:Stmt:=top 27
theorem tD:FnScope ["one","other"] ["one","other"] (a7 km):=fsc
theorem gE (T:Txt w K mg) (hs:Hs K mg "earlier" km) (nB:@PF (tw w) P w K mg base 1 "rank" pY):@PF (tw w) P w K mg base 2 "earlier" du:=
 letI:TW:=tw w
 hJ (g:=kY) hs tD fun _ _ _ _ _ _ _ hr=>have hu:=hr.units;(a9 (aA (mD (HD hu) (EV.o (ak nB hr (a0 (av 0) aa))) (EV.o (ak nB hr (a0 (av 1) aa))))))
abbrev gZ:Stmt:=top 43
theorem oS:FnScope ["_law_before","_law_after"] ["_law_before","_law_after"] (a7 gZ):=fsc
theorem gj (T:Txt w K mg) (hs:Hs K mg "_law_falls" gZ):@PF (tw w) P w K mg base 1 "_law_falls" d7:=
 letI:TW:=tw w
 hJ (g:=dW) hs oS fun _ _ _ _ _ _ _ hr=>have hu:=hr.units;(a9 (aA (AM (mD Au (ao 0) (EV.o gT)) (AM (mD Au (ao 1) (EV.o gT)) (FE (mD Ey (ao 1) (EV.o (ar BU (ao 0) a8))))))))
abbrev v7:Stmt:=top 33
theorem Br:FnScope ["H","hour"] ["H","hour"] (a7 v7):=fsc
theorem qA (T:Txt w K mg) (hs:Hs K mg "outs" v7) (eZ:@PF (tw w) P w K mg base 8 "outs_of" dY) (c9:@PFN (tw w) P w K mg base 9 "places" bV):@PF (tw w) P w K mg base 10 "outs" sL:=
 letI:TW:=tw w
 hJ (g:=wG) hs Br fun _ _ _ _ _ _ _ hr=>have hu:=hr.units;(a9 (aA (ak eZ hr (a0 (av 0) (a0 (av 1) (a0 (EN.v (ie c9 hr (a0 (av 0) (a0 (av 1) aa)))) aa))))))
abbrev mV:Stmt:=top 44
theorem eG:FnScope ["_law_script","_law_house_here","_law_hour","_law_row","_law_told","_law_fars","_law_stuck","_law_met","_law_states","_law_k","_law_state"] ["_law_script"] (a7 mV):=fsc
theorem EB {f:Addr} {fd:Mw} (T:Txt w K mg) (F:Fun K "law" "law" mV f fd) (gi:@PF (tw w) P w K mg base 3 "_law_house" fM) (aW:@PF (tw w) P w K mg base 1 "_law_cell_at" aB) (c9:@PFN (tw w) P w K mg base 9 "places" bV) (qA:@PF (tw w) P w K mg base 10 "outs" sL) (nA:@PF (tw w) P w K mg base 10 "traps" o7) (qB:@PF (tw w) P w K mg base 10 "ends" sM) (qz:@PFN (tw w) P w K mg base 8 "walk" sJ) (gE:@PF (tw w) P w K mg base 2 "earlier" du) (gj:@PF (tw w) P w K mg base 1 "_law_falls" d7) (iA:@PF (tw w) P w K mg base 1 "heard" gx):FnOk P w K mg base CX0 11 f fd ["_law_script"] (@spP (tw w) K 1 wY):=
 letI:TW:=(tw w)
 have main:FnOk P w K mg base CX0 (10+1) f fd ["_law_script"] (spP K 1 (dF 1 11 zr)):=by
  refine HH (N:=["_law_script","_law_house_here","_law_hour","_law_row","_law_told","_law_fars","_law_stuck","_law_met","_law_states","_law_k","_law_state"]) (ps:=["_law_script"]) (k:=10) (g:=zr) F eG ?_;intro cdv A outer s H E hr;have hu:=hr.units;exact(a5 (az 1 eG.nd (ak gi hr (a0 (av 0) aa))) (a5 (az 2 eG.nd (ar cR (EV.o (ak aW hr (a0 (av 0) (a0 aI aa)))) a8)) (a5 (az 3 eG.nd (CA E2 EX aQ (EN.o (jr (N':=["_law_cell"]) (cok eG) (cV (o8 (ao 0) (dz aI) (dz aI))) (fun _ _ _ _ _=>(oM 0)) (fun _ _ _ _ _=>(ae (ixP hu) cE (EV.o (ar cR (ao 0) a8)))))))) (a5 (az 4 eG.nd (EN.v (ud (AX hu) rfl T.n_dict rfl (EN.o (ie c9 hr (a0 (av 1) (a0 (av 2) aa))))))) (a5 (az 5 eG.nd (EN.v (ud (AX hu) rfl T.n_dict rfl (EN.o (jr (N':=["_law_place","_law_far"]) (cok eG) (xc rfl T.n_zip (EN.v (ie c9 hr (a0 (av 1) (a0 (av 2) aa)))) (ak qA hr (a0 (av 1) (a0 (av 2) aa)))) (fun _ _ _ _ _=>(lV rfl (cn (oM 0) (cn (oM 1) jd)))) (fun _ _ _ _ _=>(b8 (a0 (ae (ixP hu) (ao 0) a8) (a0 (av 1) aa))))))))) (a5 (mL false 6 eG.nd (N':=["_law_state","_law_rows"]) (cok eG) (cV (ak nA hr (a0 (av 1) (a0 (av 2) aa)))) (fun _ _ _ _ _=>(lV rfl (cn (oM 0) (cn (oM 1) jd)))) (fun _ _ _ _ _=>(av 0))) (a5 (az 7 eG.nd (EN.v (ud (FY hu) rfl T.n_dict rfl (EV.o (ak qB hr (a0 (av 1) (a0 (av 2) aa))))))) (a5 (az 8 eG.nd (EN.v (ie qz hr (a0 (av 1) (a0 (av 2) (a0 (av 3) aa)))))) (a5 (dj (aR (GC hu) qN (EV.o (og zK rfl T.n_len rfl (ao 8))) (EV.o (ar eC (EV.o (og zK rfl T.n_len rfl (ao 3))) a8))) (a9 (aA oe)) aM) (a5 (cC (oj rfl T.n_enumerate (av 8)) (jx rfl (bh (aG 9 eG.nd) (bh (aG 10 eG.nd) fX))) (a5 (dj (EW.et (zw (aR (rT hu) kM (ao 10) (ao 4)) (wZ (fN (EV.o (ak gE hr (a0 (dZ (ao 3) eQ (dz (av 9))) (a0 (ae (ixT hu) (ao 4) (ao 10)) aa)))))))) (a9 (aA oe)) aM) (a5 (dj (EW.et (sN (aR Jh wx (ao 9) a8) (qV (fN (EV.o (ak gj hr (a0 (ae (ixT hu) (ao 5) (EV.o (ae (ixP hu) (ao 8) (EV.o (ar BU (ao 9) a8))))) (a0 (ae (ixT hu) (ao 5) (ao 10)) aa)))))))) (a9 (aA oe)) aM) (a5 (dj (EW.et (sN (aR Jh wx (ao 9) a8) (sN (aR (HE hu) sv (EV.o (ae (ixP hu) (ao 8) (EV.o (ar BU (ao 9) a8)))) (ao 6)) (qV (aR (za hu) qM (ao 10) (ao 6)))))) (a9 (aA oe)) aM) (a9 (dj (aR (GC hu) qN (EV.o (ae (ixP hu) (EV.o (ak iA hr (a0 (av 1) (a0 (av 10) aa)))) a8)) cE) (a9 (dj (EW.et (zw (aR (vE hu) mx (EV.o (ae (ixP hu) (ao 10) a8)) (ao 7)) (zw (fN (EV.o (ak gE hr (a0 (dZ (ao 3) eQ (dz (av 9))) (a0 (ae (ixP hu) (ao 7) (EV.o (ae (ixP hu) (ao 10) a8))) aa))))) (wZ (aR (GC hu) qN (EV.o (ae (ixP hu) (ao 8) (EV.o (sO aI)))) (ao 10)))))) (a9 (aA oe)) aM)) aM)))))) (a9 (aA oe))))))))))))
 main
end K33
namespace K33
open PySem PySem.Spec PyProof.Rows L2 PU
seal EV EO EN EA ET EW SV SVs TGt D8 TCt D9 EI ETs ED EOI EL
theorem all_mk {l:Qi} {w:Ln} {K:L0} {h:Heap} {mg:Str->Option L3} {fa:Addr} (X:K.In h) (G:h.Ns mainGlobals mg) (hfa:mg "law"=some (.ref fa))
  {f23 f35:Addr} {od23 an23 od35 an35:Option Addr} {sl23 sl35:Array (Option L3)} {oc23 kV23 dc23 pm23 cd23 ct23 oc35 kV35 dc35 pm35 cd35 ct35:L3}
  (h0:Has K "_law_numbers" fA)
  (h1:Has K "_law_names" gX)
  (h2:Has K "_law_cell_at" fB)
  (h3:Has K "_law_house" gY)
  (h4:Has K "beginning_counts" cM)
  (h5:Has K "key_of" mW)
  (h6:Has K "code_of" ku)
  (h7:Has K "own_beginning" dR)
  (h8:Has K "beginnings" gc)
  (h9:Has K "names_ways" g8)
  (h10:Has K "room_ways" gW)
  (h11:Has K "house_ways" g9)
  (h12:Has K "handed" mY)
  (h13:Has K "come_to" ko)
  (h14:Has K "arrival" ky)
  (h15:Has K "by_wrong_key" eR)
  (h16:Has K "by_key" n9)
  (h17:Has K "by_wait" kx)
  (h18:Has K "follow" mZ)
  (h19:Has K "walk_on" ki)
  (h20:Has K "begin" qv)
  (h21:Has K "walk" uZ)
  (h22:Has K "first_rows" gb)
  (a23:Md K mainGlobals "places"=some (some (.ref f23))) (l23:K.lookup f23=some ⟨oc23,od23,.func (Me "places" "places" (dE eI) (aT eI) (a7 eI) .none kV23 dc23 pm23 an23 cd23 ct23),sl23⟩) (c23:O2 K cd23 "places"=true) (k23:NQ K (.ref f23)=true)
  (h24:Has K "heard" qu)
  (h25:Has K "is_out" mX)
  (h26:Has K "ends" v8)
  (h27:Has K "places_behind" cL)
  (h28:Has K "next_places" fz)
  (h29:Has K "outs_of" kj)
  (h30:Has K "traps" qt)
  (h31:Has K "rank" v5)
  (h32:Has K "earlier" km)
  (h33:Has K "_law_falls" gZ)
  (h34:Has K "outs" v7)
  (a35:Md K mainGlobals "law"=some (some (.ref f35))) (l35:K.lookup f35=some ⟨oc35,od35,.func (Me "law" "law" (dE mV) (aT mV) (a7 mV) .none kV35 dc35 pm35 an35 cd35 ct35),sl35⟩) (c35:O2 K cd35 "law"=true) (k35:NQ K (.ref f35)=true)
  {cP:Addr} (hcode:cd23=.ref cP) (hhd:PD K cP PT=true)
  (z_dict:Md K mainGlobals "dict"=some none)
  (z_enumerate:Md K mainGlobals "enumerate"=some none)
  (z_int:Md K mainGlobals "int"=some none)
  (z_len:Md K mainGlobals "len"=some none)
  (z_list:Md K mainGlobals "list"=some none)
  (z_range:Md K mainGlobals "range"=some none)
  (z_tuple:Md K mainGlobals "tuple"=some none)
  (z_zip:Md K mainGlobals "zip"=some none)
  (c_CODE_END:@Con (tw w) K mg "CODE_END" c_CODE_END)
  (c_HEARD:@Con (tw w) K mg "HEARD" c_HEARD)
  (c_SIGNS:@Con (tw w) K mg "SIGNS" c_SIGNS)
  (c_WAIT:@Con (tw w) K mg "WAIT" c_WAIT)
  : ∃fd:Mw,(∀(s:L6) (v:L3),Rq s fd ⟨[v],[]⟩ [("_law_script",v)])/\∀base:Heap,K.In base->base.Ns mainGlobals mg->(∃bm o,mg "__builtins__"=some (.ref bm)/\bm≠MZ/\bm≠mainGlobals/\base.get? bm=some o/\o.cls=.type "module"/\o.dict=some MZ/\o.data=.plain)->FnOk l.prog w K mg base CX0 11 fa fd ["_law_script"] (@spP (tw w) K 1 wY):=by
 have e:=hfa.symm.trans (P6 X G a35);cases e;have T:Txt w K mg:=⟨Mv X G z_dict,Mv X G z_enumerate,Mv X G z_int,Mv X G z_len,Mv X G z_list,Mv X G z_range,Mv X G z_tuple,Mv X G z_zip,c_CODE_END,c_HEARD,c_SIGNS,c_WAIT⟩;have F23:=wM (st:=eI) l23 c23 k23;have b23:=F23.binds (ps:=["H","hour"]) fun _ _ _ _ _ _ us hl=>match us,hl with | [_,_],_=>rfl
 have F35:=wM (st:=mV) l35 c35 k35;refine⟨Me "law" "law" (dE mV) (aT mV) (a7 mV) .none kV35 dc35 pm35 an35 cd35 ct35,fun s v=>.of_eq rfl,fun base hKb _ hbn=>?_⟩;have p_law_numbers:=bJ (P:=l.prog) (base:=base) T (h0.fn X G);have p_law_names:=gh (P:=l.prog) (base:=base) T (h1.fn X G) p_law_numbers;have p_law_cell_at:=aW (P:=l.prog) (base:=base) T (h2.fn X G);have p_law_house:=gi (P:=l.prog) (base:=base) T (h3.fn X G) p_law_names p_law_cell_at p_law_numbers;have p_beginning_counts:=cz (P:=l.prog) (base:=base) T (h4.fn X G);have p_key_of:=kz (P:=l.prog) (base:=base) T (h5.fn X G);have p_code_of:=jk (P:=l.prog) (base:=base) T (h6.fn X G) p_key_of;have p_own_beginning:=dC (P:=l.prog) (base:=base) T (h7.fn X G);have p_beginnings:=fF (P:=l.prog) (base:=base) T (h8.fn X G) p_code_of p_beginning_counts p_own_beginning;have p_names_ways:=fD (P:=l.prog) (base:=base) T (h9.fn X G) p_beginnings;have p_room_ways:=gg (P:=l.prog) (base:=base) T (h10.fn X G) p_names_ways;have p_house_ways:=bC (P:=l.prog) (base:=base) T (h11.fn X G) p_room_ways;have p_handed:=kA (P:=l.prog) (base:=base) T (h12.fn X G);have p_come_to:=jj (P:=l.prog) (base:=base) T (h13.fn X G) p_handed;have p_arrival:=bT (P:=l.prog) (base:=base) T (h14.fn X G) p_come_to;have p_by_wrong_key:=cO (P:=l.prog) (base:=base) T (h15.fn X G) p_arrival;have p_by_key:=kC (P:=l.prog) (base:=base) T (h16.fn X G) p_by_wrong_key p_arrival;have p_by_wait:=jl (P:=l.prog) (base:=base) T (h17.fn X G) p_arrival;have p_follow:=cN (P:=l.prog) (base:=base) T (h18.fn X G) p_by_wait p_by_key;have p_walk_on:=ji (P:=l.prog) (base:=base) T (h19.fn X G) p_house_ways p_follow;have p_begin:=iB (P:=l.prog) (base:=base) T (h20.fn X G) p_arrival;have p_walk:=qz (P:=l.prog) (base:=base) T (h21.fn X G) p_walk_on p_begin;have LT:=Ka (P:=l.prog) (base:=base) T p_follow;have p_first_rows:=fE (P:=l.prog) (base:=base) T (h22.fn X G) LT;have p_places:=c9 (P:=l.prog) (base:=base) T F23 (P6 X G a23) b23 hcode hhd hKb hbn p_house_ways p_first_rows p_begin;have p_heard:=iA (P:=l.prog) (base:=base) T (h24.fn X G);have p_is_out:=gk (P:=l.prog) (base:=base) T (h25.fn X G) p_heard;have p_ends:=qB (P:=l.prog) (base:=base) T (h26.fn X G) p_places p_is_out;have p_places_behind:=dB (P:=l.prog) (base:=base) T (h27.fn X G);have p_next_places:=eS (P:=l.prog) (base:=base) T (h28.fn X G) p_house_ways p_follow;have p_outs_of:=eZ (P:=l.prog) (base:=base) T (h29.fn X G) p_is_out p_places_behind p_next_places;have p_traps:=nA (P:=l.prog) (base:=base) T (h30.fn X G) p_places p_outs_of;have p_rank:=nB (P:=l.prog) (base:=base) T (h31.fn X G);have p_earlier:=gE (P:=l.prog) (base:=base) T (h32.fn X G) p_rank;have p_law_falls:=gj (P:=l.prog) (base:=base) T (h33.fn X G);have p_outs:=qA (P:=l.prog) (base:=base) T (h34.fn X G) p_outs_of p_places;exact EB T F35 p_law_house p_law_cell_at p_places p_outs p_traps p_ends p_walk p_earlier p_law_falls p_heard
theorem walk{l:Qi}{q:Lf}{loose:List Str}{XP:(Str->Option L3)->Heap->Prop}{YP:Ln->Heap->Prop}{d:DefRec}{K:Params->L0}(hn:l.most=some 63)(hdf:d.params.defaults=[])
  (hY:∀(w:Ln)(h:Heap),YP w h->(K w.params).In h) (hT:∀(w:Ln)(h:Heap),YP w h->∀P∈[PT],h.get? P=some (OT #[])) (hC:∀(w:Ln),∀P∈[PT],∃c,PD (K w.params) c P=true) (hL:∀(w:Ln),∀P∈[PT],(K w.params).lookup P=none)
  (F:∀(w:Ln)(mg:Str->Option L3)(fa:Addr)(h:Heap),(K w.params).In h->h.Ns mainGlobals mg->mg d.name=some (.ref fa)->
   ∃fd:Mw,(∀(s:L6) (u:L3),Rq s fd ⟨[u],[]⟩ [("_law_script",u)])/\∀base:Heap,(K w.params).In base->base.Ns mainGlobals mg->(∃bm o,mg "__builtins__"=some (.ref bm)/\bm≠MZ/\bm≠mainGlobals/\base.get? bm=some o/\o.cls=.type "module"/\o.dict=some MZ/\o.data=.plain)->FnOk l.prog w (K w.params) mg base CX0 11 fa fd ["_law_script"] (@spP (tw w) (K w.params) 1 wY)) :
  PySem.W.WalkO q loose XP YP l.row.toRowW d [] (fun f vs=>SX f vs):=
 L2.walk_ofT (n:=63) (k:=11) (x:="_law_script") (CX:=fun _=>CX0) (sp:=fun w=>@spP (tw w) (K w.params) 1 wY) hn (by decide) hdf ⟨rfl,by decide,by decide⟩ [PT] hY hT hC hL F
  (fun w _ a ns hl hT hS=>letI:TW:=tw w;⟨rfl,GX (ts:=[PT]) rfl hT,_,_,tB hS,zg ns,fun v _ _ r=>r⟩) fun _ _ _ _ _ z=>z
end K33
def PySem.W.Fast.tw18229559838088258008:Nat:=0
def PySem.W.Fast.tw11876558250161095246:Nat:=0
def PySem.W.Fast.tw17824671842222869117:Nat:=0
def PySem.W.Fast.tw8112022044154489285:Nat:=0
def PySem.W.Fast.tw4734033194162505365:Nat:=0
def PySem.W.Fast.tw13731139599922573995:Nat:=0
def PySem.W.Fast.tw4577546788272373179:Nat:=0
def PySem.W.Fast.tw6833547016760363709:Nat:=0
def PySem.W.Fast.tw5549451024815959845:Nat:=0
def PySem.W.Fast.tw4331127267567079849:Nat:=0
def PySem.W.Fast.tw7343868960451361435:Nat:=0
def PySem.W.Fast.tw1242054184238881473:Nat:=0
def PySem.W.Fast.tw9819087458105188104:Nat:=0
def PySem.W.Fast.tw4096830710845715991:Nat:=0
def PySem.W.Fast.tw13188226487979577394:Nat:=0
def PySem.W.Fast.tw14856049564868958596:Nat:=0
def PySem.W.Fast.tw10544839957012262550:Nat:=0
def PySem.W.Fast.tw7779370358384099790:Nat:=0
def PySem.W.Fast.tw13733670650866756270:Nat:=0
def PySem.W.Fast.tw11355102092015339052:Nat:=0
def PySem.W.Fast.tw318509893831789910:Nat:=0
def PySem.W.Fast.tw14672668329846988727:Nat:=0
def PySem.W.Fast.tw10700330194569337411:Nat:=0
def PySem.W.Fast.tw5464211522609397898:Nat:=0
def PySem.W.Fast.tw12904414961655600176:Nat:=0
def PySem.W.Fast.tw8540896229021530895:Nat:=0
def PySem.W.Fast.tw2927862829965606518:Nat:=0
def PySem.W.Fast.tw11099948472740510440:Nat:=0
def PySem.W.Fast.tw6479750544462233823:Nat:=0
def PySem.W.Fast.tw6039251479981025884:Nat:=0
def PySem.W.Fast.tw7544284889394161033:Nat:=0
def PySem.W.Fast.tw17583949767462774304:Nat:=0
def PySem.W.Fast.tw959420898329811035:Nat:=0
def PySem.W.Fast.tw12948341300074532288:Nat:=0
def PySem.W.Fast.tw16930607288057462975:Nat:=0
def PySem.W.Fast.tw10375381550721182281:Nat:=0
def PySem.W.Fast.tw9040619159398712165:Nat:=0
def PySem.W.Fast.tw15470340606446539182:Nat:=0
def PySem.W.Fast.tw2964267470621304844:Nat:=0
def PySem.W.Fast.tw10940799772269684027:Nat:=0
def PySem.W.Fast.tw17936986160409719400:Nat:=0
def PySem.W.Fast.tw13208448062564640443:Nat:=0
def PySem.W.Fast.tw14606184861579413284:Nat:=0
def PySem.W.Fast.tw6872766848761533741:Nat:=0
def PySem.W.Fast.tw1446494499418285718:Nat:=0
def PySem.W.Fast.tw11608991359231947130:Nat:=0
def PySem.W.Fast.tw3919761295483092500:Nat:=0
def PySem.W.Fast.tw3208293683062512357:Nat:=0
def PySem.W.Fast.tw13937448857738338252:Nat:=0
def PySem.W.Fast.tw5437405014786736660:Nat:=0
def PySem.W.Fast.tw8734095064692177621:Nat:=0
def PySem.W.Fast.tw15036937040893831620:Nat:=0
def PySem.W.Fast.tw16542337921201892237:Nat:=0
def PySem.W.Fast.tw11556869429876280813:Nat:=0
def PySem.W.Fast.tw17052679395844111835:Nat:=0
def PySem.W.Fast.tw2336433687497182790:Nat:=0
def PySem.W.Fast.tw6240552299999362586:Nat:=0
def PySem.W.Fast.tw11265985223100533339:Nat:=0
open PySem PySem.W PyProof.Rows
set_option maxRecDepth 100000 in
set_option maxHeartbeats 0 in
theorem PySem.Challenge.cw_menutree_k33_whole_any_row_holds : PySem.Challenge.rw_menutree_k33_whole_any_row.Holds := by
 w_on;o_law;km_head;(case hw=>w_witness2)
 k_fill
 refine K33.walk (l:=PySem.Challenge.rw_menutree_k33_whole_any_row) rfl rfl (fun w h Y=>PySem.W.km_in_of Y) (fun w h Y=>PySem.W.km_tabs_of Y) ?C ?L ?F
 case F=>
  intro w mg fa h KX G hmg;refine' K33.all_mk KX G hmg ?h0 ?h1 ?h2 ?h3 ?h4 ?h5 ?h6 ?h7 ?h8 ?h9 ?h10 ?h11 ?h12 ?h13 ?h14 ?h15 ?h16 ?h17 ?h18 ?h19 ?h20 ?h21 ?h22 ?a23 ?l23 ?c23 ?k23 ?h24 ?h25 ?h26 ?h27 ?h28 ?h29 ?h30 ?h31 ?h32 ?h33 ?h34 ?a35 ?l35 ?c35 ?k35 ?hcode ?hhd ?z_dict ?z_enumerate ?z_int ?z_len ?z_list ?z_range ?z_tuple ?z_zip ?q_CODE_END ?q_HEARD ?q_SIGNS ?q_WAIT
  (case h0 | h1 | h2 | h3 | h4 | h5 | h6 | h7 | h8 | h9 | h10 | h11 | h12 | h13 | h14 | h15 | h16 | h17 | h18 | h19 | h20 | h21 | h22 | h24 | h25 | h26 | h27 | h28 | h29 | h30 | h31 | h32 | h33 | h34=>(refine' PU.Has.of ?n1 ?n2 ?n3 ?n4;(case n1=>k_is);(case n2=>k_is);(case n3=>k_is);(case n4=>k_is)))
  (case a23=>k_is)
  (case l23=>k_is)
  (case c23=>k_is)
  (case k23=>k_is)
  (case a35=>k_is)
  (case l35=>k_is)
  (case c35=>k_is)
  (case k35=>k_is)
  (case hcode=>exact rfl)
  (case hhd=>exact rfl)
  (case z_dict=>k_is)
  (case z_enumerate=>k_is)
  (case z_int=>k_is)
  (case z_len=>k_is)
  (case z_list=>k_is)
  (case z_range=>k_is)
  (case z_tuple=>k_is)
  (case z_zip=>k_is)
  (case q_CODE_END=>(refine' PU.con_str KX G ?n1;(case n1=>k_is)))
  (case q_HEARD=>(refine' PU.con_dct [(LI "menu",_,_),(LI "names",_,_),(LI "hand",_,_),(LI "end",_,_)] (xs:=[.str (LI "asked"),.str (LI "asked"),.str (LI "hand"),.str (LI "end")]) KX G ?n1 ?n2 ?n3 ?n4 ?n5 ?n6 ?n7 ?n8;(case n1=>k_is);(case n2=>k_is);(case n3=>exact rfl);(case n4=>decide);(case n5=>decide +kernel);(case n6=>show 4<=sizeLine;decide);(case n7=>exact .cons ⟨_,rfl⟩ (.cons ⟨_,rfl⟩ (.cons ⟨_,rfl⟩ (.cons ⟨_,rfl⟩ (.nil)))));(case n8=>intro H;exact⟨_,_,rfl,rfl,_,_,rfl,rfl,_,_,rfl,rfl,_,_,rfl,rfl,rfl⟩)))
  (case q_SIGNS=>(refine' PU.con_str KX G ?n1;(case n1=>k_is)))
  (case q_WAIT=>(refine' PU.con_str KX G ?n1;(case n1=>k_is)))
 case C=>
  intro w P hP;cases LH.mp hP;exact⟨169,rfl⟩
 case L=>
  intro w P hP;cases LH.mp hP;exact rfl
