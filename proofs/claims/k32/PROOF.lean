import PyProof.Rows.All
import Wide.All
import OpenK.AllK
import Wide.FinOn
import Lean
import PyProof.EqAt
import PyProof.EqKinds
import PyProof.TupleCall
import PyProof.StrLawsIdx
import PyProof.StrBlockH
import PyProof.EnumStmt
import PyProof.ListNew
import PyProof.AutoListH
import PyProof.TupleIter
import PyProof.ZipIter
import PyProof.Rows.ZipGen
import KE.KDictOf
import PyProof.ListIndex
import PyProof.AttrMissHeap
import PyProof.NeKinds
import KE.KLam
import KE.KNestM
import KE.KDictLaws
import PyProof.StrLawsIn
import PySem.Challenge.RW_menutree_k32_whole_ways_out
set_option Elab.async false
set_option linter.all false
set_option maxRecDepth 100000
set_option maxHeartbeats 16000000
open Array renaming getElem?_eq_getElem->Br,getElem?_toList->Ge,length_toList->CS,toList_append->HC
open Bool renaming and_eq_true->BJ,and_false->Er,and_self->GO,and_true->GN,eq_iff_iff->Di,false_and->GB,false_eq_true->BW,false_ne_true->AM,not_eq_true->DR,or_eq_true->Eh,or_false->GM,true_and->GL
open Eq renaming refl->Ao
open False renaming elim->AK
open ForInStep renaming yield->Bl
open Function renaming comp->CW
open Int renaming emod_lt_of_pos->FH,emod_nonneg->G0,eq_ofNat_of_zero_le->Gc,le_refl->Fs,toNat_natCast->DI,zero_add->FW
open LawfulBEq renaming eq_of_beq->D3
open List renaming Nodup->HS,Sublist->Cs,all_cons->Cz,all_eq_true->Cr,any_cons->Bf,any_eq_true->EJ,any_map->CN,append_assoc->Bd,append_nil->BY,cons_append->CB,count_append->Hi,count_eq_zero->FD,drop_eq_getElem_cons->Dw,drop_length->CV,eq_nil_of_length_eq_zero->Bz,ext_getElem?->DF,filterMap_cons->Cu,filter_cons_of_neg->EH,filter_cons_of_pos->EG,find?_cons->C2,find?_cons_of_neg->DE,find?_cons_of_pos->Gb,find?_eq_none->HR,find?_some->Fq,flatMap_cons->FN,foldl_append->Cg,foldl_cons->Bg,getD_eq_getElem?_getD->Ag,getElem?_append->HB,getElem?_append_left->Ae,getElem?_append_right->As,getElem?_cons_succ->BI,getElem?_eq_getElem->AX,getElem?_eq_none->Bx,getElem?_eq_none_iff->BL,getElem?_eq_some_iff->AA,getElem?_map->AG,getElem?_of_mem->HA,getElem?_range->Bq,getElem?_replicate->BA,getElem?_set->FM,getElem?_set_ne->Az,getElem?_set_self->Au,getElem?_zipWith->Bw,getElem?_zip_eq_some->GG,getElem_inj->EF,getElem_mem->Bh,getElem_of_mem->C5,getLast?_eq_none_iff->GF,head?->FC,length->CM,length_append->Aw,length_cons->An,length_drop->Ff,length_eq_zero_iff->EC,length_erase_of_mem->GK,length_filter_le->Ek,length_map->AI,length_nil->Cc,length_pos_of_mem->Ga,length_range->E1,length_replicate->Bv,length_set->Cb,length_singleton->Ej,length_take->CU,lookup->H9,lookup_cons->Aq,map->H8,map_append->AW,map_congr_left->C4,map_cons->AE,map_fst_zip->Fe,map_map->Am,map_nil->CL,map_singleton->FB,map_snd_zip->DQ,mem_append->Aj,mem_append_left->BV,mem_append_right->Ab,mem_cons->AU,mem_cons_of_mem->Ah,mem_cons_self->Ai,mem_erase_of_ne->Gz,mem_filter->BX,mem_filterMap->HQ,mem_flatMap->DP,mem_iff_getElem?->DO,mem_map->AJ,mem_of_find?_eq_some->CK,mem_of_getElem?->AS,mem_of_getLast?->Gy,mem_of_mem_take->Gx,mem_range->B5,mem_singleton->AO,nil_append->Dh,nodup_append->BK,nodup_cons->Ay,not_mem_nil->B7,of_mem_zip->Eg,pairwise_append->Gw,pairwise_iff_getElem->Dv,pairwise_lt_range->GZ,pairwise_map->Hh,prefix_iff_eq_take->D7,prefix_of_prefix_length_le->FV,prefix_refl->EB,range->AF,range_succ->Dg,replicate->B4,size_toArray->Al,sublist_append_left->E4,tail->Fd,take_add_one->Cf,take_length->Fc,take_of_length_le->Ea,take_prefix->Cp,zipWith_cons_cons->Bp,zip_cons_cons->Dp
open List.IsPrefix renaming length_le->CJ,trans->E9
open List.Pairwise renaming imp_of_mem->Ci,map->GA
open List.Sublist renaming append->Fz,refl->Df,trans->Eb
open List.cons renaming injEq->Cq
open Nat renaming add_sub_cancel_left->GY,le_add_right->EY,le_of_eq->Gs,le_of_lt->Ef,le_of_not_lt->Fm,le_refl->AY,le_succ->De,le_trans->B9,lt_irrefl->BE,lt_of_le_of_lt->D6,lt_of_lt_of_le->AR,lt_of_succ_lt_succ->Gr,lt_or_ge->FU,lt_succ_of_lt->C1,lt_succ_self->EX,ne_of_gt->BS,ne_of_lt->AZ,not_lt->Ee,not_lt_zero->Fy,succ_ne_self->EU,zero_add->Ed,zero_le->B3
open Ne renaming symm->Bc
open Option renaming bind_eq_some_iff->AV,bind_some->FL,getD_none->HP,isSome_iff_exists->G9,isSome_map->F9,map_eq_some_iff->AQ,map_some->ES
open Option.some renaming inj->BD,injEq->Cw
open Or renaming inl->Dc,inr->DZ
open Prod renaming ext->G8
open PyProof.Rows renaming AllBare->Ex,IntsAre->Hg,callWith_type1->BM,envOfC->DY,slot_tuple_getitem->Cy,subscriptTail_builtinR->Hf
open PySem renaming Around->B0,BindsTo->GV,Env->FY,FuncData->By,IsPart->GE,NameKind->CZ,Obj->Bi,Paired->Gp,PassesOwn->FJ,Pos->C7,Program->Ak,Result->Gn,Shared->AD,Value->A9,World->Ar,assign->Dr,assignEach->Bb,atKey->Gk,attributeBase->DA,backTo->DH,behindInMarks->Dk,binaryOp->D9,bindArgs->Fu,bindC->HM,bindL->HL,bootBuiltins->CC,builtinsNs->Ba,call->HH,callType_codes->Gj,call_meetsIn->Ha,callerA->Ft,cellOf->Gi,codeAmong->DM,codeAny->D0,codeAny_builtin->F4,codeAny_compStart_list->Et,codeAny_mono->Es,compEnvC->Em,compareOp->B8,comprehension->HF,concat_meets->HZ,eval->BR,exec_Assign_Name_used->F5,foldedSetIterable->C6,getItem->GS,letOwnedTupleGo->F3,mem_of_lookup->Ax,model->Ap,newFunctionEnv->Gh,newList->GR,noFill_tuple_add->GC,plainId_quiet->HE,post_val_or_str->F0,pyNext->Ec,rawInt->Dq,relabel->HY,seq_tuple_add->HD,sizeLine_eq->B2,sliceBounds->Dm,starEach->Ad,stored->Gg,strIterType->Cv,swapsWith->Cm,sysModules->BN,tupleKind->FI,tupleKind_room_in1->Fg,valueAt->Bn,wpAny->Af,wpAny_Assign_Subscript->HX,wpAny_Call_Name_kw->DG,wpAny_Call_method_late->HW,wpAny_bind->AB,wpAny_callSpecial?_slot->DK,wpAny_call_entry->Dj,wpAny_comprehension_free->D8,wpAny_dictEntries->Co,wpAny_dictEpoch->Ez,wpAny_execs_nil->Ey,wpAny_field->FF,wpAny_fieldsOf->FE,wpAny_getItem_str_slice->DJ,wpAny_holding->CG,wpAny_isInstance->El,wpAny_isOneOf_itemiter->DV,wpAny_mono->C9,wpAny_newFunctionEnv->Dl,wpAny_newObj_type->Bt,wpAny_passesOwn->Ck,wpAny_pure->AH,wpAny_pyIter_enum->DU,wpAny_pyNext_tuple_end->HU,wpAny_pyNext_tuple_item->HK,wpAny_rule->Gf,wpAny_standAt->FX,wpAny_tests_nil->GP,wpAny_truthy_bool->Bs,wpAny_typeNameOfWhole_itemiter->CY,wpAny_typeNameOf_itemiter->D4,wpAny_typeOf->DS,wpAny_updateSeq->Cj
open PySem.Around renaming frames_deeper->GX,under_plainId->GW
open PySem.Builtin.Dict renaming dictSlotArgs->FG,samePairs->Fb,updateFrom->FT
open PySem.Builtin.Dict_items renaming ownedTupleIsFree->Du,ownsTuple->EZ,pairFromOwner->E3
open PySem.Builtin.List renaming listExtendWith->Be,listItems->Ct,listLengthHint->F8,listSameRef->FK,listTouch->FZ,listUpdate->FR
open PySem.Builtin.Slice renaming sliceAdjust->DX,sliceApplied->F7,slicePlaces->Ca
open PySem.Builtin.Str renaming occurrences->Do,strSliceIndices->DN
open PySem.Builtin.Tuple renaming tupleExact->Ce
open PySem.Calls renaming Name_function_global->Fx,callWith_builtin->ER,evalArgs_plain->Gq,spliced_cons->HJ,spliced_nil->HN
open PySem.Challenge renaming pw_menutree_k32_whole_ways_out->BB
open PySem.Data renaming cell->Ew,fields->Fk
open PySem.F renaming args_dict_itemiterator_next_1->Ei,args_list_init_2->Fw,args_tuple_add_2->Dt,called_list->GU,entry_dict_itemiterator_next->Ep,entry_extend_loop->Fp,entry_list_init->G7,entry_tuple_add->Dz,plainAttrs_dict->Dy,plainAttrs_list->G6,plain_extend_loop->CD,slot_dict_eq->GQ,slot_dict_get->GJ,slot_dict_getitem->Fo,slot_dict_itemiterator_next->C3,slot_dict_items->G5,slot_dict_setdefault->FQ,slot_list_append->EM,slot_list_setitem->Fn,slot_tuple_add->E7,slot_tuple_getattribute->E6,typeCall_list_1->G4,type_list_append->Fv
open PySem.Heap renaming ExtBut->Fj,SameBut->DC,get?_none_of_le->Gv,get?_push_of_some->AC,get?_push_size->Aa,get?_update_other->BZ,get?_update_self->Bu,lt_size->AL,size_push->DB
open PySem.Heap.DictOf renaming new->GT
open PySem.NameKind renaming cell->Eo,free->BH
open PySem.Obj renaming mapSeq->Av
open PySem.Paired renaming length->BC
open PySem.PassesOwn renaming never->E2
open PySem.SeqAt.EqAt renaming int_str->GI,str_int->GH
open PySem.Shared renaming TypeIs->G3
open PySem.Str renaming join->Eu,ofString->AN
open PySem.Txt renaming slice->Bk,slice_le->Dd
open PySem.Value renaming bool->EK,int->He,none->Bm,ref->B6,str->Hd,type->CP
open PySem.W renaming CodeHd->Fh,Frag->A0,OpenLaw->FP,callWith_K->Gm,cellsFrom_some->GD,codeHdIn->Dx,codeHd_of_K->En,codeIn->Cd,envX->E5,findIn->Hc,fnOf->Bj,keepIn->CA,kia_one->CI,kitx_dict->Gu,kla_fn->Hb,kla_obj->DW,methodObj->F6,mg_none_of->BU,mg_of->Ds,nsIn->BP,tabObj->D5
open PySem.WalksT renaming enumerateD->HI
open Sum renaming inl->FO,inr->C8
open Sum.inr renaming inj->CT
open True renaming intro->CQ
section
namespace L2
open PySem PySem.Spec PyProof.Rows
abbrev Key:=Sum Int Str
def zpb:Key->A9->Bool
 | .inl k,v=>Value.isInt k v
 | .inr x,v=>Value.isStrOf x v
def keyH(w:Ar):Key->Int
 | .inl k=>hashInt k
 | .inr x=>hashStr w x
theorem zbg:∀{k:Key}{v:A9},zpb k v=true->(∃i t,k=FO i/\v=He i t)\/(∃x t,k=C8 x/\v=Hd x t)
 | .inl i,v,h=>by
  obtain⟨t,e⟩:=Value.isInt_shape (k:=i) (v:=v) h;exact .inl ⟨i,t,rfl,e⟩
 | .inr x,v,h=>by
  obtain⟨t,e⟩:=Value.isStrOf_shape (x:=x) (v:=v) h;exact .inr ⟨x,t,rfl,e⟩
theorem zt2(i:Int)(t:Tok):zpb (.inl i) (.int i t)=true:=by simp[zpb,Value.isInt]
theorem zt1(x:Str)(t:Tok):zpb (.inr x) (.str x t)=true:=by simp[zpb,Value.isStrOf]
theorem Zeb(a b:Int):decide ((FO a:Key)=FO b)=(a == b):=by
 by_cases e:a=b
 ·subst e;simp
 ·have h:¬ (FO a:Key)=FO b:=fun q=>e (Sum.inl.inj q)
  rw[decide_eq_false h];exact(beq_eq_false_iff_ne.mpr e).symm
theorem Zd8(a b:Str):decide ((C8 a:Key)=C8 b)=decide (a=b):=by
 by_cases e:a=b
 ·subst e;simp
 ·have h:¬ (C8 a:Key)=C8 b:=fun q=>e (CT q)
  rw[decide_eq_false h,decide_eq_false e]
theorem Zea(a:Int)(b:Str):decide ((FO a:Key)=C8 b)=false:=decide_eq_false (fun q=>nomatch q)
theorem Zd9(a:Str)(b:Int):decide ((C8 a:Key)=FO b)=false:=decide_eq_false (fun q=>nomatch q)
def zao(prog:Ak)(w:Ar):PySem.KeyKind prog w Key where
 is:=zpb
 hash:=keyH w
 inj:=fun v a b ha hb=>by
  rcases zbg ha with⟨i,t,rfl,rfl⟩|⟨x,t,rfl,rfl⟩
  ·rcases zbg hb with⟨j,u,rfl,e⟩|⟨y,u,rfl,e⟩
   ·injection e with e1 _;rw[e1]
   ·exact nomatch e
  ·rcases zbg hb with⟨j,u,rfl,e⟩|⟨y,u,rfl,e⟩
   ·exact nomatch e
   ·injection e with e1 _;rw[e1]
 byValue:=fun k v h=>by
  rcases zbg h with⟨i,t,rfl,rfl⟩|⟨x,t,rfl,rfl⟩ <;> rfl
 pyHash:=fun hv h=>by
  rcases zbg hv with⟨i,t,rfl,rfl⟩|⟨x,t,rfl,rfl⟩
  ·exact wpAny_pyHash_int h
  ·exact wpAny_pyHash_str h
 eqBool:=fun hu hv h=>by
  rcases zbg hu with⟨i,t,rfl,rfl⟩|⟨x,t,rfl,rfl⟩
  ·rcases zbg hv with⟨j,u,rfl,rfl⟩|⟨y,u,rfl,rfl⟩
   ·rw[Zeb] at h;exact wpAny_eqBool_int h
   ·rw[Zea] at h;exact GI i t y u _ _ _ _ h
  ·rcases zbg hv with⟨j,u,rfl,rfl⟩|⟨y,u,rfl,rfl⟩
   ·rw[Zd9] at h;exact GH x t j u _ _ _ _ h
   ·rw[Zd8] at h;exact wpAny_eqBool_str h
 «strs»:=fun k x t v h=>by
  rcases zbg h with⟨i,u,rfl,e⟩|⟨y,u,rfl,e⟩
  ·exact nomatch e
  ·injection e with e1 _
   subst e1;cases v <;> rfl
theorem zo4(prog:Ak)(w:Ar)(i:Int)(t:Tok):(zao prog w).is (.inl i) (.int i t)=true:=zt2 i t
theorem zfq(prog:Ak)(w:Ar)(x:Str)(t:Tok):(zao prog w).is (.inr x) (.str x t)=true:=zt1 x t
end L2
namespace L2
open PySem PySem.Spec PyProof.Rows
inductive V where
 | non | bl (b:Bool) | int (i:Int) | str (x:Str) | byt (b:Array UInt8) | flt (b:UInt64) | ref (a:Addr) | ty (n:String)
 deriving DecidableEq
def RelV:V->A9->Prop
 | .non,u=>u=Bm
 | .bl b,u=>u=EK b
 | .int i,u=>∃t,u=He i t
 | .str x,u=>∃t,u=Hd x t
 | .byt b,u=>∃t,u=Value.bytes b t
 | .flt b,u=>∃t,u=Value.float b t
 | .ref a,u=>u=B6 a
 | .ty n,u=>u=CP n
abbrev Vals:List V->List A9->Prop:=Gp RelV
theorem Vals.length{xs:List V}{us:List A9}(r:Vals xs us):xs.length=us.length:=BC r
theorem Vals.get:∀{xs:List V}{us:List A9}{i:Nat}{x:V},Vals xs us->xs[i]?=some x->∃u,us[i]?=some u/\RelV x u
 | _,_,_,_,.nil,e=>by simp at e
 | _,_,0,_,.cons r _,e=>by simp at e;subst e;exact⟨_,rfl,r⟩
 | _,_,i+1,x,.cons _ t,e=>by
  obtain⟨u,h1,h2⟩:=Vals.get (i:=i) (x:=x) t (by simpa using e)
  exact⟨u,by simpa using h1,h2⟩
theorem Vals.append:∀{xs ys:List V}{us ws:List A9},Vals xs us->Vals ys ws->Vals (xs++ys) (us++ws)
 | _,_,_,_,.nil,s=>s
 | _,_,_,_,.cons r t,s=>.cons r (Vals.append t s)
theorem Vals.take:∀{xs:List V}{us:List A9}(n:Nat),Vals xs us->Vals (xs.take n) (us.take n)
 | _,_,0,_=>.nil
 | _,_,_+1,.nil=>.nil
 | _,_,n+1,.cons r t=>.cons r (Vals.take n t)
theorem Vals.drop:∀{xs:List V}{us:List A9}(n:Nat),Vals xs us->Vals (xs.drop n) (us.drop n)
 | _,_,0,r=>r
 | _,_,_+1,.nil=>.nil
 | _,_,n+1,.cons _ t=>Vals.drop n t
def RelO:Option V->Option A9->Prop
 | some v,some u=>RelV v u
 | none,none=>True
 | _,_=>False
def KV{κ:Type}:List (κ×V)->List (κ×A9)->Prop:=Gp fun (p:κ×V) (q:κ×A9)=>p.1=q.1/\RelV p.2 q.2
def kV:Key->V
 | .inl i=>.int i
 | .inr x=>.str x
inductive HO where
  | lst (xs:List V)
  | tup (xs:List V)
  | dK (kvs:List (Key×V)) | dT (kvs:List (List Key×V))
  | set (S:Int->Bool) (n:Nat)
  | ins (C dx:Addr) (fs:List (Str×V))
  | own (x:Addr)
  | xd (fs:List (Str×V))
  | met (f x:Addr)
  | rng (lo hi:Int)
  | frz (o:Bi) (u:HO)
  | tbl (ps:Array A9)
  | ext (φ:Heap->Prop)
abbrev Hp:=Addr->Option HO
def upd(H:Hp)(a:Addr)(o:HO):Hp:=fun b=>if b=a then some o else H b
theorem zak{H:Hp}{a:Addr}{o:HO}:upd H a o a=some o:=by unfold upd;rw[if_pos rfl]
theorem zal{H:Hp}{a b:Addr}{o:HO}(h:b≠a):upd H a o b=H b:=by unfold upd;rw[if_neg h]
theorem Zd2{H:Hp}{a b:Addr}{o u:HO}(h:H a=some o)(h':H b=some u)(d:o≠u):a≠b:=by
 intro e;subst e;rw[h] at h';exact d (BD h')
theorem zbj{H:Hp}{a b:Addr}{o:HO}(h:H a=some o)(h':H b=none):a≠b:=by
 intro e;subst e;rw[h] at h';cases h'
def IsTp (h:Heap) (a:Addr) (items:Array A9):Prop:=∃o,h.get? a=some o/\o.cls=.type "tuple"/\(∃n,o.data=.seq items n)/\((∀v∈items.toList,∃b,v=B6 b)->o.dict=none)
theorem IsTp.up{h:Heap}{a:Addr}{items:Array A9}(x:IsTp h a items):IsTup h a items:=by
 obtain⟨o,e,c,d,_⟩:=x;exact⟨o,e,c,d⟩
theorem IsTp.new (h:Heap) (items:Array A9):IsTp (h.push { cls:=.type "tuple",data:=.seq items }) h.objs.size items:=⟨_,Aa _ rfl,rfl,⟨_,rfl⟩,fun _=>rfl⟩
section
variable(P : Ak)(w : Ar)
def zdx(H:Hp)(h:Heap)(a:Addr):HO->Prop
 | .lst xs=>xs.length<=sizeLine/\∃(its:List A9) (n:Nat),Vals xs its/\h.get? a=some { cls:=.type "list",data:=.seq its.toArray n }
 | .tup xs=>xs.length<=sizeLine/\∃its:List A9,Vals xs its/\IsTp h a its.toArray
 | .dK kvs=>kvs.length<=sizeLine/\(a == BN)=false/\∃vs,KV kvs vs/\h.DictOf (zao P w) a vs
 | .dT kvs=>kvs.length<=sizeLine/\(a == BN)=false/\∃xs:List (List Key×Addr×A9),
   Gp (fun (p:List Key×V) (q:List Key×Addr×A9)=>p.1=q.1/\H q.2.1=some (.tup (p.1.map kV))/\RelV p.2 q.2.2) kvs xs/\
   ∃o es ep,h.get? a=some o/\o.ExactDict/\o.data=.dict es ep/\es.toList=xs.map (entryOfKey (FI (zao P w)))/\(xs.map (·.1)).Nodup
 | .set S n=>h.SetOf (intKind P w) a S n
 | .ins C dx fs=>H dx=some (.own a)/\fs.length<=1000/\dx≠a/\h.get? a=some (PySem.W.instObj C dx)/\
   ∃mA,h.Ns1 dx mA/\(∀f,RelO (fs.lookup f) (mA f))/\PySem.Within mA (fs.map (·.1))
 | .own _=>∃o,h.get? a=some o
 | .xd fs=>∃mA,h.Ns1 a mA/\∀f,RelO (fs.lookup f) (mA f)
 | .rng lo hi=>∃t u v,h.get? a=some { cls:=.type "range",data:=.fields #[.int lo t,.int hi u,.int 1 v] }
 | .frz o u=>h.get? a=some o/\zdx H h a u
 | .tbl ps=>h.get? a=some { cls:=.none,data:=.fields ps }
 | .met f x=>h.get? a=some (F6 (.ref f) (.ref x))
 | .ext φ=>φ h/\(∃o,h.get? a=some o)/\∀h1 h2:Heap,φ h1->(∀o,h1.get? a=some o->h2.get? a=some o)->φ h2
def HOk(H:Hp)(h:Heap):Prop:=∀a o,H a=some o->zdx P w H h a o
end
section
variable{P : Ak}{w : Ar}{H H' : Hp}{h h' : Heap}{a : Addr}{o : HO}
theorem zdx.lt(x:zdx P w H h a o):a<h.objs.size:=by
 cases o with
 | lst xs=>obtain⟨_,_,_,_,e⟩:=x;exact AL e
 | tup xs=>obtain⟨_,_,_,p⟩:=x;exact p.up.lt
 | dK kvs=>obtain⟨_,_,_,_,o,_,_,e,_⟩:=x;exact AL e
 | dT kvs=>obtain⟨_,_,_,_,o,_,_,e,_⟩:=x;exact AL e
 | set S n=>obtain⟨o,_,_,_,e,_⟩:=x;exact AL e
 | ins C dx fs=>obtain⟨_,_,_,e,_⟩:=x;exact AL e
 | own y=>obtain⟨_,e⟩:=x;exact AL e
 | xd fs=>obtain⟨_,⟨_,_,_,e,_⟩,_⟩:=x;exact AL e
 | rng lo hi=>obtain⟨_,_,_,e⟩:=x;exact AL e
 | frz ob u=>obtain⟨e,_⟩:=x;exact AL e
 | tbl ps=>exact AL (show h.get? a=some _ from x)
 | met f y=>exact AL (show h.get? a=some _ from x)
 | ext φ=>obtain⟨_,⟨_,e⟩,_⟩:=x;exact AL e
theorem Paired.mapP{α β:Type}{F G:α->β->Prop}:∀{l₁:List α}{l₂:List β},Gp F l₁ l₂->(∀a b,F a b->G a b)->Gp G l₁ l₂
 | _,_,.nil,_=>.nil
 | _,_,.cons r t,f=>.cons (f _ _ r) (Paired.mapP t f)
theorem zdx.stay(x:zdx P w H h a o)(k:∀b u,(b=a\/H b=some (.own a))->h.get? b=some u->h'.get? b=some u)
  (ho:∀b,H b=some (.own a)->H' b=some (.own a)) (ht:∀b xs,H b=some (.tup xs)->H' b=some (.tup xs)):zdx P w H' h' a o:=by
 induction o with
 | lst xs=>obtain⟨z,its,n,r,e⟩:=x;exact⟨z,its,n,r,k _ _ (.inl rfl) e⟩
 | tup xs=>obtain⟨z,its,r,ob,e,c⟩:=x;exact⟨z,its,r,ob,k _ _ (.inl rfl) e,c⟩
 | dK kvs=>obtain⟨z,y,vs,r,ob,es,ep,e,c⟩:=x;exact⟨z,y,vs,r,ob,es,ep,k _ _ (.inl rfl) e,c⟩
 | dT kvs=>
  obtain⟨z,y,xs,r,ob,es,ep,e,c⟩:=x;exact⟨z,y,xs,Paired.mapP r fun p q z=>⟨z.1,ht _ _ z.2.1,z.2.2⟩,ob,es,ep,k _ _ (.inl rfl) e,c⟩
 | set S n=>obtain⟨ob,es,ep,t,e,c⟩:=x;exact⟨ob,es,ep,t,k _ _ (.inl rfl) e,c⟩
 | ins C dx fs=>
  obtain⟨d,z,ne,e,mA,⟨od,es,ep,e2,c⟩,r⟩:=x;exact⟨ho _ d,z,ne,k _ _ (.inl rfl) e,mA,⟨od,es,ep,k _ _ (.inr d) e2,c⟩,r⟩
 | own y=>obtain⟨ob,e⟩:=x;exact⟨ob,k _ _ (.inl rfl) e⟩
 | xd fs=>obtain⟨mA,⟨od,es,ep,e,c⟩,r⟩:=x;exact⟨mA,⟨od,es,ep,k _ _ (.inl rfl) e,c⟩,r⟩
 | rng lo hi=>obtain⟨t,u,v,e⟩:=x;exact⟨t,u,v,k _ _ (.inl rfl) e⟩
 | frz ob u ih=>obtain⟨e,q⟩:=x;exact⟨k _ _ (.inl rfl) e,ih q⟩
 | tbl ps=>
  have e:h.get? a=some { cls:=.none,data:=.fields ps }:=x;show h'.get? a=some { cls:=.none,data:=.fields ps };exact k a _ (.inl rfl) e
 | met f y=>
  have e:h.get? a=some (F6 (.ref f) (.ref y)):=x;show h'.get? a=some (F6 (.ref f) (.ref y));exact k a _ (.inl rfl) e
 | ext φ=>obtain⟨p,⟨o,e⟩,st⟩:=x;exact⟨st _ _ p fun o q=>k _ _ (.inl rfl) q,⟨o,k _ _ (.inl rfl) e⟩,st⟩
theorem HOk.lt(x:HOk P w H h)(e:H a=some o):a<h.objs.size:=(x a o e).lt
theorem HOk.fresh(x:HOk P w H h)(e:h.objs.size<=a):H a=none:=by
 cases q:H a with
 | none=>rfl
 | some u=>exact absurd (AR (x.lt q) e) (BE _)
theorem HOk.kept(x:HOk P w H h)(k:∀b u,h.get? b=some u->h'.get? b=some u):HOk P w H h':=fun a o e=>
 (x a o e).stay (fun b u _ q=>k b u q) (fun _ q=>q) fun _ _ q=>q
theorem HOk.laid(x:HOk P w H h)(k:∀b u,h.get? b=some u->h'.get? b=some u)(hp:h.objs.size<=a)(new:zdx P w (upd H a o) h' a o):HOk P w (upd H a o) h':=fun b u e=>by
 have hn:=x.fresh hp
 by_cases hb:b=a
 ·subst hb;rw[zak] at e;cases e;exact new
 ·rw[zal hb] at e
  exact(x b u e).stay (fun c v _ q=>k c v q) (fun c q=>by rw[zal (zbj q hn)];exact q) fun c xs q=>by rw[zal (zbj q hn)];exact q
end
def Rd(H:Hp)(a:Addr)(u:HO):Prop:=H a=some u\/∃o,H a=some (.frz o u)
theorem Rd.ok{P:Ak}{w:Ar}{H:Hp}{h:Heap}{a:Addr}{u:HO}(r:Rd H a u)(x:HOk P w H h):zdx P w H h a u:=by
 rcases r with r | ⟨o,r⟩
 ·exact x a u r
 ·obtain⟨_,q⟩:=x a _ r
  exact q
def Mut:Option HO->Prop
 | some (.lst _)=>True
 | some (.dK _)=>True
 | some (.dT _)=>True
 | some (.set _ _)=>True
 | some (.ins _ _ _)=>True
 | some (.ext _)=>True
 | _=>False
section
variable{P : Ak}{w : Ar}{H : Hp}{h h' : Heap}{x e : Addr}{o' : HO}
theorem HOk.write(ok:HOk P w H h)(mu:Mut (H x))(he:e=x\/H e=some (.own x))(k:∀b u,b≠e->h.get? b=some u->h'.get? b=some u)(heo:∃u,h'.get? e=some u)
  (new:zdx P w (upd H x o') h' x o'):HOk P w (upd H x o') h':=fun b u q=>by
 have nown:∀c y,H c=some (.own y)->c≠x:=fun c y r z=>by subst z;rw[r] at mu;exact mu
 have ntup:∀c xs,H c=some (.tup xs)->c≠x:=fun c xs r z=>by subst z;rw[r] at mu;exact mu
 by_cases hb:b=x
 ·subst hb;rw[zak] at q;cases q;exact new
 ·rw[zal hb] at q
  by_cases hbe:b=e
  ·have q':H b=some (.own x):=by
    rcases he with z | z
    ·exact absurd (hbe.trans z) hb
    ·rw[hbe];exact z
   rw[q] at q';cases q';obtain⟨v,hv⟩:=heo;exact⟨v,by rw[hbe];exact hv⟩
  ·refine(ok b u q).stay (fun c v hc r=>k c v ?_ r) (fun c r=>by rw[zal (nown c b r)];exact r) fun c xs r=>by rw[zal (ntup c xs r)];exact r
   rcases hc with rfl | hc
   ·exact hbe
   ·rintro rfl
    rcases he with z | z
    ·exact nown c b hc z
    ·rw[hc] at z;cases z;exact hb rfl
end
structure Un(fs ex:List Addr)(H H':Hp)(h h':Heap):Prop where
 keep:∀b o,h.get? b=some o->H b=none->b ∉ fs->b ∉ ex->h'.get? b=some o
 slot:∀b o,h.get? b=some o->H b=none->b∈fs->b ∉ ex->∃sl,h'.get? b=some { o with slots:=sl }
 free:∀b o,h.get? b=some o->H b=none->b ∉ ex->H' b=none
 there:∀b o,h.get? b=some o->b ∉ ex->∃o',h'.get? b=some o'
 tups:∀b xs,H b=some (.tup xs)->H' b=some (.tup xs)
 frzs:∀b o u,H b=some (.frz o u)->H' b=some (.frz o u)
 tbls:∀b ps,H b=some (.tbl ps)->∃more,H' b=some (.tbl (ps++more))
section
variable{fs fs' ex ex' : List Addr}{H H1 H2 : Hp}{h h1 h2 h' : Heap}{a x e : Addr}{o : HO}
theorem Un.any(u:Un fs ex H H1 h h1){b:Addr}{ob:Bi}(q:h.get? b=some ob)(n:H b=none)(hx:b ∉ ex):∃sl,h1.get? b=some { ob with slots:=sl }:=by
 by_cases hb:b∈fs
 ·exact u.slot b ob q n hb hx
 ·exact⟨ob.slots,u.keep b ob q n hb hx⟩
theorem Un.kept(k:∀b u,h.get? b=some u->h'.get? b=some u):Un fs ex H H h h':=
 ⟨fun b ob q _ _ _=>k b ob q,fun b ob q _ _ _=>⟨ob.slots,k b ob q⟩,fun _ _ _ n _=>n,fun b ob q _=>⟨ob,k b ob q⟩,fun _ _ q=>q,fun _ _ _ q=>q,fun _ ps q=>⟨#[],by rw[q];simp⟩⟩
theorem Un.refl:Un fs ex H H h h:=Un.kept fun _ _ q=>q
theorem Un.laid(k:∀b u,h.get? b=some u->h'.get? b=some u)(hp:h.objs.size<=a)(hn:H a=none):Un fs ex H (upd H a o) h h' where
 keep:=fun b u q _ _ _=>k b u q
 slot:=fun b u q _ _ _=>⟨u.slots,k b u q⟩
 free:=fun b u q n _=>by rw[zal (AZ (AR (AL q) hp))];exact n
 there:=fun b u q _=>⟨u,k b u q⟩
 tups:=fun b xs q=>by rw[zal (zbj q hn)];exact q
 frzs:=fun b u xs q=>by rw[zal (zbj q hn)];exact q
 tbls:=fun b ps q=>⟨#[],by rw[zal (zbj q hn),q];simp⟩
theorem Un.write(mu:Mut (H x))(he:e=x\/H e=some (.own x))(k:∀b u,b≠e->h.get? b=some u->h'.get? b=some u)(heo:∃u,h'.get? e=some u):Un fs ex H (upd H x o) h h':=by
 have hx:∀b,H b=none->b≠x:=fun b n z=>by subst z;rw[n] at mu;exact mu
 have hb:∀b,H b=none->b≠e:=fun b n z=>by
  subst z;rcases he with r | r
  ·exact hx b n r
  ·rw[n] at r;cases r
 have hm:∀b u,H b=some u->¬ Mut (some u)->b≠x:=fun b u q nm z=>by subst z;rw[q] at mu;exact nm mu
 refine⟨fun b u q n _ _=>k b u (hb b n) q,fun b u q n _ _=>⟨u.slots,k b u (hb b n) q⟩,fun b u q n _=>by rw[zal (hx b n)];exact n,fun b u q _=>?_,
  fun b xs q=>by rw[zal (hm b _ q fun z=>z)];exact q,fun b u xs q=>by rw[zal (hm b _ q fun z=>z)];exact q,fun b ps q=>⟨#[],by rw[zal (hm b _ q fun z=>z),q];simp⟩⟩
 by_cases hbe:b=e
 ·subst hbe;exact heo
 ·exact⟨u,k b u hbe q⟩
end
def trk(h:Heap)(H:Hp):List Addr:=(AF h.objs.size).filter fun a=>(H a).isSome
def hidT(h:Heap)(H:Hp):Heap:=PySem.W.hideAll h (trk h H)
theorem zuc(h:Heap)(H:Hp):(hidT h H).objs.size=h.objs.size:=PySem.W.hideAll_size _ _
theorem zxi{h:Heap}{H:Hp}{b:Addr}{o:Bi}(e:h.get? b=some o)(n:H b=none):(hidT h H).get? b=some o:=
 PySem.W.hideAll_get _ e fun hm=>by
  have q:(H b).isSome=true:=(BX.mp hm).2;rw[n] at q;simp at q
theorem Zal{h:Heap}{H:Hp}{b:Addr}{o:Bi}(e:(hidT h H).get? b=some o):h.get? b=some o/\H b=none:=by
 have e':h.get? b=some o:=PySem.W.of_hideAll (trk h H) e;refine⟨e',?_⟩;cases q:H b with
 | none=>rfl
 | some x=>
  have hm:b∈trk h H:=BX.mpr ⟨B5.mpr (AL e'),by simp[q]⟩
  have z:(hidT h H).get? b=none:=PySem.W.hideAll_none (trk h H) hm;rw[z] at e;cases e
def Zb7(g h:Heap)(L:Addr):List (Addr×Bi):=(AF h.objs.size).filterMap fun a=>if a=L\/(g.get? a).isSome=true then none else (h.get? a).map fun o=>(a,o)
def rest(g h:Heap)(L d:Addr):List (Addr×Bi):=(Zb7 g h L).filter fun p=>decide (p.1≠d)
end L2
namespace L2
open PySem PySem.Spec PyProof.Rows
structure Mod(K:A0)(mg:Str->Option A9)(base:Heap):Prop where
 kin:K.In base
 glob:base.Ns mainGlobals mg
 blt:∃mb,base.Ns Ba mb/\∀x:Str,x≠"__name__"->mb x=CC x
 nolimit:base.NoLimit
structure Cx where
 prog:Ak
 w:Ar
 K:A0
 mg:Str->Option A9
 base:Heap
 A:B0
 N:List Str
 s₀:AD
 H₀:Hp
 env:FY
 outer:List FY
 stack:List FY
 ex:List Addr
 fn:Str->Bool
 calm:Bool
 pn:List (Addr×Bi)
 xe:A9->AD->Prop
def frs(l:List FY):List Addr:=l.filterMap (·.frame)
abbrev Cx.fs(X:Cx):List Addr:=frs X.outer
def Vis(sc:Scope)(x:Str):Prop:=sc.names.lookup x=some .local\/sc.names.lookup x=some .cell\/sc.names.lookup x=some .free
def Loc(sc:Scope)(x:Str):Prop:=sc.names.lookup x=some .local\/sc.names.lookup x=some .cell
def Look(env:FY)(h:Heap)(m:Str->Option A9)(x:Str)(u:A9):Prop:=
 (env.kindOf x=some .local/\m x=some u)\/((env.kindOf x=some .cell\/env.kindOf x=some .free)/\∃c,env.cells.lookup x=some c/\h.IsCell c (some u))
structure Cx.Ok(X:Cx):Prop where
 mod:Mod X.K X.mg X.base
 kind:X.env.scope.kind=.function
 glob:X.env.globals=mainGlobals
 blt:X.env.builtins=Ba
 above:X.s₀.heap.objs.size<=X.env.locals
 inj:∀x y c,X.env.cells.lookup x=some c->X.env.cells.lookup y=some c->x=y
 has:∀x,(X.env.kindOf x=some .cell\/X.env.kindOf x=some .free)->∃c,X.env.cells.lookup x=some c
 cab:∀x c,X.fn x=true->X.env.cells.lookup x=some c->X.s₀.heap.objs.size<=c
 hd:X.calm=true->X.A.handled=none
 frames:X.A.frames=some X.stack
 stk:X.stack=X.outer\/(X.stack=X.env::X.outer/\X.env.frame=some X.env.locals)
 exf:∀b∈X.ex,b≠X.env.locals/\∀x c,X.env.cells.lookup x=some c->c≠b
 bs:∀b o,X.base.get? b=some o->X.s₀.heap.get? b=some o/\X.H₀ b=none
 bsz:X.base.objs.size<=X.s₀.heap.objs.size
 noex:∀b o,X.base.get? b=some o->b ∉ X.ex
 exfs:∀b∈X.ex,b ∉ X.fs
 funs:X.s₀.heap.FunFrames X.base X.outer
 frf:∀b∈X.fs,X.H₀ b=none
structure Inv(X:Cx)(pins:List (Addr×Bi))(σ:List (Option V))(H:Hp)(s:AD):Prop where
 ok:X.Ok
 os:s.os=X.s₀.os
 bare:Ex s.gens
 base:Un X.fs X.ex X.H₀ H X.s₀.heap s.heap
 loc:∃m,s.heap.Ns X.env.locals m/\∀(i:Nat)(x:Str)(v:V),X.N[i]?=some x->σ[i]?=some (some v)->Vis X.env.scope x->∃u,RelV v u/\Look X.env s.heap m x u
 cell:∀x c,X.env.cells.lookup x=some c->∃v,s.heap.IsCell c v
 free:H X.env.locals=none
 freeC:∀x c,X.env.cells.lookup x=some c->H c=none
 pin:∀p∈X.pn++pins,s.heap.get? p.1=some p.2/\H p.1=none/\p.1≠X.env.locals/\p.1 ∉ X.fs/\∀v,p.2.data≠.cell v
 hok:HOk X.prog X.w H s.heap
 len:σ.length=X.N.length
section
variable{X : Cx}{pins : List (Addr×Bi)}{σ : List (Option V)}{H H' : Hp}{s : AD}{h' : Heap}
theorem Cx.Ok.nofr(ok:X.Ok){b:Addr}{o:Bi}(e:X.base.get? b=some o):b ∉ X.fs:=fun hb=>by
 have:=(ok.funs.mem hb).1;rw[e] at this;cases this
theorem Inv.bs(I:Inv X pins σ H s):∀b o,X.base.get? b=some o->s.heap.get? b=some o/\H b=none:=fun b o e=>
 ⟨I.base.keep b o (I.ok.bs b o e).1 (I.ok.bs b o e).2 (I.ok.nofr e) (I.ok.noex b o e),I.base.free b o (I.ok.bs b o e).1 (I.ok.bs b o e).2 (I.ok.noex b o e)⟩
theorem Inv.bk(I:Inv X pins σ H s):∀b o,X.base.get? b=some o->s.heap.get? b=some o:=fun b o e=>(I.bs b o e).1
theorem Inv.mod(I:Inv X pins σ H s):Mod X.K X.mg X.base:=I.ok.mod
theorem Inv.kIn(I:Inv X pins σ H s):X.K.In s.heap:=I.ok.mod.kin.keeps I.bk
theorem Inv.lt(I:Inv X pins σ H s):X.env.locals<s.heap.objs.size:=let ⟨_,hn,_⟩:=I.loc;hn.lt
theorem Inv.sz(I:Inv X pins σ H s):X.s₀.heap.objs.size<=s.heap.objs.size:=B9 I.ok.above (Ef I.lt)
theorem Inv.nofs(I:Inv X pins σ H s){a:Addr}(h:s.heap.objs.size<=a):a ∉ X.fs:=fun hb=>by
 obtain⟨_,o,ho,_⟩:=I.ok.funs.mem hb;exact absurd (AR (AL ho) (B9 I.sz h)) (BE _)
theorem Inv.cne(I:Inv X pins σ H s):∀x c,X.env.cells.lookup x=some c->c≠X.env.locals:=fun x c e z=>by
 obtain⟨v,o,ho,hd⟩:=I.cell x c e;obtain⟨m,⟨o',es,ep,ho',hd',_⟩,_⟩:=I.loc;rw[z,ho'] at ho;cases ho;rw[hd'] at hd;cases hd
theorem Inv.funs(I:Inv X pins σ H s):s.heap.FunFrames X.base X.outer:=by
 have all:∀(l:List FY),(∀b∈frs l,b∈X.fs)->X.s₀.heap.FunFrames X.base l->s.heap.FunFrames X.base l:=by
  intro l
  induction l with
  | nil=>intro _ _;trivial
  | cons env r ih=>
   intro hs hl;obtain⟨hk,⟨L,o,hf,hn,ho,hd⟩,hr⟩:=hl;have hL:L∈X.fs:=hs L (by unfold frs;rw[Cu,hf];exact Ai)
   obtain⟨sl,e⟩:=I.base.slot L o ho (I.ok.frf L hL) hL fun z=>I.ok.exfs L z hL
   exact⟨hk,⟨L,_,hf,hn,e,hd⟩,ih (fun b hb=>hs b (by unfold frs;rw[Cu,hf];exact Ah _ hb)) hr⟩
 exact all X.outer (fun _ hb=>hb) I.ok.funs
theorem Inv.stack(I:Inv X pins σ H s):s.heap.FunFrames X.base X.stack:=by
 rcases I.ok.stk with e | ⟨e,hf⟩
 ·rw[e];exact I.funs
 ·rw[e]
  obtain⟨m,hn,_⟩:=I.loc;refine .cons (by rw[I.ok.kind];decide) hf hn ?_ I.funs
  exact Gv (B9 I.ok.bsz I.ok.above)
theorem Inv.stkSub(I:Inv X pins σ H s):∀b∈frs X.stack,b∈X.env.locals::X.fs:=fun b hb=>by
 rcases I.ok.stk with e | ⟨e,hf⟩
 ·rw[e] at hb;exact Ah _ hb
 ·rw[e] at hb
  unfold frs at hb;rw[Cu,hf] at hb;exact hb
theorem Inv.stkFree(I:Inv X pins σ H s):∀b∈frs X.stack,H b=none:=fun b hb=>by
 rcases AU.mp (I.stkSub b hb) with e | hb
 ·rw[e];exact I.free
 ·obtain⟨_,o,ho,_⟩:=I.ok.funs.mem hb
  exact I.base.free b o ho (I.ok.frf b hb) fun z=>I.ok.exfs b z hb
theorem Inv.step{g':Array GenState}{t':Nat}{d':Drawn}{ch:List Addr}(I:Inv X pins σ H s)
  (hch:∀b∈ch,(b∈X.ex\/X.s₀.heap.objs.size<=b)/\b≠X.env.locals/\(∀x c,X.env.cells.lookup x=some c->c≠b)/\∀p∈X.pn++pins,p.1≠b)
  (keep:∀b o,b≠X.env.locals->b ∉ X.fs->b ∉ ch->s.heap.get? b=some o->H b=none->h'.get? b=some o)
  (slot:∀b o,b≠X.env.locals->b∈X.fs->b ∉ ch->s.heap.get? b=some o->H b=none->∃sl,h'.get? b=some { o with slots:=sl }) (free:∀b o,b ∉ ch->s.heap.get? b=some o->H b=none->H' b=none)
  (there:∀b o,b ∉ ch->s.heap.get? b=some o->∃o',h'.get? b=some o')
  (tups:∀b xs,H b=some (.tup xs)->H' b=some (.tup xs)) (frzs:∀b o u,H b=some (.frz o u)->H' b=some (.frz o u)) (tbls:∀b ps,H b=some (.tbl ps)->∃more,H' b=some (.tbl (ps++more)))
  (ns:∀m,s.heap.Ns X.env.locals m->h'.Ns X.env.locals m) (hok:HOk X.prog X.w H' h') (hg:Ex g') :
  Inv X pins σ H' { s with heap:=h',gens:=g',drawn:=d',toks:=t' }:=by
 have neL:∀b o,X.s₀.heap.get? b=some o->b≠X.env.locals:=fun b o e=>AZ (AR (AL e) I.ok.above)
 have neC:∀b o,X.s₀.heap.get? b=some o->b ∉ X.ex->b ∉ ch:=fun b o e hx hb=>by
  rcases (hch b hb).1 with z | z
  ·exact hx z
  ·exact absurd (AR (AL e) z) (BE _)
 have cellK:∀x c,X.env.cells.lookup x=some c->∀v,s.heap.IsCell c v->h'.IsCell c v:=fun x c e v ⟨o,ho,hd⟩=>by
  have nch:c ∉ ch:=fun z=>(hch c z).2.2.1 x c e rfl
  by_cases hc:c∈X.fs
  ·obtain⟨sl,q⟩:=slot c o (I.cne x c e) hc nch ho (I.freeC x c e)
   exact⟨_,q,hd⟩
  ·exact⟨o,keep c o (I.cne x c e) hc nch ho (I.freeC x c e),hd⟩
 refine⟨I.ok,I.os,hg,⟨fun b o e n hb hx=>?_,fun b o e n hb hx=>?_,fun b o e n hx=>?_,fun b o e hx=>?_,fun b xs e=>tups b xs (I.base.tups b xs e),fun b o xs e=>frzs b o xs (I.base.frzs b o xs e),fun b ps e=>?_⟩,?_,fun x c e=>?_,?_,fun x c e=>?_,fun p hp=>?_,hok,I.len⟩
 ·exact keep b o (neL b o e) hb (neC b o e hx) (I.base.keep b o e n hb hx) (I.base.free b o e n hx)
 ·obtain⟨sl,e1⟩:=I.base.slot b o e n hb hx
  obtain⟨sl',e2⟩:=slot b _ (neL b o e) hb (neC b o e hx) e1 (I.base.free b o e n hx);exact⟨sl',e2⟩
 ·obtain⟨o',e1⟩:=I.base.there b o e hx
  exact free b o' (neC b o e hx) e1 (I.base.free b o e n hx)
 ·obtain⟨o',e1⟩:=I.base.there b o e hx
  exact there b o' (neC b o e hx) e1
 ·obtain⟨m1,e1⟩:=I.base.tbls b ps e
  obtain⟨m2,e2⟩:=tbls b _ e1;exact⟨m1++m2,by rw[e2,Array.append_assoc]⟩
 ·obtain⟨m,hn,hl⟩:=I.loc
  refine⟨m,ns m hn,fun i x v e1 e2 e3=>?_⟩
  obtain⟨u,r,l⟩:=hl i x v e1 e2 e3;refine⟨u,r,?_⟩;rcases l with l | ⟨k,c,e,z⟩
  ·exact .inl l
  ·exact .inr ⟨k,c,e,cellK x c e _ z⟩
 ·obtain⟨v,z⟩:=I.cell x c e
  exact⟨v,cellK x c e v z⟩
 ·obtain⟨m,⟨o,_,_,ho,_⟩,_⟩:=I.loc
  exact free _ o (fun z=>(hch _ z).2.1 rfl) ho I.free
 ·obtain⟨v,o,ho,hd⟩:=I.cell x c e
  exact free c o (fun z=>(hch c z).2.2.1 x c e rfl) ho (I.freeC x c e)
 ·obtain⟨e,n,ne,nf,d⟩:=I.pin p hp
  have nch:p.1 ∉ ch:=fun z=>(hch p.1 z).2.2.2 p hp rfl
  exact⟨keep p.1 p.2 ne nf nch e n,free p.1 p.2 nch e n,ne,nf,d⟩
theorem Inv.un{t':Nat}(I:Inv X pins σ H s)(u:Un X.fs [] H H' s.heap h')(hok:HOk X.prog X.w H' h'):Inv X pins σ H' { s with heap:=h',toks:=t' }:=by
 obtain⟨m,⟨o,es,ep,ho,r⟩,_⟩:=id I.loc;obtain⟨sl,hL⟩:=u.any ho I.free (by simp)
 exact I.step (g':=s.gens) (d':=s.drawn) (ch:=[]) (fun _ z=>nomatch z) (fun b o _ hb _ e n=>u.keep b o e n hb (by simp)) (fun b o _ hb _ e n=>u.slot b o e n hb (by simp)) (fun b o _ e n=>u.free b o e n (by simp)) (fun b o _ e=>u.there b o e (by simp)) u.tups u.frzs u.tbls (fun m' hm=>by
  obtain⟨o',es',ep',ho',r'⟩:=hm;rw[ho] at ho';cases ho';exact⟨_,es',ep',hL,r'⟩) hok I.bare
theorem Inv.call{g':Array GenState}{t':Nat}{d':Drawn}{ch:List Addr}(I:Inv X pins σ H s)(u:Un (frs X.stack) ch H H' s.heap h')(hok:HOk X.prog X.w H' h')(hg:Ex g')
  (hch:∀b∈ch,(b∈X.ex\/X.s₀.heap.objs.size<=b)/\b≠X.env.locals/\(∀x c,X.env.cells.lookup x=some c->c≠b)/\∀p∈X.pn++pins,p.1≠b) :
  Inv X pins σ H' { s with heap:=h',gens:=g',drawn:=d',toks:=t' }:=by
 obtain⟨m,⟨o,es,ep,ho,r⟩,_⟩:=id I.loc;obtain⟨sl,hL⟩:=u.any ho I.free fun z=>(hch _ z).2.1 rfl
 exact I.step (ch:=ch) hch (fun b o hL hb hc e n=>u.keep b o e n (fun z=>(AU.mp (I.stkSub b z)).elim hL hb) hc) (fun b o _ _ hc e n=>u.any e n hc) (fun b o hc e n=>u.free b o e n hc) (fun b o hc e=>u.there b o e hc) u.tups u.frzs u.tbls (fun m' hm=>by
  obtain⟨o',es',ep',ho',r'⟩:=hm;rw[ho] at ho';cases ho';exact⟨_,es',ep',hL,r'⟩) hok hg
theorem Inv.turned{t':Nat}{it:Addr}(I:Inv X pins σ H s)(k:∀b o,b≠it->s.heap.get? b=some o->h'.get? b=some o)(hn:H it=none)(hL:it≠X.env.locals)
  (h1:it∈X.ex\/X.s₀.heap.objs.size<=it) (h2:∀x c,X.env.cells.lookup x=some c->c≠it) (h3:∀p∈X.pn++pins,p.1≠it):Inv X pins σ H { s with heap:=h',toks:=t' }:=by
 have nit:∀b u,H b=some u->b≠it:=fun b u e z=>by rw[z,hn] at e;cases e
 refine I.step (g':=s.gens) (d':=s.drawn) (ch:=[it]) (fun b hb=>?_) (fun b o _ _ hc e _=>k b o (fun z=>hc (by simp[z])) e) (fun b o _ _ hc e _=>⟨o.slots,k b o (fun z=>hc (by simp[z])) e⟩) (fun _ _ _ _ n=>n)
  (fun b o hc e=>⟨o,k b o (fun z=>hc (by simp[z])) e⟩) (fun _ _ e=>e) (fun _ _ _ e=>e) (fun b ps e=>⟨#[],by rw[e];simp⟩) (fun m hm=>?_) (fun b u e=>?_) I.bare
 ·have e:b=it:=by simpa using hb
  subst e;exact⟨h1,hL,h2,h3⟩
 ·obtain⟨o,es,ep,ho,r⟩:=hm
  exact⟨o,es,ep,k _ o (Bc hL) ho,r⟩
 ·refine(I.hok b u e).stay (fun c v hc q=>k c v ?_ q) (fun _ q=>q) fun _ _ q=>q
  rcases hc with z | z
  ·rw[z];exact nit b u e
  ·exact nit c _ z
theorem Inv.tok(I:Inv X pins σ H s)(t:Nat):Inv X pins σ H { s with toks:=t }:=I.un (h':=s.heap) (t':=t) Un.refl I.hok
theorem Inv.kept{t':Nat}(I:Inv X pins σ H s)(k:∀b u,s.heap.get? b=some u->h'.get? b=some u):Inv X pins σ H { s with heap:=h',toks:=t' }:=I.un (Un.kept k) (I.hok.kept k)
theorem Inv.laid{a:Addr}{o:HO}{t':Nat}(I:Inv X pins σ H s)(k:∀b u,s.heap.get? b=some u->h'.get? b=some u)(hp:s.heap.objs.size<=a)(new:zdx X.prog X.w (upd H a o) h' a o) :
  Inv X pins σ (upd H a o) { s with heap:=h',toks:=t' }:=I.un (Un.laid k hp (I.hok.fresh hp)) (I.hok.laid k hp new)
theorem Inv.write{x e:Addr}{o:HO}{t':Nat}(I:Inv X pins σ H s)(mu:Mut (H x))(he:e=x\/H e=some (.own x))(k:∀b u,b≠e->s.heap.get? b=some u->h'.get? b=some u)(heo:∃u,h'.get? e=some u)
  (new:zdx X.prog X.w (upd H x o) h' x o):Inv X pins σ (upd H x o) { s with heap:=h',toks:=t' }:=I.un (Un.write mu he k heo) (I.hok.write mu he k heo new)
theorem Inv.pins_of{pins':List (Addr×Bi)}(I:Inv X pins σ H s)(h:∀p∈pins',s.heap.get? p.1=some p.2/\H p.1=none/\p.1≠X.env.locals/\p.1 ∉ X.fs/\∀v,p.2.data≠.cell v):Inv X pins' σ H s:=
 ⟨I.ok,I.os,I.bare,I.base,I.loc,I.cell,I.free,I.freeC,fun p hp=>(Aj.mp hp).elim (fun z=>I.pin p (BV _ z)) (h p),I.hok,I.len⟩
theorem zqa{N:List Str}(hN:N.Nodup){i j:Nat}{x:Str}(a:N[i]?=some x)(b:N[j]?=some x):i=j:=by
 obtain⟨h1,e1⟩:=AA.mp a;obtain⟨h2,e2⟩:=AA.mp b;exact(EF hN).mp (e1.trans e2.symm)
theorem zsn{M:Model}{A:B0}{E:A9->AD->Prop}{i:Nat}{x:Str}{v:V}{u:A9}{Q:Unit->AD->Prop}(I:Inv X pins σ H s)(hN:X.N.Nodup)(hi:X.N[i]?=some x)(hx:Loc X.env.scope x)(r:RelV v u)
  (h:∀s',Inv X pins (σ.set i (some v)) H s'->(∃a,DC a s.heap s'.heap/\(a=X.env.locals\/X.env.cells.lookup x=some a))->Q () s') (hf:X.fn x=true\/X.env.scope.names.lookup x=some .local:=by first | exact .inl rfl | exact .inr rfl | assumption):Af M A (storeName X.env x u) Q E s:=by
 obtain⟨m,hn,hl⟩:=id I.loc;have hcls:(X.env.scope.kind == .class || (X.env.scope.kind == .module && X.env.locals != X.env.globals))=false:=by rw[I.ok.kind];rfl
 have hiσ:i<σ.length:=by rw[I.len];exact(AA.mp hi).1
 have cne:=I.cne
 have tracked:∀{a:Addr}{h':Heap},(∃o,s.heap.get? a=some o/\H a=none)->DC a s.heap h'->HOk X.prog X.w H h':=fun {a h'} ha hs b ob e=>by
  obtain⟨_,_,hfree⟩:=ha;refine(I.hok b ob e).stay (fun c w' hc q=>(hs.2 c ?_).trans q) (fun _ q=>q) fun _ _ q=>q
  rintro rfl;rcases hc with rfl | hc
  ·rw[hfree] at e;cases e
  ·rw[hfree] at hc;cases hc
 rcases hx with hk | hk
 ·refine wpAny_storeName_local hk hn (fun h' hn' hs=>?_) hcls
  obtain⟨oL,_,_,hoL,_⟩:=id hn;refine h _ ⟨I.ok,I.os,I.bare,⟨fun b o e n hb hx=>?_,fun b o e n hb hx=>?_,I.base.free,fun b o e hx=>?_,I.base.tups,I.base.frzs,I.base.tbls⟩,⟨_,hn',fun j y v' e1 e2 e3=>?_⟩,fun y c e=>?_,I.free,I.freeC,fun p hp=>?_,tracked ⟨oL,hoL,I.free⟩ hs,by simpa using I.len⟩ ⟨_,hs,.inl rfl⟩
  ·exact(hs.2 b (AZ (AR (AL e) I.ok.above))).trans (I.base.keep b o e n hb hx)
  ·obtain⟨sl,e1⟩:=I.base.slot b o e n hb hx
   exact⟨sl,(hs.2 b (AZ (AR (AL e) I.ok.above))).trans e1⟩
  ·obtain⟨o',e1⟩:=I.base.there b o e hx
   exact⟨o',(hs.2 b (AZ (AR (AL e) I.ok.above))).trans e1⟩
  ·by_cases hj:j=i
   ·subst hj
    rw[hi] at e1;cases e1;rw[Au hiσ] at e2;cases e2;exact⟨u,r,.inl ⟨hk,by simp⟩⟩
   ·rw[Az (Bc hj)] at e2
    obtain⟨u',r',q⟩:=hl j y v' e1 e2 e3;refine⟨u',r',?_⟩;rcases q with⟨k,e⟩|⟨k,c,e,z⟩
    ·refine .inl ⟨k,?_⟩
     have:y≠x:=fun e=>hj (zqa hN e1 (e▸hi))
     simp[this,e]
    ·exact .inr ⟨k,c,e,z.sameBut hs (cne y c e)⟩
  ·obtain⟨w',z⟩:=I.cell y c e
   exact⟨w',z.sameBut hs (cne y c e)⟩
  ·obtain⟨e,n,ne,nf,d⟩:=I.pin p hp
   exact⟨(hs.2 p.1 ne).trans e,n,ne,nf,d⟩
 ·have hfn:X.fn x=true:=by
   rcases hf with z | z
   ·exact z
   ·rw[z] at hk;cases hk
  obtain⟨c,hc⟩:=I.ok.has x (.inl hk);obtain⟨w',z⟩:=I.cell x c hc;refine wpAny_storeName_cell I.ok.kind hk hc z (fun h' hc' hs=>?_)
  obtain⟨oc,hoc,hocd⟩:=id z;refine h { s with heap:=h' } ⟨I.ok,I.os,I.bare,⟨fun b o e n hb hx=>?_,fun b o e n hb hx=>?_,I.base.free,fun b o e hx=>?_,I.base.tups,I.base.frzs,I.base.tbls⟩,⟨m,hn.sameBut hs (Bc (cne x c hc)),fun j y v' e1 e2 e3=>?_⟩,fun y c' e=>?_,I.free,I.freeC,fun p hp=>?_,tracked ⟨oc,hoc,I.freeC x c hc⟩ hs,by simpa using I.len⟩ ⟨c,hs,.inr hc⟩
  ·exact(hs.2 b (AZ (AR (AL e) (I.ok.cab x c hfn hc)))).trans (I.base.keep b o e n hb hx)
  ·obtain⟨sl,e1⟩:=I.base.slot b o e n hb hx
   exact⟨sl,(hs.2 b (AZ (AR (AL e) (I.ok.cab x c hfn hc)))).trans e1⟩
  ·obtain⟨o',e1⟩:=I.base.there b o e hx
   exact⟨o',(hs.2 b (AZ (AR (AL e) (I.ok.cab x c hfn hc)))).trans e1⟩
  ·by_cases hj:j=i
   ·subst hj
    rw[hi] at e1;cases e1;rw[Au hiσ] at e2;cases e2;exact⟨u,r,.inr ⟨.inl hk,c,hc,hc'⟩⟩
   ·rw[Az (Bc hj)] at e2
    obtain⟨u',r',q⟩:=hl j y v' e1 e2 e3;refine⟨u',r',?_⟩;rcases q with q | ⟨k,c',e,z'⟩
    ·exact .inl q
    ·refine .inr ⟨k,c',e,z'.sameBut hs ?_⟩
     rintro rfl;exact hj (zqa hN e1 (I.ok.inj _ _ _ e hc▸hi))
  ·by_cases hcc:c'=c
   ·subst hcc;exact⟨_,hc'⟩
   ·obtain⟨w2,z2⟩:=I.cell y c' e
    exact⟨w2,z2.sameBut hs hcc⟩
  ·obtain⟨e,n,ne,nf,d⟩:=I.pin p hp
   refine⟨(hs.2 p.1 ?_).trans e,n,ne,nf,d⟩;intro q;rw[q,hoc] at e;have q':oc=p.2:=BD e;exact d w' (by rw[← q'];exact hocd)
theorem zl1{M:Model}{A:B0}{E:A9->AD->Prop}{i:Nat}{x:Str}{v:V}{u:A9}{Q:Unit->AD->Prop}(I:Inv X pins σ H s)(hN:X.N.Nodup)(hi:X.N[i]?=some x)(hx:Loc X.env.scope x)(r:RelV v u)
  (h:∀s',Inv X pins (σ.set i (some v)) H s'->Q () s') (hf:X.fn x=true\/X.env.scope.names.lookup x=some .local:=by first | exact .inl rfl | exact .inr rfl | assumption):Af M A (storeName X.env x u) Q E s:=
 zsn I hN hi hx r (fun s' I' _=>h s' I') hf
theorem Inv.call'{s':AD}{ch:List Addr}(I:Inv X pins σ H s)(ho:s'.os=s.os)(u:Un (frs X.stack) ch H H' s.heap s'.heap)(hok:HOk X.prog X.w H' s'.heap)(hg:Ex s'.gens)
  (hch:∀b∈ch,(b∈X.ex\/X.s₀.heap.objs.size<=b)/\b≠X.env.locals/\(∀x c,X.env.cells.lookup x=some c->c≠b)/\∀p∈X.pn++pins,p.1≠b):Inv X pins σ H' s':=by
 obtain⟨h',g',d',t',o'⟩:=s';have e:o'=s.os:=ho;subst e;exact I.call (g':=g') (t':=t') (d':=d') u hok hg hch
end
abbrev XK:=A9->Option Addr->Hp->Prop
abbrev St:=List (Option V)
abbrev VK:=V->Hp->Prop
abbrev TE:=St->Hp->VK->Prop
abbrev TT:=St->Hp->(Bool->Hp->Prop)->Prop
abbrev TA:=St->Hp->(List V->Hp->Prop)->Prop
structure Ends where
 nx:St->Hp->Prop
 rt:VK
 bk:St->Hp->Prop:=fun _ _=>False
 ct:St->Hp->Prop:=fun _ _=>False
abbrev TS:=Ends->St->Hp->Prop
def EP(X:Cx)(pins:List (Addr×Bi))(σ:St)(Q:VK)(u:A9)(s':AD):Prop:=∃v H',Inv X pins σ H' s'/\RelV v u/\Q v H'
def TP(X:Cx)(pins:List (Addr×Bi))(σ:St)(Q:Bool->Hp->Prop)(b:Bool)(s':AD):Prop:=∃H',Inv X pins σ H' s'/\Q b H'
def AP(X:Cx)(pins:List (Addr×Bi))(σ:St)(Q:List V->Hp->Prop)(us:List A9)(s':AD):Prop:=∃vs H',Inv X pins σ H' s'/\Vals vs us/\Q vs H'
def SP(X:Cx)(pins:List (Addr×Bi))(D:Ends)(f:Flow)(s':AD):Prop:=
 match f with
 | .next=>∃σ' H',Inv X pins σ' H' s'/\D.nx σ' H'
 | .brk=>∃σ' H',Inv X pins σ' H' s'/\D.bk σ' H'
 | .cont=>∃σ' H',Inv X pins σ' H' s'/\D.ct σ' H'
 | .ret u=>∃v σ' H',Inv X pins σ' H' s'/\RelV v u/\D.rt v H'
def PE(X:Cx)(e:Expr)(t:TE):Prop:=
 ∀(pins:List (Addr×Bi))(s:AD)(σ:St)(H:Hp)(Q:VK),Inv X pins σ H s->t σ H Q->Af (Ap X.prog X.w) X.A (BR e X.env) (EP X pins σ Q) X.xe s
def PT(X:Cx)(e:Expr)(t:TT):Prop:=
 ∀(pins:List (Addr×Bi))(s:AD)(σ:St)(H:Hp)(Q:Bool->Hp->Prop),Inv X pins σ H s->t σ H Q->Af (Ap X.prog X.w) X.A (isTrue e X.env (BR e X.env)) (TP X pins σ Q) X.xe s
def PW(X:Cx)(e:Expr)(t:TT):Prop:=
 ∀(whole:Sem A9)(pins:List (Addr×Bi))(s:AD)(σ:St)(H:Hp)(Q:Bool->Hp->Prop),Inv X pins σ H s->t σ H Q->Af (Ap X.prog X.w) X.A (isTrue e X.env whole) (TP X pins σ Q) X.xe s
theorem PW.pt{X:Cx}{e:Expr}{t:TT}(h:PW X e t):PT X e t:=h _
def PA(X:Cx)(es:List Expr)(t:TA):Prop:=
 ∀(pos:C7)(pins:List (Addr×Bi))(s:AD)(σ:St)(H:Hp)(Q:List V->Hp->Prop),Inv X pins σ H s->t σ H Q->Af (Ap X.prog X.w) X.A (spliced (DH pos (Ad es X.env))) (AP X pins σ Q) X.xe s
def PS(X:Cx)(st:Stmt)(t:TS):Prop:=
 ∀(pins:List (Addr×Bi))(s:AD)(σ:St)(H:Hp)(D:Ends),Inv X pins σ H s->t D σ H->Af (Ap X.prog X.w) X.A (exec st X.env) (SP X pins D) X.xe s
def PSs(X:Cx)(st:List Stmt)(t:TS):Prop:=
 ∀(pins:List (Addr×Bi))(s:AD)(σ:St)(H:Hp)(D:Ends),Inv X pins σ H s->t D σ H->Af (Ap X.prog X.w) X.A (execs st X.env) (SP X pins D) X.xe s
theorem thn{α:Type}{t:Sem α}{Q Q':α->AD->Prop}{M:Model}{A:B0}{E:A9->AD->Prop}{s:AD}(h:Af M A t Q E s)(hQ:∀a s,Q a s->Q' a s):Af M A t Q' E s:=C9 h hQ fun _ _ x=>x
end L2
namespace L2
open PySem PySem.Spec PyProof.Rows
section
variable{X : Cx}
def tVar(i:Nat):TE:=fun σ H Q=>∃v,σ[i]?=some (some v)/\Q v H
def tC(v:V):TE:=fun _ H Q=>Q v H
theorem zeb {i:Nat} {x:Str} {pos:C7} (hN:X.N[i]?=some x) (hv:Vis X.env.scope x) (hd:(x == ("__debug__":Str))=false:=by decide) (hcd:(x == ("__classdict__":Str))=false:=by decide):PE X (.Name x pos) (tVar i):=by
 intro pins s σ H Q I h;obtain⟨v,e,h⟩:=h;obtain⟨m,hn,hl⟩:=I.loc;obtain⟨u,r,l⟩:=hl i x v hN e hv;have fin:EP X pins σ Q u s:=⟨v,H,I,r,h⟩;rcases l with⟨hk,hm⟩|⟨hk,c,hc,hcell⟩
 ·exact wpAny_Name (wpAny_loadName_local I.ok.kind hk hn hm fin) hd
 ·rcases hk with hk | hk
  ·exact wpAny_Name (wpAny_loadName_cell I.ok.kind hk hc hcell fin) hd
  ·exact wpAny_Name (wpAny_loadName_free I.ok.kind hk hc hcell fin hcd) hd
theorem Zdp{i j pos}:PE X (.Constant (.int i) j pos) (tC (.int i)):=fun _ _ _ H _ I h=>wpAny_Constant_int ⟨.int i,H,I.tok _,⟨_,rfl⟩,h⟩
theorem Zg3{b j pos}:PE X (.Constant (.bool b) j pos) (tC (.bl b)):=fun _ _ _ H _ I h=>Constant_bool ⟨.bl b,H,I,rfl,h⟩
theorem Zdl{j pos}:PE X (.Constant .none j pos) (tC .non):=fun _ _ _ H _ I h=>Constant_none ⟨.non,H,I,rfl,h⟩
theorem Zdi{x j pos}:PE X (.Constant (.str x) j pos) (tC (.str x)):=fun _ _ _ H _ I h=>Calls.Constant_str ⟨.str x,H,I.tok _,⟨_,rfl⟩,h⟩
def Gl(X:Cx)(x:Str):Prop:=X.env.kindOf x=some .globalImplicit
theorem zo9{E:A9->AD->Prop}{pins:List (Addr×Bi)}{s:AD}{σ:St}{H:Hp}{x:Str}{u:A9}{pos:C7}{Q:A9->AD->Prop}(I:Inv X pins σ H s)(hg:Gl X x)(hm:X.mg x=some u)(h:Q u s)
  (hd:(x == ("__debug__":Str))=false:=by decide):Af (Ap X.prog X.w) X.A (BR (.Name x pos) X.env) Q E s:=
 Fx I.ok.kind hg (Calls.loadGlobal_global (by rw[I.ok.glob];exact I.mod.glob.keeps I.bk) hm h) hd
theorem zhz{E:A9->AD->Prop}{pins:List (Addr×Bi)}{s:AD}{σ:St}{H:Hp}{x:Str}{u:A9}{pos:C7}{Q:A9->AD->Prop}(I:Inv X pins σ H s)(hg:Gl X x)(hm:X.mg x=none)(hv:CC x=some u)(h:Q u s)
  (hn:x≠"__name__":=by decide) (hd:(x == ("__debug__":Str))=false:=by decide):Af (Ap X.prog X.w) X.A (BR (.Name x pos) X.env) Q E s:=by
 obtain⟨mb,h1,h2⟩:=I.mod.blt;exact Fx I.ok.kind hg (Calls.loadGlobal_builtin (by rw[I.ok.glob];exact I.mod.glob.keeps I.bk) hm (by rw[I.ok.blt];exact h1.keeps I.bk) ((h2 x hn).trans hv) h) hd
theorem Zae {x:Str} {v:V} {u:A9} {pos:C7} (hg:Gl X x) (hm:X.mg x=some u) (r:RelV v u) (hd:(x == ("__debug__":Str))=false:=by decide):PE X (.Name x pos) (tC v):=
 fun _ _ _ H _ I h=>zo9 I hg hm ⟨v,H,I,r,h⟩ hd
theorem Zah {x:Str} {v:V} {u:A9} {pos:C7} (hg:Gl X x) (hm:X.mg x=none) (hv:CC x=some u) (r:RelV v u) (hn:x≠"__name__":=by decide) (hd:(x == ("__debug__":Str))=false:=by decide):PE X (.Name x pos) (tC v):=
 fun _ _ _ H _ I h=>zhz I hg hm hv ⟨v,H,I,r,h⟩ hn hd
variable{a b : Expr}{ta tb : TE}{pos : C7}
variable{tA tB' : TT}{rest : List Expr}
def tAnd(t u:TT):TT:=fun σ H Q=>t σ H fun c H1=>if c=true then u σ H1 Q else Q false H1
def tOr(t u:TT):TT:=fun σ H Q=>t σ H fun c H1=>if c=true then Q true H1 else u σ H1 Q
def tNot(t:TT):TT:=fun σ H Q=>t σ H fun c H1=>Q (!c) H1
theorem zz6(ha:PT X a tA):PW X (.BoolOp .And [a] pos) tA:=by
 intro wh pins s σ H Q I h;refine isTrue_and (thn (ha pins s σ H Q I h) fun c s1 e=>?_)
 cases c with
 | true=>exact isTrue_and_nil e
 | false=>exact e
theorem Zda(ha:PT X a tA):PW X (.BoolOp .Or [a] pos) tA:=by
 intro wh pins s σ H Q I h;refine isTrue_or (thn (ha pins s σ H Q I h) fun c s1 e=>?_)
 cases c with
 | false=>exact isTrue_or_nil e
 | true=>exact e
theorem Zdb(ha:PT X a tA)(hb:PW X (.BoolOp .And (b::rest) pos) tB'):PW X (.BoolOp .And (a::b::rest) pos) (tAnd tA tB'):=by
 intro wh pins s σ H Q I h;refine isTrue_and (thn (ha pins s σ H _ I h) fun c s1 ⟨H1,I1,q1⟩=>?_)
 cases c with
 | true=>exact hb wh pins s1 σ H1 Q I1 q1
 | false=>exact⟨H1,I1,q1⟩
theorem Zgw(ha:PT X a tA)(hb:PW X (.BoolOp .Or (b::rest) pos) tB'):PW X (.BoolOp .Or (a::b::rest) pos) (tOr tA tB'):=by
 intro wh pins s σ H Q I h;refine isTrue_or (thn (ha pins s σ H _ I h) fun c s1 ⟨H1,I1,q1⟩=>?_)
 cases c with
 | true=>exact⟨H1,I1,q1⟩
 | false=>exact hb wh pins s1 σ H1 Q I1 q1
theorem Zdc(ha:PT X a tA):PT X (.UnaryOp .Not a pos) (tNot tA):=by
 intro pins s σ H Q I h;exact isTrue_not (ha pins s σ H (fun c H1=>Q (!c) H1) I h)
def Zgq(ta tb:TE):TE:=fun σ H Q=>ta σ H fun x H1=>∃c,x=.bl c/\if c=true then tb σ H1 Q else Q (.bl false) H1
def tOrV(ta tb:TE):TE:=fun σ H Q=>ta σ H fun x H1=>∃c,x=.bl c/\if c=true then Q (.bl true) H1 else tb σ H1 Q
def Zgl(ta:TE):TE:=fun σ H Q=>ta σ H fun x H1=>∃c,x=.bl c/\Q (.bl (!c)) H1
theorem Zdj{op}{t:TE}(h:PE X a t):PE X (.BoolOp op [a] pos) t:=fun pins s σ H Q I hw=>BoolOp_one (h pins s σ H Q I hw)
theorem Zdq(ha:PE X a ta)(hb:PE X (.BoolOp .And (b::rest) pos) tb):PE X (.BoolOp .And (a::b::rest) pos) (Zgq ta tb):=by
 intro pins s σ H Q I h;refine BoolOp_and (thn (ha pins s σ H _ I h) fun v s1 ⟨x,H1,I1,r1,q1⟩=>?_)
 obtain⟨c,rfl,q1⟩:=q1;cases r1;refine Bs ?_;cases c with
 | true=>exact hb pins s1 σ H1 Q I1 q1
 | false=>exact⟨.bl false,H1,I1,rfl,q1⟩
theorem Zg1(ha:PE X a ta)(hb:PE X (.BoolOp .Or (b::rest) pos) tb):PE X (.BoolOp .Or (a::b::rest) pos) (tOrV ta tb):=by
 intro pins s σ H Q I h;refine BoolOp_or (thn (ha pins s σ H _ I h) fun v s1 ⟨x,H1,I1,r1,q1⟩=>?_)
 obtain⟨c,rfl,q1⟩:=q1;cases r1;refine Bs ?_;cases c with
 | false=>exact hb pins s1 σ H1 Q I1 q1
 | true=>exact⟨.bl true,H1,I1,rfl,q1⟩
theorem Zdk(ha:PE X a ta):PE X (.UnaryOp .Not a pos) (Zgl ta):=by
 intro pins s σ H Q I h;refine UnaryOp_ (thn (ha pins s σ H _ I h) fun v s1 ⟨x,H1,I1,r1,q1⟩=>?_)
 obtain⟨c,rfl,q1⟩:=q1;cases r1;exact not_of (Bs ⟨.bl (!c),H1,I1,rfl,q1⟩)
def tIf(t:TT)(ta tb:TE):TE:=fun σ H Q=>t σ H fun c H1=>if c=true then ta σ H1 Q else tb σ H1 Q
theorem zwx{c:Expr}(hc:PT X c tA)(ha:PE X a ta)(hb:PE X b tb):PE X (.IfExp c a b pos) (tIf tA ta tb):=by
 intro pins s σ H Q I h;refine wpAny_IfExp (thn (hc pins s σ H _ I h) fun d s1 ⟨H1,I1,q1⟩=>?_)
 cases d with
 | true=>exact ha pins s1 σ H1 Q I1 q1
 | false=>exact hb pins s1 σ H1 Q I1 q1
end
end L2
namespace L2
open PySem PySem.Spec PyProof.Rows
def SqL(K:A0)(H:Hp)(a:Addr)(xs:List V):Prop:=
 Rd H a (.lst xs) ∨
  ∃(o:Bi) (its:Array A9) (n:Nat),K.lookup a=some o/\o.cls=.type "list"/\o.dict=none/\o.data=.seq its n/\its.size<=sizeLine/\Vals xs its.toList
def SqT(K:A0)(H:Hp)(a:Addr)(xs:List V):Prop:=
 Rd H a (.tup xs) ∨
  ∃(o:Bi) (its:Array A9) (n:Nat),K.lookup a=some o/\o.cls=.type "tuple"/\o.data=.seq its n/\its.size<=sizeLine/\Vals xs its.toList/\o.dict=none
def absV:A9->Option V
 | .none=>some .non
 | .bool b=>some (.bl b)
 | .int i _=>some (.int i)
 | .str x _=>some (.str x)
 | .bytes b _=>some (.byt b)
 | .float b _=>some (.flt b)
 | .ref a=>some (.ref a)
 | .type n=>some (.ty n)
 | _=>none
theorem RelV.abs{x:V}{u:A9}(r:RelV x u):absV u=some x:=by
 cases x with
 | non=>cases r;rfl
 | bl _=>cases r;rfl
 | int _=>obtain⟨t,rfl⟩:=r;rfl
 | str _=>obtain⟨t,rfl⟩:=r;rfl
 | byt _=>obtain⟨t,rfl⟩:=r;rfl
 | flt _=>obtain⟨t,rfl⟩:=r;rfl
 | ref _=>cases r;rfl
 | ty _=>cases r;rfl
theorem RelV.inj{x y:V}{u:A9}(r:RelV x u)(q:RelV y u):x=y:=BD (r.abs.symm.trans q.abs)
theorem Vals.inj:∀{xs ys:List V}{us:List A9},Vals xs us->Vals ys us->xs=ys
 | _,_,_,.nil,.nil=>rfl
 | _,_,_,.cons r t,.cons r' t'=>by rw[r.inj r',Vals.inj t t']
section
variable{X : Cx}{pins : List (Addr×Bi)}{σ : St}{H : Hp}{s : AD}{a : Addr}{xs ys : List V}
theorem SqL.of{K:A0}(h:H a=some (.lst xs)):SqL K H a xs:=.inl (.inl h)
theorem Inv.list(I:Inv X pins σ H s)(h:SqL X.K H a xs):∃its:List A9,Vals xs its/\PlainL s.heap a its.toArray/\xs.length<=sizeLine:=by
 rcases h with h | ⟨o,its,n,hk,hc,hd,hs,hz,r⟩
 ·obtain⟨z,its,n,r,e⟩:=h.ok I.hok
  exact⟨its,r,⟨_,n,e,rfl,rfl,rfl⟩,z⟩
 ·refine⟨its.toList,r,⟨o,n,I.kIn a o hk,hc,hd,by simpa using hs⟩,?_⟩
  have e:=r.length;simp only[CS] at e;omega
theorem Inv.tuple(I:Inv X pins σ H s)(h:SqT X.K H a xs):∃its:List A9,Vals xs its/\IsTup s.heap a its.toArray/\xs.length<=sizeLine:=by
 rcases h with h | ⟨o,its,n,hk,hc,hs,hz,r,hdn⟩
 ·obtain⟨z,its,r,p⟩:=h.ok I.hok
  exact⟨its,r,p.up,z⟩
 ·refine⟨its.toList,r,⟨o,I.kIn a o hk,hc,n,by simpa using hs⟩,?_⟩
  have e:=r.length;simp only[CS] at e;omega
theorem Inv.tupleX(I:Inv X pins σ H s)(h:SqT X.K H a xs):∃its:List A9,Vals xs its/\IsTp s.heap a its.toArray/\xs.length<=sizeLine:=by
 rcases h with h | ⟨o,its,n,hk,hc,hs,hz,r,hdn⟩
 ·obtain⟨z,its,r,p⟩:=h.ok I.hok
  exact⟨its,r,p,z⟩
 ·refine⟨its.toList,r,⟨o,I.kIn a o hk,hc,⟨n,by simpa using hs⟩,fun _=>hdn⟩,?_⟩
  have e:=r.length;simp only[CS] at e;omega
theorem Inv.list_inj(I:Inv X pins σ H s)(h:SqL X.K H a xs)(h':SqL X.K H a ys):xs=ys:=by
 obtain⟨its,r,⟨o,n,e,_,_,d⟩,_⟩:=I.list h;obtain⟨its',r',⟨o',n',e',_,_,d'⟩,_⟩:=I.list h';rw[e] at e';cases e';rw[d] at d';injection d' with d1 _;have:its=its':=by simpa using congrArg Array.toList d1
 subst this;exact r.inj r'
theorem Inv.tuple_inj(I:Inv X pins σ H s)(h:SqT X.K H a xs)(h':SqT X.K H a ys):xs=ys:=by
 obtain⟨its,r,⟨o,e,_,n,d⟩,_⟩:=I.tuple h;obtain⟨its',r',⟨o',e',_,n',d'⟩,_⟩:=I.tuple h';rw[e] at e';cases e';rw[d] at d';injection d' with d1 _;have:its=its':=by simpa using congrArg Array.toList d1
 subst this;exact r.inj r'
end
abbrev Cx.wish(X:Cx)(E:A9->AD->Prop):Cx:={ X with xe:=E }
abbrev Cx.nox(X:Cx):Cx:=X.wish fun _ _=>False
theorem Cx.Ok.wish{X:Cx}(ok:X.Ok)(E:A9->AD->Prop):(X.wish E).Ok:=
 ⟨ok.mod,ok.kind,ok.glob,ok.blt,ok.above,ok.inj,ok.has,ok.cab,ok.hd,ok.frames,ok.stk,ok.exf,ok.bs,ok.bsz,ok.noex,ok.exfs,ok.funs,ok.frf⟩
theorem Cx.Ok.unwish{X:Cx}{E:A9->AD->Prop}(ok:(X.wish E).Ok):X.Ok:=
 ⟨ok.mod,ok.kind,ok.glob,ok.blt,ok.above,ok.inj,ok.has,ok.cab,ok.hd,ok.frames,ok.stk,ok.exf,ok.bs,ok.bsz,ok.noex,ok.exfs,ok.funs,ok.frf⟩
section
variable{X : Cx}{pins : List (Addr×Bi)}{σ : St}{H : Hp}{s : AD}{E : A9 → AD → Prop}
theorem Inv.wish(I:Inv X pins σ H s)(E:A9->AD->Prop):Inv (X.wish E) pins σ H s:=⟨I.ok.wish E,I.os,I.bare,I.base,I.loc,I.cell,I.free,I.freeC,I.pin,I.hok,I.len⟩
theorem Inv.unwish(I:Inv (X.wish E) pins σ H s):Inv X pins σ H s:=⟨I.ok.unwish,I.os,I.bare,I.base,I.loc,I.cell,I.free,I.freeC,I.pin,I.hok,I.len⟩
theorem SP.unwish{D:Ends}{f:Flow}{s':AD}(h:SP (X.wish E) pins D f s'):SP X pins D f s':=by
 cases f with
 | next=>obtain⟨σ',H',I,q⟩:=h;exact⟨σ',H',I.unwish,q⟩
 | brk=>obtain⟨σ',H',I,q⟩:=h;exact⟨σ',H',I.unwish,q⟩
 | cont=>obtain⟨σ',H',I,q⟩:=h;exact⟨σ',H',I.unwish,q⟩
 | ret u=>obtain⟨v,σ',H',I,r,q⟩:=h;exact⟨v,σ',H',I.unwish,r,q⟩
theorem PSs.nox{st:List Stmt}{t:TS}(h:PSs X.nox st t):PSs X st t:=fun pins s σ H D I hw=>
 C9 (h pins s σ H D (I.wish _) hw) (fun _ _ q=>q.unwish) fun _ _ z=>AK z
end
section
variable{X : Cx}{st : Stmt}{rest : List Stmt}{t u : TS}{e : Expr}{te : TE}{pos : C7}
def Zgm:TS:=fun D σ H=>D.nx σ H
def tSeq(t u:TS):TS:=fun D σ H=>t { D with nx:=u D } σ H
theorem zmh:PSs X [] Zgm:=fun _ _ σ H _ I h=>Ey ⟨σ,H,I,h⟩
theorem zfk(h1:PS X st t)(h2:PSs X rest u):PSs X (st::rest) (tSeq t u):=by
 intro pins s σ H D I h;refine wpAny_execs_cons (thn (h1 pins s σ H { D with nx:=u D } I h) fun f s1 q=>?_)
 cases f with
 | next=>
  obtain⟨σ',H',I',q⟩:=q;exact h2 pins s1 σ' H' D I' q
 | ret v=>exact q
 | brk=>exact q
 | cont=>exact q
theorem zoy(h1:PS X st t):PSs X [st] t:=by
 intro pins s σ H D I h;refine wpAny_execs_cons (thn (h1 pins s σ H D I h) fun f s1 q=>?_)
 cases f with
 | next=>exact Ey q
 | ret v=>exact q
 | brk=>exact q
 | cont=>exact q
def Zc3:TS:=fun D σ H=>D.bk σ H
theorem zwt:PS X (.Break pos) Zc3:=fun _ _ σ H _ I h=>wpAny_Break ⟨σ,H,I,h⟩
theorem Inv.quiet{pins:List (Addr×Bi)}{σ:St}{H:Hp}{s:AD}(I:Inv X pins σ H s):interactive X.env=false:=by simp[interactive,I.ok.kind]
def Zgn(te:TE):TS:=fun D σ H=>te σ H fun _ H1=>D.nx σ H1
theorem zoz(he:PE X e te)(hs:Cm e none pos.line X.env=pure false:=by rfl):PS X (.Expr e pos) (Zgn te):=by
 intro pins s σ H D I h;exact wpAny_Expr_any (thn (he pins s σ H _ I h) fun v s1 ⟨x,H1,I1,r1,q1⟩=>⟨σ,H1,I1,q1⟩) I.quiet hs
def tRet(te:TE):TS:=fun D σ H=>te σ H D.rt
theorem zs1(he:PE X e te):PS X (.Return (some e) pos) (tRet te):=by
 intro pins s σ H D I h;exact wpAny_Return_some (thn (he pins s σ H _ I h) fun v s1 ⟨x,H1,I1,r1,q1⟩=>⟨x,σ,H1,I1,r1,q1⟩)
def tIfS(c:TT)(t u:TS):TS:=fun D σ H=>c σ H fun b H1=>if b=true then t D σ H1 else u D σ H1
theorem Zgy{c:Expr}{a b:List Stmt}{tc:TT}(hc:PT X c tc)(ha:PSs X a t)(hb:PSs X b u):PS X (.If c a b pos) (tIfS tc t u):=by
 intro pins s σ H D I h;refine wpAny_If (thn (hc pins s σ H _ I h) fun d s1 ⟨H1,I1,q1⟩=>?_)
 cases d with
 | true=>exact ha pins s1 σ H1 D I1 q1
 | false=>exact hb pins s1 σ H1 D I1 q1
end
abbrev TG:=V->St->Hp->(St->Hp->Prop)->Prop
abbrev TGs:=List V->St->Hp->(St->Hp->Prop)->Prop
def PG(X:Cx)(target:Expr)(t:TG):Prop:=
 ∀(pins:List (Addr×Bi))(s:AD)(σ:St)(H:Hp)(v:V)(u:A9)(Q:St->Hp->Prop),Inv X pins σ H s->RelV v u->t v σ H Q->
  Af (Ap X.prog X.w) X.A (Dr target X.env u) (fun _ s'=>∃σ' H',Inv X pins σ' H' s'/\Q σ' H') X.xe s
def PGs(X:Cx)(ts:List Expr)(t:TGs):Prop:=
 ∀(pins:List (Addr×Bi))(s:AD)(σ:St)(H:Hp)(vs:List V)(us:List A9)(Q:St->Hp->Prop),Inv X pins σ H s->Vals vs us->t vs σ H Q->
  Af (Ap X.prog X.w) X.A (assignInOrder ((Bb ts X.env).map (·.2)) us) (fun _ s'=>∃σ' H',Inv X pins σ' H' s'/\Q σ' H') X.xe s
abbrev TSet:=V->V->V->Hp->(Hp->Prop)->Prop
abbrev TIp:=V->V->Hp->VK->Prop
def PIp(X:Cx)(op:Operator)(t:TIp):Prop:=
 ∀(pins:List (Addr×Bi))(s:AD)(σ:St)(H:Hp)(x y:V)(v u:A9)(Q:VK),Inv X pins σ H s->RelV x v->RelV y u->t x y H Q->
  Af (Ap X.prog X.w) X.A (inplaceOp op v u) (EP X pins σ Q) X.xe s
section
variable{X : Cx}{pos : C7}
def Zet(i:Nat):TG:=fun v σ H Q=>Q (σ.set i (some v)) H
theorem zgb{i:Nat}{x:Str}(hN:X.N.Nodup)(hi:X.N[i]?=some x)(hx:Loc X.env.scope x)(hf:X.fn x=true\/X.env.scope.names.lookup x=some .local:=by first | exact .inl rfl | exact .inr rfl | assumption):PG X (.Name x pos) (Zet i):=by
 intro pins s σ H v u Q I r h;exact wpAny_assign_Name (zl1 I hN hi hx r (fun s' I'=>⟨_,H,I',h⟩) hf)
def gNil:TGs:=fun vs σ H Q=>vs=[]/\Q σ H
def Zhu(t:TG)(u:TGs):TGs:=fun vs σ H Q=>∃v r,vs=v::r/\t v σ H fun σ' H'=>u r σ' H' Q
theorem zo0:PGs X [] gNil:=by
 intro pins s σ H vs us Q I r h;obtain⟨e,h⟩:=h;subst e;cases r;exact assignInOrder_nil ⟨σ,H,I,h⟩
theorem zjg{e:Expr}{es:List Expr}{t:TG}{u:TGs}(h1:PG X e t)(h2:PGs X es u)
  (hs:(Bb (e::es) X.env).map (·.2)=Dr e X.env::(Bb es X.env).map (·.2):=by rfl):PGs X (e::es) (Zhu t u):=by
 intro pins s σ H vs us Q I r h;obtain⟨v,vr,e1,h⟩:=h;subst e1;cases r with
 | cons r rr=>
  rw[hs];refine assignInOrder_cons (thn (h1 pins s σ H _ _ _ I r h) fun _ s1 ⟨σ1,H1,I1,q1⟩=>?_)
  exact h2 pins s1 σ1 H1 _ _ Q I1 rr q1
def gTup(K:A0)(n:Nat)(t:TGs):TG:=fun v σ H Q=>∃a xs,v=.ref a/\SqT K H a xs/\xs.length=n/\t xs σ H Q
theorem zs9{es:List Expr}{k:Nat}{t:TGs}{n:Nat}(hc:X.calm=true)(h:PGs X es t)
  (hn:(Bb es X.env).length=n:=by rfl) (hst:(Bb es X.env).findIdx? (·.1)=none:=by rfl):PG X (.Tuple es k pos) (gTup X.K n t):=by
 intro pins s σ H v u Q I r hw;obtain⟨a,xs,e1,hq,hl,hw⟩:=hw;subst e1;cases r;obtain⟨its,rv,ht,hz⟩:=I.tuple hq;refine assign_Tuple_tuple (I.ok.hd hc) ht (by simp[hn,← hl,rv.length]) hst fun h' hx=>?_
 have I1:Inv X pins σ H { s with heap:=h' }:=I.kept (t':=s.toks) fun b o e=>hx b o (AZ (AL e)) e
 exact h pins _ σ H xs _ Q I1 (by simpa using rv) hw
def gSub(to ti:TE)(t:TSet):TG:=fun v σ H Q=>to σ H fun o H1=>ti σ H1 fun i H2=>t o i v H2 fun H3=>Q σ H3
def tAsg(te:TE)(g:TG):TS:=fun D σ H=>te σ H fun x H1=>g x σ H1 D.nx
theorem zyl{i:Nat}{x:Str}{e:Expr}{te:TE}{pos':C7}(hN:X.N.Nodup)(hi:X.N[i]?=some x)(hx:Loc X.env.scope x)(he:PE X e te)(hs:Cm e (some (.Name x pos')) pos.line X.env=pure false:=by rfl)(hf:X.fn x=true\/X.env.scope.names.lookup x=some .local:=by first | exact .inl rfl | exact .inr rfl | assumption) :
  PS X (.Assign [.Name x pos'] e pos) (tAsg te (Zet i)):=by
 intro pins s σ H D I h;refine wpAny_Assign_Name (thn (he pins s σ H _ I h) fun v s1 ⟨y,H1,I1,r1,q1⟩=>?_) hs
 exact zl1 I1 hN hi hx r1 (fun s2 I2=>⟨_,H1,I2,q1⟩) hf
def tAug(i:Nat)(te:TE)(ti:TIp):TS:=fun D σ H=>∃x,σ[i]?=some (some x)/\te σ H fun y H1=>ti x y H1 fun z H2=>D.nx (σ.set i (some z)) H2
theorem Zde{i:Nat}{x:Str}{e:Expr}{te:TE}{op:Operator}{ti:TIp}{pos':C7}(hN:X.N.Nodup)(hi:X.N[i]?=some x)(hx:Loc X.env.scope x)(he:PE X e te)(ho:PIp X op ti)(hf:X.fn x=true\/X.env.scope.names.lookup x=some .local:=by first | exact .inl rfl | exact .inr rfl | assumption) :
  PS X (.AugAssign (.Name x pos') op e pos) (tAug i te ti):=by
 intro pins s σ H D I h;obtain⟨v,e1,h⟩:=h;obtain⟨m,hn,hl⟩:=I.loc;have vis:Vis X.env.scope x:=by rcases hx with k | k;exact .inl k;exact .inr (.inl k)
 obtain⟨u,r,l⟩:=hl i x v hi e1 vis;refine wpAny_AugAssign_Name ?_
 have go:Af (Ap X.prog X.w) X.A (BR e X.env) (fun w s₂=>Af (Ap X.prog X.w) X.A (inplaceOp op u w) (fun r s₃=>Af (Ap X.prog X.w) X.A (storeName X.env x r) (fun _=>SP X pins D .next) X.xe s₃) X.xe s₂) X.xe s:=by
  refine thn (he pins s σ H _ I h) fun w s1 ⟨y,H1,I1,r1,q1⟩=>?_
  refine thn (ho pins s1 σ H1 v y u w _ I1 r r1 q1) fun z s2 ⟨zv,H2,I2,r2,q2⟩=>?_
  exact zl1 I2 hN hi hx r2 (fun s3 I3=>⟨_,H2,I3,q2⟩) hf
 rcases l with⟨hk,hm⟩|⟨hk,c,hc,hcell⟩
 ·exact wpAny_loadName_local I.ok.kind hk hn hm go
 ·rcases hk with hk | hk
  ·exact wpAny_loadName_cell I.ok.kind hk hc hcell go
  ·rcases hx with k | k
   ·have:X.env.scope.names.lookup x=some .free:=hk
    rw[k] at this;cases this
   ·have:X.env.scope.names.lookup x=some .free:=hk
    rw[k] at this;cases this
def ipI(f:Int->Int->Int):TIp:=fun x y H Q=>∃i j,x=.int i/\y=.int j/\Q (.int (f i j)) H
theorem Zeq:PIp X .Add (ipI fun i j=>i+j):=by
 intro pins s σ H x y v u Q I r1 r2 h;obtain⟨i,j,e1,e2,q⟩:=h;subst e1;subst e2;obtain⟨t,rfl⟩:=r1;obtain⟨t',rfl⟩:=r2;exact iadd_int ⟨.int _,H,I.tok _,⟨_,rfl⟩,q⟩
end
section
variable{X : Cx}{pos : C7}
def Zcy(c:TT)(tb:TS):TS:=fun D σ H=>∃W:Nat->St->Hp->Prop,(∃m,W m σ H)/\∀m σ H,W m σ H->
 c σ H fun b H1=>if b=true then ∃N:St->Hp->Prop,(∀σ' H',N σ' H'->∃m',m'<m/\W m' σ' H')/\tb { D with nx:=N,ct:=N,bk:=D.nx } σ H1 else D.nx σ H1
theorem zwr{c:Expr}{body:List Stmt}{tc:TT}{tb:TS}(hp:FJ (Ap X.prog X.w) X.A X.env X.xe)(hc:PT X c tc)(hb:PSs X body tb):PS X (.While c body [] pos) (Zcy tc tb):=by
 intro pins s σ H D I h;obtain⟨W,⟨m0,w0⟩,turn⟩:=h;refine wpAny_While (codeAny_whileLoop (fun n s'=>∃σ' H',Inv X pins σ' H' s'/\W n σ' H') ?_ m0 ⟨σ,H,I,w0⟩)
 rintro n s1 ⟨σ1,H1,I1,w1⟩;refine Ck hp (thn (hc pins s1 σ1 H1 _ I1 (turn n σ1 H1 w1)) fun b s2 ⟨H2,I2,q2⟩=>?_)
 cases b with
 | true=>
  obtain⟨N,hN,q2⟩:=q2;rw[if_pos rfl];refine Ck hp (thn (hb pins s2 σ1 H2 _ I2 q2) fun f s3 q3=>?_)
  cases f with
  | next=>
   obtain⟨σ3,H3,I3,n3⟩:=q3;obtain⟨m',hm,w3⟩:=hN σ3 H3 n3;exact⟨m',hm,σ3,H3,I3,w3⟩
  | cont=>
   obtain⟨σ3,H3,I3,n3⟩:=q3;obtain⟨m',hm,w3⟩:=hN σ3 H3 n3;exact⟨m',hm,σ3,H3,I3,w3⟩
  | brk=>exact q3
  | ret v=>exact q3
 | false=>
  rw[if_neg AM];exact Ey ⟨σ1,H2,I2,q2⟩
end
structure It where
 go:Nat->Hp->Prop
 yld:Nat->Hp->V->Hp->Prop
 stop:Nat->Hp->Prop
def FpOk(X:Cx)(pins:List (Addr×Bi))(H:Hp)(b:Addr):Prop:=
 H b=none/\b≠X.env.locals/\b ∉ X.fs/\(b∈X.ex\/X.s₀.heap.objs.size<=b)/\(∀x c,X.env.cells.lookup x=some c->c≠b)/\∀p∈X.pn++pins,p.1≠b
theorem Inv.fpOk{X:Cx}{pins:List (Addr×Bi)}{σ:St}{H H':Hp}{s:AD}{b:Addr}(I:Inv X pins σ H s)(hb:s.heap.objs.size<=b)(hn:H' b=none):FpOk X pins H' b:=by
 refine⟨hn,BS (AR I.lt hb),I.nofs hb,.inr (B9 I.sz hb),fun x c e z=>?_,fun p hp z=>?_⟩
 ·obtain⟨v,q⟩:=I.cell x c e
  exact absurd (AR q.lt (by rw[z];exact hb)) (BE _)
 ·exact absurd (AR (AL (I.pin p hp).1) (by rw[z];exact hb)) (BE _)
structure Turn(P:Ak)(w:Ar)(K:A0)(tg:Expr)(J:It)(fp:List Addr)(it:Addr)(tn:Nat->Heap->Prop):Prop where
 mem:it∈fp
 obj:∀i h,tn i h->∀b∈fp,∃o,h.get? b=some o/\∀v,o.data≠.cell v
 keep:∀i h h',tn i h->(∀b∈fp,∀o,h.get? b=some o->h'.get? b=some o)->tn i h'
 item:∀(X:Cx),X.prog=P->X.w=w->X.K=K->X.calm=true->∀(i:Nat)(pins:List (Addr×Bi))(s:AD)(σ:St)(H:Hp)(E:A9->AD->Prop),Inv X pins σ H s->(∀b∈fp,FpOk X pins H b)->tn i s.heap->J.go i H->
  Af (Ap P w) X.A (Ec (.ref it)) (fun r s1=>∃u,r=some u/\
   Af (Ap P w) X.A (F3 tg (.ref it) u) (fun _ s2=>∃x H',Inv X pins σ H' s2/\RelV x u/\J.yld i H x H'/\tn (i+1) s2.heap/\∀b∈fp,H' b=none) E s1) E s
 done:∀(X:Cx),X.prog=P->X.w=w->X.K=K->X.calm=true->∀(i:Nat)(pins:List (Addr×Bi))(s:AD)(σ:St)(H:Hp)(E:A9->AD->Prop),Inv X pins σ H s->(∀b∈fp,FpOk X pins H b)->tn i s.heap->J.stop i H->
  Af (Ap P w) X.A (Ec (.ref it)) (fun r s1=>r=none/\Inv X pins σ H s1) E s
 self:∀(A:B0)(i:Nat)(s:AD)(Q:A9->AD->Prop)(E:A9->AD->Prop),tn i s.heap->Q (.ref it) s->Af (Ap P w) A (pyIter (.ref it)) Q E s
abbrev TI:=St->Hp->(It->Hp->Prop)->Prop
def PIE(X:Cx)(pins:List (Addr×Bi))(σ:St)(tg:Expr)(R:It->Hp->Prop)(itv:A9)(s2:AD):Prop:=
 ∃(it:Addr)(fp:List Addr)(tn:Nat->Heap->Prop)(J:It)(H':Hp),itv=.ref it/\Inv X pins σ H' s2/\Turn X.prog X.w X.K tg J fp it tn/\tn 0 s2.heap/\(∀b∈fp,FpOk X pins H' b)/\R J H'
def PI(X:Cx)(tg iter:Expr)(wi:TI):Prop:=
 ∀(pins:List (Addr×Bi))(s:AD)(σ:St)(H:Hp)(R:It->Hp->Prop),Inv X pins σ H s->wi σ H R->
  Af (Ap X.prog X.w) X.A (BR iter X.env) (fun v s1=>Af (Ap X.prog X.w) X.A (pyIter v) (PIE X pins σ tg R) X.xe s1) X.xe s
theorem zue{M:Model}{A:B0}{E:A9->AD->Prop}{s:AD}{tg:Expr}{it:Addr}{u:A9}{o:Bi}{n:String}{vs:Array A9}{Q:Unit->AD->Prop}(ho:s.heap.get? it=some o)(hc:o.cls=.type n)(hd:o.data=.fields vs)
    (hn:["enumerate","zip","dict_itemiterator","dict_reverseitemiterator","odict_iterator","itertools.zip_longest","itertools.pairwise"].contains n=false) (hQ:Q () s):Af M A (F3 tg (.ref it) u) Q E s:=by
  unfold F3
  cases tg <;> first
    | exact AH hQ
    | (cases u <;> first
        | exact AH hQ
        | (refine AB (wpAny_load ho ?_)
           rw[hc,hd];show Af M A (if (["enumerate","zip","dict_itemiterator","dict_reverseitemiterator","odict_iterator","itertools.zip_longest","itertools.pairwise"].contains n && vs[0]? == some (Dq _))=true then _ else _) Q E s
           rw[if_neg (by intro h;rw[hn,GB] at h;cases h)]
           exact AH hQ))
def Itl(K:A0)(a:Addr):It:=
 ⟨fun i H=>∃xs x,SqL K H a xs/\xs[i]?=some x,fun i H x H'=>H'=H/\∀xs,SqL K H a xs->xs[i]?=some x,fun i H=>∃xs,SqL K H a xs/\xs.length<=i⟩
def Itt(K:A0)(a:Addr):It:=
 ⟨fun i H=>∃xs x,SqT K H a xs/\xs[i]?=some x,fun i H x H'=>H'=H/\∀xs,SqT K H a xs->xs[i]?=some x,fun i H=>∃xs,SqT K H a xs/\xs.length<=i⟩
def Itr(lo:Int)(n:Nat):It:=⟨fun i _=>i<n,fun i H x H'=>H'=H/\x=.int (lo+i),fun i _=>n<=i⟩
theorem zsi{P:Ak}{w:Ar}{K:A0}{tg:Expr}(a it:Addr):Turn P w K tg (Itl K a) [it] it (fun i h=>h.IsListIter it a i) where
 mem:=by simp
 obj:=fun i h st b hb=>by
  have e:b=it:=by simpa using hb
  subst e;obtain⟨o,e,c,d⟩:=st;exact⟨o,e,fun v z=>by rw[d] at z;cases z⟩
 keep:=fun i h h' st k=>st.at fun o e=>k it (by simp) o e
 item:=by
  intro X hP hw hK hc i pins s σ H E I hf st hg;subst hP hw hK;obtain⟨xs,x,hq,hx⟩:=hg;obtain⟨its,rv,p,hz⟩:=I.list hq;obtain⟨u,hu,ru⟩:=rv.get hx;obtain⟨f0,f1,f2,f3,f4,f5⟩:=hf it (by simp)
  refine wpAny_pyNext_list_item st p.isList (x:=u) (by simpa using hu) fun h' st' sb=>?_
  have I1:Inv X pins σ H { s with heap:=h' }:=I.turned (t':=s.toks) (fun b o hb e=>(sb.2 b hb).trans e) f0 f1 f3 f4 f5
  obtain⟨o,e,c,d⟩:=id st';exact⟨u,rfl,zue (s:={ s with heap:=h' }) e c d (by decide) ⟨x,H,I1,ru,⟨rfl,fun ys hy=>by rw[I.list_inj hy hq];exact hx⟩,st',fun b hb=>(hf b hb).1⟩⟩
 done:=by
  intro X hP hw hK hc i pins s σ H E I hf st hg;subst hP hw hK;obtain⟨xs,hq,hx⟩:=hg;obtain⟨its,rv,p,hz⟩:=I.list hq;obtain⟨f0,f1,f2,f3,f4,f5⟩:=hf it (by simp)
  have hl:=rv.length;exact wpAny_pyNext_list_end (I.ok.hd hc) st p.isList (by simp;omega) fun h' eb=>⟨rfl,I.turned (t':=s.toks) (fun b o hb e=>eb b o hb e) f0 f1 f3 f4 f5⟩
 self:=fun _ _ _ _ _ st h=>wpAny_pyIter_listiter st h
theorem zq5{P:Ak}{w:Ar}{K:A0}{tg:Expr}(a it:Addr):Turn P w K tg (Itt K a) [it] it (fun i h=>h.IsTupleIter it a i) where
 mem:=by simp
 obj:=fun i h st b hb=>by
  have e:b=it:=by simpa using hb
  subst e;obtain⟨o,e,c,d⟩:=st;exact⟨o,e,fun v z=>by rw[d] at z;cases z⟩
 keep:=fun i h h' st k=>st.at fun o e=>k it (by simp) o e
 item:=by
  intro X hP hw hK hc i pins s σ H E I hf st hg;subst hP hw hK;obtain⟨xs,x,hq,hx⟩:=hg;obtain⟨its,rv,p,hz⟩:=I.tuple hq;obtain⟨u,hu,ru⟩:=rv.get hx;obtain⟨f0,f1,f2,f3,f4,f5⟩:=hf it (by simp)
  refine HK st (show s.heap.IsTuple a its.toArray from p) (x:=u) (by simpa using hu) fun h' st' sb=>?_
  have I1:Inv X pins σ H { s with heap:=h' }:=I.turned (t':=s.toks) (fun b o hb e=>(sb.2 b hb).trans e) f0 f1 f3 f4 f5
  obtain⟨o,e,c,d⟩:=id st';exact⟨u,rfl,zue (s:={ s with heap:=h' }) e c d (by decide) ⟨x,H,I1,ru,⟨rfl,fun ys hy=>by rw[I.tuple_inj hy hq];exact hx⟩,st',fun b hb=>(hf b hb).1⟩⟩
 done:=by
  intro X hP hw hK hc i pins s σ H E I hf st hg;subst hP hw hK;obtain⟨xs,hq,hx⟩:=hg;obtain⟨its,rv,p,hz⟩:=I.tuple hq;obtain⟨f0,f1,f2,f3,f4,f5⟩:=hf it (by simp)
  have hl:=rv.length;exact HU (I.ok.hd hc) st (show s.heap.IsTuple a its.toArray from p) (by simp;omega) fun h' eb=>⟨rfl,I.turned (t':=s.toks) (fun b o hb e=>eb b o hb e) f0 f1 f3 f4 f5⟩
 self:=fun _ _ _ _ _ st h=>wpAny_pyIter_tupleiter st h
theorem zq7{P:Ak}{w:Ar}{K:A0}{tg:Expr}(it:Addr)(lo:Int)(n:Nat):Turn P w K tg (Itr lo n) [it] it (fun i h=>IsRangeIter h it (lo+(i:Nat) * 1) ((n:Int)-(i:Nat)) 1) where
 mem:=by simp
 obj:=fun i h st b hb=>by
  have e:b=it:=by simpa using hb
  subst e
  exact⟨_,st,fun v z=>by
   have z':Fk _=Ew v:=z;cases z'⟩
 keep:=fun i h h' st k=>k it (by simp) _ st
 item:=by
  intro X hP hw hK hc i pins s σ H E I hf st hg;subst hP hw hK;obtain⟨f0,f1,f2,f3,f4,f5⟩:=hf it (by simp)
  have W:=Walks.range (prog:=X.prog) (w:=X.w) (I.ok.hd hc) it lo 1 n;refine W.item i s _ _ hg st fun v h' tk hv st' kk=>?_
  obtain⟨t,rfl⟩:=hv;have I1:Inv X pins σ H { s with heap:=h',toks:=tk }:=I.turned (fun b o hb e=>kk b o (by simpa using hb) e) f0 f1 f3 f4 f5
  refine⟨_,rfl,zue (s:={ s with heap:=h',toks:=tk }) (n:="range_iterator") st' rfl rfl (by decide) ⟨.int (lo+i),H,I1,⟨t,?_⟩,⟨rfl,rfl⟩,st',fun b hb=>(hf b hb).1⟩⟩
  rw[Int.mul_one]
 done:=by
  intro X hP hw hK hc i pins s σ H E I hf st hg;subst hP hw hK;obtain⟨f0,f1,f2,f3,f4,f5⟩:=hf it (by simp)
  exact wpAny_pyNext_range_end (I.ok.hd hc) st (by have:n<=i:=hg;omega) fun h' eb=>⟨rfl,I.turned (t':=s.toks) (fun b o hb e=>eb b o hb e) f0 f1 f3 f4 f5⟩
 self:=fun _ _ _ _ _ st h=>wpAny_pyIter_rangeiter st h
end L2
namespace L2
open PySem PySem.Spec PyProof.Rows
section
variable{X : Cx}{tg : Expr}
theorem zp1{pins:List (Addr×Bi)}{σ:St}{H:Hp}{s:AD}{R:It->Hp->Prop}{E:A9->AD->Prop}{lo hi:Int}{t u v:Tok}{tk:Nat}(I:Inv X pins σ H s)(h1:-(2 ^ 62)<=lo)(h2:lo<2 ^ 62)(h3:-(2 ^ 62)<=hi)(h4:hi<2 ^ 62)
  (q:R (Itr lo (hi-lo).toNat) H):Af (Ap X.prog X.w) X.A (pyIter (.ref s.heap.objs.size)) (PIE X pins σ tg R) E { s with heap:=s.heap.push { cls:=.type "range",data:=.fields #[.int lo t,.int hi u,.int 1 v] },toks:=tk }:=by
 refine wpAny_pyIter_range (IsRange.new ..) (small_one h1 h2 h3 h4) ?_;have I1:Inv X pins σ H { s with heap:=s.heap.push { cls:=.type "range",data:=.fields #[.int lo t,.int hi u,.int 1 v] },toks:=tk }:=I.kept fun b o e=>AC _ e
 refine⟨(s.heap.push { cls:=.type "range",data:=.fields #[.int lo t,.int hi u,.int 1 v] }).objs.size,[(s.heap.push { cls:=.type "range",data:=.fields #[.int lo t,.int hi u,.int 1 v] }).objs.size],_,_,H,rfl,
  I1.kept (t':=tk) fun b o e=>AC _ e,zq7 _ lo (hi-lo).toNat,?_,fun b hb=>?_,q⟩
 ·have e1:lo+((0:Nat):Int) * 1=lo:=by simp
  have e2:(((hi-lo).toNat:Nat):Int)-((0:Nat):Int)=Builtin.Range.rangeSize lo hi 1:=by rw[rangeSize_one];split <;> omega
  show IsRangeIter _ _ (lo+((0:Nat):Int) * 1) ((((hi-lo).toNat:Nat):Int)-((0:Nat):Int)) 1;rw[e1,e2];exact Aa _ rfl
 ·have e:b=(s.heap.push { cls:=.type "range",data:=.fields #[.int lo t,.int hi u,.int 1 v] }).objs.size:=by simpa using hb
  subst e;exact I1.fpOk (AY _) (I1.hok.fresh (AY _))
def Zht(ta:TA):TI:=fun σ H R=>ta σ H fun vs H1=>∃j:Int,vs=[.int j]/\-(2 ^ 62)<=j/\j<2 ^ 62/\R (Itr 0 j.toNat) H1
def Zhs(ta:TA):TI:=fun σ H R=>ta σ H fun vs H1=>∃i j:Int,vs=[.int i,.int j]/\(-(2 ^ 62)<=i/\i<2 ^ 62/\-(2 ^ 62)<=j/\j<2 ^ 62)/\R (Itr i (j-i).toNat) H1
theorem zs8 {a:Expr} {ta:TA} {p pos:C7} (hg:Gl X "range") (hm:X.mg "range"=none) (ha:PA X [a] ta) (hs:Ad [a] X.env=[(false,BR a X.env)]:=by rfl):PI X tg (.Call (.Name "range" p) [a] [] pos) (Zht ta):=by
 intro pins s σ H R I h;refine Call_ (zhz I hg hm boot_range (BM (thn (ha pos pins s σ H _ I h) fun us s1 ⟨vs,H1,I1,r1,q1⟩=>?_) hs rfl))
 obtain⟨j,e,q1,q2,q⟩:=q1;subst e;cases r1 with
 | cons r rr=>
  cases rr;obtain⟨t,rfl⟩:=r;exact call_range_1 (zp1 I1 (by omega) (by omega) q1 q2 (by simpa using q))
theorem zs7 {a b:Expr} {ta:TA} {p pos:C7} (hg:Gl X "range") (hm:X.mg "range"=none) (ha:PA X [a,b] ta) (hs:Ad [a,b] X.env=[(false,BR a X.env),(false,BR b X.env)]:=by rfl) (hs2:Ad [b] X.env=[(false,BR b X.env)]:=by rfl) :
  PI X tg (.Call (.Name "range" p) [a,b] [] pos) (Zhs ta):=by
 intro pins s σ H R I h;refine Call_ (zhz I hg hm boot_range (BM (thn (ha pos pins s σ H _ I h) fun us s1 ⟨vs,H1,I1,r1,q1⟩=>?_) (by rw[hs,hs2]) (by rw[hs2];rfl)))
 obtain⟨i,j,e,⟨q1,q2,q3,q4⟩,q⟩:=q1;subst e;cases r1 with
 | cons r rr=>
  cases rr with
  | cons r' rr=>
   cases rr;obtain⟨t,rfl⟩:=r;obtain⟨t',rfl⟩:=r';exact call_range_2 (zp1 I1 q1 q2 q3 q4 q)
def tFor(wi:TI)(g:TG)(tb:TS):TS:=fun D σ H=>wi σ H fun J H1=>∃W:Nat->Nat->St->Hp->Prop,(∃m,W 0 m σ H1)/\∀i m σ H,W i m σ H->
 (J.stop i H/\D.nx σ H)\/(J.go i H/\∃N:St->Hp->Prop,(∀σ' H',N σ' H'->∃m',m'<m/\W (i+1) m' σ' H')/\∀x H',J.yld i H x H'->g x σ H' fun σ2 H2=>tb { D with nx:=N,ct:=N,bk:=D.nx } σ2 H2)
def zg3(fp:List Addr)(h:Heap):List (Addr×Bi):=fp.filterMap fun b=>(h.get? b).map fun o=>(b,o)
theorem zc1{fp:List Addr}{h:Heap}{b:Addr}{o:Bi}(hb:b∈fp)(e:h.get? b=some o):(b,o)∈zg3 fp h:=HQ.mpr ⟨b,hb,by rw[e];rfl⟩
theorem ztj{fp:List Addr}{h:Heap}{p:Addr×Bi}(hp:p∈zg3 fp h):p.1∈fp/\h.get? p.1=some p.2:=by
 obtain⟨b,hb,e⟩:=HQ.mp hp;cases q:h.get? b with
 | none=>rw[q] at e;cases e
 | some o=>
  rw[q] at e;have e':(b,o)=p:=BD e;subst e';exact⟨hb,q⟩
theorem Inv.pinned{pins:List (Addr×Bi)}{σ:St}{H:Hp}{s:AD}{fp:List Addr}(I:Inv X pins σ H s)(hf:∀b∈fp,FpOk X pins H b)(ho:∀b∈fp,∃o,s.heap.get? b=some o/\∀v,o.data≠.cell v):Inv X (pins++zg3 fp s.heap) σ H s:=
 I.pins_of fun p hp=>(Aj.mp hp).elim (fun z=>I.pin p (Ab _ z)) fun z=>by
  obtain⟨hb,e⟩:=ztj z;obtain⟨f0,f1,f2,_⟩:=hf p.1 hb;obtain⟨o,e',d⟩:=ho p.1 hb;rw[e] at e';cases e';exact⟨e,f0,f1,f2,d⟩
theorem Inv.unpinned{pins pl:List (Addr×Bi)}{σ:St}{H:Hp}{s:AD}(I:Inv X (pins++pl) σ H s):Inv X pins σ H s:=I.pins_of fun p hp=>I.pin p (Ab _ (BV _ hp))
theorem zs2{iter:Expr}{body:List Stmt}{wi:TI}{g:TG}{tb:TS}{pos:C7}(hp:FJ (Ap X.prog X.w) X.A X.env X.xe)(hc:X.calm=true)(hi:PI X tg iter wi)(hg:PG X tg g)(hb:PSs X body tb)
  (hs:∀x,C6 iter X.env x=pure x:=by intro _;rfl):PS X (.For tg iter body [] pos) (tFor wi g tb):=by
 intro pins s σ H D I h;refine wpAny_For (thn (hi pins s σ H _ I h) fun v s1 h1=>thn h1 fun itv s2 h2=>?_) hs
 obtain⟨it,fp,tn,J,H2,e,I2,T,st2,f2,W,⟨m0,w0⟩,turn⟩:=h2;subst e;have stat:∀{H':Hp},(∀b∈fp,H' b=none)->∀b∈fp,FpOk X pins H' b:=fun hn b hb=>⟨hn b hb,(f2 b hb).2⟩
 refine codeAny_forLoop_any (fun n s'=>∃i σ' H',Inv X pins σ' H' s'/\tn i s'.heap/\(∀b∈fp,H' b=none)/\W i n σ' H') ?_ m0 ⟨0,σ,H2,I2,st2,fun b hb=>(f2 b hb).1,w0⟩
 rintro n s3 ⟨i,σ3,H3,I3,st3,fr3,w3⟩;rcases turn i n σ3 H3 w3 with⟨stop,qn⟩|⟨go,N,hN,step⟩
 ·refine Ck hp (thn (T.done X rfl rfl rfl hc i pins s3 σ3 H3 X.xe I3 (stat fr3) st3 stop) fun r s4 ⟨hr,I4⟩=>?_)
  subst hr;exact Ey ⟨σ3,H3,I4,qn⟩
 ·refine Ck hp (thn (T.item X rfl rfl rfl hc i pins s3 σ3 H3 X.xe I3 (stat fr3) st3 go) fun r s4 ⟨u,hr,h4⟩=>?_)
  subst hr;refine Ck hp (thn h4 fun _ s5 ⟨x,H5,I5,r5,y5,st5,fr5⟩=>?_)
  have I5':=I5.pinned (stat fr5) (T.obj _ _ st5);refine Ck hp (thn (hg _ s5 σ3 H5 x u _ I5' r5 (step x H5 y5)) fun _ s6 ⟨σ6,H6,I6,q6⟩=>?_)
  refine Ck hp (thn (hb _ s6 σ6 H6 _ I6 q6) fun f s7 q7=>?_)
  have again:∀{σ7:St}{H7:Hp},Inv X (pins++zg3 fp s5.heap) σ7 H7 s7->N σ7 H7->∃m,m<n/\∃i σ' H',Inv X pins σ' H' s7/\tn i s7.heap/\(∀b∈fp,H' b=none)/\W i m σ' H':=fun {σ7 H7} I7 n7=>by
   obtain⟨m',hm,w7⟩:=hN σ7 H7 n7;refine⟨m',hm,i+1,σ7,H7,I7.unpinned,T.keep _ _ _ st5 fun b hb o e=>(I7.pin (b,o) (Ab _ (Ab _ (zc1 hb e)))).1,fun b hb=>?_,w7⟩
   obtain⟨o,e,d⟩:=T.obj _ _ st5 b hb;exact(I7.pin (b,o) (Ab _ (Ab _ (zc1 hb e)))).2.1
  cases f with
  | next=>obtain⟨σ7,H7,I7,n7⟩:=q7;exact again I7 n7
  | cont=>obtain⟨σ7,H7,I7,n7⟩:=q7;exact again I7 n7
  | brk=>obtain⟨σ7,H7,I7,q7⟩:=q7;exact⟨σ7,H7,I7.unpinned,q7⟩
  | ret v=>obtain⟨x7,σ7,H7,I7,r7,q7⟩:=q7;exact⟨x7,σ7,H7,I7.unpinned,r7,q7⟩
end
end L2
namespace L2
open PySem PySem.Spec PyProof.Rows
abbrev R2:=V->V->Hp->VK->Prop
def OpR(X:Cx)(f:A9->A9->Sem A9)(r:R2):Prop:=
 ∀(pins:List (Addr×Bi))(s:AD)(σ:St)(H:Hp)(x y:V)(v u:A9)(Q:VK),Inv X pins σ H s->RelV x v->RelV y u->r x y H Q->
  Af (Ap X.prog X.w) X.A (f v u) (EP X pins σ Q) X.xe s
def UnR(X:Cx)(f:A9->Sem A9)(r:V->Hp->VK->Prop):Prop:=
 ∀(pins:List (Addr×Bi))(s:AD)(σ:St)(H:Hp)(x:V)(v:A9)(Q:VK),Inv X pins σ H s->RelV x v->r x H Q->
  Af (Ap X.prog X.w) X.A (f v) (EP X pins σ Q) X.xe s
def zhl(X:Cx)(f:A9)(r:List V->Hp->VK->Prop):Prop:=
 ∀(pins:List (Addr×Bi))(s:AD)(σ:St)(H:Hp)(xs:List V)(us:List A9)(Q:VK),Inv X pins σ H s->Vals xs us->r xs H Q->
  Af (Ap X.prog X.w) X.A (call f us) (EP X pins σ Q) X.xe s
def TruR(X:Cx)(r:V->Hp->(Bool->Hp->Prop)->Prop):Prop:=
 ∀(pins:List (Addr×Bi))(s:AD)(σ:St)(H:Hp)(x:V)(v:A9)(Q:Bool->Hp->Prop),Inv X pins σ H s->RelV x v->r x H Q->
  Af (Ap X.prog X.w) X.A (truthy v) (TP X pins σ Q) X.xe s
def tOp(r:R2)(ta tb:TE):TE:=fun σ H Q=>ta σ H fun x H1=>tb σ H1 fun y H2=>r x y H2 Q
def tUn(r:V->Hp->VK->Prop)(ta:TE):TE:=fun σ H Q=>ta σ H fun x H1=>r x H1 Q
def rI(C:Int->Int->Prop)(g:Int->Int->V):R2:=fun x y H Q=>∃i j,x=.int i/\y=.int j/\C i j/\Q (g i j) H
def rI0(g:Int->Int->V):R2:=fun x y H Q=>∃i j,x=.int i/\y=.int j/\Q (g i j) H
def rU(g:Int->V):V->Hp->VK->Prop:=fun x H Q=>∃i,x=.int i/\Q (g i) H
section
variable{X : Cx}{a b c : Expr}{ta tb tc : TE}{pos : C7}
theorem binT(ha:PE X a ta)(hb:PE X b tb){pins:List (Addr×Bi)}{s:AD}{σ:St}{H:Hp}{R:V->V->Hp->Prop}(I:Inv X pins σ H s)
  (h:ta σ H fun x H1=>tb σ H1 fun y H2=>R x y H2) {Q:A9->AD->Prop} {f:A9->A9->Sem A9}
  (hf:∀v u s2 x y H2,Inv X pins σ H2 s2->RelV x v->RelV y u->R x y H2->Af (Ap X.prog X.w) X.A (f v u) Q X.xe s2) :
  Af (Ap X.prog X.w) X.A (BR a X.env) (fun v s₁=>Af (Ap X.prog X.w) X.A (BR b X.env) (fun u s₂=>Af (Ap X.prog X.w) X.A (f v u) Q X.xe s₂) X.xe s₁) X.xe s:=by
 refine thn (ha pins s σ H _ I h) fun v s1 ⟨x,H1,I1,r1,q1⟩=>?_
 refine thn (hb pins s1 σ H1 _ I1 q1) fun u s2 ⟨y,H2,I2,r2,q2⟩=>?_
 exact hf v u s2 x y H2 I2 r1 r2 q2
theorem Zg2{op:Operator}{r:R2}(ho:OpR X (D9 op) r)(ha:PE X a ta)(hb:PE X b tb):PE X (.BinOp a op b pos) (tOp r ta tb):=by
 intro pins s σ H Q I h;exact wpAny_BinOp (binT ha hb I h fun v u s2 x y H2 I2 rx ry q=>ho pins s2 σ H2 x y v u Q I2 rx ry q)
theorem Zg0{op:UnaryOp}{r:V->Hp->VK->Prop}(ho:UnR X (unaryOp op) r)(ha:PE X a ta):PE X (.UnaryOp op a pos) (tUn r ta):=by
 intro pins s σ H Q I h;exact UnaryOp_ (thn (ha pins s σ H _ I h) fun v s1 ⟨x,H1,I1,r1,q1⟩=>ho pins s1 σ H1 x v Q I1 r1 q1)
theorem opI{f:A9->A9->Sem A9}{C:Int->Int->Prop}{g:Int->Int->Int}
  (rule:∀(i j:Int)(t u:Tok)(s:AD)(Q:A9->AD->Prop)(E:A9->AD->Prop),C i j->Q (.int (g i j) s.toks) { s with toks:=s.toks+1 }->Af (Ap X.prog X.w) X.A (f (.int i t) (.int j u)) Q E s) :
  OpR X f (rI C fun i j=>.int (g i j)):=by
 intro pins s σ H x y v u Q I rx ry h;obtain⟨i,j,rfl,rfl,hc,q⟩:=h;obtain⟨t,rfl⟩:=rx;obtain⟨t',rfl⟩:=ry;exact rule i j t t' s _ _ hc ⟨.int (g i j),H,I.tok _,⟨_,rfl⟩,q⟩
theorem opI0{f:A9->A9->Sem A9}{g:Int->Int->Int}
  (rule:∀(i j:Int)(t u:Tok)(s:AD)(Q:A9->AD->Prop)(E:A9->AD->Prop),Q (.int (g i j) s.toks) { s with toks:=s.toks+1 }->Af (Ap X.prog X.w) X.A (f (.int i t) (.int j u)) Q E s) :
  OpR X f (rI0 fun i j=>.int (g i j)):=by
 intro pins s σ H x y v u Q I rx ry h;obtain⟨i,j,rfl,rfl,q⟩:=h;obtain⟨t,rfl⟩:=rx;obtain⟨t',rfl⟩:=ry;exact rule i j t t' s _ _ ⟨.int (g i j),H,I.tok _,⟨_,rfl⟩,q⟩
theorem opB0{f:A9->A9->Sem A9}{g:Int->Int->Bool}
  (rule:∀(i j:Int)(t u:Tok)(s:AD)(Q:A9->AD->Prop)(E:A9->AD->Prop),Q (.bool (g i j)) s->Af (Ap X.prog X.w) X.A (f (.int i t) (.int j u)) Q E s) :
  OpR X f (rI0 fun i j=>.bl (g i j)):=by
 intro pins s σ H x y v u Q I rx ry h;obtain⟨i,j,rfl,rfl,q⟩:=h;obtain⟨t,rfl⟩:=rx;obtain⟨t',rfl⟩:=ry;exact rule i j t t' s _ _ ⟨.bl (g i j),H,I,rfl,q⟩
def CDiv(i j:Int):Prop:=0<j/\j<1073741824
def CMul(i j:Int):Prop:=(-(2 ^ 64)<i/\i<2 ^ 64)\/(-(2 ^ 64)<j/\j<2 ^ 64)
theorem CMul.ok{i j:Int}(h:CMul i j):IntMulOk i j:=by
 rcases h with⟨h1,h2⟩|⟨h1,h2⟩
 ·exact .of_left (intBits_le_64 h1 h2)
 ·exact .of_right (intBits_le_64 h1 h2)
theorem Zdu:OpR X (D9 .Add) (rI0 fun i j=>.int (i+j)):=opI0 fun _ _ _ _ _ _ _ q=>add_int q
theorem Zdr:OpR X (D9 .Mult) (rI CMul fun i j=>.int (i * j)):=opI fun _ _ _ _ _ _ _ hc q=>mul_int q hc.ok
theorem Zaj:OpR X (D9 .FloorDiv) (rI CDiv fun i j=>.int (i / j)):=opI fun i j _ _ _ _ _ hc q=>by
 have h1:(0:Int)<j:=hc.1;have h2:j<1073741824:=hc.2;exact floordiv_int (by omega) (by rw[Int.fdiv_eq_ediv_of_nonneg i (by omega)];exact q) (.inl (PyProof.noPylong_small (by omega)))
theorem Zds:OpR X (D9 .Mod) (rI (fun _ j=>0<j) fun i j=>.int (i % j)):=opI fun i j _ _ _ _ _ hc q=>by
 have h1:(0:Int)<j:=hc;exact mod_int' (by omega) (by rw[Int.fmod_eq_emod_of_nonneg i (by omega)];exact q)
theorem unI{f:A9->Sem A9}{g:Int->Int}
  (rule:∀(i:Int)(t:Tok)(s:AD)(Q:A9->AD->Prop)(E:A9->AD->Prop),Q (.int (g i) s.toks) { s with toks:=s.toks+1 }->Af (Ap X.prog X.w) X.A (f (.int i t)) Q E s) :
  UnR X f (rU fun i=>.int (g i)):=by
 intro pins s σ H x v Q I rx h;obtain⟨i,rfl,q⟩:=h;obtain⟨t,rfl⟩:=rx;exact rule i t s _ _ ⟨.int (g i),H,I.tok _,⟨_,rfl⟩,q⟩
theorem Zcv:UnR X (unaryOp .USub) (rU fun i=>.int (-i)):=unI fun _ _ _ _ _ q=>neg_int q
end
def scal:V->V->Bool
 | .non,.non=>true | .non,.int _=>true | .int _,.non=>true | .non,.bl _=>true | .bl _,.non=>true | .non,.str _=>true | .str _,.non=>true
 | .int _,.int _=>true | .bl _,.bl _=>true | .str _,.str _=>true | .byt _,.byt _=>true
 | .int _,.str _=>true | .str _,.int _=>true | .bl _,.str _=>true | .str _,.bl _=>true
 | _,_=>false
def rEq:R2:=fun x y H Q=>scal x y=true/\Q (.bl (decide (x=y))) H
def rNe:R2:=fun x y H Q=>scal x y=true/\Q (.bl (!decide (x=y))) H
theorem zu9{i j:Int}:decide (V.int i=V.int j)=(i == j):=by
 rw[Di];simp
theorem zzc{i j:Bool}:decide (V.bl i=V.bl j)=(i == j):=by
 rw[Di];simp
theorem zu8{i j:Str}:decide (V.str i=V.str j)=(i == j):=by
 rw[Di];simp
theorem zva{i j:Array UInt8}:decide (V.byt i=V.byt j)=(i.toList == j.toList):=by
 rw[Di];cases i;cases j;simp
section
variable{X : Cx}{a b c : Expr}{ta tb tc : TE}{pos : C7}
theorem zbb{pins:List (Addr×Bi)}{σ:St}{H:Hp}{s:AD}{Q:VK}{k k':Bool}(I:Inv X pins σ H s)(q:Q (.bl k) H)(e:k=k'):EP X pins σ Q (.bool k') s:=by
 subst e;exact⟨.bl k,H,I,rfl,q⟩
theorem Zg7:OpR X (B8 .Eq) rEq:=by
 intro pins s σ H x y v u Q I rx ry h;obtain⟨hs,q⟩:=h;cases x with
 | non=>
  cases rx;cases y with
  | non=>cases ry;exact PySem.EqNone.eq_none_none (zbb I q (by simp))
  | bl j=>cases ry;exact PySem.EqNone.eq_none_bool (zbb I q (by simp))
  | int j=>obtain⟨t',rfl⟩:=ry;exact PySem.EqNone.eq_none_int (zbb I q (by simp))
  | str j=>obtain⟨t',rfl⟩:=ry;exact PySem.EqNone.eq_none_str (zbb I q (by simp))
  | _=>exact absurd (show false=true from hs) AM
 | bl i=>
  cases rx;cases y with
  | non=>cases ry;exact PySem.EqNone.eq_bool_none (zbb I q (by simp))
  | bl j=>cases ry;exact eq_bool (zbb I q zzc)
  | str j=>obtain⟨t',rfl⟩:=ry;exact PySem.EqMixed.eq_bool_str (zbb I q (by simp))
  | _=>exact absurd (show false=true from hs) AM
 | int i=>
  obtain⟨t,rfl⟩:=rx;cases y with
  | non=>cases ry;exact PySem.EqNone.eq_int_none (zbb I q (by simp))
  | int j=>obtain⟨t',rfl⟩:=ry;exact eq_int (zbb I q zu9)
  | str j=>obtain⟨t',rfl⟩:=ry;exact PySem.EqMixed.eq_int_str (zbb I q (by simp))
  | _=>exact absurd (show false=true from hs) AM
 | str i=>
  obtain⟨t,rfl⟩:=rx;cases y with
  | non=>cases ry;exact PySem.EqNone.eq_str_none (zbb I q (by simp))
  | bl j=>cases ry;exact PySem.EqMixed.eq_str_bool (zbb I q (by simp))
  | int j=>obtain⟨t',rfl⟩:=ry;exact PySem.EqMixed.eq_str_int (zbb I q (by simp))
  | str j=>obtain⟨t',rfl⟩:=ry;exact eq_str (zbb I q zu8)
  | _=>exact absurd (show false=true from hs) AM
 | byt i=>
  obtain⟨t,rfl⟩:=rx;cases y with
  | byt j=>obtain⟨t',rfl⟩:=ry;exact PySem.W.eq_bytes (zbb I q zva)
  | _=>exact absurd (show false=true from hs) AM
 | _=>cases y <;> exact absurd (show false=true from hs) AM
theorem Zg4:OpR X (B8 .NotEq) rNe:=by
 intro pins s σ H x y v u Q I rx ry h;obtain⟨hs,q⟩:=h;cases x with
 | non=>
  cases rx;cases y with
  | non=>cases ry;exact PySem.EqNone.ne_none_none (zbb I q (by simp))
  | bl j=>cases ry;exact PySem.EqNone.ne_none_bool (zbb I q (by simp))
  | int j=>obtain⟨t',rfl⟩:=ry;exact PySem.EqNone.ne_none_int (zbb I q (by simp))
  | str j=>obtain⟨t',rfl⟩:=ry;exact PySem.EqNone.ne_none_str (zbb I q (by simp))
  | _=>exact absurd (show false=true from hs) AM
 | bl i=>
  cases rx;cases y with
  | non=>cases ry;exact PySem.EqNone.ne_bool_none (zbb I q (by simp))
  | bl j=>cases ry;exact ne_bool (zbb I q (congrArg not zzc))
  | str j=>obtain⟨t',rfl⟩:=ry;exact PySem.EqMixed.ne_bool_str (zbb I q (by simp))
  | _=>exact absurd (show false=true from hs) AM
 | int i=>
  obtain⟨t,rfl⟩:=rx;cases y with
  | non=>cases ry;exact PySem.EqNone.ne_int_none (zbb I q (by simp))
  | int j=>obtain⟨t',rfl⟩:=ry;exact ne_int (zbb I q (congrArg not zu9))
  | str j=>obtain⟨t',rfl⟩:=ry;exact PySem.EqMixed.ne_int_str (zbb I q (by simp))
  | _=>exact absurd (show false=true from hs) AM
 | str i=>
  obtain⟨t,rfl⟩:=rx;cases y with
  | non=>cases ry;exact PySem.EqNone.ne_str_none (zbb I q (by simp))
  | bl j=>cases ry;exact PySem.EqMixed.ne_str_bool (zbb I q (by simp))
  | int j=>obtain⟨t',rfl⟩:=ry;exact PySem.EqMixed.ne_str_int (zbb I q (by simp))
  | str j=>obtain⟨t',rfl⟩:=ry;exact ne_str (zbb I q (congrArg not zu8))
  | _=>exact absurd (show false=true from hs) AM
 | byt i=>
  obtain⟨t,rfl⟩:=rx;cases y with
  | byt j=>obtain⟨t',rfl⟩:=ry;exact PySem.W.ne_bytes (zbb I q (congrArg not zva))
  | _=>exact absurd (show false=true from hs) AM
 | _=>cases y <;> exact absurd (show false=true from hs) AM
theorem Zg5:OpR X (B8 .Lt) (rI0 fun i j=>.bl (decide (i<j))):=opB0 fun _ _ _ _ _ _ _ q=>lt_int q
theorem Zg6:OpR X (B8 .LtE) (rI0 fun i j=>.bl (decide (i<=j))):=opB0 fun _ _ _ _ _ _ _ q=>le_int q
theorem ztg:OpR X (B8 .Lt) (fun x y H Q=>∃i j,x=.str i/\y=.str j/\Q (.bl (decide (i.cps.toList<j.cps.toList))) H):=by
 intro pins s σ H x y v u Q I rx ry h;obtain⟨i,j,rfl,rfl,q⟩:=h;obtain⟨t,rfl⟩:=rx;obtain⟨t',rfl⟩:=ry;exact lt_str (zbb I q rfl)
theorem zth:OpR X (B8 .In) (fun x y H Q=>∃i j,x=.str i/\y=.str j/\Q (.bl (!(Do j i 0 j.length 1).isEmpty)) H):=by
 intro pins s σ H x y v u Q I rx ry h;obtain⟨i,j,rfl,rfl,q⟩:=h;obtain⟨t,rfl⟩:=rx;obtain⟨t',rfl⟩:=ry;exact in_str (zbb I q rfl)
theorem Zdt:OpR X (B8 .Is) (fun x y H Q=>y=.non/\Q (.bl (decide (x=.non))) H):=by
 intro pins s σ H x y v u Q I rx ry h;obtain⟨rfl,q⟩:=h;cases ry;refine is_none_gen (zbb I q ?_)
 cases x <;> first
  | (cases rx;rfl)
  | (obtain⟨t,rfl⟩:=rx;rfl)
theorem Zai:OpR X (B8 .IsNot) (fun x y H Q=>y=.non/\Q (.bl (!decide (x=.non))) H):=by
 intro pins s σ H x y v u Q I rx ry h;obtain⟨rfl,q⟩:=h;cases ry;refine isnot_none_gen (zbb I q ?_)
 cases x <;> first
  | (cases rx;rfl)
  | (obtain⟨t,rfl⟩:=rx;rfl)
theorem nomark(b:Expr){op:CmpOp}(h:op≠.In:=by decide)(h2:op≠.NotIn:=by decide):Dk op b=false:=by
 have e1:(op == CmpOp.In)=false:=by cases op <;> first | rfl | exact absurd rfl h
 have e2:(op == CmpOp.NotIn)=false:=by cases op <;> first | rfl | exact absurd rfl h2
 cases b <;> simp[Dk,e1,e2]
theorem Zag{op:CmpOp}{r:R2}(ho:OpR X (B8 op) r)(ha:PE X a ta)(hb:PE X b tb)(hm:Dk op b=false):PE X (.Compare a [op] [b] pos) (tOp r ta tb):=by
 intro pins s σ H Q I h;exact wpAny_Compare1 (binT ha hb I h fun v u s2 x y H2 I2 rx ry q=>ho pins s2 σ H2 x y v u Q I2 rx ry q) hm
def Zcz(t:TE):TT:=fun σ H Q=>t σ H fun x H'=>∃k,x=.bl k/\Q k H'
theorem zz8{op:CmpOp}{r:R2}(ho:OpR X (B8 op) r)(ha:PE X a ta)(hb:PE X b tb)(hm:Dk op b=false):PT X (.Compare a [op] [b] pos) (Zcz (tOp r ta tb)):=by
 intro pins s σ H Q I h
 refine wpAny_isTrue_Compare1 (thn (ha pins s σ H _ I h) fun v s1 ⟨x,H1,I1,r1,q1⟩=>thn (hb pins s1 σ H1 _ I1 q1) fun u s2 ⟨y,H2,I2,r2,q2⟩=>
  thn (ho pins s2 σ H2 x y v u _ I2 r1 r2 q2) fun c s3 ⟨z,H3,I3,r3,k,e,q3⟩=>?_) hm
 subst e;cases r3;exact Bs ⟨H3,I3,q3⟩
def Zc2(r r':R2)(ta tb tc:TE):TE:=fun σ H Q=>ta σ H fun x H1=>tb σ H1 fun y H2=>r x y H2 fun z H3=>∃k,z=.bl k/\
 (if k=true then tc σ H3 fun w' H4=>r' y w' H4 Q else Q (.bl false) H3)
theorem zwq{op op':CmpOp}{r r':R2}(ho:OpR X (B8 op) r)(ho':OpR X (B8 op') r')(ha:PE X a ta)(hb:PE X b tb)(hc:PE X c tc)
  (hm:lastMarks [op,op'] [b,c]=false:=by with_unfolding_all rfl):PT X (.Compare a [op,op'] [b,c] pos) (Zcz (Zc2 r r' ta tb tc)):=by
 intro pins s σ H Q I h
 refine isTrue_chain (thn (ha pins s σ H _ I h) fun v s1 ⟨x,H1,I1,r1,q1⟩=>test_link (thn (hb pins s1 σ H1 _ I1 q1) fun u s2 ⟨y,H2,I2,r2,q2⟩=>
  thn (ho pins s2 σ H2 x y v u _ I2 r1 r2 q2) fun d s3 ⟨z,H3,I3,r3,k,e,q3⟩=>?_)) hm
 subst e;cases r3;refine Bs ?_;cases k with
 | false=>
  obtain⟨k',e',q'⟩:=q3;cases e';exact ite_ff ⟨H3,I3,q'⟩
 | true=>
  refine ite_tt (test_last (thn (hc pins s3 σ H3 _ I3 q3) fun w' s4 ⟨z',H4,I4,r4,q4⟩=>thn (ho' pins s4 σ H4 y z' u w' _ I4 r2 r4 q4) fun d' s5 ⟨z2,H5,I5,r5,k2,e2,q5⟩=>?_))
  subst e2;cases r5;exact Bs ⟨H5,I5,q5⟩
def TruV(K:A0)(x:V)(H:Hp)(k:Bool):Prop:=
 match x with
 | .non=>k=false
 | .bl b=>k=b
 | .int i=>k=(i != 0)
 | .str y=>y.length<=sizeLine/\k=((y.length:Int) != 0)
 | .byt y=>y.size<=sizeLine/\k=((y.size:Int) != 0)
 | .ref p=>(∃xs,SqL K H p xs/\k=!xs.isEmpty)\/(∃xs,SqT K H p xs/\k=!xs.isEmpty)\/∃kvs,H p=some (.dK kvs)/\k=!kvs.isEmpty
 | _=>False
theorem zls{κ:Type}{kvs:List (κ×V)}{vs:List (κ×A9)}(r:KV kvs vs):(!vs.isEmpty)=!kvs.isEmpty:=by
 cases r <;> rfl
theorem zlr{xs:List V}{its:List A9}(r:Vals xs its):(!its.toArray.isEmpty)=!xs.isEmpty:=by
 cases r <;> simp
theorem line63:(sizeLine:Nat)<2 ^ 63:=by rw[B2];decide
theorem zla:TruR X (fun x H Q=>∃k,TruV X.K x H k/\Q k H):=by
 intro pins s σ H x v Q I rx h;obtain⟨k,e,q⟩:=h;have hl:=line63;have hs:sizeLine=16777216:=B2;cases x with
 | non=>
  cases rx;have e':k=false:=e;subst e';exact truthy_none ⟨H,I,q⟩
 | bl b=>
  cases rx;have e':k=b:=e;subst e';exact Bs ⟨H,I,q⟩
 | int i=>
  obtain⟨t,rfl⟩:=rx;have e':k=(i != 0):=e;subst e';exact PySem.P.truthy_int ⟨H,I,q⟩
 | str y=>
  obtain⟨t,rfl⟩:=rx;obtain⟨hy,e'⟩:y.length<=sizeLine/\k=((y.length:Int) != 0):=e;subst e';exact PySem.P.truthy_str (by omega) ⟨H,I.tok _,q⟩
 | byt y=>
  obtain⟨t,rfl⟩:=rx;obtain⟨hy,e'⟩:y.size<=sizeLine/\k=((y.size:Int) != 0):=e;subst e';exact PySem.W.truthy_bytes (by omega) ⟨H,I.tok _,q⟩
 | ref p=>
  cases rx;have e':(∃xs,SqL X.K H p xs/\k=!xs.isEmpty)\/(∃xs,SqT X.K H p xs/\k=!xs.isEmpty)\/∃kvs,H p=some (.dK kvs)/\k=!kvs.isEmpty:=e;rcases e' with⟨xs,hx,e'⟩|⟨xs,hx,e'⟩|⟨kvs,hx,e'⟩
  ·subst e'
   obtain⟨its,r,pl,hz⟩:=I.list hx;have hlen:=r.length;exact wpAny_truthy_list pl.isList (by simp only[Al];omega) ⟨H,I.tok _,by rw[zlr r];exact q⟩
  ·subst e'
   obtain⟨its,r,pl,hz⟩:=I.tuple hx;have hlen:=r.length;exact truthy_tuple pl (by simp only[Al];omega) ⟨H,I.tok _,by rw[zlr r];exact q⟩
  ·subst e'
   obtain⟨hz,hS,vs,r,m⟩:kvs.length<=sizeLine/\(p == BN)=false/\∃vs,KV kvs vs/\s.heap.DictOf (zao X.prog X.w) p vs:=I.hok p _ hx;have hlen:kvs.length=vs.length:=BC r;exact wpAny_truthy_dict hS m (by omega) ⟨H,I.tok _,by rw[zls r];exact q⟩
 | _=>exact(show False from e).elim
theorem zrl:OpR X (D9 .Add) (fun x y H Q=>∃i j,x=.str i/\y=.str j/\i.length+j.length<=sizeLine/\Q (.str (i++j)) H):=by
 intro pins s σ H x y v u Q I rx ry h;obtain⟨i,j,rfl,rfl,hz,q⟩:=h;obtain⟨t,rfl⟩:=rx;obtain⟨t',rfl⟩:=ry;exact add_str (fun t' tk=>⟨.str (i++j),H,I.tok _,⟨_,rfl⟩,q⟩) hz
theorem vals1{x:V}{us:List A9}(r:Vals [x] us):∃u,us=[u]/\RelV x u:=by
 cases r with
 | cons r1 r2=>cases r2;exact⟨_,rfl,r1⟩
theorem vals2{x y:V}{us:List A9}(r:Vals [x,y] us):∃u w',us=[u,w']/\RelV x u/\RelV y w':=by
 cases r with
 | cons r1 r2=>
  cases r2 with
  | cons r3 r4=>cases r4;exact⟨_,_,rfl,r1,r3⟩
theorem zoi:zhl X (.type "int") (fun xs H Q=>(∃i,xs=[.int i]/\Q (.int i) H)\/∃k,xs=[.bl k]/\Q (.int (if k then 1 else 0)) H):=by
 intro pins s σ H xs us Q I r h;rcases h with⟨i,rfl,q⟩|⟨k,rfl,q⟩
 ·obtain⟨u,rfl,t,rfl⟩:=vals1 r
  exact call_int_int ⟨.int i,H,I,⟨_,rfl⟩,q⟩
 ·obtain⟨u,rfl,r1⟩:=vals1 r
  cases r1;exact call_int_bool ⟨.int (if k then 1 else 0),H,I.tok _,⟨_,rfl⟩,q⟩
def LenV(K:A0)(x:V)(H:Hp)(n:Nat):Prop:=
 match x with
 | .str y=>y.length<=sizeLine/\n=y.length
 | .byt y=>y.size<=sizeLine/\n=y.size
 | .ref p=>(∃xs,SqL K H p xs/\n=xs.length)\/∃xs,SqT K H p xs/\n=xs.length
 | _=>False
theorem zm6:zhl X (.builtin "len") (fun xs H Q=>∃x n,xs=[x]/\LenV X.K x H n/\Q (.int n) H):=by
 intro pins s σ H xs us Q I r h;obtain⟨x,n,rfl,e,q⟩:=h;obtain⟨u,rfl,rx⟩:=vals1 r;have hl:=line63;have hs:sizeLine=16777216:=B2;cases x with
 | str y=>
  obtain⟨t,rfl⟩:=rx;obtain⟨hy,e'⟩:y.length<=sizeLine/\n=y.length:=e;subst e';exact len_str (by omega) ⟨.int _,H,I.tok _,⟨_,rfl⟩,q⟩
 | byt y=>
  obtain⟨t,rfl⟩:=rx;obtain⟨hy,e'⟩:y.size<=sizeLine/\n=y.size:=e;subst e';exact PySem.W.len_bytes (by omega) ⟨.int _,H,I.tok _,⟨_,rfl⟩,q⟩
 | ref p=>
  cases rx;have e':(∃xs,SqL X.K H p xs/\n=xs.length)\/∃xs,SqT X.K H p xs/\n=xs.length:=e;rcases e' with⟨xs,hx,e'⟩|⟨xs,hx,e'⟩
  ·subst e'
   obtain⟨its,r',pl,hz⟩:=I.list hx;have hlen:=r'.length;exact Calls.call_len_list pl.isList (by simp only[Al];omega) ⟨.int xs.length,H,I.tok _,⟨_,by simp only[Al];rw[hlen]⟩,q⟩
  ·subst e'
   obtain⟨its,r',pl,hz⟩:=I.tuple hx;have hlen:=r'.length;exact len_tuple pl (by simp only[Al];omega) ⟨.int xs.length,H,I.tok _,⟨_,by simp only[Al];rw[hlen]⟩,q⟩
 | _=>exact(show False from e).elim
end
end L2
namespace L2
open PySem PySem.Spec PyProof.Rows
def putF(f:Str)(v:V):List (Str×V)->List (Str×V)
 | []=>[(f,v)]
 | (g,x)::r=>if g=f then (g,v)::r else (g,x)::putF f v r
theorem RelO.some_of{v:V}{o:Option A9}(r:RelO (some v) o):∃u,o=some u/\RelV v u:=by
 cases o with
 | none=>exact(show False from r).elim
 | some u=>exact⟨u,rfl,r⟩
theorem RelO.none_of{o:Option A9}(r:RelO none o):o=none:=by
 cases o with
 | none=>rfl
 | some u=>exact(show False from r).elim
structure Cls(K:A0)(C:Addr):Prop where
 pg:PySem.W.plainGet K C Str.empty=true
 hd:PySem.W.hasDictIn K C=true
 po:PySem.W.plainOver K C=true
 sa:Hc K (.ref C) "__setattr__"=some (some (.builtin "object.__setattr__"))
structure Con(K:A0)(C:Addr)(f:Str)(v:V)(u:A9):Prop where
 at_:Hc K (.ref C) f=some (some u)
 rel:RelV v u
 get:PySem.W.specialIn K u "__get__"=some none
 cp:PySem.W.copiedNames.contains f=false
end L2
namespace L2
open PySem PySem.Spec PyProof.Rows
structure Room(k:Nat)(A:B0):Prop where
 hd:A.handled=none
 dp:A.depth+3 * k+5<recursionLimit
 un:A.units+16 * k+200<cLine
theorem Room.mono{j k:Nat}{A:B0}(r:Room k A)(h:j<=k):Room j A:=⟨r.hd,by have:=r.dp;omega,by have:=r.un;omega⟩
theorem Room.deeper{k:Nat}{A:B0}(r:Room (k+1) A)(env:FY):Room k (A.deeper env):=
 ⟨r.hd,by have:=r.dp;show A.depth+1+3 * k+5<_;omega,by have:=r.un;show A.units+3+16 * k+200<_;omega⟩
theorem Room.depth{k:Nat}{A:B0}(r:Room k A):A.depth<recursionLimit:=by have:=r.dp;omega
theorem Room.units{k:Nat}{A:B0}(r:Room k A):A.units+64<cLine:=by have:=r.un;omega
def tNil:TA:=fun _ H Q=>Q [] H
def zzp(ta:TE)(tr:TA):TA:=fun σ H Q=>ta σ H fun x H1=>tr σ H1 fun xs H2=>Q (x::xs) H2
section
variable{X : Cx}{e : Expr}{es : List Expr}{te : TE}{t : TA}{pos : C7}
theorem ze7:PA X [] tNil:=fun _ _ _ _ H Q I h=>HN ⟨[],H,I,.nil,h⟩
theorem zb0(ha:PE X e te)(hr:PA X es t)(hs:Ad (e::es) X.env=(false,BR e X.env)::Ad es X.env:=by rfl):PA X (e::es) (zzp te t):=by
 intro pos pins s σ H Q I h;rw[hs];show Af _ _ (spliced ((false,BR e X.env)::DH pos (Ad es X.env))) _ _ s;refine HJ (thn (ha pins s σ H _ I h) fun u s1 ⟨x,H1,I1,r1,q1⟩=>?_)
 exact thn (hr pos pins s1 σ H1 _ I1 q1) fun us s2 ⟨xs,H2,I2,r2,q2⟩=>⟨x::xs,H2,I2,.cons r1 r2,q2⟩
def tTup(t:TA):TE:=fun σ H Q=>t σ H fun xs H1=>xs.length<=sizeLine/\∀p,H1 p=none->Q (.ref p) (upd H1 p (.tup xs))
def tLst(t:TA):TE:=fun σ H Q=>t σ H fun xs H1=>xs.length<=sizeLine/\∀p,H1 p=none->Q (.ref p) (upd H1 p (.lst xs))
theorem Zdh{x1}(h:PA X es t):PE X (.Tuple es x1 pos) (tTup t):=by
 intro pins s σ H Q I hq;refine wpAny_Tuple_spliced (thn (h pos pins s σ H _ I hq) fun us s1 ⟨xs,H1,I1,r,z,q⟩=>⟨by rw[← r.length];exact z,?_⟩)
 have hf:H1 s1.heap.objs.size=none:=I1.hok.fresh (AY _);refine⟨.ref s1.heap.objs.size,upd H1 s1.heap.objs.size (.tup xs),I1.laid (t':=s1.toks) (fun b u e=>AC _ e) (AY _) ?_,rfl,q _ hf⟩
 exact⟨z,us,r,⟨_,Aa _ rfl,rfl,⟨_,rfl⟩,fun _=>rfl⟩⟩
theorem Zdm(h:PA X es t):PE X (.List es pos) (tLst t):=by
 intro pins s σ H Q I hq;refine wpAny_List_spliced (thn (h pos pins s σ H _ I hq) fun us s1 ⟨xs,H1,I1,r,z,q⟩=>⟨by rw[← r.length];exact z,?_⟩)
 have hf:H1 s1.heap.objs.size=none:=I1.hok.fresh (AY _);refine⟨.ref s1.heap.objs.size,upd H1 s1.heap.objs.size (.lst xs),I1.laid (t':=s1.toks) (fun b u e=>AC _ e) (AY _) ?_,rfl,q _ hf⟩
 exact⟨z,us,0,r,Aa _ rfl⟩
end
abbrev Sp:=List V->Hp->VK->XK->Prop
abbrev CXT:=List FY->Hp->AD->XK->A9->AD->Prop
structure Env0(P:Ak)(w:Ar)(K:A0)(mg:Str->Option A9)(base:Heap)(A:B0)(outer:List FY)(s:AD)(H:Hp):Prop where
 frames:A.frames=some outer
 mod:Mod K mg base
 bs:∀b o,base.get? b=some o->s.heap.get? b=some o/\H b=none
 bsz:base.objs.size<=s.heap.objs.size
 funs:s.heap.FunFrames base outer
 frf:∀b∈frs outer,H b=none
 hok:HOk P w H s.heap
 bare:Ex s.gens
def CE(outer:List FY)(P:Ak)(w:Ar)(H:Hp)(s:AD)(Q:VK)(u:A9)(s':AD):Prop:=
 ∃v H',s'.os=s.os/\Ex s'.gens/\Un (frs outer) [] H H' s.heap s'.heap/\HOk P w H' s'.heap/\RelV v u/\Q v H'
def CR(CX:CXT)(outer:List FY)(P:Ak)(w:Ar)(H:Hp)(s:AD)(Q:VK)(E:XK)(r:Gn)(s':AD):Prop:=
 match r with
 | .ok (.ret u)=>CE outer P w H s Q u s'
 | .ok _=>False
 | .error e=>CX outer H s E e s'
structure FnOk(P:Ak)(w:Ar)(K:A0)(mg:Str->Option A9)(base:Heap)(CX:CXT)(k:Nat)(f:Addr)(fd:By)(ps:List Str)(sp:Sp):Prop where
 len:∀vs H Q E,sp vs H Q E->vs.length=ps.length
 run:∀(A:B0)(outer:List FY)(s:AD)(H:Hp)(args:Args)(us:List A9)(vs:List V)(Q:VK)(E:XK),Room k A->Env0 P w K mg base A outer s H->GV s fd args (ps.zip us)->Vals vs us->sp vs H Q E->
  D0 (Ap P w) A (.call (.ref f) args) (CR CX outer P w H s Q E) s
section
variable{X : Cx}{pins : List (Addr×Bi)}{σ : St}{H : Hp}{s s' : AD}
theorem Inv.env0(I:Inv X pins σ H s):Env0 X.prog X.w X.K X.mg X.base X.A X.stack s H:=
 ⟨I.ok.frames,I.ok.mod,I.bs,B9 I.ok.bsz I.sz,I.stack,I.stkFree,I.hok,I.bare⟩
theorem Inv.after{Q:VK}{u:A9}(I:Inv X pins σ H s)(h:CE X.stack X.prog X.w H s Q u s'):EP X pins σ Q u s':=by
 obtain⟨v,H',os,bare,un,hok,r,q⟩:=h;obtain⟨hh,g,d,t,os'⟩:=s';obtain rfl:os'=s.os:=os;exact⟨v,H',I.call (h':=hh) (g':=g) (d':=d) (t':=t) (ch:=[]) un hok bare (fun b z=>absurd z (by simp)),r,q⟩
end
def Zgp(sp:Sp)(dvs:List V)(E:XK)(t:TA):TE:=fun σ H Q=>t σ H fun vs H1=>sp (vs++dvs) H1 Q E
def Binds(K:A0)(fd:By)(ps:List Str)(ds:List A9):Prop:=
 ∀(s:AD)(us:List A9),K.In s.heap->(us++ds).length=ps.length->GV s fd ⟨us,[]⟩ (ps.zip (us++ds))
theorem Binds.all{K:A0}{fd:By}{ps:List Str}(h:∀us:List A9,us.length=ps.length->Fu fd ⟨us,[]⟩=pure (ps.zip us)):Binds K fd ps []:=fun s us _ hl=>by
 rw[BY] at hl ⊢;exact .of_eq (h us hl)
def Passes(CX:CXT)(X:Cx)(E:XK):Prop:=∀(pins:List (Addr×Bi))(σ:St)(H:Hp)(s:AD)(e:A9)(s':AD),Inv X pins σ H s->CX X.stack H s E e s'->X.xe e s'
section
variable{X : Cx}{CX : CXT}{k : Nat}{f C : Addr}{fd : By}{ps : List Str}{sp : Sp}{dvs : List V}{ds : List A9}{E : XK}{x m : Str}{p pos apos : C7}{e o : Expr}{es : List Expr}{ta : TE}{t : TA}
theorem Zc6{pins:List (Addr×Bi)}{σ:St}{H:Hp}{s:AD}{Q:VK}{us:List A9}{vs:List V}(F:FnOk X.prog X.w X.K X.mg X.base CX k f fd ps sp)(hr:Room k X.A)(hb:Binds X.K fd ps ds)(hd:Vals dvs ds)(hx:Passes CX X E)
  (I:Inv X pins σ H s) (r:Vals vs us) (h:sp (vs++dvs) H Q E):Af (Ap X.prog X.w) X.A (call (.ref f) us) (EP X pins σ Q) X.xe s:=by
 have r2:Vals (vs++dvs) (us++ds):=r.append hd;have hl:(us++ds).length=ps.length:=by rw[← r2.length];exact F.len _ _ _ _ h
 refine wpAny_call (Es (F.run X.A X.stack s H ⟨us,[]⟩ (us++ds) (vs++dvs) Q E hr I.env0 (hb s us I.kIn hl) r2 h) fun r s' hq=>?_)
 cases r with
 | error e=>exact hx pins σ H s e s' I hq
 | ok fl=>
  cases fl with
  | ret u=>exact I.after hq
  | next=>exact AK hq
  | brk=>exact AK hq
  | cont=>exact AK hq
theorem ztb(F:FnOk X.prog X.w X.K X.mg X.base CX k f fd ps sp)(hr:Room k X.A)(hg:Gl X x)(hm:X.mg x=some (.ref f))(hk:CA X.K (.ref f)=true)(hb:Binds X.K fd ps ds)(hd:Vals dvs ds)(hx:Passes CX X E)
  (ha:PA X (e::es) t) (hdb:(x == ("__debug__":Str))=false:=by decide) (he:Ad (e::es) X.env=(false,BR e X.env)::Ad es X.env:=by rfl) (hpl:(DH pos (Ad es X.env)).any (·.1)=false:=by rfl) :
  PE X (.Call (.Name x p) (e::es) [] pos) (Zgp sp dvs E t):=by
 intro pins s σ H Q I h;refine DG (zo9 I hg hm ?_ hdb);refine Gm (h₀:=X.base) I.ok.mod.kin hk (thn (ha pos pins s σ H _ I h) fun us s1 ⟨vs,H1,I1,r,q⟩=>⟨I1.kIn,?_⟩) he hpl
 exact Zc6 F hr hb hd hx I1 r q
end
structure FnScope(N P:List Str)(sc:Scope):Prop where
 kind:sc.kind=.function
 co:sc.isCoroutine=false
 gen:sc.isGenerator=false
 nd:N.Nodup
 pre:N.take P.length=P
 par:∀x∈P,sc.names.lookup x=some .local\/sc.names.lookup x=some .cell
 nofree:∀y∈sc.names,y.2≠.free
theorem zoj{kindOf:Str->Option CZ}{x:Str}:∀{binds:List (Str×A9)}{m:Str->Option A9},(∀v,(x,v) ∉ binds)->HL kindOf binds m x=m x
 | [],_,_=>rfl
 | (n,v)::r,m,h=>by
  unfold HL;rw[zoj fun w hw=>h w (Ah _ hw)]
  split
  ·have:x≠n:=by rintro rfl;exact h v Ai
   simp[this]
  ·rfl
theorem zol{kindOf:Str->Option CZ}{x:Str}:∀{binds:List (Str×A9)}{m:Str->Option A9},(∀v,(x,v) ∉ binds)->HM kindOf binds m x=m x
 | [],_,_=>rfl
 | (n,v)::r,m,h=>by
  unfold HM;rw[zol fun w hw=>h w (Ah _ hw)]
  split
  ·rfl
  ·have:x≠n:=by rintro rfl;exact h v Ai
   simp[this]
theorem zok{kindOf:Str->Option CZ}{x:Str}{v:A9}:∀{P:List Str}{vs:List A9}{i:Nat}{m:Str->Option A9},P.Nodup->P[i]?=some x->vs[i]?=some v->kindOf x=some .local->
  HL kindOf (P.zip vs) m x=some v
 | [],_,_,_,_,h,_,_=>by simp at h
 | _::_,[],_,_,_,_,h,_=>by simp at h
 | p::P,w::vs,0,m,nd,h1,h2,hk=>by
  simp at h1 h2;subst h1;subst h2;show HL kindOf ((p,w)::P.zip vs) m p=_;unfold HL;rw[zoj fun v hv=>(Ay.mp nd).1 (Eg hv).1,if_pos hk]
  simp
 | p::P,w::vs,i+1,m,nd,h1,h2,hk=>by
  show HL kindOf ((p,w)::P.zip vs) m x=_;unfold HL;exact zok (i:=i) (Ay.mp nd).2 (by simpa using h1) (by simpa using h2) hk
theorem zom{kindOf:Str->Option CZ}{x:Str}{v:A9}:∀{P:List Str}{vs:List A9}{i:Nat}{m:Str->Option A9},P.Nodup->P[i]?=some x->vs[i]?=some v->kindOf x≠some .local->
  HM kindOf (P.zip vs) m x=some v
 | [],_,_,_,_,h,_,_=>by simp at h
 | _::_,[],_,_,_,_,h,_=>by simp at h
 | p::P,w::vs,0,m,nd,h1,h2,hk=>by
  simp at h1 h2;subst h1;subst h2;show HM kindOf ((p,w)::P.zip vs) m p=_;unfold HM;rw[zol fun v hv=>(Ay.mp nd).1 (Eg hv).1,if_neg hk]
  simp
 | p::P,w::vs,i+1,m,nd,h1,h2,hk=>by
  show HM kindOf ((p,w)::P.zip vs) m x=_;unfold HM;exact zom (i:=i) (Ay.mp nd).2 (by simpa using h1) (by simpa using h2) hk
def start(N:List Str)(vs:List V):St:=vs.map some++B4 (N.length-vs.length) none
def cxOf(CX:CXT)(P:Ak)(w:Ar)(K:A0)(mg:Str->Option A9)(base:Heap)(N:List Str)(qual:Str)(scope:Scope)(f:Addr)(cd:A9)(A:B0)(outer:List FY)(s:AD)(H:Hp)(E:XK):Cx where
 prog:=P
 w:=w
 K:=K
 mg:=mg
 base:=base
 A:=A.deeper (DY qual scope s.heap.objs.size f cd)
 N:=N
 s₀:=s
 H₀:=H
 env:=DY qual scope s.heap.objs.size f cd
 outer:=outer
 stack:=DY qual scope s.heap.objs.size f cd::outer
 ex:=[]
 calm:=true
 fn:=fun _=>true
 pn:=[]
 xe:=fun e s'=>Af (Ap P w) (A.deeper (DY qual scope s.heap.objs.size f cd)) (leaving (DY qual scope s.heap.objs.size f cd) e) (fun _ s''=>CX outer H s E e s'') (fun e' s''=>CX outer H s E e' s'') s'
theorem zq1{sc:Scope}{n:Nat}{x:Str}(h:sc.names.lookup x=some .cell):∃c,(cellsFrom n sc.names []).lookup x=some c:=by
 have q:=GD sc.names n [] (.inl h);exact G9.mp q
theorem zt8{CX:CXT}{P:Ak}{w:Ar}{K:A0}{mg:Str->Option A9}{base:Heap}{N ps:List Str}{qual:Str}{scope:Scope}{f:Addr}{cd:A9}{A:B0}{outer:List FY}{s s1:AD}{H:Hp}{E:XK}{us:List A9}{vs:List V}
  (S:FnScope N ps scope) (hd:A.handled=none) (e0:Env0 P w K mg base A outer s H) (hl:vs.length=ps.length) (r:Vals vs us)
  (x:InCallC s s.heap.objs.size (HL (DY qual scope s.heap.objs.size f cd).kindOf (ps.zip us) fun _=>none) (cellsFrom (s.heap.objs.size+1) scope.names []) (HM (DY qual scope s.heap.objs.size f cd).kindOf (ps.zip us) fun _=>none) s1) :
  Inv (cxOf CX P w K mg base N qual scope f cd A outer s H E) [] (start N vs) H s1:=by
 have hpl:ps.length<=N.length:=by have:=congrArg CM S.pre;rw[CU] at this;omega
 obtain⟨h1,tk,rfl,hk⟩:=x.done;have noA:∀b:Addr,b ∉ (cxOf CX P w K mg base N qual scope f cd A outer s H E).ex:=fun b z=>absurd (show b∈([]:List Addr) from z) (by simp)
 refine⟨⟨e0.mod,S.kind,rfl,rfl,AY _,fun y z c h1 h2=>?_,fun y hy=>?_,fun y c _ h=>?_,fun _=>hd,GX e0.frames,.inr ⟨rfl,rfl⟩,fun b z=>absurd z (noA b),e0.bs,e0.bsz,fun b _ _=>noA b,fun b z=>absurd z (noA b),e0.funs,e0.frf⟩,
  rfl,e0.bare,Un.kept hk,⟨_,x.toInCall.ns,fun i y v h1 h2 h3=>?_⟩,fun y c h=>⟨_,x.cell y c h⟩,e0.hok.fresh (AY _),fun y c h=>?_,fun p hp=>absurd (show p∈([]:List (Addr×Bi)) from hp) (by simp),e0.hok.kept hk,?_⟩
 ·exact name_of_addr x.apart (Ax h1) (Ax h2)
 ·have hy:scope.names.lookup y=some .cell\/scope.names.lookup y=some .free:=hy
  rcases hy with hy | hy
  ·exact zq1 hy
  ·exact absurd rfl (S.nofree _ (Ax hy))
 ·exact Ef (x.above y c (Ax h))
 ·have hi:i<vs.length:=by
   unfold start at h2
   by_cases hi:i<vs.length
   ·exact hi
   ·rw[As (by simpa using hi)] at h2
    rw[BA] at h2;split at h2 <;> cases h2
  have ha:vs[i]?=some v:=by
   unfold start at h2;rw[Ae (by simpa using hi),AG] at h2
   cases e:vs[i]? with
   | none=>rw[e] at h2;cases h2
   | some a=>rw[e] at h2;cases h2;rfl
  obtain⟨u,hu,rv⟩:=r.get ha
  have hp:ps[i]?=some y:=by
   rw[← S.pre,List.getElem?_take_of_lt (by omega)];exact h1
  have ndP:ps.Nodup:=by rw[← S.pre];exact S.nd.sublist (List.take_sublist _ _)
  refine⟨u,rv,?_⟩;rcases S.par y (AS hp) with k | k
  ·exact .inl ⟨k,zok ndP hp hu k⟩
  ·obtain⟨c,e⟩:=zq1 (n:=s.heap.objs.size+1) k
   refine .inr ⟨.inl k,c,e,?_⟩;have q:=x.cell y c e;rw[zom ndP hp hu (by show scope.names.lookup y≠_;rw[k];decide)] at q
   exact q
 ·exact e0.hok.fresh (Ef (x.above y c (Ax h)))
 ·unfold start
  show _=N.length;rw[Aw,AI,Bv];omega
theorem Zex{CX:CXT}{P:Ak}{w:Ar}{K:A0}{mg:Str->Option A9}{base:Heap}{k:Nat}{f:Addr}{name qual:Str}{params:Arguments}{body:List Stmt}{scope:Scope}{dV kV doc pm cdv ct oc:A9}{an od:Option Addr}
  {osl:Array (Option A9)} {N ps:List Str} {sp:Sp} (lk:K.lookup f=some ⟨oc,od,.func (Bj name qual params body scope dV kV doc pm an cdv ct),osl⟩) (hcd:Cd K cdv qual=true) (S:FnScope N ps scope)
  (len:∀vs H Q E,sp vs H Q E->vs.length=ps.length)
  (hbody:∀(A:B0)(outer:List FY)(s:AD)(H:Hp)(vs:List V)(Q:VK)(E:XK),Room k (A.deeper (DY qual scope s.heap.objs.size f cdv))->sp vs H Q E->
   ∃t,PSs (cxOf CX P w K mg base N qual scope f cdv A outer s H E) body t/\t { nx:=fun _ H'=>Q .non H',rt:=Q } (start N vs) H) :
  FnOk P w K mg base CX (k+1) f (Bj name qual params body scope dV kV doc pm an cdv ct) ps sp:=by
 refine⟨len,fun A outer s H args us vs Q E hr e0 hb r hsp=>?_⟩
 have hl:=len _ _ _ _ hsp;have KX:K.In s.heap:=e0.mod.kin.keeps fun b o e=>(e0.bs b o e).1
 have lim:s.heap.NoLimit:=e0.mod.nolimit.keeps fun b o e=>(e0.bs b o e).1
 have hkind:∀y∈ps.zip us,scope.names.lookup y.1=some .local\/(scope.names.lookup y.1=some .cell/\((cellsFrom (s.heap.objs.size+1) scope.names []).lookup y.1).isSome=true):=fun ⟨n,v⟩ hy=>by
  rcases S.par n (Eg hy).1 with q | q
  ·exact .inl q
  ·exact .inr ⟨q,GD _ _ _ (.inl q)⟩
 refine codeAny_call_function hr.depth (KX _ _ lk) rfl S.co S.gen rfl (PySem.W.codeRec_of KX hcd) (hb _ _ _ _ ?_);refine wpAny_newFunctionEnv_cells S.kind hkind fun env he s1 x=>?_
 subst he;refine⟨lim.keeps x.toInCall.keep,codeAny_func ?_⟩;obtain⟨t,ht,hq⟩:=hbody A outer s H vs Q E (hr.deeper _) hsp;have I:Inv (cxOf CX P w K mg base N qual scope f cdv A outer s H E) [] (start N vs) H s1:=zt8 S hr.hd e0 hl r x;refine C9 (ht [] s1 (start N vs) H _ I hq) (fun fl s' hs=>?_) fun e s' hs=>hs
 have fin:∀{σ':St}{H':Hp}{v:V}{u:A9},Inv (cxOf CX P w K mg base N qual scope f cdv A outer s H E) [] σ' H' s'->RelV v u->Q v H'->CE outer P w H s Q u s':=
  fun {σ' H' v u} J rv q=>⟨v,H',J.os,J.bare,J.base,J.hok,rv,q⟩
 cases fl with
 | ret u=>
  obtain⟨v,σ',H',J,rv,q⟩:=hs;exact fin J rv q
 | next=>
  obtain⟨σ',H',J,q⟩:=hs;exact fin (v:=V.non) (u:=Bm) J rfl q
 | brk=>
  obtain⟨_,_,_,q⟩:=hs;exact AK q
 | cont=>
  obtain⟨_,_,_,q⟩:=hs;exact AK q
end L2
namespace L2
open PySem PySem.Spec PyProof.Rows
section
variable{X : Cx}{x : Str}{p pos : C7}{e : Expr}{es : List Expr}{t : TA}{id T : String}{r : List V → Hp → VK → Prop}
def tCB(r:List V->Hp->VK->Prop)(t:TA):TE:=fun σ H Q=>t σ H fun vs H1=>r vs H1 Q
theorem zp5 (hc:zhl X (.builtin id) r) (hg:Gl X x) (hm:X.mg x=none) (hv:CC x=some (.builtin id)) (ha:PA X (e::es) t) (hn:x≠"__name__":=by decide) (hdb:(x == ("__debug__":Str))=false:=by decide)
  (he:Ad (e::es) X.env=(false,BR e X.env)::Ad es X.env:=by rfl) (hpl:(DH pos (Ad es X.env)).any (·.1)=false:=by rfl):PE X (.Call (.Name x p) (e::es) [] pos) (tCB r t):=by
 intro pins s σ H Q I h;refine DG (zhz I hg hm hv ?_ hn hdb);exact PyProof.Rows.callWith_builtin1 (thn (ha pos pins s σ H _ I h) fun us s1 ⟨vs,H1,I1,r1,q1⟩=>hc pins s1 σ H1 vs us Q I1 r1 q1) he hpl
theorem znk (hc:zhl X (.type T) r) (hg:Gl X x) (hm:X.mg x=none) (hv:CC x=some (.type T)) (ha:PA X (e::es) t) (hn:x≠"__name__":=by decide) (hdb:(x == ("__debug__":Str))=false:=by decide)
  (he:Ad (e::es) X.env=(false,BR e X.env)::Ad es X.env:=by rfl) (hpl:(DH pos (Ad es X.env)).any (·.1)=false:=by rfl):PE X (.Call (.Name x p) (e::es) [] pos) (tCB r t):=by
 intro pins s σ H Q I h;refine DG (zhz I hg hm hv ?_ hn hdb);exact BM (thn (ha pos pins s σ H _ I h) fun us s1 ⟨vs,H1,I1,r1,q1⟩=>hc pins s1 σ H1 vs us Q I1 r1 q1) he hpl
end
end L2
namespace HT
open PySem PyProof.Rows
def zgm:List Int->List Int->Bool
 | [],[]=>false
 | [],_::_=>true
 | _::_,[]=>false
 | x::xs,y::ys=>if x=y then zgm xs ys else decide (x<y)
section
variable{prog : Ak}{w : Ar}{A : B0}{E : A9 → AD → Prop}{s : AD}
def sIx(n d:Nat):Option Int->Nat
 | none=>d
 | some v=>if v<0 then (v+(n:Int)).toNat else min v.toNat n
theorem Zc5(n d:Nat)(hd:d<=n)(o:Option Int):sIx n d o<=n:=by
 cases o with
 | none=>exact hd
 | some v=>
  show (if v<0 then (v+(n:Int)).toNat else min v.toNat n)<=n
  by_cases hv:v<0
  ·rw[if_pos hv];omega
  ·rw[if_neg hv];exact Nat.min_le_right _ _
theorem zvh(v:Int)(n d:Nat):(if v<0 then max (v+(n:Int)) 0 else min v (n:Int))=((sIx n d (some v):Nat):Int):=by
 show (if v<0 then max (v+(n:Int)) 0 else min v (n:Int))=(((if v<0 then (v+(n:Int)).toNat else min v.toNat n):Nat):Int)
 by_cases hv:v<0
 ·simp only[if_pos hv];omega
 ·simp only[if_neg hv];omega
theorem zr2(lo hi:Option Int)(n:Nat):DX lo hi 1 (n:Int)=(((sIx n 0 lo:Nat):Int),((sIx n n hi:Nat):Int)):=by
 have h1:¬ ((1:Int)<0):=by omega
 unfold DX;simp only[h1,if_false];refine G8 ?_ ?_
 ·cases lo with
  | none=>rfl
  | some v=>exact zvh v n 0
 ·cases hi with
  | none=>rfl
  | some v=>exact zvh v n n
theorem zri(i j:Nat):Ca (i:Int) (j:Int) 1=j-i:=by
 unfold Ca;have h1:(1:Int) > 0:=by omega
 simp only[h1,if_true,Int.ediv_one]
 split <;> omega
theorem zlb{v:A9}{o:Option Int}{Q:Option Int->AD->Prop}(p:GE v o)(h:Q o s):Af (Ap prog w) A (Builtin.Slice.slicePartIndex v) Q E s:=by
 cases p with
 | none=>exact slicePart_none h
 | int i t=>exact slicePart_int h
theorem zjb{sl:Addr}{vl vu:A9}{lo hi:Option Int}{n:Nat}{Q:Int×Int×Nat->AD->Prop}(hs:s.heap.IsSliceOf sl vl vu .none)(pl:GE vl lo)(pu:GE vu hi)
  (h:Q (((sIx n 0 lo:Nat):Int),1,sIx n n hi-sIx n 0 lo) s):Af (Ap prog w) A (F7 (.ref sl) (pure (n:Int))) Q E s:=by
 obtain⟨os,hos,hcs,hds⟩:=id hs;unfold F7 Builtin.Slice.sliceFields;refine AB (AB (FF hos hds (x:=vl) rfl (AB (FF hos hds (x:=vu) rfl (AB (FF hos hds (x:=.none) rfl (AH ?_)))))));refine AB (slicePart_none ?_);show Af _ _ (if ((1:Int) == 0)=true then _ else _) _ _ s
 rw[if_neg (by decide)]
 refine AB (zlb pl (AB (zlb pu (AB (AH ?_)))));show Af _ _ (match DX lo hi 1 (n:Int) with | (lo,hi)=>pure (lo,(1:Int),Ca lo hi 1)) _ _ s
 rw[zr2 lo hi n];show Af _ _ (pure (((sIx n 0 lo:Nat):Int),(1:Int),Ca ((sIx n 0 lo:Nat):Int) ((sIx n n hi:Nat):Int) 1)) _ _ s;rw[zri];exact AH h
theorem zwv(xs:Array A9)(i k:Nat):((AF k).filterMap fun (m:Nat)=>xs[((i:Int)+(m:Int) * 1).toNat]?).toArray=((xs.toList.drop i).take k).toArray:=by
 have e:(fun (m:Nat)=>xs[((i:Int)+(m:Int) * 1).toNat]?)=fun m=>xs[i+m]?:=by
  funext m
  have:((i:Int)+(m:Int) * 1).toNat=i+m:=by omega
  rw[this]
 rw[e];have:=pick_run xs i k;rw[List.filterMap_map] at this;have e2:((fun x=>xs[x]?) ∘ fun x=>i+x)=fun m=>xs[i+m]?:=rfl
 rw[e2] at this;rw[this]
theorem getItem_tuple_cut{t sl:Addr}{items:Array A9}{vl vu:A9}{lo hi:Option Int}{Q:A9->AD->Prop}(ht:IsTup s.heap t items)(hs:s.heap.IsSliceOf sl vl vu .none)(pl:GE vl lo)(pu:GE vu hi)
  (hw:¬ (sIx items.size 0 lo=0/\sIx items.size items.size hi=items.size))
  (h:Q (.ref s.heap.objs.size) { s with heap:=s.heap.push { cls:=.type "tuple",data:=.seq ((items.toList.drop (sIx items.size 0 lo)).take (sIx items.size items.size hi-sIx items.size 0 lo)).toArray } })
  (hsz:items.size<=sizeLine):Af (Ap prog w) A (GS (.ref t) (.ref sl)) Q E s:=by
 have htake:sizeOk (.seq ((items.toList.drop (sIx items.size 0 lo)).take (sIx items.size items.size hi-sIx items.size 0 lo)).toArray):=by
  show ((items.toList.drop (sIx items.size 0 lo)).take (sIx items.size items.size hi-sIx items.size 0 lo)).toArray.size<=sizeLine;rw[Al,CU,Ff,CS];omega
 have hj:sIx items.size items.size hi<=items.size:=Zc5 _ _ (AY _) hi;obtain⟨os,hos,hcs,hds⟩:=id hs;have hTs:s.TypeIs (.ref sl) "slice":=⟨os,hos,hcs⟩;unfold GS
 try with_reducible refine CG ?_
 first | refine AB (AH ?_) | skip
 refine AB (wpAny_sequenceKey ht.typeIs (by decide) ?_)
 refine AB (DK (name:=AN "__getitem__") ht.typeIs Cy
  (Dj Cy ht.typeIs entry_tuple_getitem ?_ (args_tuple_getitem _ _)))
 show Af _ _ (Builtin.Tuple.tupleItemsOf (.ref t) >>= _) _ _ s;refine AB (tupleItemsOf_ ht ?_);refine AB (DS hTs ?_);rw[if_pos (by decide)]
 refine AB (zjb hs pl pu ?_)
 have hno:¬ ((((sIx items.size 0 lo:Nat):Int) == 0 && (1:Int) == 1 && (sIx items.size items.size hi-sIx items.size 0 lo) == items.size)=true):=by
  intro q;rw[BJ,BJ] at q;have q1:((sIx items.size 0 lo:Nat):Int)=0:=D3 q.1.1;have q2:sIx items.size items.size hi-sIx items.size 0 lo=items.size:=D3 q.2;exact hw ⟨by omega,by omega⟩
 show Af _ _ (if (((sIx items.size 0 lo:Nat):Int) == 0 && (1:Int) == 1 && (sIx items.size items.size hi-sIx items.size 0 lo) == items.size)=true then _ else _) _ _ s
 rw[if_neg hno,zwv]
 first
  | exact AB (m:=Ce _) (Bt (AH ⟨_,rfl,AH h⟩) htake)
  | exact AB (m:=Ce _) (Bt (AB (AH (AH ⟨_,rfl,AH h⟩))) htake)
  | exact AB (AB (m:=Ce _) (Bt (AH (AH ⟨_,rfl,AH h⟩)) htake))
  | exact AB (AB (m:=Ce _) (Bt (AH ⟨_,rfl,AH h⟩) htake))
end
end HT
namespace L2
open PySem PySem.Spec PyProof.Rows
abbrev TO:=St->Hp->(Option Int->Hp->Prop)->Prop
def PO(X:Cx)(e:Option Expr)(t:TO):Prop:=
 ∀(pins:List (Addr×Bi))(s:AD)(σ:St)(H:Hp)(Q:Option Int->Hp->Prop),Inv X pins σ H s->t σ H Q->
  Af (Ap X.prog X.w) X.A (evalPart e X.env) (fun u s'=>∃o H',Inv X pins σ H' s'/\GE u o/\Q o H') X.xe s
def zzo:TO:=fun _ H Q=>Q none H
def Zgk(t:TE):TO:=fun σ H Q=>t σ H fun x H1=>∃i,x=.int i/\Q (some i) H1
section
variable{X : Cx}{e : Expr}{te : TE}{lo hi : Option Expr}{tl th : TO}{pos p2 : C7}
theorem Zac:PO X none zzo:=by
 intro pins s σ H Q I h;rw[evalPart_none];exact AH ⟨none,H,I,.none,h⟩
theorem Zab(h:PE X e te):PO X (some e) (Zgk te):=by
 intro pins s σ H Q I hw;rw[evalPart_some];refine thn (h pins s σ H _ I hw) fun u s1 ⟨x,H1,I1,r1,q1⟩=>?_
 obtain⟨i,rfl,q⟩:=q1;obtain⟨t,rfl⟩:=r1;exact⟨some i,H1,I1,.int i t,q⟩
def SlR(X:Cx)(r:V->Option Int->Option Int->Hp->VK->Prop):Prop:=
 ∀(pins:List (Addr×Bi))(s:AD)(σ:St)(H:Hp)(x:V)(v vl vu:A9)(lo hi:Option Int)(sl:Addr)(Q:VK),Inv X pins σ H s->RelV x v->s.heap.IsSliceOf sl vl vu .none->GE vl lo->GE vu hi->r x lo hi H Q->
  ∃T id,typeLookup (.type T) "__getitem__"=pure (some (.builtin id))/\s.TypeIs v T/\Af (Ap X.prog X.w) X.A (GS v (.ref sl)) (EP X pins σ Q) X.xe s
def tSl(r:V->Option Int->Option Int->Hp->VK->Prop)(te:TE)(tl th:TO):TE:=fun σ H Q=>te σ H fun x H1=>tl σ H1 fun l H2=>th σ H2 fun u H3=>r x l u H3 Q
theorem zp4{r:V->Option Int->Option Int->Hp->VK->Prop}(hr:SlR X r)(he:PE X e te)(hl:PO X lo tl)(hu:PO X hi th):PE X (.Subscript e (.Slice lo hi none p2) pos) (tSl r te tl th):=by
 intro pins s σ H Q I h;refine Subscript_ (thn (he pins s σ H _ I h) fun v s1 ⟨x,H1,I1,r1,q1⟩=>?_)
 refine wpAny_Slice (thn (hl pins s1 σ H1 _ I1 q1) fun vl s2 ⟨l,H2,I2,pl,q2⟩=>thn (hu pins s2 σ H2 _ I2 q2) fun vu s3 ⟨u,H3,I3,pu,q3⟩=>?_)
 rw[evalPart_none];refine AH ?_;have I4:Inv X pins σ H3 { s3 with heap:=s3.heap.push { cls:=.type "slice",data:=.fields #[vl,vu,.none] } }:=I3.kept (t':=s3.toks) fun b ob q=>AC _ q
 obtain⟨T,id,hT,ht,hg⟩:=hr pins { s3 with heap:=s3.heap.push { cls:=.type "slice",data:=.fields #[vl,vu,.none] } } σ H3 x v vl vu l u s3.heap.objs.size Q I4 r1 (Heap.IsSliceOf.new ..) pl pu q3;show Af (Ap X.prog X.w) X.A (subscriptTail e (.Slice lo hi none p2) v (.ref s3.heap.objs.size)) (EP X pins σ Q) X.xe { s3 with heap:=s3.heap.push { cls:=.type "slice",data:=.fields #[vl,vu,.none] } };exact tail_any (ops:=[.ref s3.heap.objs.size,v]) ht hT hg (by with_unfolding_all rfl)
def cutV(xs:List V)(lo hi:Option Int):List V:=(xs.drop (HT.sIx xs.length 0 lo)).take (HT.sIx xs.length xs.length hi-HT.sIx xs.length 0 lo)
theorem zko(xs:List V)(lo hi:Option Int):(cutV xs lo hi).length<=xs.length:=by
 unfold cutV;rw[CU,Ff];omega
def rSlT(K:A0):V->Option Int->Option Int->Hp->VK->Prop:=fun x lo hi H Q=>∃a xs,x=.ref a/\SqT K H a xs/\
 ¬ (HT.sIx xs.length 0 lo=0/\HT.sIx xs.length xs.length hi=xs.length)/\∀p,H p=none->Q (.ref p) (upd H p (.tup (cutV xs lo hi)))
theorem Zc4:SlR X (rSlT X.K):=by
 intro pins s σ H x v vl vu lo hi sl Q I rx hs pl pu h;obtain⟨a,xs,rfl,hx,hw,q⟩:=h;cases rx;obtain⟨its,r,ht,hz⟩:=I.tuple hx;have hlen:its.toArray.size=xs.length:=by rw[Al];exact r.length.symm
 refine⟨"tuple",_,Cy.lookup,ht.typeIs,?_⟩;refine HT.getItem_tuple_cut ht hs pl pu (by rw[hlen];exact hw) ?_ (by rw[hlen];exact hz)
 rw[hlen];refine⟨.ref s.heap.objs.size,_,I.laid (t':=s.toks) (o:=.tup (cutV xs lo hi)) (fun b ob q=>AC _ q) (AY _) ?_,rfl,q _ (I.hok.fresh (AY _))⟩
 exact⟨B9 (zko xs lo hi) hz,_,(r.drop (HT.sIx xs.length 0 lo)).take (HT.sIx xs.length xs.length hi-HT.sIx xs.length 0 lo),IsTp.new _ _⟩
end
end L2
namespace L2
open PySem PySem.Spec PyProof.Rows
def ixN(n:Nat)(i:Int):Option Nat:=if 0<=i then (if i<n then some i.toNat else none) else if -(n:Int)<=i then some (i+n).toNat else none
def atI{α:Type}(xs:List α)(i:Int):Option α:=(ixN xs.length i).bind fun j=>xs[j]?
theorem Za4{n:Nat}{i:Int}{j:Nat}(h:ixN n i=some j):seqIndex? i n=some j/\j<n/\-(n:Int)<=i/\i<n:=by
 unfold ixN at h
 by_cases h0:0<=i
 ·rw[if_pos h0] at h
  by_cases h1:i<n
  ·rw[if_pos h1] at h
   have e:i.toNat=j:=BD h;exact⟨by rw[seqIndex_of h0 h1,e],by omega,by omega,h1⟩
  ·rw[if_neg h1] at h;cases h
 ·rw[if_neg h0] at h
  by_cases h1:-(n:Int)<=i
  ·rw[if_pos h1] at h
   have e:(i+n).toNat=j:=BD h;exact⟨by rw[seqIndex_neg (by omega) h1,e],by omega,h1,by omega⟩
  ·rw[if_neg h1] at h;cases h
theorem zpq{α:Type}{xs:List α}{i:Int}{v:α}(h:atI xs i=some v):∃j,seqIndex? i xs.length=some j/\xs[j]?=some v/\j<xs.length/\-(xs.length:Int)<=i/\i<xs.length:=by
 unfold atI at h;cases e:ixN xs.length i with
 | none=>rw[e] at h;cases h
 | some j=>
  rw[e] at h;obtain⟨h1,h2,h3,h4⟩:=Za4 e;exact⟨j,h1,h,h2,h3,h4⟩
def zps(b:Expr):Prop:=∀o i,subscripted b false o i=operate [o,i] (GS o i)
def IxR(X:Cx)(r:R2):Prop:=
 ∀(value slice:Expr)(pins:List (Addr×Bi))(s:AD)(σ:St)(H:Hp)(x y:V)(v u:A9)(Q:VK),Inv X pins σ H s->RelV x v->RelV y u->r x y H Q->
  subscripted slice false v u=operate [v,u] (GS v u)->Af (Ap X.prog X.w) X.A (subscriptTail value slice v u) (EP X pins σ Q) X.xe s
def MtR(X:Cx)(id:String)(r:V->List V->Hp->VK->Prop):Prop:=
 ∀(pins:List (Addr×Bi))(s:AD)(σ:St)(H:Hp)(x:V)(xs:List V)(v:A9)(us:List A9)(Q:VK),Inv X pins σ H s->RelV x v->Vals xs us->r x xs H Q->
  Af (Ap X.prog X.w) X.A (call (.builtin id) (v::us)) (EP X pins σ Q) X.xe s
section
variable{X : Cx}{a b : Expr}{ta tb : TE}{pos : C7}
theorem IxR.or{r r':R2}(h:IxR X r)(h':IxR X r'):IxR X (fun x y H Q=>r x y H Q\/r' x y H Q):=by
 intro value slice pins s σ H x y v u Q I rx ry q hs;rcases q with q | q
 ·exact h value slice pins s σ H x y v u Q I rx ry q hs
 ·exact h' value slice pins s σ H x y v u Q I rx ry q hs
theorem Zdo{r:R2}(hr:IxR X r)(ha:PE X a ta)(hb:PE X b tb)(hs:zps b):PE X (.Subscript a b pos) (tOp r ta tb):=by
 intro pins s σ H Q I h;exact Subscript_ (binT ha hb I h fun v u s2 x y H2 I2 rx ry q=>hr a b pins s2 σ H2 x y v u Q I2 rx ry q (hs _ _))
def rIxL(K:A0):R2:=fun x y H Q=>∃p xs i v,x=.ref p/\y=.int i/\SqL K H p xs/\atI xs i=some v/\Q v H
def rIxT(K:A0):R2:=fun x y H Q=>∃p xs i v,x=.ref p/\y=.int i/\SqT K H p xs/\atI xs i=some v/\Q v H
def rIxS:R2:=fun x y H Q=>∃z i c,x=.str z/\y=.int i/\z.length<=sizeLine/\atI z.cps.toList i=some c/\Q (.str ⟨#[c]⟩) H
theorem zt7:IxR X (rIxL X.K):=by
 intro value slice pins s σ H x y v u Q I rx ry h hs;obtain⟨p,xs,i,z,rfl,rfl,hq,he,q⟩:=h;cases rx;obtain⟨t,rfl⟩:=ry;obtain⟨its,r,pl,hz⟩:=I.list hq;obtain⟨j,h1,h2,h3,h4,h5⟩:=zpq he;obtain⟨w,ew,rw'⟩:=r.get h2;have hl:=r.length;have hn:=line63;have fin:EP X pins σ Q w s:=⟨z,H,I,rw',q⟩
 by_cases h0:0<=i
 ·have hj:i.toNat=j:=by
   rw[seqIndex_of h0 h5] at h1;exact BD h1
  exact item_listR pl.isList h0 (by omega) (by rw[hj];simpa using ew) fin hs
 ·have hj:(i+(its.toArray.size:Int)).toNat=j:=by
   rw[seqIndex_neg (by omega) h4] at h1
   rw[Al,← hl];exact BD h1
  exact Hf (x:=w) pl.isList.typeIs slot_list_getitem.lookup
   (wpAny_getItem_list_neg (Q:=fun r s'=>r=w/\EP X pins σ Q r s') pl.isList (by omega) (by rw[Al] <;> omega) (by omega) (by rw[hj];simpa using ew) ⟨rfl,fin⟩) hs
theorem zy3:IxR X (rIxT X.K):=by
 intro value slice pins s σ H x y v u Q I rx ry h hs;obtain⟨p,xs,i,z,rfl,rfl,hq,he,q⟩:=h;cases rx;obtain⟨t,rfl⟩:=ry;obtain⟨its,r,pl,hz⟩:=I.tuple hq;obtain⟨j,h1,h2,h3,h4,h5⟩:=zpq he;obtain⟨w,ew,rw'⟩:=r.get h2;have hl:=r.length;have hn:=line63;have fin:EP X pins σ Q w s:=⟨z,H,I,rw',q⟩
 exact Hf (x:=w) pl.typeIs slot_tuple_getitem.lookup
  (getItem_tuple (j:=j) (Q:=fun r s'=>r=w/\EP X pins σ Q r s') pl (by omega) (by omega) (by rw[Al,← hl];exact h1) (by simpa using ew) ⟨rfl,fin⟩) hs
theorem zy4:IxR X rIxS:=by
 intro value slice pins s σ H x y v u Q I rx ry h hs;obtain⟨z,i,c,rfl,rfl,hz,he,q⟩:=h;obtain⟨t,rfl⟩:=rx;obtain⟨t',rfl⟩:=ry;obtain⟨j,h1,h2,h3,h4,h5⟩:=zpq he;have hl:z.cps.toList.length=z.length:=by simp[Str.length]
 rw[hl] at h1 h4 h5;have hn:=line63
 exact tail_any (typeIs_str s z t) slot_str_getitem.lookup (getItem_str (c:=c) (by
  have e1:decide (i < -(2 ^ 63:Int))=false:=decide_eq_false (by omega)
  have e2:decide (i ≥ 2 ^ 63)=false:=decide_eq_false (by omega)
  rw[e1,e2,GM]) (by rw[h1];simpa using h2) ⟨.str ⟨#[c]⟩,H,I.tok _,⟨_,rfl⟩,q⟩) hs
def rIx(K:A0):R2:=fun x y H Q=>rIxL K x y H Q\/rIxT K x y H Q\/rIxS x y H Q
theorem Zem:IxR X (rIx X.K):=zt7.or (zy3.or zy4)
theorem zne(lo hi:Option Int)(n:Nat):(Dm lo hi none n).1=((HT.sIx n 0 lo:Nat):Int)/\(Dm lo hi none n).2.1=((HT.sIx n n hi:Nat):Int)/\(Dm lo hi none n).2.2=1:=by
 refine⟨?_,?_,rfl⟩
 ·cases lo with
  | none=>simp[Dm,HT.sIx]
  | some i=>
   simp only[Dm,HT.sIx,HP,show (1:Int) > 0 by decide,if_true]
   by_cases h:i<0
   ·simp only[h,if_true] <;> omega
   ·simp only[h,if_false] <;> omega
 ·cases hi with
  | none=>simp[Dm,HT.sIx]
  | some i=>
   simp only[Dm,HT.sIx,HP,show (1:Int) > 0 by decide,if_true]
   by_cases h:i<0
   ·simp only[h,if_true] <;> omega
   ·simp only[h,if_false] <;> omega
theorem zl3(its:List A9)(lo hi:Option Int):slicePick its.toArray lo hi none=((its.drop (HT.sIx its.length 0 lo)).take (HT.sIx its.length its.length hi-HT.sIx its.length 0 lo)).toArray:=by
 obtain⟨h1,h2,h3⟩:=zne lo hi its.toArray.size;unfold slicePick;rw[h1,h2,h3];simp only[sliceRange_one,pick_run,Al] <;> rfl
def rSlL(K:A0):V->Option Int->Option Int->Hp->VK->Prop:=fun x lo hi H Q=>∃a xs,x=.ref a/\SqL K H a xs/\∀p,H p=none->Q (.ref p) (upd H p (.lst (cutV xs lo hi)))
theorem zzv:SlR X (rSlL X.K):=by
 intro pins s σ H x v vl vu lo hi sl Q I rx hs pl pu h;obtain⟨a,xs,rfl,hx,q⟩:=h;cases rx;obtain⟨its,r,ht,hz⟩:=I.list hx;have hlen:=r.length;refine⟨"list",_,slot_list_getitem.lookup,ht.isList.typeIs,?_⟩;refine wpAny_getItem_list_slice ht.isList hs pl pu .none (by simp) ?_ (by rw[Al] <;> omega)
 rw[zl3,← hlen];refine⟨.ref s.heap.objs.size,_,I.laid (t':=s.toks) (o:=.lst (cutV xs lo hi)) (fun b ob q=>AC _ q) (AY _) ?_,rfl,q _ (I.hok.fresh (AY _))⟩
 exact⟨B9 (zko xs lo hi) hz,_,0,(r.drop (HT.sIx xs.length 0 lo)).take (HT.sIx xs.length xs.length hi-HT.sIx xs.length 0 lo),Aa _ rfl⟩
def zk3:V->Bool
 | .non=>true
 | .bl _=>true
 | .int _=>true
 | .str _=>true
 | _=>false
def eqV:V->V->Bool
 | .non,.non=>true
 | .bl a,.bl b=>a == b
 | .bl a,.int b=>(if a then 1 else 0) == b
 | .int a,.bl b=>a == (if b then 1 else 0)
 | .int a,.int b=>a == b
 | .str a,.str b=>a == b
 | _,_=>false
theorem Ze0{A:B0}{s:AD}{y x:V}{u v:A9}(ry:RelV y u)(rx:RelV x v)(fy:zk3 y=true)(fx:zk3 x=true):SeqAt.EqAt A s u v (eqV y x):=by
 cases y with
 | non=>
  cases ry;cases x with
  | non=>cases rx;exact SeqAt.EqAt.same _
  | bl b=>cases rx;exact SeqAt.EqAt.none_bool b
  | int b=>obtain⟨t,rfl⟩:=rx;exact SeqAt.EqAt.none_int b t
  | str b=>obtain⟨t,rfl⟩:=rx;exact SeqAt.EqAt.none_str b t
  | _=>exact absurd (show false=true from fx) AM
 | bl a=>
  cases ry;cases x with
  | non=>cases rx;exact SeqAt.EqAt.bool_none a
  | bl b=>cases rx;exact SeqAt.EqAt.bool_bool a b
  | int b=>obtain⟨t,rfl⟩:=rx;exact SeqAt.EqAt.bool_int a b t
  | str b=>obtain⟨t,rfl⟩:=rx;exact SeqAt.EqAt.bool_str a b t
  | _=>exact absurd (show false=true from fx) AM
 | int a=>
  obtain⟨t',rfl⟩:=ry;cases x with
  | non=>cases rx;exact SeqAt.EqAt.int_none a t'
  | bl b=>cases rx;exact SeqAt.EqAt.int_bool a t' b
  | int b=>obtain⟨t,rfl⟩:=rx;exact SeqAt.EqAt.int_int a t' b t
  | str b=>obtain⟨t,rfl⟩:=rx;exact GI a t' b t
  | _=>exact absurd (show false=true from fx) AM
 | str a=>
  obtain⟨t',rfl⟩:=ry;cases x with
  | non=>cases rx;exact SeqAt.EqAt.str_none a t'
  | bl b=>cases rx;exact SeqAt.EqAt.str_bool a t' b
  | int b=>obtain⟨t,rfl⟩:=rx;exact GH a t' b t
  | str b=>obtain⟨t,rfl⟩:=rx;exact SeqAt.EqAt.str_str a t' b t
  | _=>exact absurd (show false=true from fx) AM
 | _=>exact absurd (show false=true from fy) AM
def eqU(x:V)(u:A9):Bool:=match u with
 | .none=>eqV .non x
 | .bool b=>eqV (.bl b) x
 | .int i _=>eqV (.int i) x
 | .str z _=>eqV (.str z) x
 | _=>false
theorem zy8{x y:V}{u:A9}(r:RelV y u)(f:zk3 y=true):eqU x u=eqV y x:=by
 cases y with
 | non=>cases r;rfl
 | bl b=>cases r;rfl
 | int i=>obtain⟨t,rfl⟩:=r;rfl
 | str z=>obtain⟨t,rfl⟩:=r;rfl
 | _=>exact absurd (show false=true from f) AM
theorem zkv{x:V}:∀{xs:List V}{us:List A9},Vals xs us->xs.all zk3=true->us.any (eqU x)=xs.any fun y=>eqV y x
 | _,_,.nil,_=>rfl
 | y::xs,u::us,.cons r t,f=>by
  rw[Cz,BJ] at f;rw[Bf,Bf,zy8 r f.1,zkv t f.2]
theorem zhw{A:B0}{s:AD}{x:V}{v:A9}(rx:RelV x v)(fx:zk3 x=true):∀{xs:List V}{us:List A9},Vals xs us->xs.all zk3=true->∀u∈us,SeqAt.EqAt A s u v (eqU x u)
 | _,_,.nil,_=>fun u hu=>by cases hu
 | y::xs,u::us,.cons r t,f=>fun u' hu=>by
  rw[Cz,BJ] at f;rcases AU.mp hu with rfl | hu
  ·rw[zy8 r f.1];exact Ze0 r rx f.1 fx
  ·exact zhw rx fx t f.2 u' hu
def inV(x:V)(xs:List V):Bool:=xs.any fun y=>eqV y x
def rIn(K:A0)(neg:Bool):R2:=fun x y H Q=>∃p xs,y=.ref p/\(SqL K H p xs\/SqT K H p xs)/\zk3 x=true/\xs.all zk3=true/\Q (.bl (if neg then !inV x xs else inV x xs)) H
theorem znp:OpR X (B8 .In) (rIn X.K false):=by
 intro pins s σ H x y v u Q I rx ry h;obtain⟨p,xs,rfl,hq,fx,fs,q⟩:=h;cases ry;rcases hq with hq | hq
 ·obtain⟨its,r,pl,hz⟩:=I.list hq
  refine SeqAt.in_listAt (eqU x) pl.isList (fun w hw=>zhw rx fx r fs w (by simpa using hw)) ⟨.bl _,H,I,rfl,?_⟩
  rw[show its.toArray.any (eqU x)=its.any (eqU x) by simp,zkv r fs]
  exact q
 ·obtain⟨its,r,pl,hz⟩:=I.tuple hq
  refine SeqAt.in_tupleAt (eqU x) pl (fun w hw=>zhw rx fx r fs w (by simpa using hw)) ⟨.bl _,H,I,rfl,?_⟩
  rw[show its.toArray.any (eqU x)=its.any (eqU x) by simp,zkv r fs]
  exact q
theorem zi8:OpR X (B8 .NotIn) (rIn X.K true):=by
 intro pins s σ H x y v u Q I rx ry h;obtain⟨p,xs,rfl,hq,fx,fs,q⟩:=h;cases ry;rcases hq with hq | hq
 ·obtain⟨its,r,pl,hz⟩:=I.list hq
  refine SeqAt.notIn_listAt (eqU x) pl.isList (fun w hw=>zhw rx fx r fs w (by simpa using hw)) ⟨.bl _,H,I,rfl,?_⟩
  rw[show its.toArray.any (eqU x)=its.any (eqU x) by simp,zkv r fs]
  exact q
 ·obtain⟨its,r,pl,hz⟩:=I.tuple hq
  refine SeqAt.notIn_tupleAt (eqU x) pl (fun w hw=>zhw rx fx r fs w (by simpa using hw)) ⟨.bl _,H,I,rfl,?_⟩
  rw[show its.toArray.any (eqU x)=its.any (eqU x) by simp,zkv r fs]
  exact q
theorem zno:OpR X (B8 .NotIn) (fun x y H Q=>∃i j,x=.str i/\y=.str j/\Q (.bl (!(!(Do j i 0 j.length 1).isEmpty))) H):=by
 intro pins s σ H x y v u Q I rx ry h;obtain⟨i,j,rfl,rfl,q⟩:=h;obtain⟨t,rfl⟩:=rx;obtain⟨t',rfl⟩:=ry;exact notIn_str ⟨.bl _,H,I,rfl,q⟩
theorem zi9:zhl X (.type "list") (fun xs H Q=>∃p ys,xs=[.ref p]/\(SqL X.K H p ys\/SqT X.K H p ys)/\∀l,H l=none->Q (.ref l) (upd H l (.lst ys))):=by
 intro pins s σ H xs us Q I r h;obtain⟨p,ys,rfl,hq,q⟩:=h;obtain⟨u,rfl,rx⟩:=vals1 r;cases rx
 have fin:∀(its:List A9),Vals ys its->ys.length<=sizeLine->∀(h':Heap)(c':Nat),(∀b o',s.heap.get? b=some o'->h'.get? b=some o')->
   h'.get? s.heap.objs.size=some { cls:=.type "list",dict:=none,data:=.seq its.toArray c',slots:=#[] }->EP X pins σ Q (.ref s.heap.objs.size) { s with heap:=h' }:=fun its r' hz h' c' kp e=>
  ⟨.ref s.heap.objs.size,_,I.laid (t':=s.toks) kp (AY _) (show zdx X.prog X.w _ h' _ (.lst ys) from ⟨hz,its,c',r',e⟩),rfl,q _ (I.hok.fresh (AY _))⟩
 rcases hq with hq | hq
 ·obtain⟨its,r',pl,hz⟩:=I.list hq
  have hlen:=r'.length;obtain⟨o,ho,hc,n,hd⟩:=pl.isList;exact call_list_seq p (.inl rfl) ho hc hd (fun h' c' kp e=>fin its r' hz h' c' kp e) (by simp only[Al] <;> omega)
 ·obtain⟨its,r',pl,hz⟩:=I.tuple hq
  have hlen:=r'.length;obtain⟨o,ho,hc,n,hd⟩:=pl;exact call_list_seq p (.inr rfl) ho hc hd (fun h' c' kp e=>fin its r' hz h' c' kp e) (by simp only[Al] <;> omega)
theorem zie:zhl X (.type "tuple") (fun xs H Q=>∃p ys,xs=[.ref p]/\((SqL X.K H p ys/\∀l,H l=none->Q (.ref l) (upd H l (.tup ys)))\/(SqT X.K H p ys/\Q (.ref p) H))):=by
 intro pins s σ H xs us Q I r h;obtain⟨p,ys,rfl,h⟩:=h;obtain⟨u,rfl,rx⟩:=vals1 r;cases rx;rcases h with⟨hq,q⟩|⟨hq,q⟩
 ·obtain⟨its,r',pl,hz⟩:=I.list hq
  have hlen:=r'.length;refine call_tuple_list pl.isList (fun h' kp=>?_) (by simp only[Al] <;> omega)
  have I1:Inv X pins σ H { s with heap:=h' }:=I.kept (t':=s.toks) kp
  have I2:Inv X pins σ (upd H h'.objs.size (.tup ys)) { s with heap:=h'.push { cls:=.type "tuple",data:=.seq its.toArray } }:=
   I1.laid (t':=s.toks) (fun b o e=>AC _ e) (AY _) (show zdx X.prog X.w _ _ _ (.tup ys) from ⟨hz,its,r',IsTp.new _ _⟩)
  exact⟨.ref h'.objs.size,_,I2,rfl,q _ (I1.hok.fresh (AY _))⟩
 ·obtain⟨its,r',pl,hz⟩:=I.tuple hq
  exact call_tuple_same pl ⟨.ref p,H,I,rfl,q⟩
def tyV(K:A0)(T:String)(x:V)(H:Hp):Prop:=match x with
 | .str _=>T="str"
 | .int _=>T="int"
 | .ref p=>(T="list"/\∃xs,SqL K H p xs)\/(T="tuple"/\∃o,K.lookup p=some o/\o.cls=.type "tuple"/\o.dict=none) ∨
   (T="dict"/\((∃kvs,H p=some (.dK kvs))\/∃kvs,H p=some (.dT kvs)))\/(T="set"/\∃S n,H p=some (.set S n))
 | _=>False
theorem Zcw{pins:List (Addr×Bi)}{σ:St}{H:Hp}{s:AD}{T:String}{x:V}{v:A9}(I:Inv X pins σ H s)(r:RelV x v)(ty:tyV X.K T x H) :
  s.TypeIs v T/\∀a,v=.ref a->∃ob,s.heap.get? a=some ob/\ob.dict=none:=by
 cases x with
 | str z=>
  obtain⟨t,rfl⟩:=r;cases (show T="str" from ty);exact⟨typeIs_str s z t,fun _ e=>nomatch e⟩
 | int i=>
  obtain⟨t,rfl⟩:=r;cases (show T="int" from ty);exact⟨typeIs_int s i t,fun _ e=>nomatch e⟩
 | ref p=>
  cases r;rcases ty with⟨rfl,xs,hq⟩|⟨rfl,o,hk,hc,hd⟩|⟨rfl,hk⟩|⟨rfl,S,n,hk⟩
  ·obtain⟨its,_,pl,_⟩:=I.list hq
   refine⟨pl.isList.typeIs,fun a e=>?_⟩
   cases e;obtain⟨o,n,e,c,hd,_⟩:=pl;exact⟨o,e,hd⟩
  ·refine⟨⟨o,I.kIn p o hk,hc⟩,fun a e=>?_⟩
   cases e;exact⟨o,I.kIn _ o hk,hd⟩
  ·have z:∃o,s.heap.get? p=some o/\o.ExactDict:=by
    rcases hk with⟨kvs,hk⟩|⟨kvs,hk⟩
    ·obtain⟨_,_,_,_,o,_,_,e,ex,_⟩:=I.hok p _ hk
     exact⟨o,e,ex⟩
    ·obtain⟨_,_,_,_,o,_,_,e,ex,_⟩:=I.hok p _ hk
     exact⟨o,e,ex⟩
   obtain⟨o,e,ex⟩:=z;refine⟨⟨o,e,ex.1⟩,fun a e2=>?_⟩
   cases e2;exact⟨o,e,ex.2.1⟩
  ·obtain⟨o,_,_,_,e,ex,_⟩:=I.hok p _ hk
   refine⟨⟨o,e,ex.1⟩,fun a e2=>?_⟩
   cases e2;exact⟨o,e,ex.2.1⟩
 | _=>exact AK ty
def tBM(K:A0)(T:String)(r:V->List V->Hp->VK->Prop)(to:TE)(t:TA):TE:=fun σ H Q=>to σ H fun x H1=>tyV K T x H1/\t σ H1 fun xs H2=>r x xs H2 Q
variable{o e : Expr}{es : List Expr}{to : TE}{t : TA}{name : Str}{apos cpos : C7}{T id : String}{r : V → List V → Hp → VK → Prop}
theorem zw0 (pa:PlainAttrs T) (slot:Slot T name id) (hty:typeOf (.builtin id)=pure (.type "method_descriptor")) (hm:MtR X id r) (ho:PE X o to) (ha:PA X (e::es) t)
  (hbase:DA o name X.env (BR o X.env)=BR o X.env:=by rfl)
  (hfew:((DH cpos (Ad (e::es) X.env)).all (fun x=>!x.1) && (backToKw cpos (keywordEach [] X.env)).all (fun x=>x.1.isSome)
   && decide ((e::es).length+([]:List Keyword).length+(if ([]:List Keyword).isEmpty then 0 else 1)<30))=true:=by rfl)
  (hline:(apos.endLine == cpos.line)=true:=by rfl) (hs:Ad (e::es) X.env=(false,BR e X.env)::Ad es X.env:=by rfl) (hplain:(DH cpos (Ad es X.env)).any (·.1)=false:=by rfl) :
  PE X (.Call (.Attribute o name apos) (e::es) [] cpos) (tBM X.K T r to t):=by
 intro pins s σ H Q I h;refine HW hbase hfew hline rfl (thn (ho pins s σ H _ I h) fun v s1 ⟨x,H1,I1,r1,ty,q1⟩=>?_)
 obtain⟨h1,h2⟩:=Zcw I1 r1 ty;refine⟨T,id,pa,slot,hty,h1,h2,?_⟩;have hA:=ha cpos pins s1 σ H1 _ I1 q1;rw[hs] at hA ⊢;refine ER (by show (false || (DH cpos (Ad es X.env)).any (·.1))=false;rw[hplain] <;> rfl) (Gq ?_)
 exact thn hA fun us s2 ⟨vs,H2,I2,r2,q2⟩=>hm pins s2 σ H2 x vs v us Q I2 r1 r2 q2
end
end L2
namespace L2
open PySem PySem.Spec PyProof.Rows
def MtM(X:Cx)(id:String)(r:V->List V->Hp->VK->Prop):Prop:=
 ∀(pins:List (Addr×Bi))(s:AD)(σ:St)(H:Hp)(x:V)(xs:List V)(v:A9)(us:List A9)(Q:VK),Inv X pins σ H s->RelV x v->Vals xs us->r x xs H Q->
  Af (Ap X.prog X.w) X.A (call (.builtin id) (v::us)) (EP X pins σ Q) X.xe s
theorem Vals.one:∀{x:V}{us:List A9},Vals [x] us->∃u,us=[u]/\RelV x u
 | _,_,.cons r .nil=>⟨_,rfl,r⟩
theorem Vals.two:∀{x y:V}{us:List A9},Vals [x,y] us->∃u v,us=[u,v]/\RelV x u/\RelV y v
 | _,_,_,.cons r (.cons q .nil)=>⟨_,_,rfl,r,q⟩
section
variable{X : Cx}{pins : List (Addr×Bi)}{σ : St}{H : Hp}{s : AD}{l b : Addr}{xs ys zs : List V}
theorem Inv.lset{its its':List A9}{n:Nat}{f:Array A9->Array A9}{t':Nat}(I:Inv X pins σ H s)(hH:H l=some (.lst xs))
  (e:s.heap.get? l=some { cls:=.type "list",data:=.seq its.toArray n }) (hf:f its.toArray=its'.toArray) (hv:Vals ys its') (hz:ys.length<=sizeLine) :
  Inv X pins σ (upd H l (.lst ys)) { s with heap:=s.heap.update l (Av f),toks:=t' }:=by
 have q:=PySem.IsL.update e f;rw[hf] at q;refine I.write (x:=l) (e:=l) (by rw[hH];exact trivial) (.inl rfl) (fun b' u hb hu=>(BZ s.heap (Av f) (Bc hb)).trans hu) ⟨_,q⟩ ?_
 exact⟨hz,its',_,hv,q⟩
theorem Inv.lnew{its:List A9}{t':Nat}(I:Inv X pins σ H s)(hv:Vals ys its)(hz:ys.length<=sizeLine) :
  Inv X pins σ (upd H s.heap.objs.size (.lst ys)) { s with heap:=s.heap.push { cls:=.type "list",data:=.seq its.toArray },toks:=t' }:=
 I.laid (fun _ _ q=>AC _ q) (AY _) ⟨hz,its,0,hv,Aa _ rfl⟩
theorem Inv.fresh(I:Inv X pins σ H s):H s.heap.objs.size=none:=I.hok.fresh (AY _)
theorem Inv.lstM (I:Inv X pins σ H s) (hH:H l=some (.lst xs)):xs.length<=sizeLine/\∃(its:List A9) (n:Nat),Vals xs its/\xs.length=its.length/\s.heap.get? l=some { cls:=.type "list",data:=.seq its.toArray n }:=by
 obtain⟨z,its,n,r,e⟩:=I.hok l _ hH;exact⟨z,its,n,r,r.length,e⟩
end
section
variable{X : Cx}
def zz1:V->List V->Hp->VK->Prop:=fun x vs H Q=>∃l xs y,x=.ref l/\vs=[y]/\H l=some (.lst xs)/\xs.length<sizeLine/\Q .non (upd H l (.lst (xs++[y])))
theorem zgj:MtM X "list.append" zz1:=by
 intro pins s σ H x vs v us Q I rx rv h;obtain⟨l,xs,y,rfl,rfl,hH,hz,q⟩:=h;cases rx;obtain⟨u,rfl,ru⟩:=rv.one;obtain⟨z,its,n,r,hl,e⟩:=I.lstM hH;refine call_meets EM ⟨_,e,rfl⟩ F.entry_list_append (F.args_list_append_2 _ _) (PySem.list_append l its.toArray n u (by rw[Al];omega)) ⟨e,?_⟩
 refine⟨.non,_,I.lset (its':=its++[u]) hH e (by simp) (r.append (.cons ru .nil)) ?_,rfl,q⟩
 rw[Aw,Ej];omega
end
end L2
namespace L2
open PySem PySem.Spec PyProof.Rows
section
variable{κ : Type}[DecidableEq κ]
def valV(kvs:List (κ×V))(k:κ):Option V:=(kvs.find? fun kv=>decide (kv.1=k)).map (·.2)
def putK(kvs:List (κ×V))(k:κ)(v:V):List (κ×V):=
 if (kvs.any fun kv=>decide (kv.1=k))=true then kvs.map (fun kv=>if kv.1=k then (kv.1,v) else kv) else kvs++[(k,v)]
theorem zhn{p:κ×V}{r:List (κ×V)}{k:κ}(e:p.1=k):valV (p::r) k=some p.2:=by simp[valV,C2,e]
theorem zfd{p:κ×V}{r:List (κ×V)}{k:κ}(e:¬ p.1=k):valV (p::r) k=valV r k:=by simp[valV,C2,e]
theorem zho(k:κ):∀kvs:List (κ×V),(kvs.any fun kv=>decide (kv.1=k))=(valV kvs k).isSome
 | []=>rfl
 | p::r=>by
  rw[Bf]
  by_cases e:p.1=k
  ·simp only[zhn e,decide_eq_true e,Bool.true_or,Option.isSome_some]
  ·rw[zfd e,decide_eq_false e,Bool.false_or];exact zho k r
theorem zec(kvs:List (κ×V))(k:κ)(v:V):(putK kvs k v).length<=kvs.length+1:=by
 unfold putK
 split
 ·rw[AI];omega
 ·rw[Aw,An,Cc];omega
theorem RelO.isSome_eq{o:Option V}{u:Option A9}(r:RelO o u):o.isSome=u.isSome:=by
 cases o with
 | none=>cases u with
  | none=>rfl
  | some _=>exact(show False from r).elim
 | some _=>cases u with
  | none=>exact(show False from r).elim
  | some _=>rfl
theorem KV.val{kvs:List (κ×V)}{vs:List (κ×A9)}(r:KV kvs vs)(k:κ):RelO (valV kvs k) (Bn vs k):=by
 unfold KV at r
 induction r with
 | nil=>exact CQ
 | @cons p q ps qs h t ih=>
  obtain⟨h1,h2⟩:=h
  by_cases e:p.1=k
  ·have e':q.1=k:=h1.symm.trans e
   have b:Bn (q::qs) k=some q.2:=by simp[Bn,C2,e']
   rw[zhn e,b];exact h2
  ·have e':¬ q.1=k:=fun z=>e (h1.trans z)
   have b:Bn (q::qs) k=Bn qs k:=by simp[Bn,C2,e']
   rw[zfd e,b];exact ih
theorem KV.any{kvs:List (κ×V)}{vs:List (κ×A9)}(r:KV kvs vs)(k:κ):(kvs.any fun kv=>decide (kv.1=k))=vs.any fun kv=>decide (kv.1=k):=by
 unfold KV at r
 induction r with
 | nil=>rfl
 | cons h t ih=>rw[Bf,Bf,ih,h.1]
theorem KV.repl{kvs:List (κ×V)}{vs:List (κ×A9)}(r:KV kvs vs)(k:κ){y:V}{u:A9}(ry:RelV y u) :
  KV (kvs.map fun kv=>if kv.1=k then (kv.1,y) else kv) (vs.map fun kv=>if kv.1=k then (kv.1,u) else kv):=by
 unfold KV at r ⊢
 induction r with
 | nil=>exact .nil
 | @cons p q ps qs h t ih=>
  rw[AE,AE];refine .cons ?_ ih;obtain⟨h1,h2⟩:=h
  by_cases e:p.1=k
  ·rw[if_pos e,if_pos (h1.symm.trans e)];exact⟨h1,ry⟩
  ·rw[if_neg e,if_neg (fun z=>e (h1.trans z))];exact⟨h1,h2⟩
theorem KV.put{kvs:List (κ×V)}{vs:List (κ×A9)}(r:KV kvs vs)(k:κ){y:V}{u:A9}(ry:RelV y u):KV (putK kvs k y) (Gg vs k u):=by
 unfold putK Gg;rw[r.any k]
 by_cases e:(vs.any fun kv=>decide (kv.1=k))=true
 ·rw[if_pos e,if_pos e];exact r.repl k ry
 ·rw[if_neg e,if_neg e];exact Paired.snoc r ⟨rfl,ry⟩
theorem KV.length{kvs:List (κ×V)}{vs:List (κ×A9)}(r:KV kvs vs):kvs.length=vs.length:=BC r
end
theorem zk2{P:Ak}{w:Ar}{k:Key}{u:A9}(r:RelV (kV k) u):(zao P w).is k u=true:=by
 cases k with
 | inl i=>obtain⟨t,e⟩:=(show ∃t,u=He i t from r);subst e;exact zo4 P w i t
 | inr x=>obtain⟨t,e⟩:=(show ∃t,u=Hd x t from r);subst e;exact zfq P w x t
theorem znz{P:Ak}{w:Ar}:∀{ks:List Key}{us:List A9},Vals (ks.map kV) us->ItemsAre (zao P w) ks us
 | [],_,r=>by rw[CL] at r;cases r;exact .nil
 | k::ks,_,r=>by
  rw[AE] at r;cases r with
  | cons h t=>exact .cons (zk2 h) (znz t)
abbrev KT(H:Hp):List (List Key×V)->List (List Key×Addr×A9)->Prop:=Gp fun p q=>p.1=q.1/\H q.2.1=some (.tup (p.1.map kV))/\RelV p.2 q.2.2
theorem KT.val{H:Hp}{kvs:List (List Key×V)}{xs:List (List Key×Addr×A9)}(r:KT H kvs xs)(k:List Key):RelO (valV kvs k) ((Gk xs k).map (·.2)):=by
 induction r with
 | nil=>exact CQ
 | @cons p q ps qs h t ih=>
  obtain⟨h1,_,h2⟩:=h
  by_cases e:p.1=k
  ·have e':q.1=k:=h1.symm.trans e
   have b:Gk (q::qs) k=some q.2:=by simp[Gk,C2,e']
   rw[zhn e,b];exact h2
  ·have e':¬ q.1=k:=fun z=>e (h1.trans z)
   have b:Gk (q::qs) k=Gk qs k:=by simp[Gk,C2,e']
   rw[zfd e,b];exact ih
theorem KT.repl{H:Hp}{kvs:List (List Key×V)}{xs:List (List Key×Addr×A9)}(r:KT H kvs xs)(k:List Key){y:V}{u:A9}(ry:RelV y u) :
  KT H (kvs.map fun kv=>if kv.1=k then (kv.1,y) else kv) (xs.map (putAt k u)):=by
 induction r with
 | nil=>exact .nil
 | @cons p q ps qs h t ih=>
  rw[AE,AE];refine .cons ?_ ih;obtain⟨h1,h2,h3⟩:=h;unfold putAt
  by_cases e:p.1=k
  ·rw[if_pos e,if_pos (h1.symm.trans e)];exact⟨h1,h2,ry⟩
  ·rw[if_neg e,if_neg (fun z=>e (h1.trans z))];exact⟨h1,h2,h3⟩
theorem KT.put{H:Hp}{kvs:List (List Key×V)}{xs:List (List Key×Addr×A9)}(r:KT H kvs xs)(k:List Key){b:Addr}{y:V}{u:A9}(hb:H b=some (.tup (k.map kV)))(ry:RelV y u) :
  KT H (putK kvs k y) (storedH xs k b u):=by
 have e:(kvs.any fun kv=>decide (kv.1=k))=(Gk xs k).isSome:=by
  rw[zho,(r.val k).isSome_eq,F9]
 unfold putK storedH;rw[e]
 by_cases q:(Gk xs k).isSome=true
 ·rw[if_pos q,if_pos q];exact r.repl k ry
 ·rw[if_neg q,if_neg q];exact Paired.snoc r ⟨rfl,hb,ry⟩
theorem KT.keeps{H H':Hp}{kvs:List (List Key×V)}{xs:List (List Key×Addr×A9)}(r:KT H kvs xs)(ht:∀b ys,H b=some (.tup ys)->H' b=some (.tup ys)):KT H' kvs xs:=
 Paired.mapP r fun _ _ z=>⟨z.1,ht _ _ z.2.1,z.2.2⟩
section
variable{P : Ak}{w : Ar}{H : Hp}{h : Heap}{a : Addr}
theorem Zc9{u:HO}(ok:HOk P w H h)(e:Rd H a u):zdx P w H h a u:=e.ok ok
theorem zu5{kvs:List (Key×V)}(ok:HOk P w H h)(e:Rd H a (.dK kvs)):kvs.length<=sizeLine/\(a == BN)=false/\∃vs,KV kvs vs/\h.DictOf (zao P w) a vs:=
 show zdx P w H h a (.dK kvs) from Zc9 ok e
theorem Zbs{kvs:List (Key×V)}(ok:HOk P w H h)(e:H a=some (.dK kvs)):kvs.length<=sizeLine/\(a == BN)=false/\∃vs,KV kvs vs/\h.DictOf (zao P w) a vs:=zu5 ok (.inl e)
theorem key_of{ks:List Key}(ok:HOk P w H h)(e:H a=some (.tup (ks.map kV))):(FI (zao P w)).is h ks a:=by
 obtain⟨_,its,r,o,h1,h2,⟨n,h3⟩,_⟩:=(show zdx P w H h a (.tup (ks.map kV)) from ok a _ e);exact⟨o,its.toArray,n,h1,h2,h3,by simpa using znz r⟩
theorem zrv{kvs:List (List Key×V)}(ok:HOk P w H h)(e:Rd H a (.dT kvs)):kvs.length<=sizeLine/\(a == BN)=false/\
  ∃xs,KT H kvs xs/\h.DictOfH (FI (zao P w)) a xs:=by
 obtain⟨z,y,xs,r,o,es,ep,h1,h2,h3,h4,h5⟩:=(show zdx P w H h a (.dT kvs) from Zc9 ok e);refine⟨z,y,xs,r,o,es,ep,h1,h2,h3,h4,fun x hx=>?_,h5⟩
 have all:∀{l:List (List Key×V)}{m:List (List Key×Addr×A9)},KT H l m->∀x∈m,(FI (zao P w)).is h x.1 x.2.1:=by
  intro l m q
  induction q with
  | nil=>intro x hx;exact nomatch hx
  | @cons p q ps qs hq t ih=>
   intro x hx;rcases AU.mp hx with e | hx
   ·subst e
    exact key_of ok (by rw[← hq.1];exact hq.2.1)
   ·exact ih x hx
 exact all r x hx
theorem Ze9{kvs:List (List Key×V)}(ok:HOk P w H h)(e:H a=some (.dT kvs)):kvs.length<=sizeLine/\(a == BN)=false/\
  ∃xs,KT H kvs xs/\h.DictOfH (FI (zao P w)) a xs:=zrv ok (.inl e)
end
def DGet(H:Hp)(a:Addr)(y:V)(r:Option V):Prop:=
 (∃kvs k,Rd H a (.dK kvs)/\y=kV k/\r=valV kvs k)\/∃kvs k b,Rd H a (.dT kvs)/\y=.ref b/\H b=some (.tup (k.map kV))/\r=valV kvs k
def DPut(H:Hp)(a:Addr)(y v:V)(H':Hp):Prop:=
 (∃kvs k,H a=some (.dK kvs)/\y=kV k/\kvs.length<sizeLine/\H'=upd H a (.dK (putK kvs k v))) ∨
 ∃kvs k b,H a=some (.dT kvs)/\y=.ref b/\H b=some (.tup (k.map kV))/\kvs.length<sizeLine/\H'=upd H a (.dT (putK kvs k v))
theorem DPut.k{H:Hp}{a:Addr}{kvs:List (Key×V)}{k:Key}{v:V}(e:H a=some (.dK kvs))(hl:kvs.length<sizeLine):DPut H a (kV k) v (upd H a (.dK (putK kvs k v))):=.inl ⟨kvs,k,e,rfl,hl,rfl⟩
theorem DPut.t{H:Hp}{a b:Addr}{kvs:List (List Key×V)}{k:List Key}{v:V}(e:H a=some (.dT kvs))(eb:H b=some (.tup (k.map kV)))(hl:kvs.length<sizeLine) :
  DPut H a (.ref b) v (upd H a (.dT (putK kvs k v))):=.inr ⟨kvs,k,b,e,rfl,eb,hl,rfl⟩
section
variable{X : Cx}{pins : List (Addr×Bi)}{σ : St}{H : Hp}{s : AD}{a : Addr}{y v : V}{u r : A9}{o : Option V}{A : B0}{E : A9 → AD → Prop}
theorem Inv.big(I:Inv X pins σ H s):BN<s.heap.objs.size:=by
 have h:mainGlobals<s.heap.objs.size:=(I.mod.glob.keeps I.bk).lt;exact Nat.lt_trans (by decide) h
theorem zvc{Q:A9->AD->Prop}(hu:A.units+1<cLine)(I:Inv X pins σ H s)(g:DGet H a y (some v))(ry:RelV y u)(h:∀w' s',Inv X pins σ H s'->RelV v w'->Q w' s') :
  Af (Ap X.prog X.w) A (GS (.ref a) u) Q E s:=by
 rcases g with⟨kvs,k,e,ey,l⟩|⟨kvs,k,b,e,ey,eb,l⟩
 ·subst ey
  obtain⟨z,hd,vs,rel,dd⟩:=zu5 I.hok e;obtain⟨w',hw,rw'⟩:=RelO.some_of (v:=v) (o:=Bn vs k) (by rw[l];exact rel.val k)
  exact wpAny_getItem_of (zk2 ry) dd.mapOf hw (h w' _ (I.tok _) rw')
 ·subst ey
  cases (show u=B6 b from ry);obtain⟨z,hd,xs,rel,dd⟩:=zrv I.hok e;obtain⟨w',hw,rw'⟩:=RelO.some_of (v:=v) (o:=(Gk xs k).map (·.2)) (by rw[l];exact rel.val k)
  obtain⟨p,hp,hp2⟩:=AQ.mp hw;refine wpAny_getItem_heap (Fg hu) (key_of I.hok eb) dd hp ?_;rw[hp2];exact h w' _ (I.tok _) rw'
theorem Zbu{Q:A9->AD->Prop}(hu:A.units+1<cLine)(I:Inv X pins σ H s)(g:DGet H a y o)(ry:RelV y u)(h:∀s',Inv X pins σ H s'->Q (.bool (!o.isSome)) s') :
  Af (Ap X.prog X.w) A (B8 .NotIn u (.ref a)) Q E s:=by
 rcases g with⟨kvs,k,e,ey,l⟩|⟨kvs,k,b,e,ey,eb,l⟩
 ·subst ey
  obtain⟨z,hd,vs,rel,dd⟩:=zu5 I.hok e;refine wpAny_notIn_of (zk2 ry) hd dd.mapOf ?_;rw[← (rel.val k).isSome_eq,← l];exact h _ (I.tok _)
 ·subst ey
  cases (show u=B6 b from ry);obtain⟨z,hd,xs,rel,dd⟩:=zrv I.hok e;refine wpAny_notIn_heap (Fg hu) (key_of I.hok eb) hd dd ?_;have q:=(rel.val k).isSome_eq;rw[F9] at q;rw[← q,← l];exact h _ (I.tok _)
theorem zkn{h':Heap}{t':Nat}{ob:HO}(I:Inv X pins σ H s)(mu:Mut (H a))(hs:DC a s.heap h')(he:∃q,h'.get? a=some q)(new:zdx X.prog X.w (upd H a ob) h' a ob) :
  Inv X pins σ (upd H a ob) { s with heap:=h',toks:=t' }:=
 I.write (x:=a) (e:=a) mu (.inl rfl) (fun b q hb z=>(hs.2 b hb).trans z) he new
theorem zu6{P:Ak}{w:Ar}{H':Hp}{h':Heap}{kvs:List (Key×V)}{vs:List (Key×A9)}(z:kvs.length<=sizeLine)(hd:(a == BN)=false)(rel:KV kvs vs)(dd:h'.DictOf (zao P w) a vs) :
  zdx P w H' h' a (.dK kvs):=⟨z,hd,vs,rel,dd⟩
theorem zvb{H':Hp}{Q:Unit->AD->Prop}(hu:A.units+1<cLine)(I:Inv X pins σ H s)(g:DPut H a y v H')(ry:RelV y u)(rv:RelV v r)(h:∀s',Inv X pins σ H' s'->Q () s') :
  Af (Ap X.prog X.w) A (setItem (.ref a) u r) Q E s:=by
 rcases g with⟨kvs,k,e,ey,l,eH⟩|⟨kvs,k,b,e,ey,eb,l,eH⟩
 ·subst ey eH
  obtain⟨z,hd,vs,rel,dd⟩:=Zbs I.hok e;have hz:vs.length<=sizeLine:=by rw[← rel.length];exact z
  have hl:(putK kvs k v).length<=sizeLine:=by have:=zec kvs k v;omega
  refine wpAny_setItem_pairs (hsz:=hz) (zk2 ry) dd fun h' dd' hs=>h _ ?_
  have he:∃q,h'.get? a=some q:=let ⟨q,_,_,hq,_⟩:=dd';⟨q,hq⟩
  exact zkn I (by rw[e];exact CQ) hs he (zu6 hl hd (rel.put k rv) dd')
 ·subst ey eH
  cases (show u=B6 b from ry);obtain⟨z,hd,xs,rel,dd⟩:=Ze9 I.hok e;have hz:xs.length<=sizeLine:=by rw[← BC rel];exact z
  have hl:(putK kvs k v).length<=sizeLine:=by have:=zec kvs k v;omega
  refine wpAny_setItem_heap (hsz:=hz) (Fg hu) (key_of I.hok eb) dd fun h' dd' hs=>h _ ?_
  obtain⟨q,es,ep,hq,h2,h3,h4,_,h5⟩:=dd';refine zkn I (by rw[e];exact CQ) hs ⟨q,hq⟩ ⟨hl,hd,_,(rel.put k eb rv).keeps fun c ys ec=>?_,q,es,ep,hq,h2,h3,h4,h5⟩
  rw[zal (Zd2 ec e (fun z=>nomatch z))]
  exact ec
end
theorem zpp {X:Cx} {pins:List (Addr×Bi)} {σ:St} {H:Hp} {s:AD} {a:Addr} {y:V} {o:Option V} (I:Inv X pins σ H s) (g:DGet H a y o):s.TypeIs (.ref a) "dict":=by
 rcases g with⟨kvs,k,e,_,_⟩|⟨kvs,k,b,e,_,_,_⟩
 ·obtain⟨_,_,vs,_,dd⟩:=zu5 I.hok e
  exact dd.typeIs
 ·obtain⟨_,_,xs,_,dd⟩:=zrv I.hok e
  exact dd.typeIs
def Zgu(td ty tv:TE):TS:=fun D σ H=>tv σ H fun v H1=>td σ H1 fun x H2=>ty σ H2 fun y H3=>∃a H4,x=.ref a/\DPut H3 a y v H4/\D.nx σ H4
section
variable{X : Cx}{o i e value : Expr}{pos pos' tpos : C7}{td ty tv : TE}
theorem zs3(hu:X.A.units+1<cLine)(ho:PE X o td)(hi:PE X i ty)(hv:PE X value tv)(hs:Cm value (some (.Subscript o i pos')) pos.line X.env=pure false) :
  PS X (.Assign [.Subscript o i pos'] value pos) (Zgu td ty tv):=by
 intro pins s σ H D I h;refine HX (thn (hv pins s σ H _ I h) fun r s1 ⟨v,H1,I1,rv,q1⟩=>thn (ho pins s1 σ H1 _ I1 q1) fun u s2 ⟨x,H2,I2,rx,q2⟩=>thn (hi pins s2 σ H2 _ I2 q2) fun iv s3 ⟨y,H3,I3,ry,a,H4,ex,g,q3⟩=>?_) hs
 subst ex;obtain rfl:u=B6 a:=rx;exact zvb hu I3 g ry rv fun s4 I4=>⟨σ,H4,I4,q3⟩
end
theorem zqy {P:Ak} {w:Ar} {H:Hp} (h:Heap) (hb:BN<h.objs.size):zdx P w H (h.push { cls:=.type "dict",data:=.dict #[] }) h.objs.size (.dK []):=
 ⟨B3 _,beq_eq_false_iff_ne.mpr (Bc (AZ hb)),[],.nil,GT h⟩
theorem zqx {P:Ak} {w:Ar} {H:Hp} (h:Heap) (hb:BN<h.objs.size):zdx P w H (h.push { cls:=.type "dict",data:=.dict #[] }) h.objs.size (.dT []):=
 ⟨B3 _,beq_eq_false_iff_ne.mpr (Bc (AZ hb)),[],.nil,_,#[],0,Aa _ rfl,⟨rfl,rfl,rfl⟩,rfl,rfl,List.nodup_nil⟩
def Zc1:TE:=fun _ H Q=>∀p,H p=none->Q (.ref p) (upd H p (.dK []))
def Zc0:TE:=fun _ H Q=>∀p,H p=none->Q (.ref p) (upd H p (.dT []))
section
variable{X : Cx}{pos : C7}
theorem zwz:PE X (.Dict [] [] pos) Zc1:=fun pins s σ H Q I h=>
 wpAny_Dict_empty ⟨.ref s.heap.objs.size,_,I.laid (a:=s.heap.objs.size) (o:=.dK []) (t':=s.toks) (fun _ _ q=>AC _ q) (AY _) (zqy s.heap I.big),rfl,h _ (I.hok.fresh (AY _))⟩
theorem zwy:PE X (.Dict [] [] pos) Zc0:=fun pins s σ H Q I h=>
 wpAny_Dict_empty ⟨.ref s.heap.objs.size,_,I.laid (a:=s.heap.objs.size) (o:=.dT []) (t':=s.toks) (fun _ _ q=>AC _ q) (AY _) (zqx s.heap I.big),rfl,h _ (I.hok.fresh (AY _))⟩
end
def zpw:List (TE×TE)->St->Hp->(List (V×V)->Hp->Prop)->Prop
 | [],_,H,Q=>Q [] H
 | (tk,tv)::r,σ,H,Q=>tk σ H fun x H1=>tv σ H1 fun y H2=>zpw r σ H2 fun ps H3=>Q ((x,y)::ps) H3
abbrev VV:List (V×V)->List (A9×A9)->Prop:=Gp fun p q=>RelV p.1 q.1/\RelV p.2 q.2
def PPs(X:Cx)(pos:C7)(keys:List (Option Expr))(values:List Expr)(trs:List (TE×TE)):Prop:=
 ∀(pins:List (Addr×Bi))(s:AD)(σ:St)(H:Hp)(Q:List (V×V)->Hp->Prop),Inv X pins σ H s->zpw trs σ H Q->
  Af (Ap X.prog X.w) X.A (evalPairs (pairTrees keys values X.env pos)) (fun vs s'=>∃ps H',Inv X pins σ H' s'/\VV ps vs/\Q ps H') X.xe s
theorem zs4{X:Cx}{pos:C7}:PPs X pos [] [] []:=fun pins s σ H Q I h=>pairTrees_nil_walk ⟨[],H,I,.nil,h⟩
theorem zp3{X:Cx}{pos:C7}{k v:Expr}{ks:List (Option Expr)}{vs:List Expr}{tk tv:TE}{trs:List (TE×TE)}(hk:PE X k tk)(hv:PE X v tv)(hr:PPs X pos ks vs trs) :
  PPs X pos (some k::ks) (v::vs) ((tk,tv)::trs):=fun pins s σ H Q I h=>
 pairTrees_cons_walk (thn (hk pins s σ H _ I h) fun u s1 ⟨x,H1,I1,rx,q1⟩=>thn (hv pins s1 σ H1 _ I1 q1) fun w2 s2 ⟨y,H2,I2,ry,q2⟩=>
  thn (hr pins s2 σ H2 _ I2 q2) fun ws s3 ⟨ps,H3,I3,rel,q3⟩=>⟨(x,y)::ps,H3,I3,.cons ⟨rx,ry⟩ rel,q3⟩)
def ze9(kvs more:List (Key×V)):List (Key×V):=more.foldl (fun acc kv=>putK acc kv.1 kv.2) kvs
theorem KV.merge:∀{more:List (Key×V)}{rs:List (Key×A9)}{kvs:List (Key×V)}{vs:List (Key×A9)},KV more rs->KV kvs vs->KV (ze9 kvs more) (merged vs rs):=by
 intro more rs kvs vs r;unfold KV at r
 induction r generalizing kvs vs with
 | nil=>intro q;exact q
 | @cons p q ps qs h t ih=>
  intro r0
  have e:KV (putK kvs p.1 p.2) (Gg vs q.1 q.2):=by
   have:=r0.put p.1 h.2;rw[← h.1];exact this
  exact ih e
theorem zhy:∀(more kvs:List (Key×V)),(ze9 kvs more).length<=kvs.length+more.length
 | [],kvs=>by show kvs.length<=kvs.length+0;omega
 | p::r,kvs=>by
  have h1:=zhy r (putK kvs p.1 p.2);have h2:=zec kvs p.1 p.2;show (ze9 (putK kvs p.1 p.2) r).length<=_;rw[An];omega
theorem zlw{P:Ak}{w:Ar}:∀{kvs:List (Key×V)}{ws:List (A9×A9)},VV (kvs.map fun kv=>(kV kv.1,kv.2)) ws->∃rs,Carries (zao P w) ws rs/\KV kvs rs
 | [],_,r=>by rw[CL] at r;cases r;exact⟨[],CQ,.nil⟩
 | p::kvs,_,r=>by
  rw[AE] at r;cases r with
  | @cons a b as bs h t=>
   obtain⟨rs,c,q⟩:=zlw (P:=P) (w:=w) t;obtain⟨b1,b2⟩:=b;exact⟨(p.1,b2)::rs,⟨zk2 h.1,rfl,c⟩,.cons ⟨rfl,h.2⟩ q⟩
def Zgo(trs:List (TE×TE)):TE:=fun σ H Q=>∀p,H p=none->zpw trs σ (upd H p (.dK [])) fun ps H2=>H2 p=some (.dK [])/\∃kvs:List (Key×V),ps=kvs.map (fun kv=>(kV kv.1,kv.2))/\kvs.length<=15/\Q (.ref p) (upd H2 p (.dK (ze9 [] kvs)))
theorem Zaf{X:Cx}{pos:C7}{keys:List (Option Expr)}{values:List Expr}{trs:List (TE×TE)}(h:PPs X pos keys values trs)(hall:keys.all (·.isSome)=true)(hl:keys.length=values.length)(h0:keys≠[])
  (h15:keys.length<=15):PE X (.Dict keys values pos) (Zgo trs):=by
 intro pins s σ H Q I q;have hn:=I.hok.fresh (AY s.heap.objs.size);have I1:=I.laid (a:=s.heap.objs.size) (o:=.dK []) (h':=s.heap.push { cls:=.type "dict",data:=.dict #[] }) (t':=s.toks) (fun _ _ q=>AC _ q) (AY _) (zqy s.heap I.big)
 refine wpAny_Dict_walk (knd:=zao X.prog X.w) hall hl h0 h15 (thn (h pins _ σ _ _ I1 (q _ hn)) fun ws s2 ⟨ps,H2,I2,rel,e,kvs,ep,lk,q2⟩=>?_)
 subst ep;obtain⟨rs,c,rk⟩:=zlw (P:=X.prog) (w:=X.w) rel;obtain⟨z,hd,vs0,r0,dd⟩:=Zbs I2.hok e;cases r0;refine⟨rs,c,dd,fun h' dd' hs=>⟨.ref s.heap.objs.size,_,?_,rfl,q2⟩⟩
 have hz:(ze9 [] kvs).length<=sizeLine:=by
  have h1:=zhy kvs [];rw[Cc] at h1;rw[B2];omega
 have he:∃q,h'.get? s.heap.objs.size=some q:=let ⟨q,_,_,hq,_⟩:=dd';⟨q,hq⟩
 exact zkn I2 (by rw[e];exact CQ) hs he (zu6 hz hd (rk.merge .nil) dd')
end L2
namespace Att
open PySem PySem.W PySem.Calls PyProof.Rows
theorem zkb{P:Params}{h:Heap}:∀(ns:List Int)(vs:List A9),WellAll P h vs (ns.map WData.int)->Hg vs ns:=by
 intro ns
 induction ns with
 | nil=>
  intro vs w;rw[CL] at w;cases w;exact .nil
 | cons n ns ih=>
  intro vs w;rw[AE] at w;cases w with
  | cons a b=>
   cases a;exact .cons _ _ (ih _ b)
theorem zsp{l:OpenLaw}{n:Nat}(hn:l.most=some n){P:Params}{h:Heap}{args:List WData}{vals:List A9}
  (hpre:l.row.toRowW.claim.pre args=true) (hwl:WellAll P h vals args) :
  ∃a vs ns,vals=[B6 a]/\args=[WData.list (ns.map WData.int)]/\h.get? a=some { cls:=.type "list",data:=.seq vs.toArray }/\Hg vs ns/\ns.length<=n:=by
 have hsh:WShape.hasAll [] args [.list .int]=true:=(pre_splitW hpre).1;have hc:l.pre.holds [] { args:=args }=true:=(pre_splitW hpre).2;obtain⟨d,r,rfl,h1,h2⟩:=hasAllW_cons hsh;obtain rfl:=hasAllW_nil h2;obtain⟨xs,rfl,h3⟩:=hasW_list h1;obtain⟨ns,rfl⟩:=items_int h3
 have hlen:ns.length<=n:=by
  unfold OpenLaw.pre at hc
  have h4:(WTm.not (.lt (.lit (.int (n:Int))) (.len (.arg 0)))).holds [] { args:=[.list (ns.map .int)] }=true:=by
   have h4:=(holds_andW hc).1;rw[hn] at h4;exact h4
  have h5:=condW_of h4 (w_not (w_lt w_lit (w_len_list (w_arg rfl))));rw[AI] at h5;refine Fm fun q=>?_
  have q':(n:Int)<((ns.length:Nat):Int):=by omega
  first
   | (rw[decide_eq_true q'] at h5;exact absurd h5 (by decide))
   | (simp at h5;omega)
 cases hwl with
 | cons w1 w2=>
  cases w2;cases w1 with
  | list ho hall=>exact⟨_,_,ns,rfl,rfl,ho,zkb ns _ hall,hlen⟩
theorem zs5(l:OpenLaw)(args:List WData):l.row.toRowW.claim.post args (.bool true) args=true:=
 postW_of (r:=l.row.toRowW) (X:=(true == true))
  (show WShape.has [] (.bool true) .bool=true by first | rfl | decide | simp[WShape.has,WShape.arms,WShape.armsAll])
  (show (WTm.eq .res (.lit (.bool true))).value [] { args:=args,res:=some (.bool true),after:=args }=some (.bool (true == true)) from w_eq_bool (w_res rfl) w_lit) rfl
theorem attach_call{l:OpenLaw}{n:Nat}{q:Ak}{loose:List Str}{XP:(Str->Option A9)->Heap->Prop}{YP:Ar->Heap->Prop}{d:DefRec}
  (hn:l.most=some n) (hdf:d.params.defaults=[])
  (call:∀(w:Ar)(s₀ s₁:AD)(mg mb:Str->Option A9)(fa:Addr)(o:Bi)(pm cd doc:A9)(a:Addr)(vs:List A9)(ns:List Int),
   Ground q loose [] XP w s₀ mg mb s₁.heap->YP w s₁.heap->
   s₁.heap.get? fa=some o->o.data=.func (docDef d.name d.params d.body d.scope pm cd doc)->s₁.heap.CodeRec cd d.name->mg d.name=some (.ref fa)->
   s₁.heap.get? a=some { cls:=.type "list",data:=.seq vs.toArray }->Hg vs ns->ns.length<=n->s₁.gens=#[]->
   D0 (Ap l.prog w) Ft (.call (.ref fa) ⟨[.ref a],[]⟩) (fun r s'=>r=.ok (.ret (.bool true))/\OldK s₁.heap s'.heap/\s'.os=s₁.os/\Ex s'.gens) s₁) :
  WalkO q loose XP YP l.row.toRowW d [] (fun f vs=>HH f vs):=by
 intro w s₀ s₁ mg mb G Y fa o pm cd doc dV kV ho hd hcd hD hmg hg args vals as hpre hlay hrd hwl hlo;obtain rfl:dV=.none:=Dflts.none hD hdf;obtain rfl:kV=.none:=Dflts.noKw hD;obtain⟨a,vs,ns,rfl,rfl,hobj,hints,hlen⟩:=zsp hn hpre hwl;refine enter_call (Es (call w s₀ s₁ mg mb fa o pm cd doc a vs ns G Y ho (fd_plain hd) hcd hmg hobj hints hlen hg) fun r s' hq=>?_)
 obtain⟨rfl,h2,h3,h4⟩:=hq;exact⟨.inl ⟨.bool true,.bool true,[],rfl,fun _=>rfl,.bool true,zs5 l _,fun _=>⟨List.Pairwise.nil,fun _ hm=>(nomatch hm)⟩⟩,h2,h3,h4⟩
end Att
namespace L2
open PySem PySem.Spec PyProof.Rows
theorem znb:∀{vs:List A9}{ns:List Int},Hg vs ns->Vals (ns.map V.int) vs
 | _,_,.nil=>.nil
 | _,_,.cons n t h=>.cons ⟨t,rfl⟩ (znb h)
end L2
namespace L2
open PySem PySem.Spec PyProof.Rows
def zeh(s:Stmt):Arguments:=match s with
 | .FunctionDef _ a _ _ _ _ _ _ _ _=>a
 | _=>{ posonlyargs:=[],args:=[],vararg:=none,kwonlyargs:=[],kw_defaults:=[],kwarg:=none,defaults:=[] }
def zbr(s:Stmt):List Stmt:=match s with
 | .FunctionDef _ _ b _ _ _ _ _ _ _=>b
 | _=>[]
def zad(s:Stmt):Scope:=match s with
 | .FunctionDef _ _ _ _ _ _ sc _ _ _=>sc
 | _=>{ kind:=.function,names:=[],isGenerator:=false,isCoroutine:=false }
abbrev CX0:CXT:=fun _ _ _ _ _ _=>False
abbrev E0:XK:=fun _ _ _=>False
theorem pass0{X:Cx}:Passes CX0 X E0:=fun _ _ _ _ _ _ _ h=>h.elim
structure Fun(K:A0)(x qual:Str)(st:Stmt)(f:Addr)(fd:By):Prop where
 ex:∃(oc:A9)(od:Option Addr)(kV doc pm:A9)(an:Option Addr)(cdv ct:A9)(osl:Array (Option A9)),
  fd=Bj x qual (zeh st) (zbr st) (zad st) .none kV doc pm an cdv ct/\K.lookup f=some ⟨oc,od,.func fd,osl⟩/\Cd K cdv qual=true
 kp:CA K (.ref f)=true
section
variable{P : Ak}{w : Ar}{K : A0}{mg : Str → Option A9}{base : Heap}
theorem Fun.ok{x qual:Str}{st:Stmt}{f:Addr}{fd:By}{N ps:List Str}{k:Nat}{sp:Sp}(F:Fun K x qual st f fd)(S:FnScope N ps (zad st))(len:∀vs H Q E,sp vs H Q E->vs.length=ps.length)
  (hbody:∀(cdv:A9)(A:B0)(outer:List FY)(s:AD)(H:Hp)(vs:List V)(Q:VK)(E:XK),Room k (A.deeper (DY qual (zad st) s.heap.objs.size f cdv))->sp vs H Q E->
   ∃t,PSs (cxOf CX0 P w K mg base N qual (zad st) f cdv A outer s H E).nox (zbr st) t/\t { nx:=fun _ H'=>Q .non H',rt:=Q } (start N vs) H):FnOk P w K mg base CX0 (k+1) f fd ps sp:=by
 obtain⟨oc,od,kV,doc,pm,an,cdv,ct,osl,rfl,lk,hcd⟩:=F.ex;refine Zex lk hcd S len fun A outer s H vs Q E hr hsp=>?_
 obtain⟨t,h,q⟩:=hbody cdv A outer s H vs Q E hr hsp;exact⟨t,h.nox,q⟩
theorem Fun.binds{x qual:Str}{st:Stmt}{f:Addr}{fd:By}{ps:List Str}(F:Fun K x qual st f fd)
  (h:∀(kV doc pm:A9)(an:Option Addr)(cdv ct:A9)(us:List A9),us.length=ps.length->Fu (Bj x qual (zeh st) (zbr st) (zad st) .none kV doc pm an cdv ct) ⟨us,[]⟩=pure (ps.zip us)):Binds K fd ps []:=by
 obtain⟨oc,od,kV,doc,pm,an,cdv,ct,osl,rfl,lk,hcd⟩:=F.ex;exact .all (h kV doc pm an cdv ct)
theorem zuk{x qual:Str}{st:Stmt}{f:Addr}{oc:A9}{od an:Option Addr}{osl:Array (Option A9)}{kV doc pm cdv ct:A9}(l:K.lookup f=some ⟨oc,od,.func (Bj x qual (zeh st) (zbr st) (zad st) .none kV doc pm an cdv ct),osl⟩)
  (c:Cd K cdv qual=true) (k:CA K (.ref f)=true):Fun K x qual st f (Bj x qual (zeh st) (zbr st) (zad st) .none kV doc pm an cdv ct):=⟨⟨oc,od,kV,doc,pm,an,cdv,ct,osl,rfl,l,c⟩,k⟩
end
theorem iteF{A B:Prop}(h:B):if false=true then A else B:=by
 rw[if_neg AM];exact h
theorem iteT{A B:Prop}(h:A):if true=true then A else B:=by
 rw[if_pos rfl];exact h
end L2
end
namespace PU
theorem zxc(s:PySem.Str)(l:List PySem.Str):PySem.Txt.join s l=Eu s l:=PySem.StrLaws.glued_eq_join s l
end PU
section
namespace PU
open PySem L2
structure Lam where
 qual:Str
 args:Arguments
 body:Expr
 scope:Scope
 kept:List Str
inductive PV where
 | non | bl (b:Bool) | int (i:Int) | str (x:Str)
 | tup (ps:List PV) | lst (ps:List PV)
 | dct (ks:List Key) (ps:List PV) | dtt (ks:List (List Key)) (ps:List PV)
 | fn (L:Lam) (cs:List PV)
structure PX where
 cls:Str
 args:List PV
inductive R (α:Type) where
 | ok (a:α) | er (x:PX) | no
namespace R
protected def bind{α β:Type}:R α->(α->R β)->R β
 | ok a,f=>f a
 | er x,_=>er x
 | no,_=>no
instance:Monad R where
 pure:=R.ok
 bind:=R.bind
@[simp] theorem ok_bind{α β:Type}(a:α)(f:α->R β):(R.ok a >>= f)=f a:=rfl
@[simp] theorem Zhz{α β:Type}(x:PX)(f:α->R β):((R.er x:R α) >>= f)=R.er x:=rfl
@[simp] theorem Zhd{α β:Type}(f:α->R β):((R.no:R α) >>= f)=R.no:=rfl
@[simp] theorem Zgx{α:Type}(a:α):(pure a:R α)=R.ok a:=rfl
def ofO{α:Type}:Option α->R α
 | some a=>ok a
 | none=>no
@[simp] theorem ofO_some{α:Type}(a:α):ofO (some a)=R.ok a:=rfl
@[simp] theorem ofO_none{α:Type}:ofO (none:Option α)=R.no:=rfl
theorem bind_assoc{α β γ:Type}(r:R α)(f:α->R β)(g:β->R γ):((r >>= f) >>= g)=(r >>= fun a=>f a >>= g):=by cases r <;> rfl
end R
inductive Sl where
 | no | val (p:PV) | own (p:PV) | pin (ps:List PV) (a:Nat)
abbrev PSt:=List Sl
def getV(i:Nat)(ρ:PSt):R PV:=match ρ[i]? with
 | some (.val p)=>.ok p
 | _=>.no
def getO(i:Nat)(ρ:PSt):R PV:=match ρ[i]? with
 | some (.val p)=>.ok p
 | some (.own p)=>.ok p
 | some (.pin ps _)=>.ok (.lst ps)
 | _=>.no
def kI(i:Int):PSt->R PV:=fun _=>.ok (.int i)
def kB(b:Bool):PSt->R PV:=fun _=>.ok (.bl b)
def kN:PSt->R PV:=fun _=>.ok .non
def kS(x:Str):PSt->R PV:=fun _=>.ok (.str x)
def kP(p:PV):PSt->R PV:=fun _=>.ok p
def nilA:PSt->R (List PV):=fun _=>.ok []
def zac(f:PSt->R PV)(fs:PSt->R (List PV)):PSt->R (List PV):=fun ρ=>f ρ >>= fun p=>fs ρ >>= fun ps=>.ok (p::ps)
def zg5(ps:List PV):R (List PV):=if ps.length<=16777216 then .ok ps else .no
def tupF(fs:PSt->R (List PV)):PSt->R PV:=fun ρ=>fs ρ >>= fun ps=>zg5 ps >>= fun ps=>.ok (.tup ps)
def lstF(fs:PSt->R (List PV)):PSt->R PV:=fun ρ=>fs ρ >>= fun ps=>zg5 ps >>= fun ps=>.ok (.lst ps)
def bin2(fa fb:PSt->R PV)(g:PV->PV->Option PV):PSt->R PV:=fun ρ=>fa ρ >>= fun p=>fb ρ >>= fun q=>R.ofO (g p q)
def chain2(fa fb fc:PSt->R PV)(g g':PV->PV->Option PV):PSt->R PV:=fun ρ=>fa ρ >>= fun p=>fb ρ >>= fun q=>R.ofO (g p q) >>= fun z=>match z with
 | .bl true=>fc ρ >>= fun r=>R.ofO (g' q r)
 | .bl false=>.ok (.bl false)
 | _=>.no
def truB:PV->Option Bool
 | .non=>some false
 | .bl b=>some b
 | .int i=>some (i != 0)
 | .str y=>if y.length<=16777216 then some ((y.length:Int) != 0) else none
 | .tup ps=>some (!ps.isEmpty)
 | .lst ps=>some (!ps.isEmpty)
 | .dct ks _=>some (!ks.isEmpty)
 | .dtt _ _=>none
 | .fn _ _=>none
def truF(f:PSt->R PV):PSt->R Bool:=fun ρ=>f ρ >>= fun p=>R.ofO (truB p)
def gAdd:PV->PV->Option PV
 | .int i,.int j=>some (.int (i+j))
 | .str x,.str y=>if x.length+y.length<=16777216 then some (.str (x++y)) else none
 | .lst ps,.lst qs=>if ps.length+qs.length<=16777216 then some (.lst (ps++qs)) else none
 | .tup ps,.tup qs=>if ps.length+qs.length<=16777216 then some (.tup (ps++qs)) else none
 | _,_=>none
def gSub:PV->PV->Option PV
 | .int i,.int j=>some (.int (i-j))
 | _,_=>none
def gMul:PV->PV->Option PV
 | .int i,.int j=>if i.natAbs<18446744073709551616\/j.natAbs<18446744073709551616 then some (.int (i * j)) else none
 | _,_=>none
def gDiv:PV->PV->Option PV
 | .int i,.int j=>if 0<j/\j<1073741824 then some (.int (i / j)) else none
 | _,_=>none
def gMod:PV->PV->Option PV
 | .int i,.int j=>if 0<j then some (.int (i % j)) else none
 | _,_=>none
inductive Fl where
 | next (ρ:PSt) | brk (ρ:PSt) | cont (ρ:PSt) | ret (p:PV)
def seqF(g g':PSt->R Fl):PSt->R Fl:=fun ρ=>g ρ >>= fun fl=>match fl with
 | .next ρ'=>g' ρ'
 | .brk ρ'=>.ok (.brk ρ')
 | .cont ρ'=>.ok (.cont ρ')
 | .ret p=>.ok (.ret p)
def zca:PSt->R Fl:=fun ρ=>.ok (.next ρ)
def retF(f:PSt->R PV):PSt->R Fl:=fun ρ=>f ρ >>= fun p=>.ok (.ret p)
def ifF(t:PSt->R Bool)(g g':PSt->R Fl):PSt->R Fl:=fun ρ=>t ρ >>= fun k=>if k=true then g ρ else g' ρ
def setF(i:Nat)(f:PSt->R PV):PSt->R Fl:=fun ρ=>f ρ >>= fun p=>.ok (.next (ρ.set i (.val p)))
def ownF(i:Nat)(f:PSt->R PV):PSt->R Fl:=fun ρ=>f ρ >>= fun p=>.ok (.next (ρ.set i (.own p)))
def brkF:PSt->R Fl:=fun ρ=>.ok (.brk ρ)
def frzF(i:Nat)(ρ:PSt):PSt:=match ρ[i]? with
 | some (.own p)=>ρ.set i (.val p)
 | _=>ρ
def frzS(i:Nat)(g:PSt->R Fl):PSt->R Fl:=fun ρ=>g (frzF i ρ)
abbrev Tgt:=PV->PSt->Option PSt
abbrev Tgts:=List PV->PSt->Option PSt
def zai(i:Nat):Tgt:=fun p ρ=>some (ρ.set i (.val p))
def nilT:Tgts:=fun ps ρ=>match ps with
 | []=>some ρ
 | _::_=>none
def zat(h:Tgt)(h':Tgts):Tgts:=fun ps ρ=>match ps with
 | p::r=>(h p ρ).bind fun ρ1=>h' r ρ1
 | []=>none
def tupT(n:Nat)(h:Tgts):Tgt:=fun p ρ=>match p with
 | .tup ps=>if ps.length=n then h ps ρ else none
 | _=>none
def forF(h:PV->PSt->Option PSt)(g:PSt->R Fl):List PV->PSt->R Fl
 | [],ρ=>.ok (.next ρ)
 | p::ps,ρ=>R.ofO (h p ρ) >>= fun ρ1=>g ρ1 >>= fun fl=>match fl with
  | .next ρ2=>forF h g ps ρ2
  | .cont ρ2=>forF h g ps ρ2
  | .brk ρ2=>.ok (.next ρ2)
  | .ret q=>.ok (.ret q)
def forS(fi:PSt->R (List PV))(h:Tgt)(g:PSt->R Fl):PSt->R Fl:=fun ρ=>fi ρ >>= fun ps=>forF h g ps ρ
def zaz(fs:PSt->R (List PV))(F:List PV->Option PV):PSt->R PV:=fun ρ=>fs ρ >>= fun ps=>R.ofO (F ps)
def start(n:Nat)(ps:List PV):PSt:=ps.map Sl.val++B4 (n-ps.length) .no
def runF(m n:Nat)(g:PSt->R Fl)(ps:List PV):Option PV:=if ps.length=m then (match g (start n ps) with
 | .ok (.ret p)=>some p
 | .ok (.next _)=>some .non
 | _=>none) else none
def roS:Option Sl->Sl
 | some (.val p)=>.val p
 | _=>.no
def zbh(nt:Nat)(idx:List Nat)(ρ:PSt):PSt:=B4 nt .no++idx.map fun i=>roS ρ[i]?
def zci(h:Tgt)(t:PSt->R Bool)(fe:PSt->R PV)(ρ:PSt):List PV->R (List PV)
 | []=>.ok []
 | p::ps=>R.ofO (h p ρ) >>= fun ρ1=>t ρ1 >>= fun b=>if b=true then fe ρ1 >>= fun q=>zci h t fe ρ ps >>= fun qs=>.ok (q::qs) else zci h t fe ρ ps
def noEr{α:Type}:R α->R α
 | .ok a=>.ok a
 | _=>.no
def zfa(fi:PSt->R (List PV))(h:Tgt)(t:PSt->R Bool)(fe:PSt->R PV)(nt:Nat)(idx:List Nat):PSt->R PV:=
 fun ρ=>fi ρ >>= fun ps=>noEr (zci h t fe (zbh nt idx ρ) ps) >>= fun qs=>zg5 qs >>= fun qs=>.ok (.lst qs)
def yesB:PSt->R Bool:=fun _=>.ok true
mutual
def peqO:PV->PV->Option Bool
 | .non,q=>match q with
  | .non=>some true | .bl _=>some false | .int _=>some false | .str _=>some false | .tup _=>some false | .lst _=>some false | _=>none
 | .bl a,q=>match q with
  | .bl b=>some (a == b) | .int b=>some ((if a then 1 else 0) == b) | .non=>some false | .str _=>some false | .tup _=>some false | .lst _=>some false | _=>none
 | .int a,q=>match q with
  | .int b=>some (a == b) | .bl b=>some (a == (if b then 1 else 0)) | .non=>some false | .str _=>some false | .tup _=>some false | .lst _=>some false | _=>none
 | .str a,q=>match q with
  | .str b=>some (a == b) | .non=>some false | .bl _=>some false | .int _=>some false | .tup _=>some false | .lst _=>some false | _=>none
 | .tup ps,q=>match q with
  | .tup qs=>zdw ps qs | .non=>some false | .bl _=>some false | .int _=>some false | .str _=>some false | .lst _=>some false | _=>none
 | .lst ps,q=>match q with
  | .lst qs=>zdw ps qs | .non=>some false | .bl _=>some false | .int _=>some false | .str _=>some false | .tup _=>some false | _=>none
 | _,_=>none
def zdw:List PV->List PV->Option Bool
 | [],[]=>some true
 | [],_::_=>some false
 | _::_,[]=>some false
 | p::ps,q::qs=>(peqO p q).bind fun a=>(zdw ps qs).bind fun b=>some (a && b)
end
mutual
def pdep:PV->Nat
 | .tup ps=>pdeps ps+1
 | .lst ps=>pdeps ps+1
 | .dct _ ps=>pdeps ps+1
 | .dtt _ ps=>pdeps ps+1
 | .fn _ ps=>pdeps ps+1
 | _=>0
def pdeps:List PV->Nat
 | []=>0
 | p::ps=>max (pdep p) (pdeps ps)
end
def zhe(ps qs:List PV)(j:Nat):Bool:=match ps[j]?,qs[j]? with
 | some p,some q=>(peqO p q).getD false
 | _,_=>false
def isSc:PV->Bool
 | .non=>true | .bl _=>true | .int _=>true | .str _=>true
 | _=>false
def scV:PV->V
 | .bl b=>.bl b | .int i=>.int i | .str x=>.str x
 | _=>.non
def zb3:List Key->List PV->Key->Option PV
 | k::ks,p::ps,j=>if k=j then some p else zb3 ks ps j
 | _,_,_=>none
def zh1(e:PV->PV->Option Bool):List Key->List PV->List Key->List PV->Option Bool
 | k::ks,p::ps,ls,qs=>match zb3 ls qs k with
  | none=>some false
  | some q=>(e p q).bind fun a=>(zh1 e ks ps ls qs).bind fun b=>some (a && b)
 | [],[],_,_=>some true
 | _,_,_,_=>none
def peqN:Nat->PV->PV->Option Bool
 | n+1,.dct ks ps,.dct ls qs=>if ks.length=ls.length then zh1 (peqN n) ks ps ls qs else some false
 | _,p,q=>peqO p q
def gEq:PV->PV->Option PV
 | .dct ks ps,.dct ls qs=>if pdeps ps<=60 then (peqN 3 (.dct ks ps) (.dct ls qs)).map .bl else none
 | .tup ps,.tup qs=>if pdeps ps<=60 then (zdw ps qs).map .bl else none
 | .lst ps,.lst qs=>if pdeps ps<=60 then (zdw ps qs).map .bl else none
 | p,q=>if isSc p=true/\isSc q=true/\scal (scV p) (scV q)=true then some (.bl (decide (scV p=scV q))) else none
def gNe:PV->PV->Option PV
 | .tup ps,.tup qs=>if pdeps ps<=60 then (zdw ps qs).map fun b=>.bl (!b) else none
 | .lst ps,.lst qs=>if pdeps ps<=60 then (zdw ps qs).map fun b=>.bl (!b) else none
 | p,q=>if isSc p=true/\isSc q=true/\scal (scV p) (scV q)=true then some (.bl (!decide (scV p=scV q))) else none
def gLt:PV->PV->Option PV
 | .int i,.int j=>some (.bl (decide (i<j)))
 | .str x,.str y=>some (.bl (decide (x.cps.toList<y.cps.toList)))
 | _,_=>none
def gLe:PV->PV->Option PV
 | .int i,.int j=>some (.bl (decide (i<=j)))
 | .str x,.str y=>some (.bl (!decide (y.cps.toList<x.cps.toList)))
 | _,_=>none
def gGt:PV->PV->Option PV
 | .int i,.int j=>some (.bl (decide (j<i)))
 | _,_=>none
def gGe:PV->PV->Option PV
 | .int i,.int j=>some (.bl (decide (j<=i)))
 | _,_=>none
def Za8:PV->Bool
 | .non=>true
 | _=>false
def gIsN:PV->PV->Option PV
 | p,.non=>some (.bl (Za8 p))
 | _,_=>none
def zmx:PV->PV->Option PV
 | p,.non=>some (.bl (!Za8 p))
 | _,_=>none
def zfe:PV->Option Key
 | .int i=>some (.inl i)
 | .str x=>some (.inr x)
 | _=>none
def gIx:PV->PV->Option PV
 | .lst ps,.int i=>atI ps i
 | .tup ps,.int i=>atI ps i
 | .str z,.int i=>if z.length<=16777216 then (atI z.cps.toList i).map fun c=>.str ⟨#[c]⟩ else none
 | .dct ks ps,k=>(zfe k).bind fun k=>zb3 ks ps k
 | _,_=>none
def inS(x y:Str):Bool:=!(Do y x 0 y.length 1).isEmpty
def gIn:PV->PV->Option PV
 | .str x,.str y=>some (.bl (inS x y))
 | p,.lst qs=>if isSc p=true/\qs.all isSc=true then some (.bl (inV (scV p) (qs.map scV))) else none
 | p,.tup qs=>if isSc p=true/\qs.all isSc=true then some (.bl (inV (scV p) (qs.map scV))) else none
 | p,.dct ks _=>(zfe p).map fun k=>.bl (ks.any fun j=>decide (j=k))
 | _,_=>none
def zg6(p q:PV):Option PV:=(gIn p q).bind fun z=>match z with
 | .bl b=>some (.bl (!b))
 | _=>none
def andB(t u:PSt->R Bool):PSt->R Bool:=fun ρ=>t ρ >>= fun c=>if c=true then u ρ else .ok false
def orB(t u:PSt->R Bool):PSt->R Bool:=fun ρ=>t ρ >>= fun c=>if c=true then .ok true else u ρ
def notB(t:PSt->R Bool):PSt->R Bool:=fun ρ=>t ρ >>= fun c=>.ok (!c)
def andV(fa fb:PSt->R PV):PSt->R PV:=fun ρ=>fa ρ >>= fun p=>match p with
 | .bl true=>fb ρ
 | .bl false=>.ok (.bl false)
 | _=>.no
def orV(fa fb:PSt->R PV):PSt->R PV:=fun ρ=>fa ρ >>= fun p=>match p with
 | .bl true=>.ok (.bl true)
 | .bl false=>fb ρ
 | _=>.no
def notV(fa:PSt->R PV):PSt->R PV:=fun ρ=>fa ρ >>= fun p=>match p with
 | .bl b=>.ok (.bl (!b))
 | _=>.no
def ifV(t:PSt->R Bool)(fa fb:PSt->R PV):PSt->R PV:=fun ρ=>t ρ >>= fun c=>if c=true then fa ρ else fb ρ
def un1(f:PSt->R PV)(g:PV->Option PV):PSt->R PV:=fun ρ=>f ρ >>= fun p=>R.ofO (g p)
def gLen:PV->Option PV
 | .lst ps=>some (.int ps.length)
 | .tup ps=>some (.int ps.length)
 | .str x=>if x.length<=16777216 then some (.int x.length) else none
 | .dct ks _=>some (.int ks.length)
 | _=>none
def gInt:PV->Option PV
 | .int i=>some (.int i)
 | .bl b=>some (.int (if b then 1 else 0))
 | _=>none
def zn4:PV->Option PV
 | .lst ps=>some (.tup ps)
 | .tup ps=>some (.tup ps)
 | _=>none
def keyP:Key->PV
 | .inl i=>.int i
 | .inr x=>.str x
def zf3(x:Str):List PV:=x.cps.toList.map fun c=>.str ⟨#[c]⟩
def zem:PV->Option (List PV)
 | .lst ps=>some ps
 | .tup ps=>some ps
 | .dct ks _=>some (ks.map keyP)
 | .str x=>some (zf3 x)
 | _=>none
def itF(f:PSt->R PV):PSt->R (List PV):=fun ρ=>f ρ >>= fun p=>R.ofO (zem p)
def zb9(lo:Int)(n:Nat):List PV:=(AF n).map fun i=>.int (lo+(i:Nat))
def rng1(f:PSt->R PV):PSt->R (List PV):=fun ρ=>f ρ >>= fun p=>match p with
 | .int j=>if j.natAbs<1000000000 then .ok (zb9 0 j.toNat) else .no
 | _=>.no
def rng2(f f2:PSt->R PV):PSt->R (List PV):=fun ρ=>f ρ >>= fun p=>f2 ρ >>= fun q=>match p,q with
 | .int i,.int j=>if i.natAbs<1000000000/\j.natAbs<1000000000 then .ok (zb9 i (j-i).toNat) else .no
 | _,_=>.no
def appF(i:Nat)(f:PSt->R PV):PSt->R Fl:=fun ρ=>match ρ[i]? with
 | some (.own (.lst ps))=>f ρ >>= fun p=>if ps.length<16777216 then .ok (.next (ρ.set i (.own (.lst (ps++[p]))))) else .no
 | _=>.no
def numP(ps:List PV):List (List PV):=(AF ps.length).zipWith (fun (i:Nat) p=>[.int (i:Int),p]) ps
def zod:PV->Option (List PV)
 | .lst ps=>some ((numP ps).map .tup)
 | .str x=>some ((numP (zf3 x)).map .tup)
 | _=>none
def zoe(f:PSt->R PV):PSt->R (List PV):=fun ρ=>f ρ >>= fun p=>R.ofO (zod p)
def zi6(ks:List Key)(ps:List PV):List (List PV):=ks.zipWith (fun k p=>[keyP k,p]) ps
def tyN:PV->String
 | .non=>"NoneType" | .bl _=>"bool" | .int _=>"int" | .str _=>"str" | .tup _=>"tuple" | .lst _=>"list" | .dct _ _=>"dict" | .dtt _ _=>"dict" | .fn _ _=>"function"
def isiB (t c:String):Bool:=t == c || (t == "bool" && c == "int")
def gIsi(c:String):PV->Option PV
 | .fn _ _=>none
 | p=>some (.bl (isiB (tyN p) c))
def gStr:PV->Option PV
 | .int i=>if i.natAbs.log2<1920 then some (.str (toString i)) else none
 | .str x=>some (.str x)
 | _=>none
def gNeg:PV->Option PV
 | .int i=>some (.int (-i))
 | _=>none
def Zep:PV->Bool
 | .str _=>true
 | _=>false
def meth1(fo fe:PSt->R PV)(g:PV->PV->Option PV):PSt->R PV:=fun ρ=>fo ρ >>= fun p=>if Zep p=true then fe ρ >>= fun q=>R.ofO (g p q) else .no
def zja:List PV->Option (List Str)
 | []=>some []
 | .str x::r=>(zja r).map (x::·)
 | _::_=>none
def zuj:PV->PV->Option PV
 | .str x,.lst ps=>(zja ps).bind fun ys=>if (ys.map (·.length)).sum+ys.length * x.length<=16777216 then some (.str (Txt.join x ys)) else none
 | .str x,.tup ps=>(zja ps).bind fun ys=>if (ys.map (·.length)).sum+ys.length * x.length<=16777216 then some (.str (Txt.join x ys)) else none
 | _,_=>none
def cutP{α:Type}(xs:List α)(lo hi:Option Int):List α:=(xs.drop (HT.sIx xs.length 0 lo)).take (HT.sIx xs.length xs.length hi-HT.sIx xs.length 0 lo)
def gSl:PV->Option Int->Option Int->Option PV
 | .lst ps,lo,hi=>some (.lst (cutP ps lo hi))
 | .tup ps,lo,hi=>if HT.sIx ps.length 0 lo=0/\HT.sIx ps.length ps.length hi=ps.length then none else some (.tup (cutP ps lo hi))
 | _,_,_=>none
def zgi:PSt->R (Option Int):=fun _=>.ok none
def zkx(f:PSt->R PV):PSt->R (Option Int):=fun ρ=>f ρ >>= fun p=>match p with
 | .int i=>.ok (some i)
 | _=>.no
def zlc(f:PSt->R PV)(l h:PSt->R (Option Int)):PSt->R PV:=fun ρ=>f ρ >>= fun p=>l ρ >>= fun lo=>h ρ >>= fun hi=>R.ofO (gSl p lo hi)
def zjc(ks:List Key)(ps:List PV)(k:Key)(p:PV):List PV:=ks.zipWith (fun j q=>if j=k then p else q) ps
def putP(ks:List Key)(ps:List PV)(k:Key)(p:PV):PV:=if (ks.any fun j=>decide (j=k))=true then .dct ks (zjc ks ps k p) else .dct (ks++[k]) (ps++[p])
def putF(i:Nat)(fk fv:PSt->R PV):PSt->R Fl:=fun ρ=>match ρ[i]? with
 | some (.own (.dct ks ps))=>fv ρ >>= fun p=>fk ρ >>= fun kp=>R.ofO (zfe kp) >>= fun k=>if ks.length<16777216 then .ok (.next (ρ.set i (.own (putP ks ps k p)))) else .no
 | _=>.no
def newD:PSt->R PV:=fun _=>.ok (.dct [] [])
def nilD:PSt->R (List (Key×PV)):=fun _=>.ok []
def zry(fk fv:PSt->R PV)(f:PSt->R (List (Key×PV))):PSt->R (List (Key×PV)):=fun ρ=>fk ρ >>= fun kp=>R.ofO (zfe kp) >>= fun k=>fv ρ >>= fun p=>f ρ >>= fun r=>.ok ((k,p)::r)
def zf0(kps:List (Key×PV)):PV:=kps.foldl (fun d kp=>match d with
 | .dct ks ps=>putP ks ps kp.1 kp.2
 | d=>d) (.dct [] [])
def zxu(f:PSt->R (List (Key×PV))):PSt->R PV:=fun ρ=>f ρ >>= fun kps=>if kps.length<=15 then .ok (zf0 kps) else .no
end PU
end
namespace PU
open PySem PySem.Spec PyProof.Rows L2
def zir:Expr->Bool
 | .Starred ..=>false
 | _=>true
theorem zcq{e:Expr}{es:List Expr}{env:FY}(h:zir e=true):Ad (e::es) env=(false,BR e env)::Ad es env:=by
 cases e <;> first | rfl | cases h
theorem zbm{e:Expr}{env:FY}(h:zir e=true):Ad [e] env=[(false,BR e env)]:=zcq h
theorem zpx{e e2:Expr}{env:FY}(h:zir e=true)(h2:zir e2=true):Ad [e,e2] env=[(false,BR e env),(false,BR e2 env)]:=(zcq h).trans (congrArg _ (zbm h2))
theorem zjf{pos:C7}{es:List Expr}{env:FY}(h:es.all zir=true):(DH pos (Ad es env)).any (·.1)=false:=by
 have:∀es:List Expr,es.all zir=true->(Ad es env).any (·.1)=false:=by
  intro es
  induction es with
  | nil=>intro _;rfl
  | cons e es ih=>
   intro h;simp only[Cz,BJ] at h;rw[zcq h.1,Bf,ih h.2];rfl
 have h2:=this es h
 have h3:(DH pos (Ad es env)).map (·.1)=(Ad es env).map (·.1):=by
  unfold DH;simp[Am,Function.comp_def]
 have:(DH pos (Ad es env)).any (·.1)=((DH pos (Ad es env)).map (·.1)).any id:=by rw[CN];rfl
 rw[this,h3,CN];exact h2
class TW where
 w:Ar
 tabs:List Addr:=[]
 qual:Nat->Nat->Str:=fun _ _=>⟨#[]⟩
variable[TW]
def zig(c:Addr)(q:Str):HO:=.ext fun h=>h.CodeRec (.ref c) q
def TOk(H:Hp)(ps:Array A9):Prop:=TriplesOk ps.toList/\∀pos v,DM pos ps.toList=some v->∃c,v=.ref c/\H c=some (zig c (TW.qual pos.line pos.col))
def isTb:HO->Bool
 | .tbl _=>true
 | _=>false
structure Same(H H':Hp):Prop where
 at_:∀b o,H b=some o->∀(n:isTb o=false:=by rfl),H' b=some o
 tb:∀b ps,H b=some (.tbl ps)->∃ps',H' b=some (.tbl ps')/\(TOk H ps->TOk H' ps')
instance {H H':Hp}:CoeFun (Same H H') (fun _=>∀b o,H b=some o->∀(n:isTb o=false:=by rfl),H' b=some o):=⟨@Same.at_ _ H H'⟩
theorem TOk.same{H H':Hp}{ps:Array A9}(h:∀b o,H b=some o->isTb o=false->H' b=some o)(t:TOk H ps):TOk H' ps:=
 ⟨t.1,fun pos v e=>let ⟨c,e1,e2⟩:=t.2 pos v e;⟨c,e1,h _ _ e2 rfl⟩⟩
theorem Same.of{H H':Hp}(h:∀b o,H b=some o->H' b=some o):Same H H':=
 ⟨fun b o e _=>h b o e,fun b ps e=>⟨ps,h b _ e,TOk.same fun b o e _=>h b o e⟩⟩
theorem Same.refl(H:Hp):Same H H:=.of fun _ _ h=>h
theorem Same.trans{H H1 H2:Hp}(a:Same H H1)(b:Same H1 H2):Same H H2:=
 ⟨fun c o h n=>b.at_ c o (a.at_ c o h n) n,fun c ps e=>by
  obtain⟨p1,e1,k1⟩:=a.tb c ps e;obtain⟨p2,e2,k2⟩:=b.tb c p1 e1;exact⟨p2,e2,fun t=>k2 (k1 t)⟩⟩
theorem Same.free{H H':Hp}(e:Same H H'){l:Addr}(h:H' l=Option.none):H l=Option.none:=by
 cases q:H l with
 | none=>rfl
 | some o=>
  cases ho:isTb o with
  | false=>rw[e.at_ l o q ho] at h;cases h
  | true=>
   cases o <;> cases ho;obtain⟨p1,e1,_⟩:=e.tb l _ q;rw[e1] at h;cases h
def Tabs(H:Hp):Prop:=∀P∈TW.tabs,∃ps,H P=some (.tbl ps)/\TOk H ps
theorem Same.tabs{H H':Hp}(s:Same H H')(t:Tabs H):Tabs H':=fun P hP=>by
 obtain⟨ps,e,k⟩:=t P hP;obtain⟨p1,e1,k1⟩:=s.tb P ps e;exact⟨p1,e1,k1 k⟩
def KList(K:A0)(a:Addr)(xs:List V):Prop:=
 ∃(its:List A9) (n:Nat),K.lookup a=some { cls:=.type "list",data:=.seq its.toArray n }/\xs.length<=sizeLine/\Vals xs its
def KDict(K:A0)(a:Addr)(kvs:List (Key×V)):Prop:=
 kvs.length<=sizeLine/\(a == BN)=false/\∃(o:Bi)(es:Array DictEntry)(ep:Nat),K.lookup a=some o/\o.ExactDict/\o.data=.dict es ep/\
  ∀P:Ak,∃vs,KV kvs vs/\PySem.KeysOf (zao P TW.w) es/\Pairs (zao P TW.w) es.toList vs/\(vs.map (·.1)).Nodup
theorem KDict.at{K:A0}{a:Addr}{kvs:List (Key×V)}(h:KDict K a kvs)(P:Ak)(w:Ar)(hw:w=TW.w)(hp:Heap)(hk:K.In hp):∃vs,KV kvs vs/\hp.DictOf (zao P w) a vs:=by
 subst hw;obtain⟨_,_,o,es,ep,e,x,d,r⟩:=h;obtain⟨vs,r1,r2⟩:=r P;exact⟨vs,r1,o,es,ep,hk _ _ e,x,d,r2⟩
def SqO(K:A0)(H:Hp)(a:Addr)(xs:List V):Prop:=Rd H a (.lst xs)\/KList K a xs
theorem SqO.l{K:A0}{H:Hp}{a:Addr}{xs:List V}(h:SqO K H a xs):SqL K H a xs:=by
 rcases h with h | ⟨its,n,e,z,r⟩
 ·exact .inl h
 ·exact .inr ⟨_,its.toArray,n,e,rfl,rfl,rfl,by rw[Al,← r.length];exact z,by simpa using r⟩
theorem SqO.is{X:Cx}{pins:List (Addr×Bi)}{σ:L2.St}{H:Hp}{s:AD}{a:Addr}{xs:List V}(I:Inv X pins σ H s)(h:SqO X.K H a xs) :
  xs.length<=sizeLine/\∃(its:List A9) (n:Nat),Vals xs its/\s.heap.get? a=some { cls:=.type "list",data:=.seq its.toArray n }:=by
 rcases h with h | ⟨its,n,e,z,r⟩
 ·obtain⟨z,its,n,r,e⟩:=h.ok I.hok
  exact⟨z,its,n,r,e⟩
 ·exact⟨z,its,n,r,I.kIn _ _ e⟩
def SqF(K:A0)(H:Hp)(a:Addr)(xs:List V):Prop:=(∃o,H a=some (.frz o (.lst xs)))\/KList K a xs
def DkF(K:A0)(H:Hp)(a:Addr)(kvs:List (Key×V)):Prop:=(∃o,H a=some (.frz o (.dK kvs)))\/KDict K a kvs
def DkR(K:A0)(H:Hp)(a:Addr)(kvs:List (Key×V)):Prop:=Rd H a (.dK kvs)\/KDict K a kvs
theorem SqF.l{K:A0}{H:Hp}{a:Addr}{xs:List V}(h:SqF K H a xs):SqO K H a xs:=by
 rcases h with h | h
 ·exact .inl (.inr h)
 ·exact .inr h
theorem DkF.r{K:A0}{H:Hp}{a:Addr}{kvs:List (Key×V)}(h:DkF K H a kvs):DkR K H a kvs:=by
 rcases h with h | h
 ·exact .inl (.inr h)
 ·exact .inr h
def FnAt(f:Addr)(o:Bi):HO:=.ext fun h=>h.get? f=some o
def ze5(H:Hp):List (Str×Addr)->List V->Prop
 | [],xs=>xs=[]
 | p::cl,xs=>∃x r o u,xs=x::r/\H p.2=some (.frz o (.own 0))/\o.data=.cell (some u)/\RelV x u/\ze5 H cl r
mutual
def Rep(K:A0)(H:Hp):PV->V->Prop
 | .non,v=>v=.non
 | .bl b,v=>v=.bl b
 | .int i,v=>v=.int i
 | .str x,v=>v=.str x
 | .tup ps,v=>∃a xs,v=.ref a/\H a=some (.tup xs)/\Reps K H ps xs
 | .lst ps,v=>∃a xs,v=.ref a/\SqF K H a xs/\Reps K H ps xs
 | .dct ks ps,v=>∃a kvs,v=.ref a/\DkF K H a kvs/\kvs.map (·.1)=ks/\Reps K H ps (kvs.map (·.2))
 | .dtt ks ps,v=>∃a o kvs,v=.ref a/\H a=some (.frz o (.dT kvs))/\kvs.map (·.1)=ks/\Reps K H ps (kvs.map (·.2))
 | .fn L cs,v=>∃f c cl pm ct xs,v=.ref f/\H f=some (FnAt f (DW "<lambda>" L.qual L.args L.body L.scope cl pm c ct))/\H c=some (zig c L.qual)/\cl.map (·.1)=L.kept/\(cl.map (·.2)).Nodup/\ze5 H cl xs/\Reps K H cs xs
def Reps(K:A0)(H:Hp):List PV->List V->Prop
 | [],xs=>xs=[]
 | p::ps,xs=>∃x r,xs=x::r/\Rep K H p x/\Reps K H ps r
end
def RepO(K:A0)(H:Hp):PV->V->Prop
 | .lst ps,v=>∃a xs,v=.ref a/\SqO K H a xs/\Reps K H ps xs
 | .dct ks ps,v=>∃a kvs,v=.ref a/\DkR K H a kvs/\kvs.map (·.1)=ks/\Reps K H ps (kvs.map (·.2))
 | .dtt ks ps,v=>∃a kvs,v=.ref a/\Rd H a (.dT kvs)/\kvs.map (·.1)=ks/\Reps K H ps (kvs.map (·.2))
 | p,v=>Rep K H p v
def zco(K:A0)(H:Hp)(a:Addr):PV->Prop
 | .lst ps=>∃xs,H a=some (.lst xs)/\Reps K H ps xs
 | .dct ks ps=>∃kvs,H a=some (.dK kvs)/\kvs.map (·.1)=ks/\Reps K H ps (kvs.map (·.2))
 | .dtt ks ps=>∃kvs,H a=some (.dT kvs)/\kvs.map (·.1)=ks/\Reps K H ps (kvs.map (·.2))
 | _=>False
def isFz:HO->Bool
 | .frz _ _=>true
 | .tup _=>true
 | .ext _=>true
 | _=>false
def Kp(H H':Hp):Prop:=∀b u,H b=some u->isFz u=true->H' b=some u
theorem Same.kp{H H':Hp}(h:Same H H'):Kp H H':=fun b u e f=>h.at_ b u e (by cases u <;> first | rfl | cases f)
theorem Kp.refl(H:Hp):Kp H H:=fun _ _ e _=>e
theorem Kp.trans{H H1 H2:Hp}(h:Kp H H1)(k:Kp H1 H2):Kp H H2:=fun b u e f=>k b u (h b u e f) f
theorem Kp.upd{H:Hp}{a:Addr}{u o:HO}(h:H a=some u)(f:isFz u=false):Kp H (upd H a o):=fun b w e g=>by
 have:b≠a:=fun z=>by
  subst z;rw[h] at e;cases e;rw[f] at g;cases g
 rw[zal this];exact e
theorem Kp.sqT{K:A0}{H H':Hp}(k:Kp H H'){a:Addr}{xs:List V}(h:SqT K H a xs):SqT K H' a xs:=by
 rcases h with (h | ⟨o,h⟩) | h
 ·exact .inl (.inl (k _ _ h rfl))
 ·exact .inl (.inr ⟨o,k _ _ h rfl⟩)
 ·exact .inr h
theorem Kp.sqF{K:A0}{H H':Hp}(k:Kp H H'){a:Addr}{xs:List V}(h:SqF K H a xs):SqF K H' a xs:=by
 rcases h with⟨o,h⟩ | h
 ·exact .inl ⟨o,k _ _ h rfl⟩
 ·exact .inr h
theorem Kp.dkF{K:A0}{H H':Hp}(k:Kp H H'){a:Addr}{kvs:List (Key×V)}(h:DkF K H a kvs):DkF K H' a kvs:=by
 rcases h with⟨o,h⟩ | h
 ·exact .inl ⟨o,k _ _ h rfl⟩
 ·exact .inr h
theorem TOk.kp{H H':Hp}{ps:Array A9}(k:Kp H H')(t:TOk H ps):TOk H' ps:=
 ⟨t.1,fun pos v e=>let ⟨c,e1,e2⟩:=t.2 pos v e;⟨c,e1,k _ _ e2 rfl⟩⟩
theorem Kp.but{H H':Hp}{a:Addr}(na:∀u,H a=some u->isFz u=false)(oth:∀b,b≠a->H' b=H b):Kp H H':=fun b u e f=>by
 have:b≠a:=fun z=>by
  subst z;rw[na u e] at f;cases f
 rw[oth b this];exact e
theorem Same.but{B H H':Hp}{a:Addr}(s:Same B H)(fa:B a=none)(na:∀u,H a=some u->isFz u=false)(oth:∀b,b≠a->H' b=H b):Same B H':=
 ⟨fun b o e n=>by rw[oth b (zbj e fa)];exact s.at_ b o e n,fun b ps e=>by
  obtain⟨p1,e1,k1⟩:=s.tb b ps e;exact⟨p1,by rw[oth b (zbj e fa)];exact e1,fun t=>(k1 t).kp (Kp.but na oth)⟩⟩
theorem Tabs.but{H H':Hp}{a:Addr}(t:Tabs H)(na:∀u,H a=some u->isFz u=false/\isTb u=false)(oth:∀b,b≠a->H' b=H b):Tabs H':=fun P hP=>by
 obtain⟨ps,e,k⟩:=t P hP
 have:P≠a:=fun z=>by
  subst z;have:=(na _ e).2;cases this
 exact⟨ps,by rw[oth P this];exact e,k.kp (Kp.but (fun u h=>(na u h).1) oth)⟩
theorem tq{K:A0}{H:Hp}{a:Addr}{xs:List V}(h:H a=some (.tup xs)):SqT K H a xs:=.inl (.inl h)
theorem ze5.kp{H H':Hp}(k:Kp H H'):∀{cl:List (Str×Addr)}{xs:List V},ze5 H cl xs->ze5 H' cl xs
 | [],_,h=>h
 | p::cl,_,⟨x,r,o,u,e,h,d,v,t⟩=>⟨x,r,o,u,e,k _ _ h rfl,d,v,ze5.kp k t⟩
mutual
theorem Rep.kp{K:A0}{H H':Hp}(k:Kp H H'):∀(p:PV){v:V},Rep K H p v->Rep K H' p v
 | .non,_,h=>h
 | .bl _,_,h=>h
 | .int _,_,h=>h
 | .str _,_,h=>h
 | .tup ps,_,⟨a,xs,e,h,r⟩=>⟨a,xs,e,k _ _ h rfl,Reps.kp k ps r⟩
 | .lst ps,_,⟨a,xs,e,h,r⟩=>⟨a,xs,e,k.sqF h,Reps.kp k ps r⟩
 | .dct ks ps,_,⟨a,kvs,e,h,ek,r⟩=>⟨a,kvs,e,k.dkF h,ek,Reps.kp k ps r⟩
 | .dtt ks ps,_,⟨a,o,kvs,e,h,ek,r⟩=>⟨a,o,kvs,e,k _ _ h rfl,ek,Reps.kp k ps r⟩
 | .fn L cs,_,⟨f,c,cl,pm,ct,xs,e,h1,h2,h3,h5,h4,r⟩=>⟨f,c,cl,pm,ct,xs,e,k _ _ h1 rfl,k _ _ h2 rfl,h3,h5,ze5.kp k h4,Reps.kp k cs r⟩
theorem Reps.kp{K:A0}{H H':Hp}(k:Kp H H'):∀(ps:List PV){xs:List V},Reps K H ps xs->Reps K H' ps xs
 | [],_,h=>h
 | p::ps,_,⟨x,r,e,h,t⟩=>⟨x,r,e,Rep.kp k p h,Reps.kp k ps t⟩
end
section
variable{K : A0}{H H' : Hp}{p : PV}{ps qs : List PV}{v : V}{xs ys : List V}{a : Addr}
theorem Rep.same(h:Rep K H p v)(s:Same H H'):Rep K H' p v:=Rep.kp (Same.kp s) p h
theorem Reps.same(h:Reps K H ps xs)(s:Same H H'):Reps K H' ps xs:=Reps.kp (Same.kp s) ps h
theorem RepO.same(h:RepO K H p v)(s:Same H H'):RepO K H' p v:=by
 cases p with
 | lst ps=>
  obtain⟨a,xs,e,q,r⟩:=h;refine⟨a,xs,e,?_,r.same s⟩;rcases q with (q | ⟨o,q⟩) | q
  ·exact .inl (.inl (s _ _ q))
  ·exact .inl (.inr ⟨o,s _ _ q⟩)
  ·exact .inr q
 | dct ks ps=>
  obtain⟨a,kvs,e,q,ek,r⟩:=h;refine⟨a,kvs,e,?_,ek,r.same s⟩;rcases q with (q | ⟨o,q⟩) | q
  ·exact .inl (.inl (s _ _ q))
  ·exact .inl (.inr ⟨o,s _ _ q⟩)
  ·exact .inr q
 | dtt ks ps=>
  obtain⟨a,kvs,e,q,ek,r⟩:=h;refine⟨a,kvs,e,?_,ek,r.same s⟩;rcases q with q | ⟨o,q⟩
  ·exact .inl (s _ _ q)
  ·exact .inr ⟨o,s _ _ q⟩
 | _=>exact Rep.same h s
theorem zco.same(h:zco K H a p)(s:Same H H'):zco K H' a p:=by
 cases p with
 | lst ps=>
  obtain⟨xs,q,r⟩:=h;exact⟨xs,s _ _ q,r.same s⟩
 | dct ks ps=>
  obtain⟨kvs,q,ek,r⟩:=h;exact⟨kvs,s _ _ q,ek,r.same s⟩
 | dtt ks ps=>
  obtain⟨kvs,q,ek,r⟩:=h;exact⟨kvs,s _ _ q,ek,r.same s⟩
 | _=>exact h
theorem Rep.o(h:Rep K H p v):RepO K H p v:=by
 cases p with
 | lst ps=>
  obtain⟨a,xs,e,q,r⟩:=h;exact⟨a,xs,e,q.l,r⟩
 | dct ks ps=>
  obtain⟨a,kvs,e,q,ek,r⟩:=h;exact⟨a,kvs,e,q.r,ek,r⟩
 | dtt ks ps=>
  obtain⟨a,o,kvs,e,q,ek,r⟩:=h;exact⟨a,kvs,e,.inr ⟨o,q⟩,ek,r⟩
 | _=>exact h
theorem zco.o(h:zco K H a p):RepO K H p (.ref a):=by
 cases p with
 | lst ps=>
  obtain⟨xs,q,r⟩:=h;exact⟨a,xs,rfl,.inl (.inl q),r⟩
 | dct ks ps=>
  obtain⟨kvs,q,ek,r⟩:=h;exact⟨a,kvs,rfl,.inl (.inl q),ek,r⟩
 | dtt ks ps=>
  obtain⟨kvs,q,ek,r⟩:=h;exact⟨a,kvs,rfl,.inl q,ek,r⟩
 | _=>exact AK h
theorem Reps.length:∀{ps:List PV}{xs:List V},Reps K H ps xs->ps.length=xs.length
 | [],_,h=>by cases h;rfl
 | p::ps,_,⟨x,r,e,_,t⟩=>by subst e;simp[Reps.length t]
theorem Reps.nil:Reps K H [] []:=rfl
theorem Reps.cons(h:Rep K H p v)(t:Reps K H ps xs):Reps K H (p::ps) (v::xs):=⟨v,xs,rfl,h,t⟩
theorem Reps.append:∀{ps qs:List PV}{xs ys:List V},Reps K H ps xs->Reps K H qs ys->Reps K H (ps++qs) (xs++ys)
 | [],_,_,_,h,k=>by cases h;exact k
 | p::ps,_,_,_,⟨x,r,e,h,t⟩,k=>by subst e;exact⟨x,_,rfl,h,Reps.append t k⟩
theorem Reps.get:∀{ps:List PV}{xs:List V}{i:Nat}{p:PV},Reps K H ps xs->ps[i]?=some p->∃x,xs[i]?=some x/\Rep K H p x
 | [],_,_,_,_,e=>by simp at e
 | p::ps,_,0,_,⟨x,r,e,h,t⟩,q=>by
  subst e;simp at q;subst q;exact⟨x,rfl,h⟩
 | p::ps,_,i+1,q,⟨x,r,e,h,t⟩,z=>by
  subst e;obtain⟨y,h1,h2⟩:=Reps.get (i:=i) (p:=q) t (by simpa using z)
  exact⟨y,by simpa using h1,h2⟩
theorem Reps.getV:∀{ps:List PV}{xs:List V}{i:Nat}{x:V},Reps K H ps xs->xs[i]?=some x->∃p,ps[i]?=some p/\Rep K H p x:=fun {ps xs i x} r e=>by
 have h1:i<xs.length:=(AA.mp e).1;rw[← r.length] at h1;obtain⟨y,e2,rp⟩:=r.get (i:=i) (p:=ps[i]) (by simp[h1])
 rw[e] at e2;cases e2;exact⟨_,by simp[h1],rp⟩
theorem Reps.take:∀{ps:List PV}{xs:List V}(n:Nat),Reps K H ps xs->Reps K H (ps.take n) (xs.take n)
 | _,_,0,_=>by simp;rfl
 | [],_,n+1,h=>by cases h;rfl
 | p::ps,_,n+1,⟨x,r,e,h,t⟩=>by subst e;exact⟨x,_,rfl,h,Reps.take n t⟩
theorem Reps.drop:∀{ps:List PV}{xs:List V}(n:Nat),Reps K H ps xs->Reps K H (ps.drop n) (xs.drop n)
 | _,_,0,h=>by simpa using h
 | [],_,n+1,h=>by cases h;rfl
 | p::ps,_,n+1,⟨x,r,e,h,t⟩=>by subst e;simpa using Reps.drop n t
theorem Reps.set:∀{ps:List PV}{xs:List V}(n:Nat){p:PV}{v:V},Reps K H ps xs->Rep K H p v->Reps K H (ps.set n p) (xs.set n v)
 | [],_,_,_,_,h,_=>by cases h;rfl
 | q::ps,_,0,_,_,⟨x,r,e,h,t⟩,k=>by subst e;exact⟨_,_,rfl,k,t⟩
 | q::ps,_,n+1,_,_,⟨x,r,e,h,t⟩,k=>by subst e;exact⟨x,_,rfl,h,Reps.set n t k⟩
end
theorem _root_.L2.Inv.reH{X:Cx}{pins:List (Addr×Bi)}{σ:L2.St}{H H':Hp}{s:AD}(I:Inv X pins σ H s){a:Addr}{u u':HO}(hu:H a=some u)(h':H'=upd H a u')
  (nf:isFz u=false) (nt:∀ps,u≠.tbl ps) (no:∀x,u≠.own x) (hok:zdx X.prog X.w H' s.heap a u'):Inv X pins σ H' s:=by
 subst h';have keepT:∀b xs,H b=some (.tup xs)->(upd H a u') b=some (.tup xs):=fun b xs e=>Kp.upd hu nf b _ e rfl
 have keepO:∀b x,H b=some (.own x)->(upd H a u') b=some (.own x):=fun b x e=>by
  have:b≠a:=fun z=>by
   subst z;rw[hu] at e;cases e;exact no x rfl
  rw[zal this];exact e
 have hn:∀b,H b=none->(upd H a u') b=none:=fun b e=>by
  have:b≠a:=fun z=>by
   subst z;rw[hu] at e;cases e
  rw[zal this];exact e
 refine⟨I.ok,I.os,I.bare,⟨I.base.keep,I.base.slot,fun b o e n x=>hn b (I.base.free b o e n x),I.base.there,fun b xs e=>keepT b xs (I.base.tups b xs e),
  fun b o w e=>Kp.upd hu nf b _ (I.base.frzs b o w e) rfl,fun b ps e=>?_⟩,I.loc,I.cell,hn _ I.free,fun x c e=>hn c (I.freeC x c e),fun p hp=>?_,fun b o e=>?_,I.len⟩
 ·obtain⟨more,q⟩:=I.base.tbls b ps e
  have:b≠a:=fun z=>by
   subst z;rw[hu] at q;cases q;exact nt _ rfl
  exact⟨more,by rw[zal this];exact q⟩
 ·obtain⟨h1,h2,h3⟩:=I.pin p hp
  exact⟨h1,hn _ h2,h3⟩
 ·by_cases hb:b=a
  ·subst hb
   rw[zak] at e;cases e;exact hok
  ·rw[zal hb] at e
   exact(I.hok b o e).stay (fun c v _ r=>r) (fun c r=>keepO c b r) keepT
theorem _root_.L2.Inv.frz{X:Cx}{pins:List (Addr×Bi)}{σ:L2.St}{H:Hp}{s:AD}{a:Addr}{p:PV}(I:Inv X pins σ H s)(n:zco X.K H a p) :
  ∃H',Inv X pins σ H' s/\Rep X.K H' p (.ref a)/\∀b,b≠a->H' b=H b:=by
 cases p with
 | lst ps=>
  obtain⟨xs,q,r⟩:=n;obtain⟨z,its,m,rv,e⟩:=I.hok a _ q;refine⟨upd H a (.frz _ (.lst xs)),I.reH q rfl rfl (by intro _ h;cases h) (by intro _ h;cases h) ⟨e,z,its,m,rv,e⟩,⟨a,xs,rfl,.inl ⟨_,zak⟩,r.kp (Kp.upd q rfl)⟩,fun b hb=>zal hb⟩
 | dct ks ps=>
  obtain⟨kvs,q,ek,r⟩:=n;obtain⟨z,hs,vs,rv,o,es,ep,e,rest⟩:=I.hok a _ q;refine⟨upd H a (.frz o (.dK kvs)),I.reH q rfl rfl (by intro _ h;cases h) (by intro _ h;cases h) ⟨e,z,hs,vs,rv,o,es,ep,e,rest⟩,⟨a,kvs,rfl,.inl ⟨_,zak⟩,ek,r.kp (Kp.upd q rfl)⟩,fun b hb=>zal hb⟩
 | dtt ks ps=>
  obtain⟨kvs,q,ek,r⟩:=n;obtain⟨z,hs,ys,rv,o,es,ep,e,rest⟩:=I.hok a _ q;refine⟨upd H a (.frz o (.dT kvs)),I.reH q rfl rfl (by intro _ h;cases h) (by intro _ h;cases h) ⟨e,z,hs,ys,?_,o,es,ep,e,rest⟩,⟨a,o,kvs,rfl,zak,ek,r.kp (Kp.upd q rfl)⟩,fun b hb=>zal hb⟩
  exact Paired.mapP rv fun p1 q1 ⟨h1,h2,h3⟩=>⟨h1,Kp.upd q rfl _ _ h2 rfl,h3⟩
 | _=>exact AK n
theorem zco.nt{K:A0}{H:Hp}{a:Addr}{p:PV}(h:zco K H a p):∀u,H a=some u->isFz u=false/\isTb u=false:=fun u e=>by
 cases p with
 | lst ps=>obtain⟨_,w,_⟩:=h;rw[w] at e;cases e;exact⟨rfl,rfl⟩
 | dct ks ps=>obtain⟨_,w,_⟩:=h;rw[w] at e;cases e;exact⟨rfl,rfl⟩
 | dtt ks ps=>obtain⟨_,w,_⟩:=h;rw[w] at e;cases e;exact⟨rfl,rfl⟩
 | _=>exact AK h
end PU
namespace PU
open PySem PySem.Spec PyProof.Rows L2
variable[TW]
structure Cn where
 X:Cx
 Ac:PX->Hp->Prop
def SlOk(K:A0)(H:Hp)(x:Option (Option V)):Sl->Prop
 | .no=>True
 | .val p=>∃v,x=some (some v)/\Rep K H p v
 | .own p=>∃a,x=some (some (.ref a))/\zco K H a p
 | .pin ps a=>x=some (some (.ref a))/\zco K H a (.lst ps)
structure View(K:A0)(H:Hp)(σ:L2.St)(ρ:PSt):Prop where
 at_:∀(i:Nat)(l:Sl),ρ[i]?=some l->SlOk K H σ[i]? l
 tb:Tabs H
instance {K:A0} {H:Hp} {σ:L2.St} {ρ:PSt}:CoeFun (View K H σ ρ) (fun _=>∀(i:Nat)(l:Sl),ρ[i]?=some l->SlOk K H σ[i]? l):=⟨@View.at_ _ K H σ ρ⟩
theorem SlOk.same{K:A0}{H H':Hp}{x:Option (Option V)}{l:Sl}(h:SlOk K H x l)(s:Same H H'):SlOk K H' x l:=by
 cases l with
 | no=>exact trivial
 | val p=>obtain⟨v,e,r⟩:=h;exact⟨v,e,r.same s⟩
 | own p=>obtain⟨a,e,r⟩:=h;exact⟨a,e,r.same s⟩
 | pin ps a=>exact⟨h.1,zco.same h.2 s⟩
theorem View.same{K:A0}{H H':Hp}{σ:L2.St}{ρ:PSt}(h:View K H σ ρ)(s:Same H H'):View K H' σ ρ:=⟨fun i l e=>(h i l e).same s,s.tabs h.tb⟩
def RQ(C:Cn)(H:Hp){α:Type}(r:R α)(k:α->Prop):Prop:=
 match r with
 | .ok a=>k a
 | .er x=>∀H',Same H H'->C.Ac x H'
 | .no=>False
section
variable{C : Cn}{H H' : Hp}{α β : Type}{r : R α}{k k' : α → Prop}
theorem RQ.imp(h:RQ C H r k)(f:∀a,r=.ok a->k a->k' a):RQ C H r k':=by
 cases r with
 | ok a=>exact f a rfl h
 | er x=>exact h
 | no=>exact h
theorem RQ.same(h:RQ C H r k)(s:Same H H'):RQ C H' r k:=by
 cases r with
 | ok a=>exact h
 | er x=>exact fun H2 s2=>h H2 (s.trans s2)
 | no=>exact h
theorem RQ.bind{f:α->R β}{m:β->Prop}(h:RQ C H (r >>= f) m):RQ C H r fun a=>RQ C H (f a) m:=by
 cases r <;> exact h
theorem RQ.ofO{o:Option α}(h:RQ C H (R.ofO o) k):∃a,o=some a/\k a:=by
 cases o with
 | none=>exact AK h
 | some a=>exact⟨a,rfl,h⟩
end
def tV(C:Cn)(f:PSt->R PV):TE:=fun σ H Q=>∃ρ,View C.X.K H σ ρ/\RQ C H (f ρ) fun p=>∀v H',Same H H'->Rep C.X.K H' p v->Q v H'
def tO(C:Cn)(f:PSt->R PV):TE:=fun σ H Q=>∃ρ,View C.X.K H σ ρ/\RQ C H (f ρ) fun p=>∀v H',Same H H'->RepO C.X.K H' p v->Q v H'
def tN(C:Cn)(f:PSt->R PV):TE:=fun σ H Q=>∃ρ,View C.X.K H σ ρ/\RQ C H (f ρ) fun p=>∀a H',Same H H'->H a=none->zco C.X.K H' a p->Q (.ref a) H'
def tAs(C:Cn)(f:PSt->R (List PV)):TA:=fun σ H Q=>∃ρ,View C.X.K H σ ρ/\RQ C H (f ρ) fun ps=>∀vs H',Same H H'->Reps C.X.K H' ps vs->Q vs H'
def tBl(C:Cn)(f:PSt->R Bool):TT:=fun σ H Q=>∃ρ,View C.X.K H σ ρ/\RQ C H (f ρ) fun b=>∀H',Same H H'->Q b H'
def EV(C:Cn)(e:Expr)(f:PSt->R PV):Prop:=PE C.X e (tV C f)
def EO(C:Cn)(e:Expr)(f:PSt->R PV):Prop:=PE C.X e (tO C f)
def EN(C:Cn)(e:Expr)(f:PSt->R PV):Prop:=PE C.X e (tN C f)
def EA(C:Cn)(es:List Expr)(f:PSt->R (List PV)):Prop:=PA C.X es (tAs C f)
def ET(C:Cn)(e:Expr)(f:PSt->R Bool):Prop:=PT C.X e (tBl C f)
def EW(C:Cn)(e:Expr)(f:PSt->R Bool):Prop:=PW C.X e (tBl C f)
section
variable{C : Cn}{e a b c : Expr}{es : List Expr}{f fa fb fc : PSt → R PV}{fs : PSt → R (List PV)}{pos : C7}
theorem EV.o(h:EV C e f):EO C e f:=fun pins s σ H Q I ⟨ρ,vw,q⟩=>h pins s σ H Q I ⟨ρ,vw,q.imp fun _ _ k v H' sm r=>k v H' sm r.o⟩
theorem EN.o(h:EN C e f):EO C e f:=fun pins s σ H Q I ⟨ρ,vw,q⟩=>h pins s σ H Q I ⟨ρ,vw,q.imp fun _ _ k a H' sm _ r=>k (.ref a) H' sm r.o⟩
theorem EN.v(h:EN C e f):EV C e f:=by
 intro pins s σ H Q I ⟨ρ,vw,q⟩;cases hf:f ρ with
 | ok p=>
  rw[hf] at q;refine thn (h pins s σ H (fun v H'=>∃a,v=.ref a/\Same H H'/\H a=none/\zco C.X.K H' a p) I ⟨ρ,vw,by rw[hf];exact fun a H' sm n w=>⟨a,rfl,sm,n,w⟩⟩) fun u s' ⟨v,H',I',rv,a,ev,sm,na,w⟩=>?_
  obtain⟨H2,I2,rp,oth⟩:=I'.frz w;subst ev;exact⟨.ref a,H2,I2,rv,q _ H2 (sm.but na (fun u h=>(w.nt u h).1) oth) rp⟩
 | er x=>
  rw[hf] at q;exact h pins s σ H Q I ⟨ρ,vw,by rw[hf];exact q⟩
 | no=>
  rw[hf] at q;exact AK q
theorem zux (i:Nat) {x:Str} (hN:C.X.N[i]?=some x) (hv:Vis C.X.env.scope x) (hd:(x == ("__debug__":Str))=false:=by decide) (hcd:(x == ("__classdict__":Str))=false:=by decide):EV C (.Name x pos) (getV i):=by
 intro pins s σ H Q I ⟨ρ,vw,q⟩;unfold getV at q;split at q
 ·rename_i p e
  obtain⟨v,ev,r⟩:=vw i _ e;exact zeb hN hv hd hcd pins s σ H Q I ⟨v,ev,q v H (Same.refl H) r⟩
 ·exact AK q
theorem Ze1 (i:Nat) {x:Str} (hN:C.X.N[i]?=some x) (hv:Vis C.X.env.scope x) (hd:(x == ("__debug__":Str))=false:=by decide) (hcd:(x == ("__classdict__":Str))=false:=by decide):EO C (.Name x pos) (getO i):=by
 intro pins s σ H Q I ⟨ρ,vw,q⟩;unfold getO at q;split at q
 ·rename_i p e
  obtain⟨v,ev,r⟩:=vw i _ e;exact zeb hN hv hd hcd pins s σ H Q I ⟨v,ev,q v H (Same.refl H) r.o⟩
 ·rename_i p e
  obtain⟨v,ev,r⟩:=vw i _ e;exact zeb hN hv hd hcd pins s σ H Q I ⟨_,ev,q _ H (Same.refl H) r.o⟩
 ·rename_i ps a e
  obtain⟨ev,r⟩:=vw i _ e;exact zeb hN hv hd hcd pins s σ H Q I ⟨_,ev,q _ H (Same.refl H) r.o⟩
 ·exact AK q
theorem za1{i j}:EV C (.Constant (.int i) j pos) (kI i):=fun pins s σ H Q I ⟨_,_,q⟩=>Zdp pins s σ H Q I (q _ H (Same.refl H) rfl)
theorem zpk{i j}:EV C (.Constant (.bool i) j pos) (kB i):=fun pins s σ H Q I ⟨_,_,q⟩=>Zg3 pins s σ H Q I (q _ H (Same.refl H) rfl)
theorem zeg{j}:EV C (.Constant .none j pos) kN:=fun pins s σ H Q I ⟨_,_,q⟩=>Zdl pins s σ H Q I (q _ H (Same.refl H) rfl)
theorem zay{x j}:EV C (.Constant (.str x) j pos) (kS x):=fun pins s σ H Q I ⟨_,_,q⟩=>Zdi pins s σ H Q I (q _ H (Same.refl H) rfl)
theorem Zbj {x:Str} {v:V} {u:A9} {p:PV} (hg:Gl C.X x) (hm:C.X.mg x=some u) (r:RelV v u) (rp:∀H,Rep C.X.K H p v) (hd:(x == ("__debug__":Str))=false:=by decide):EV C (.Name x pos) (kP p):=
 fun pins s σ H Q I ⟨_,_,q⟩=>Zae hg hm r hd pins s σ H Q I (q _ H (Same.refl H) (rp H))
theorem zag:EA C [] nilA:=fun pos pins s σ H Q I ⟨_,_,q⟩=>ze7 pos pins s σ H Q I (q [] H (Same.refl H) Reps.nil)
theorem zaa(ha:EV C e f)(hr:EA C es fs)(hs:Ad (e::es) C.X.env=(false,BR e C.X.env)::Ad es C.X.env:=by exact zcq rfl):EA C (e::es) (zac f fs):=by
 intro pos pins s σ H Q I ⟨ρ,vw,q⟩;refine zb0 ha hr hs pos pins s σ H Q I ⟨ρ,vw,q.bind.imp fun p _ k v H1 s1 r1=>⟨ρ,vw.same s1,(k.bind.same s1).imp fun ps _ k2 vs H2 s2 r2=>?_⟩⟩
 exact k2 (v::vs) H2 (s1.trans s2) (Reps.cons (r1.same s2) r2)
def tA1(C:Cn)(f:PSt->R PV):TA:=fun σ H Q=>∃ρ,View C.X.K H σ ρ/\RQ C H (f ρ) fun p=>∀v H',Same H H'->RepO C.X.K H' p v->Q [v] H'
theorem zqw(ha:EO C e f)(hs:Ad [e] C.X.env=[(false,BR e C.X.env)]:=by exact zbm rfl):PA C.X [e] (tA1 C f):=by
 intro pos pins s σ H Q I ⟨ρ,vw,q⟩;exact zb0 ha ze7 hs pos pins s σ H Q I ⟨ρ,vw,q⟩
theorem Same.new{H:Hp}{a:Addr}{o:HO}(h:H a=none):Same H (upd H a o):=.of fun b u e=>by
 rw[zal (zbj e h)];exact e
theorem zkd{C:Cn}{H:Hp}{ps:List PV}{β:Type}{g:List PV->R β}{k:β->Prop}(h:RQ C H (zg5 ps >>= g) k):ps.length<=sizeLine/\RQ C H (g ps) k:=by
 unfold zg5 at h
 by_cases hz:ps.length<=16777216
 ·rw[if_pos hz] at h
  exact⟨by rw[B2];exact hz,h⟩
 ·rw[if_neg hz] at h
  exact AK h
theorem za9{k}(h:EA C es fs):EV C (.Tuple es k pos) (tupF fs):=by
 intro pins s σ H Q I ⟨ρ,vw,q⟩;refine Zdh h pins s σ H Q I ⟨ρ,vw,q.bind.imp fun ps _ k vs H1 s1 r1=>?_⟩
 obtain⟨z,k⟩:=zkd k;refine⟨by rw[← r1.length];exact z,fun p hp=>?_⟩
 exact k _ _ (s1.trans (Same.new hp)) ⟨p,vs,rfl,zak,r1.same (Same.new hp)⟩
theorem zdz(h:EA C es fs):EN C (.List es pos) (lstF fs):=by
 intro pins s σ H Q I ⟨ρ,vw,q⟩;refine Zdm h pins s σ H Q I ⟨ρ,vw,q.bind.imp fun ps _ k vs H1 s1 r1=>?_⟩
 obtain⟨z,k⟩:=zkd k;refine⟨by rw[← r1.length];exact z,fun p hp=>?_⟩
 exact k p _ (s1.trans (Same.new hp)) (s1.free hp) ⟨vs,zak,r1.same (Same.new hp)⟩
def rP(K:A0)(g:PV->PV->Option PV):R2:=fun v u H Q=>∃p q z,RepO K H p v/\RepO K H q u/\g p q=some z/\∀w H',Same H H'->Rep K H' z w->Q w H'
theorem t2{σ:L2.St}{H:Hp}{Q:VK}{ρ:PSt}{g:PV->PV->Option PV}{r:R2}(vw:View C.X.K H σ ρ)(q:RQ C H (bin2 fa fb g ρ) fun p=>∀v H',Same H H'->Rep C.X.K H' p v->Q v H')
  (hr:∀v u H' Q',rP C.X.K g v u H' Q'->r v u H' Q'):tOp r (tO C fa) (tO C fb) σ H Q:=by
 refine⟨ρ,vw,q.bind.imp fun p _ k v H1 s1 r1=>⟨ρ,vw.same s1,(k.bind.same s1).imp fun p2 _ k2 u H2 s2 r2=>?_⟩⟩
 obtain⟨z,ez,k3⟩:=k2.ofO;exact hr _ _ _ _ ⟨p,p2,z,r1.same s2,r2,ez,fun w H3 s3 r3=>k3 w H3 ((s1.trans s2).trans s3) r3⟩
theorem zaq{op:Operator}{g:PV->PV->Option PV}(ho:OpR C.X (D9 op) (rP C.X.K g))(ha:EO C a fa)(hb:EO C b fb):EV C (.BinOp a op b pos) (bin2 fa fb g):=by
 intro pins s σ H Q I ⟨ρ,vw,q⟩;exact Zg2 ho ha hb pins s σ H Q I (t2 vw q fun _ _ _ _ h=>h)
theorem zoc{op:CmpOp}{g:PV->PV->Option PV}(ho:OpR C.X (B8 op) (rP C.X.K g))(ha:EO C a fa)(hb:EO C b fb)(hm:Dk op b=false:=by first | exact nomark _ | with_unfolding_all rfl):EV C (.Compare a [op] [b] pos) (bin2 fa fb g):=by
 intro pins s σ H Q I ⟨ρ,vw,q⟩;exact Zag ho ha hb hm pins s σ H Q I (t2 vw q fun _ _ _ _ h=>h)
theorem zah{g:PV->PV->Option PV}(ho:IxR C.X (rP C.X.K g))(ha:EO C a fa)(hb:EO C b fb)(hs:zps b:=by exact fun _ _=>rfl):EV C (.Subscript a b pos) (bin2 fa fb g):=by
 intro pins s σ H Q I ⟨ρ,vw,q⟩;exact Zdo ho ha hb hs pins s σ H Q I (t2 vw q fun _ _ _ _ h=>h)
end
end PU
namespace PU
open PySem PySem.Spec PyProof.Rows L2
variable[TW]
section
variable{X : Cx}{pins : List (Addr×Bi)}{σ : L2.St}{H : Hp}{s : AD}
theorem DkR.at{a:Addr}{kvs:List (Key×V)}(hw:X.w=TW.w)(I:Inv X pins σ H s)(h:DkR X.K H a kvs) :
  kvs.length<=sizeLine/\(a == BN)=false/\∃vs,KV kvs vs/\s.heap.DictOf (zao X.prog X.w) a vs:=by
 rcases h with h | h
 ·exact zu5 I.hok h
 ·exact⟨h.1,h.2.1,h.at _ _ hw _ I.kIn⟩
theorem Zar{ys:List V}{its:List A9}{ps:List PV}(I:Inv X pins σ H s)(hv:Vals ys its)(hz:ys.length<=sizeLine)(hr:Reps X.K H ps ys)(t':Nat) :
  ∃H',Inv X pins σ H' { s with heap:=s.heap.push { cls:=.type "list",data:=.seq its.toArray },toks:=t' }/\Same H H'/\Rep X.K H' (.lst ps) (.ref s.heap.objs.size):=by
 have I1:=I.lnew (t':=t') hv hz;have nf:H s.heap.objs.size=none:=I.fresh;obtain⟨H',I2,rp,oth⟩:=L2.Inv.frz (a:=s.heap.objs.size) (p:=.lst ps) I1 ⟨ys,zak,hr.same (Same.new nf)⟩;refine⟨H',I2,.of fun b o e=>?_,rp⟩
 have hb:=zbj e nf;rw[oth b hb,zal hb];exact e
theorem RepO.lst_inv{K:A0}{H:Hp}{ps:List PV}{v:V}(h:RepO K H (.lst ps) v):∃a xs,v=.ref a/\SqO K H a xs/\Reps K H ps xs:=h
theorem RepO.tup_inv{K:A0}{H:Hp}{ps:List PV}{v:V}(h:RepO K H (.tup ps) v):∃a xs,v=.ref a/\SqT K H a xs/\Reps K H ps xs:=by
 obtain⟨a,xs,e,q,r⟩:=(show ∃a xs,v=.ref a/\H a=some (.tup xs)/\Reps K H ps xs from h);exact⟨a,xs,e,.inl (.inl q),r⟩
end
theorem zxx{prog:Ak}{w:Ar}{A:B0}{E:A9->AD->Prop}{s:AD}{t b:Addr}{vs ws:List A9}{Q:A9->AD->Prop}(ht:IsTup s.heap t vs.toArray)(hb:IsTup s.heap b ws.toArray)
  (h0:vs=[]->Q (.ref b) s) (h1:ws=[]->Q (.ref t) s) (h2:Q (.ref s.heap.objs.size) { s with heap:=s.heap.push { cls:=.type "tuple",data:=.seq (vs++ws).toArray } })
  (hsz:vs.length+ws.length<=sizeLine):Af (Ap prog w) A (D9 .Add (.ref t) (.ref b)) Q E s:=by
 obtain⟨⟨cls,dd,data,sl⟩,ho,hc,n,hd⟩:=id ht;obtain⟨⟨cls2,dd2,data2,sl2⟩,ho2,hc2,n2,hd2⟩:=id hb;simp only at hc hd hc2 hd2;subst hc hd hc2 hd2;have e:vs.toArray++ws.toArray=(vs++ws).toArray:=by simp
 by_cases hv:vs=[]
 ·exact HZ ⟨_,ho,rfl⟩ ⟨_,ho2,rfl⟩ GC HD E7 Dz (Dt _ _)
   (tuple_addW0 t b vs.toArray ws.toArray n n2 dd dd2 sl sl2 (by simp[hv])) ⟨ho,ho2,h0 hv⟩
 ·by_cases hw:ws=[]
  ·exact HZ ⟨_,ho,rfl⟩ ⟨_,ho2,rfl⟩ GC HD E7 Dz (Dt _ _)
    (tuple_addW1 t b vs.toArray ws.toArray n n2 dd dd2 sl sl2 (by simpa using hv) (by simp[hw])) ⟨ho,ho2,h1 hw⟩
  ·refine HZ ⟨_,ho,rfl⟩ ⟨_,ho2,rfl⟩ GC HD E7 Dz (Dt _ _)
    (tuple_addW2 t b vs.toArray ws.toArray n n2 dd dd2 sl sl2 (by simpa using hv) (by simpa using hw) (by rw[Al,Al];exact hsz)) ⟨ho,ho2,?_⟩
   rw[e];exact h2
section
variable{X : Cx}
theorem zsy{f:A9->A9->Sem A9}{g:PV->PV->Option PV}{r:R2}(h:OpR X f r)
  (hg:∀(p q z:PV),g p q=some z->∃i j,p=.int i/\q=.int j/\∃w:V,(∀K H,Rep K H z w)/\∀H Q,Q w H->r (.int i) (.int j) H Q):OpR X f (rP X.K g):=by
 intro pins s σ H x y v u Q I rx ry ⟨p,q,z,hp,hq,e,k⟩;obtain⟨i,j,rfl,rfl,w,hw,hr⟩:=hg p q z e;cases (show x=.int i from hp);cases (show y=.int j from hq);exact h pins s σ H _ _ v u Q I rx ry (hr H Q (k w H (Same.refl H) (hw _ _)))
theorem zti:OpR X (D9 .Mult) (rP X.K gMul):=zsy Zdr fun p q z e=>by
 unfold gMul at e;split at e
 ·rename_i i j
  split at e
  ·rename_i hc
   cases e;exact⟨i,j,rfl,rfl,_,fun _ _=>rfl,fun H Q q=>⟨i,j,rfl,rfl,hc.imp (fun h=>⟨by omega,by omega⟩) (fun h=>⟨by omega,by omega⟩),q⟩⟩
  ·cases e
 ·cases e
theorem zw4:OpR X (D9 .FloorDiv) (rP X.K gDiv):=zsy Zaj fun p q z e=>by
 unfold gDiv at e;split at e
 ·rename_i i j
  split at e
  ·rename_i hc
   cases e;exact⟨i,j,rfl,rfl,_,fun _ _=>rfl,fun H Q q=>⟨i,j,rfl,rfl,hc,q⟩⟩
  ·cases e
 ·cases e
theorem zdk:OpR X (D9 .Mod) (rP X.K gMod):=zsy Zds fun p q z e=>by
 unfold gMod at e;split at e
 ·rename_i i j
  split at e
  ·rename_i hc
   cases e;exact⟨i,j,rfl,rfl,_,fun _ _=>rfl,fun H Q q=>⟨i,j,rfl,rfl,hc,q⟩⟩
  ·cases e
 ·cases e
theorem zd0:OpR X (D9 .Add) (rP X.K gAdd):=by
 intro pins s σ H x y v u Q I rx ry ⟨p,q,z,hp,hq,e,k⟩;have hs:=B2;unfold gAdd at e;split at e
 ·rename_i i j
  cases e;cases (show x=.int i from hp);cases (show y=.int j from hq);exact Zdu pins s σ H _ _ v u Q I rx ry ⟨i,j,rfl,rfl,k _ H (Same.refl H) rfl⟩
 ·rename_i i j
  split at e
  ·rename_i hc
   cases e;cases (show x=.str i from hp);cases (show y=.str j from hq);exact zrl pins s σ H _ _ v u Q I rx ry ⟨i,j,rfl,rfl,by omega,k _ H (Same.refl H) rfl⟩
  ·cases e
 ·rename_i ps qs
  split at e
  ·rename_i hc
   cases e;obtain⟨a,xs,rfl,hx,r1⟩:=hp;obtain⟨b,ys,rfl,hy,r2⟩:=hq;cases rx;cases ry;obtain⟨hz,its,n,rv,e1⟩:=hx.is I;obtain⟨hz2,its2,n2,rv2,e2⟩:=hy.is I;have l1:=r1.length;have l2:=r2.length;have l3:=rv.length;have l4:=rv2.length;have ea:its.toArray++its2.toArray=(its++its2).toArray:=by simp
   refine PySem.P.add_list e1 e2 ?_ (by simp only[Al];omega)
   rw[ea];obtain⟨H',I',sm,rp⟩:=Zar I (rv.append rv2) (by rw[Aw];omega) (r1.append r2) s.toks
   exact⟨.ref _,H',I',rfl,k _ H' sm rp⟩
  ·cases e
 ·rename_i ps qs
  split at e
  ·rename_i hc
   cases e;obtain⟨a,xs,rfl,hx,r1⟩:=RepO.tup_inv hp;obtain⟨b,ys,rfl,hy,r2⟩:=RepO.tup_inv hq;cases rx;cases ry;obtain⟨its,rv,pl,hz⟩:=I.tuple hx;obtain⟨its2,rv2,pl2,hz2⟩:=I.tuple hy;have l1:=r1.length;have l2:=r2.length;have l3:=rv.length;have l4:=rv2.length;refine zxx pl pl2 (fun z=>?_) (fun z=>?_) ?_ (by omega)
   ·subst z
    have:ps=[]:=Bz (by rw[l1,l3];rfl)
    subst this;exact⟨.ref b,H,I,rfl,k _ H (Same.refl H) hq⟩
   ·subst z
    have:qs=[]:=Bz (by rw[l2,l4];rfl)
    subst this;rw[BY] at k;exact⟨.ref a,H,I,rfl,k _ H (Same.refl H) hp⟩
   ·have nf:H s.heap.objs.size=none:=I.fresh
    refine⟨.ref s.heap.objs.size,_,I.laid (t':=s.toks) (o:=.tup (xs++ys)) (fun b ob q=>AC _ q) (AY _) ?_,rfl,k _ _ (Same.new nf) ⟨_,xs++ys,rfl,zak,(r1.append r2).same (Same.new nf)⟩⟩
    exact⟨by rw[Aw];omega,_,rv.append rv2,IsTp.new _ _⟩
  ·cases e
 ·cases e
end
end PU
namespace PU
open PySem PySem.Spec PyProof.Rows L2
variable[TW]
structure StOk(K:A0)(B:Hp×Hp)(H:Hp)(σ:L2.St)(ρ:PSt):Prop where
 len:ρ.length=σ.length
 same:Same B.1 H
 kp:Kp B.2 H
 vw:View K H σ ρ
 fresh:∀(i:Nat)(p:PV)(a:Addr),ρ[i]?=some (.own p)->σ[i]?=some (some (.ref a))->B.1 a=none
 apart:∀(i j:Nat)(p q:PV)(a:Addr),ρ[i]?=some (.own p)->ρ[j]?=some (.own q)->σ[i]?=some (some (.ref a))->σ[j]?=some (some (.ref a))->i=j
 pinned:∀(i:Nat)(ps:List PV)(a:Addr),ρ[i]?=some (.pin ps a)->B.1 a≠none
section
variable{K : A0}{B : Hp×Hp}{H H' : Hp}{σ : L2.St}{ρ : PSt}{i : Nat}{p q : PV}{v : V}{a : Addr}
theorem StOk.grow(S:StOk K B H σ ρ)(s:Same H H'):StOk K B H' σ ρ:=⟨S.len,S.same.trans s,S.kp.trans (Same.kp s),S.vw.same s,S.fresh,S.apart,S.pinned⟩
theorem zcm{α:Type}{l:List α}{i j:Nat}{x y:α}(h:(l.set i x)[j]?=some y):(j=i/\y=x/\i<l.length)\/(j≠i/\l[j]?=some y):=by
 rw[FM] at h
 by_cases e:i=j
 ·subst e
  rw[if_pos rfl] at h;split at h
  ·rename_i hl
   cases h;exact .inl ⟨rfl,rfl,hl⟩
  ·cases h
 ·rw[if_neg e] at h
  exact .inr ⟨fun z=>e z.symm,h⟩
theorem zbk{α:Type}{l:List α}{i j:Nat}{x:α}(h:j≠i):(l.set i x)[j]?=l[j]?:=by
 rw[FM,if_neg fun z=>h z.symm]
theorem zd8{α:Type}{l:List α}{i:Nat}{x:α}(h:i<l.length):(l.set i x)[i]?=some x:=by
 rw[FM,if_pos rfl,if_pos h]
theorem StOk.setV(S:StOk K B H σ ρ)(r:Rep K H p v):StOk K B H (σ.set i (some v)) (ρ.set i (.val p)):=by
 refine⟨by simp[S.len],S.same,S.kp,⟨fun j l e=>?_,S.vw.tb⟩,fun j q b e f=>?_,fun j k q q' b e1 e2 f1 f2=>?_,fun j qs b e=>?_⟩
 ·rcases zcm e with⟨rfl,rfl,hl⟩|⟨hj,e⟩
  ·exact⟨v,zd8 (by rw[← S.len];exact hl),r⟩
  ·rw[zbk hj]
   exact S.vw j l e
 ·rcases zcm e with⟨_,z,_⟩|⟨hj,e⟩
  ·cases z
  ·rw[zbk hj] at f
   exact S.fresh j q b e f
 ·rcases zcm e1 with⟨_,z,_⟩|⟨hj,e1⟩
  ·cases z
  ·rcases zcm e2 with⟨_,z,_⟩|⟨hk,e2⟩
   ·cases z
   ·rw[zbk hj] at f1
    rw[zbk hk] at f2;exact S.apart j k q q' b e1 e2 f1 f2
 ·rcases zcm e with⟨_,z,_⟩|⟨hj,e⟩
  ·cases z
  ·exact S.pinned j qs b e
theorem StOk.setN(S:StOk K B H σ ρ)(s:Same H H')(n:H a=none)(r:zco K H' a p):StOk K B H' (σ.set i (some (.ref a))) (ρ.set i (.own p)):=by
 have other:∀(j:Nat)(q:PV),ρ[j]?=some (.own q)->σ[j]?≠some (some (.ref a)):=fun j q e f=>by
  obtain⟨b,e2,w⟩:=S.vw j _ e;rw[f] at e2;cases e2;cases q with
  | lst ps=>obtain⟨_,w,_⟩:=w;rw[n] at w;cases w
  | dct ks ps=>obtain⟨_,w,_⟩:=w;rw[n] at w;cases w
  | dtt ks ps=>obtain⟨_,w,_⟩:=w;rw[n] at w;cases w
  | _=>exact w
 refine⟨by simp[S.len],S.same.trans s,S.kp.trans (Same.kp s),⟨fun j l e=>?_,s.tabs S.vw.tb⟩,fun j q b e f=>?_,fun j k q q' b e1 e2 f1 f2=>?_,fun j qs b e=>?_⟩
 ·rcases zcm e with⟨rfl,rfl,hl⟩|⟨hj,e⟩
  ·exact⟨a,zd8 (by rw[← S.len];exact hl),r⟩
  ·rw[zbk hj]
   exact(S.vw j l e).same s
 ·rcases zcm e with⟨rfl,_,hl⟩|⟨hj,e⟩
  ·rw[zd8 (by rw[← S.len];exact hl)] at f
   cases f;exact S.same.free n
  ·rw[zbk hj] at f
   exact S.fresh j q b e f
 ·rcases zcm e1 with⟨h1,_,hl⟩|⟨hj,d1⟩
  ·rcases zcm e2 with⟨h2,_,_⟩|⟨hk,d2⟩
   ·rw[h1,h2]
   ·subst h1
    rw[zd8 (by rw[← S.len];exact hl)] at f1
    cases f1;rw[zbk hk] at f2;exact absurd f2 (other k q' d2)
  ·rcases zcm e2 with⟨h2,_,hl⟩|⟨hk,d2⟩
   ·subst h2
    rw[zd8 (by rw[← S.len];exact hl)] at f2
    cases f2;rw[zbk hj] at f1;exact absurd f1 (other j q d1)
   ·rw[zbk hj] at f1
    rw[zbk hk] at f2;exact S.apart j k q q' b d1 d2 f1 f2
 ·rcases zcm e with⟨_,z,_⟩|⟨hj,e⟩
  ·cases z
  ·exact S.pinned j qs b e
theorem zco.obj(h:zco K H a p):∃u,H a=some u/\isFz u=false:=by
 cases p with
 | lst ps=>obtain⟨_,w,_⟩:=h;exact⟨_,w,rfl⟩
 | dct ks ps=>obtain⟨_,w,_⟩:=h;exact⟨_,w,rfl⟩
 | dtt ks ps=>obtain⟨_,w,_⟩:=h;exact⟨_,w,rfl⟩
 | _=>exact AK h
theorem zco.kp(k:Kp H H')(e:H' a=H a)(h:zco K H a p):zco K H' a p:=by
 cases p with
 | lst ps=>obtain⟨xs,w,r⟩:=h;exact⟨xs,by rw[e];exact w,r.kp k⟩
 | dct ks ps=>obtain⟨xs,w,z,r⟩:=h;exact⟨xs,by rw[e];exact w,z,r.kp k⟩
 | dtt ks ps=>obtain⟨xs,w,z,r⟩:=h;exact⟨xs,by rw[e];exact w,z,r.kp k⟩
 | _=>exact h
theorem StOk.turn{l':Sl}(S:StOk K B H σ ρ)(e:ρ[i]?=some (.own p))(f:σ[i]?=some (some (.ref a)))(oth:∀b,b≠a->H' b=H b)(hl:SlOk K H' (some (some (.ref a))) l')(hn:∀ps b,l'≠.pin ps b:=by intro _ _ h;cases h):StOk K B H' σ (ρ.set i l'):=by
 obtain⟨b,f2,w⟩:=S.vw i _ e;rw[f] at f2;cases f2;obtain⟨u,hu,nf⟩:=w.obj;have fa:=S.fresh i p a e f
 have k:Kp H H':=fun b u' eb fb=>by
  have:b≠a:=fun z=>by
   subst z;rw[hu] at eb;cases eb;rw[nf] at fb;cases fb
  rw[oth b this];exact eb
 have ne:∀(j:Nat)(q:PV)(b:Addr),j≠i->ρ[j]?=some (.own q)->σ[j]?=some (some (.ref b))->b≠a:=fun j q b hj e2 f2 z=>by
  subst z;exact hj (S.apart j i q p b e2 e f2 f)
 refine⟨by simp[S.len],S.same.but fa (fun u h=>(w.nt u h).1) oth,S.kp.trans k,⟨fun j l ej=>?_,S.vw.tb.but w.nt oth⟩,fun j q b ej fj=>?_,fun j m q q' b e1 e2 f1 f2=>?_,fun j qs b e=>?_⟩
 ·rcases zcm ej with⟨rfl,rfl,hl2⟩|⟨hj,ej⟩
  ·rw[f]
   exact hl
  ·have:=S.vw j l ej
   cases l with
   | no=>exact trivial
   | val q=>obtain⟨v,e1,r⟩:=this;exact⟨v,e1,r.kp k⟩
   | own q=>
    obtain⟨b,e1,r⟩:=this;exact⟨b,e1,r.kp k (oth b (ne j q b hj ej e1))⟩
   | pin qs b=>
    exact⟨this.1,this.2.kp k (oth b fun z=>S.pinned j qs b ej (by rw[z];exact fa))⟩
 ·rcases zcm ej with⟨rfl,_,_⟩|⟨hj,ej⟩
  ·rw[f] at fj
   cases fj;exact fa
  ·exact S.fresh j q b ej fj
 ·have fix:∀(j:Nat)(q:PV),(ρ.set i l')[j]?=some (.own q)->∃q',ρ[j]?=some (.own q'):=fun j q ej=>by
   rcases zcm ej with⟨rfl,_,_⟩|⟨hj,ej⟩
   ·exact⟨p,e⟩
   ·exact⟨q,ej⟩
  obtain⟨q1,g1⟩:=fix j q e1;obtain⟨q2,g2⟩:=fix m q' e2;exact S.apart j m q1 q2 b g1 g2 f1 f2
 ·rcases zcm e with⟨_,z,_⟩|⟨hj,e⟩
  ·exact absurd z.symm (hn qs b)
  ·exact S.pinned j qs b e
theorem StOk.rebase{B':Hp}(S:StOk K B H σ ρ)(k:Kp B' H):StOk K (B.1,B') H σ ρ:=⟨S.len,S.same,k,S.vw,S.fresh,S.apart,S.pinned⟩
end
def RS(C:Cn)(B:Hp×Hp)(D:Ends):R Fl->Prop
 | .ok (.next ρ)=>∀σ H,StOk C.X.K B H σ ρ->D.nx σ H
 | .ok (.brk ρ)=>∀σ H,StOk C.X.K B H σ ρ->D.bk σ H
 | .ok (.cont ρ)=>∀σ H,StOk C.X.K B H σ ρ->D.ct σ H
 | .ok (.ret p)=>∀v H,Same B.1 H->Rep C.X.K H p v->D.rt v H
 | .er x=>∀H,Same B.1 H->C.Ac x H
 | .no=>False
def tS(C:Cn)(g:PSt->R Fl):TS:=fun D σ H=>∃ρ B,StOk C.X.K B H σ ρ/\RS C B D (g ρ)
def SV(C:Cn)(st:Stmt)(g:PSt->R Fl):Prop:=PS C.X st (tS C g)
def SVs(C:Cn)(st:List Stmt)(g:PSt->R Fl):Prop:=PSs C.X st (tS C g)
section
variable{C : Cn}{B : Hp×Hp}{D : Ends}{H : Hp}{α : Type}
theorem RS.bind{r:R α}{g:α->R Fl}(h:RS C B D (r >>= g))(s:Same B.1 H):RQ C H r fun a=>RS C B D (g a):=by
 cases r with
 | ok a=>exact h
 | er x=>exact fun H' s'=>h H' (s.trans s')
 | no=>exact h
theorem RS.ofO{o:Option α}{g:α->R Fl}(h:RS C B D (R.ofO o >>= g)):∃a,o=some a/\RS C B D (g a):=by
 cases o with
 | none=>exact AK h
 | some a=>exact⟨a,rfl,h⟩
end
section
variable{C : Cn}{st : Stmt}{sts a b body : List Stmt}{e tg iter c : Expr}{f fk : PSt → R PV}{g g' : PSt → R Fl}{pos : C7}{t : PSt → R Bool}
theorem za4:SVs C [] zca:=fun pins s σ H D I ⟨ρ,B,S,h⟩=>zmh pins s σ H D I (h σ H S)
theorem zab(h1:SV C st g)(h2:SVs C sts g'):SVs C (st::sts) (seqF g g'):=by
 intro pins s σ H D I ⟨ρ,B,S,h⟩;refine zfk h1 h2 pins s σ H D I ⟨ρ,B,S,?_⟩;unfold seqF at h;cases hg:g ρ with
 | ok fl=>
  rw[hg] at h;cases fl with
  | next ρ'=>exact fun σ' H' S'=>⟨ρ',B,S',h⟩
  | brk ρ'=>exact h
  | cont ρ'=>exact h
  | ret p=>exact h
 | er x=>rw[hg] at h;exact h
 | no=>rw[hg] at h;exact h
theorem zaf(h1:SV C st g):SVs C [st] g:=by
 intro pins s σ H D I ⟨ρ,B,S,h⟩;exact zoy h1 pins s σ H D I ⟨ρ,B,S,h⟩
theorem zwb:SV C (.Break pos) brkF:=fun pins s σ H D I ⟨ρ,B,S,h⟩=>zwt pins s σ H D I (h σ H S)
theorem zav(he:EV C e f):SV C (.Return (some e) pos) (retF f):=by
 intro pins s σ H D I ⟨ρ,B,S,h⟩;exact zs1 he pins s σ H D I ⟨ρ,S.vw,(h.bind S.same).imp fun p _ k v H' s' r=>k v H' (S.same.trans s') r⟩
theorem zc2(hc:ET C c t)(ha:SVs C a g)(hb:SVs C b g'):SV C (.If c a b pos) (ifF t g g'):=by
 intro pins s σ H D I ⟨ρ,B,S,h⟩;refine Zgy hc ha hb pins s σ H D I ⟨ρ,S.vw,(h.bind S.same).imp fun k _ q H' s'=>?_⟩
 cases k with
 | true=>exact iteT ⟨ρ,B,S.grow s',q⟩
 | false=>exact iteF ⟨ρ,B,S.grow s',q⟩
theorem zau(i:Nat){x:Str}{pos':C7}(hN:C.X.N.Nodup)(he:EV C e f)(hs:Cm e (some (.Name x pos')) pos.line C.X.env=pure false:=by rfl)
  (hf:C.X.fn x=true\/C.X.env.scope.names.lookup x=some .local:=by first | exact .inl rfl | exact .inr rfl | assumption) (hi:C.X.N[i]?=some x:=by rfl) (hx:Loc C.X.env.scope x:=by first | exact .inl rfl | exact .inr rfl) :
  SV C (.Assign [.Name x pos'] e pos) (setF i f):=by
 intro pins s σ H D I ⟨ρ,B,S,h⟩;exact zyl hN hi hx he hs hf pins s σ H D I ⟨ρ,S.vw,(h.bind S.same).imp fun p _ k v H' s' r=>k _ H' ((S.grow s').setV r)⟩
theorem zdy(i:Nat){x:Str}{pos':C7}(hN:C.X.N.Nodup)(he:EN C e f)(hs:Cm e (some (.Name x pos')) pos.line C.X.env=pure false:=by rfl)
  (hf:C.X.fn x=true\/C.X.env.scope.names.lookup x=some .local:=by first | exact .inl rfl | exact .inr rfl | assumption) (hi:C.X.N[i]?=some x:=by rfl) (hx:Loc C.X.env.scope x:=by first | exact .inl rfl | exact .inr rfl) :
  SV C (.Assign [.Name x pos'] e pos) (ownF i f):=by
 intro pins s σ H D I ⟨ρ,B,S,h⟩;exact zyl hN hi hx he hs hf pins s σ H D I ⟨ρ,S.vw,(h.bind S.same).imp fun p _ k a H' s' n r=>k _ H' (S.setN s' n r)⟩
theorem Zeu{pins:List (Addr×Bi)}{s:AD}{σ:L2.St}{H:Hp}{B:Hp×Hp}{ρ:PSt}(i:Nat)(I:Inv C.X pins σ H s)(S:StOk C.X.K B H σ ρ):∃H',Inv C.X pins σ H' s/\StOk C.X.K B H' σ (frzF i ρ):=by
 unfold frzF
 split
 ·rename_i p e
  obtain⟨a,f,w⟩:=S.vw i _ e;obtain⟨H',I',rp,oth⟩:=L2.Inv.frz I w;exact⟨H',I',S.turn e f oth ⟨_,rfl,rp⟩⟩
 ·exact⟨H,I,S⟩
theorem SV.frz(i:Nat)(h:SV C st g):SV C st (frzS i g):=by
 intro pins s σ H D I ⟨ρ,B,S,q⟩;obtain⟨H',I',S'⟩:=Zeu i I S;exact h pins s σ H' D I' ⟨_,B,S',q⟩
def tTg(C:Cn)(h:PV->PSt->Option PSt):TG:=fun v σ H Q=>∃ρ B p ρ',StOk C.X.K B H σ ρ/\Rep C.X.K H p v/\h p ρ=some ρ'/\∀σ',StOk C.X.K B H σ' ρ'->Q σ' H
def TGt(C:Cn)(tg:Expr)(h:PV->PSt->Option PSt):Prop:=PG C.X tg (tTg C h)
def tTgs(C:Cn)(h:List PV->PSt->Option PSt):TGs:=fun vs σ H Q=>∃ρ B ps ρ',StOk C.X.K B H σ ρ/\Reps C.X.K H ps vs/\h ps ρ=some ρ'/\∀σ',StOk C.X.K B H σ' ρ'->Q σ' H
def TGts(C:Cn)(ts:List Expr)(h:List PV->PSt->Option PSt):Prop:=PGs C.X ts (tTgs C h)
theorem zax(i:Nat){x:Str}(hN:C.X.N.Nodup)(hf:C.X.fn x=true\/C.X.env.scope.names.lookup x=some .local:=by first | exact .inl rfl | exact .inr rfl | assumption)(hi:C.X.N[i]?=some x:=by rfl)(hx:Loc C.X.env.scope x:=by first | exact .inl rfl | exact .inr rfl) :
  TGt C (.Name x pos) (zai i):=by
 intro pins s σ H v u Q I r ⟨ρ,B,p,ρ',S,rp,e,k⟩;cases e;exact zgb hN hi hx hf pins s σ H v u Q I r (k _ (S.setV rp))
theorem zdt:TGts C [] nilT:=by
 intro pins s σ H vs us Q I r ⟨ρ,B,ps,ρ',S,rp,e,k⟩;cases ps with
 | nil=>cases e;cases rp;exact zo0 pins s σ H _ us Q I r ⟨rfl,k _ S⟩
 | cons _ _=>cases e
theorem za0{es:List Expr}{h:PV->PSt->Option PSt}{h':List PV->PSt->Option PSt}(h1:TGt C e h)(h2:TGts C es h')(hs:(Bb (e::es) C.X.env).map (·.2)=Dr e C.X.env::(Bb es C.X.env).map (·.2):=by rfl):TGts C (e::es) (zat h h'):=by
 intro pins s σ H vs us Q I r ⟨ρ,B,ps,ρ',S,rp,ee,k⟩;cases ps with
 | nil=>cases ee
 | cons p qs=>
  obtain⟨x,xs,rfl,rp1,rp2⟩:=rp;have ee:(h p ρ).bind (fun ρ1=>h' qs ρ1)=some ρ':=ee
  obtain⟨ρ1,e1,e2⟩:=AV.mp ee;exact zjg h1 h2 hs pins s σ H _ us Q I r ⟨x,xs,rfl,ρ,B,p,ρ1,S,rp1,e1,fun σ1 S1=>⟨ρ1,B,qs,ρ',S1,rp2,e2,k⟩⟩
end
end PU
namespace PU
open PySem PySem.Spec PyProof.Rows L2
variable[TW]
section
variable{C : Cn}{st : Stmt}{sts a b body : List Stmt}{e tg iter c : Expr}{f fk : PSt → R PV}{g g' : PSt → R Fl}{pos : C7}{t : PSt → R Bool}
theorem zfx{es:List Expr}{k n:Nat}{h:List PV->PSt->Option PSt}(hc:C.X.calm=true)(hh:TGts C es h)
  (hn:(Bb es C.X.env).length=n:=by rfl) (hst:(Bb es C.X.env).findIdx? (·.1)=none:=by rfl):TGt C (.Tuple es k pos) (tupT n h):=by
 intro pins s σ H v u Q I r ⟨ρ,B,p,ρ',S,rp,e,k⟩;cases p with
 | tup ps=>
  have e:(if ps.length=n then h ps ρ else none)=some ρ':=e
  by_cases hl:ps.length=n
  ·rw[if_pos hl] at e
   obtain⟨a,xs,rfl,hq,r1⟩:=rp;exact zs9 hc hh hn hst pins s σ H _ u Q I r ⟨a,xs,rfl,tq hq,by rw[← r1.length];exact hl,ρ,B,ps,ρ',S,r1,e,k⟩
  ·rw[if_neg hl] at e
   cases e
 | _=>cases e
def ItP(K:A0)(J:It)(H₁:Hp)(ps:List PV):Prop:=
 ∀(i:Nat)(H:Hp),Kp H₁ H->(i=ps.length->J.stop i H)/\∀p,ps[i]?=some p->J.go i H/\∀x H',J.yld i H x H'->Same H H'/\Rep K H' p x
def tI(C:Cn)(f:PSt->R (List PV)):TI:=fun σ H Q=>∃ρ,View C.X.K H σ ρ/\RQ C H (f ρ) fun ps=>∀J H',Same H H'->ItP C.X.K J H' ps->Q J H'
def EI(C:Cn)(tg iter:Expr)(f:PSt->R (List PV)):Prop:=PI C.X tg iter (tI C f)
theorem zh8{α:Type}{l:List α}{i:Nat}{x:α}(h:l[i]?=some x):l.drop i=x::l.drop (i+1):=by
 obtain⟨hl,e⟩:=AA.mp h;rw[Dw hl,e]
theorem zb8{fi:PSt->R (List PV)}{h:PV->PSt->Option PSt}(hi:EI C tg iter fi)(hg:TGt C tg h)(hb:SVs C body g)
  (hs:∀x,C6 iter C.X.env x=pure x:=by intro _;rfl) (hp:FJ (Ap C.X.prog C.X.w) C.X.A C.X.env C.X.xe:=by exact E2) (hc:C.X.calm=true:=by rfl):SV C (.For tg iter body [] pos) (forS fi h g):=by
 intro pins s σ H D I ⟨ρ,B,S,q⟩;refine zs2 hp hc hi hg hb hs pins s σ H D I ⟨ρ,S.vw,(q.bind S.same).imp fun ps _ k J H1 s1 it=>?_⟩
 refine⟨fun i m σ' H'=>∃ρ',m=ps.length-i/\i<=ps.length/\StOk C.X.K (B.1,H1) H' σ' ρ'/\RS C B D (forF h g (ps.drop i) ρ'),⟨ps.length,ρ,rfl,B3 _,(S.grow s1).rebase (Kp.refl H1),by simpa using k⟩,?_⟩
 rintro i m σ' H' ⟨ρ',rfl,hi',S',q'⟩;have back:∀{σ2:L2.St}{H2:Hp}{ρ2:PSt},StOk C.X.K (B.1,H1) H2 σ2 ρ2->StOk C.X.K B H2 σ2 ρ2:=fun {σ2 H2 ρ2} S2=>⟨S2.len,S2.same,(S.kp.trans (Same.kp s1)).trans S2.kp,S2.vw,S2.fresh,S2.apart,S2.pinned⟩
 obtain⟨stp,stepp⟩:=it i H' S'.kp
 by_cases hlt:i<ps.length
 ·have ei:ps[i]?=some ps[i]:=by simp[hlt]
  obtain⟨go,yl⟩:=stepp _ ei;rw[zh8 ei] at q';obtain⟨ρ1,e1,q1⟩:=RS.ofO q';refine .inr ⟨go,fun σ2 H2=>∃ρ2,StOk C.X.K (B.1,H1) H2 σ2 ρ2/\RS C B D (forF h g (ps.drop (i+1)) ρ2),fun σ2 H2 ⟨ρ2,S2,r2⟩=>⟨ps.length-(i+1),by omega,ρ2,rfl,hlt,S2,r2⟩,fun x H2 y=>?_⟩
  obtain⟨s2,rp⟩:=yl x H2 y;refine⟨ρ',(B.1,H1),ps[i],ρ1,S'.grow s2,rp,e1,fun σ3 S3=>⟨ρ1,(B.1,H1),S3,?_⟩⟩
  cases hgr:g ρ1 with
  | ok fl=>
   rw[hgr] at q1;cases fl with
   | next ρ2=>exact fun σ4 H4 S4=>⟨ρ2,S4,q1⟩
   | cont ρ2=>exact fun σ4 H4 S4=>⟨ρ2,S4,q1⟩
   | brk ρ2=>exact fun σ4 H4 S4=>q1 σ4 H4 (back S4)
   | ret p=>exact q1
  | er x=>rw[hgr] at q1;exact q1
  | no=>rw[hgr] at q1;exact q1
 ·have e:i=ps.length:=by omega
  subst e;rw[CV] at q';exact .inl ⟨stp rfl,q' σ' H' (back S')⟩
end
end PU
namespace PU
open PySem PySem.Spec PyProof.Rows L2
variable[TW]
def spP(K:A0)(n:Nat)(F:List PV->Option PV):Sp:=fun vs H Q _=>vs.length=n/\Tabs H/\∃ps p,Reps K H ps vs/\F ps=some p/\∀v H',Same H H'->Rep K H' p v->Q v H'
structure PF(P:Ak)(w:Ar)(K:A0)(mg:Str->Option A9)(base:Heap)(k:Nat)(x:Str)(F:List PV->Option PV):Prop where
 ex:∃(f:Addr)(fd:By)(ps:List Str),FnOk P w K mg base CX0 k f fd ps (spP K ps.length F)/\mg x=some (.ref f)/\CA K (.ref f)=true/\Binds K fd ps []/\∀qs p,F qs=some p->qs.length=ps.length
section
variable{C : Cn}{e : Expr}{es : List Expr}{fs : PSt → R (List PV)}{x : Str}{k : Nat}{F : List PV → Option PV}{p pos : C7}
theorem zaj(G:PF C.X.prog C.X.w C.X.K C.X.mg C.X.base k x F){kr:Nat}(hr:Room kr C.X.A)(ha:EA C (e::es) fs)
  (hdb:(x == ("__debug__":Str))=false:=by decide) (he:Ad (e::es) C.X.env=(false,BR e C.X.env)::Ad es C.X.env:=by exact zcq rfl) (hpl:(DH pos (Ad es C.X.env)).any (·.1)=false:=by exact zjf rfl) (hk:k<=kr:=by decide) (hg:Gl C.X x:=by exact rfl) :
  EV C (.Call (.Name x p) (e::es) [] pos) (zaz fs F):=by
 replace hr:=hr.mono hk;obtain⟨f,fd,ps,a,b,c,d,l⟩:=G.ex;intro pins s σ H Q I ⟨ρ,vw,q⟩;refine ztb (dvs:=[]) (ds:=[]) (E:=E0) a hr hg b c d .nil pass0 ha hdb he hpl pins s σ H Q I ⟨ρ,vw,q.bind.imp fun qs _ k vs H1 s1 r1=>?_⟩
 obtain⟨z,ez,k⟩:=k.ofO;rw[BY];exact⟨by rw[← r1.length];exact l qs z ez,s1.tabs vw.tb,qs,z,r1,ez,fun v H' s' r'=>k v H' (s1.trans s') r'⟩
end
section
variable{P : Ak}{w : Ar}{K : A0}{mg : Str → Option A9}{base : Heap}
abbrev cnOf(P:Ak)(w:Ar)(K:A0)(mg:Str->Option A9)(base:Heap)(N:List Str)(qual:Str)(sc:Scope)(f:Addr)(cdv:A9)(A:B0)(outer:List FY)(s:AD)(H:Hp)(E:XK):Cn:=
 ⟨(cxOf CX0 P w K mg base N qual sc f cdv A outer s H E).nox,fun _ _=>False⟩
theorem zyr{ps:List PV}{n i:Nat}{p:PV}(e:(start n ps)[i]?=some (.own p)):False:=by
 unfold start at e
 by_cases hi:i<ps.length
 ·rw[Ae (by simpa using hi),AG] at e
  cases h:ps[i]? with
  | none=>rw[h] at e;cases e
  | some p=>rw[h] at e;cases e
 ·rw[As (by simpa using hi),BA] at e
  split at e <;> cases e
theorem Zdy{n i:Nat}{ps qs:List PV}{a:Addr}(e:(start n ps)[i]?=some (.pin qs a)):False:=by
 unfold start at e
 by_cases hi:i<ps.length
 ·rw[Ae (by simpa using hi),AG] at e
  cases h:ps[i]? with
  | none=>rw[h] at e;cases e
  | some p=>rw[h] at e;cases e
 ·rw[As (by simpa using hi),BA] at e
  split at e <;> cases e
theorem zje{K:A0}{H:Hp}{N:List Str}{ps:List PV}{vs:List V}(tb:Tabs H)(r:Reps K H ps vs):StOk K (H,H) H (L2.start N vs) (start N.length ps):=by
 have hl:=r.length;refine⟨by simp[start,L2.start,hl],Same.refl H,Kp.refl H,⟨fun i l e=>?_,tb⟩,fun i p a e f=>?_,fun i j p q a e1 e2 f1 f2=>?_,fun i qs a e=>?_⟩
 ·unfold start at e
  by_cases hi:i<ps.length
  ·rw[Ae (by simpa using hi),AG] at e
   cases h:ps[i]? with
   | none=>rw[h] at e;cases e
   | some p=>
    rw[h] at e;cases e;obtain⟨v,ev,rp⟩:=r.get h;refine⟨v,?_,rp⟩;unfold L2.start;rw[Ae (by rw[AI,← hl];exact hi),AG,ev]
    rfl
  ·rw[As (by simpa using hi),BA] at e
   split at e
   ·cases e
    exact trivial
   ·cases e
 all_goals exfalso
 ·exact zyr e
 ·exact zyr e1
 ·exact Zdy e
theorem Zgz{x qual:Str}{st:Stmt}{f:Addr}{fd:By}{N ps:List Str}{k:Nat}{g:PSt->R Fl}(F:Fun K x qual st f fd)(S:FnScope N ps (zad st))(hm:mg x=some (.ref f))(hb:Binds K fd ps [])
  (hbody:∀(cdv:A9)(A:B0)(outer:List FY)(s:AD)(H:Hp)(E:XK),Room k (A.deeper (DY qual (zad st) s.heap.objs.size f cdv))->SVs (cnOf P w K mg base N qual (zad st) f cdv A outer s H E) (zbr st) g) :
  PF P w K mg base (k+1) x (runF ps.length N.length g):=by
 refine⟨f,fd,ps,F.ok S (fun vs H Q E h=>h.1) (fun cdv A outer s H vs Q E hr h=>?_),hm,F.kp,hb,fun qs p h=>?_⟩
 ·obtain⟨hl,tb,qs,p,r,e,k⟩:=h
  refine⟨_,hbody cdv A outer s H E hr,start N.length qs,(H,H),zje tb r,?_⟩;unfold runF at e;rw[if_pos (by rw[r.length];exact hl)] at e
  cases hg:g (start N.length qs) with
  | ok fl=>
   rw[hg] at e;cases fl with
   | next ρ=>cases e;exact fun σ H' S'=>k .non H' S'.same rfl
   | ret q=>cases e;exact fun v H' s' r'=>k v H' s' r'
   | brk ρ=>cases e
   | cont ρ=>cases e
  | er x=>rw[hg] at e;cases e
  | no=>rw[hg] at e;cases e
 ·unfold runF at h
  split at h
  ·rename_i hl;exact hl
  ·cases h
end
end PU
namespace PU
open PySem PySem.Spec PyProof.Rows L2
variable[TW]
def zbi(X:Cx)(N':List Str)(scope:Scope)(cl:List (Str×Addr))(L:Addr)(s₂:AD)(H₂:Hp)(fp:List Addr):Cx where
 prog:=X.prog
 w:=X.w
 K:=X.K
 mg:=X.mg
 base:=X.base
 A:=X.A
 N:=N'
 s₀:=s₂
 H₀:=H₂
 env:=Em scope cl L X.env
 outer:=X.stack
 stack:=X.stack
 ex:=fp
 fn:=fun _=>false
 calm:=true
 pn:=[]
 xe:=fun _ _=>False
abbrev zcl(C:Cn)(N':List Str)(scope:Scope)(cl:List (Str×Addr))(L:Addr)(s₂:AD)(H₂:Hp)(fp:List Addr):Cn:=⟨zbi C.X N' scope cl L s₂ H₂ fp,fun _ _=>False⟩
def tTc(C:Cn)(h:Tgt):TG:=fun v σ H Q=>∃ρ p ρ',ρ.length=σ.length/\View C.X.K H σ ρ/\Rep C.X.K H p v/\h p ρ=some ρ'/\∀σ',ρ'.length=σ'.length->View C.X.K H σ' ρ'->Q σ' H
def TCt(C:Cn)(tg:Expr)(h:Tgt):Prop:=PG C.X tg (tTc C h)
def tTcs(C:Cn)(h:Tgts):TGs:=fun vs σ H Q=>∃ρ ps ρ',ρ.length=σ.length/\View C.X.K H σ ρ/\Reps C.X.K H ps vs/\h ps ρ=some ρ'/\∀σ',ρ'.length=σ'.length->View C.X.K H σ' ρ'->Q σ' H
def TCts(C:Cn)(ts:List Expr)(h:Tgts):Prop:=PGs C.X ts (tTcs C h)
theorem View.setV{K:A0}{H:Hp}{σ:L2.St}{ρ:PSt}{i:Nat}{p:PV}{v:V}(vw:View K H σ ρ)(hl:ρ.length=σ.length)(r:Rep K H p v):View K H (σ.set i (some v)) (ρ.set i (.val p)):=by
 refine⟨fun j l e=>?_,vw.tb⟩
 rcases zcm e with⟨rfl,rfl,hl2⟩|⟨hj,e⟩
 ·exact⟨v,zd8 (by rw[← hl];exact hl2),r⟩
 ·rw[zbk hj]
  exact vw j l e
section
variable{C : Cn}{e : Expr}{pos : C7}
theorem zsl(i:Nat){x:Str}(hN:C.X.N.Nodup)(hi:C.X.N[i]?=some x)(hx:Loc C.X.env.scope x)(hf:C.X.fn x=true\/C.X.env.scope.names.lookup x=some .local:=by first | exact .inl rfl | exact .inr rfl | assumption) :
  TCt C (.Name x pos) (zai i):=by
 intro pins s σ H v u Q I r ⟨ρ,p,ρ',hl,vw,rp,e,k⟩;cases e;exact zgb hN hi hx hf pins s σ H v u Q I r (k _ (by simp[hl]) (vw.setV hl rp))
theorem zlx:TCts C [] nilT:=by
 intro pins s σ H vs us Q I r ⟨ρ,ps,ρ',hl,vw,rp,e,k⟩;cases ps with
 | nil=>cases e;cases rp;exact zo0 pins s σ H _ us Q I r ⟨rfl,k _ hl vw⟩
 | cons _ _=>cases e
theorem zen{es:List Expr}{h:Tgt}{h':Tgts}(h1:TCt C e h)(h2:TCts C es h')(hs:(Bb (e::es) C.X.env).map (·.2)=Dr e C.X.env::(Bb es C.X.env).map (·.2):=by rfl):TCts C (e::es) (zat h h'):=by
 intro pins s σ H vs us Q I r ⟨ρ,ps,ρ',hl,vw,rp,ee,k⟩;cases ps with
 | nil=>cases ee
 | cons p qs=>
  obtain⟨x,xs,rfl,rp1,rp2⟩:=rp;have ee:(h p ρ).bind (fun ρ1=>h' qs ρ1)=some ρ':=ee
  obtain⟨ρ1,e1,e2⟩:=AV.mp ee;exact zjg h1 h2 hs pins s σ H _ us Q I r ⟨x,xs,rfl,ρ,p,ρ1,hl,vw,rp1,e1,fun σ1 hl1 vw1=>⟨ρ1,qs,ρ',hl1,vw1,rp2,e2,k⟩⟩
theorem zpu{es:List Expr}{k n:Nat}{h:Tgts}(hc:C.X.calm=true)(hh:TCts C es h)
  (hn:(Bb es C.X.env).length=n:=by rfl) (hst:(Bb es C.X.env).findIdx? (·.1)=none:=by rfl):TCt C (.Tuple es k pos) (tupT n h):=by
 intro pins s σ H v u Q I r ⟨ρ,p,ρ',hl,vw,rp,e,k⟩;cases p with
 | tup ps=>
  have e:(if ps.length=n then h ps ρ else none)=some ρ':=e
  by_cases hl2:ps.length=n
  ·rw[if_pos hl2] at e
   obtain⟨a,xs,rfl,hq,r1⟩:=rp;exact zs9 hc hh hn hst pins s σ H _ u Q I r ⟨a,xs,rfl,tq hq,by rw[← r1.length];exact hl2,ρ,ps,ρ',hl,vw,r1,e,k⟩
  ·rw[if_neg hl2] at e
   cases e
 | _=>cases e
end
def LowT(n:Nat)(h:Tgt):Prop:=∀p ρ ρ1,h p ρ=some ρ1->ρ1.length=ρ.length/\∀i,n<=i->ρ1[i]?=ρ[i]?
def zx3(n:Nat)(h:Tgts):Prop:=∀p ρ ρ1,h p ρ=some ρ1->ρ1.length=ρ.length/\∀i,n<=i->ρ1[i]?=ρ[i]?
theorem zjj{n i:Nat}(h:i<n):LowT n (zai i):=fun p ρ ρ1 e=>by
 cases e;exact⟨by simp,fun j hj=>zbk (by omega)⟩
theorem zo7{n:Nat}:zx3 n nilT:=fun ps ρ ρ1 e=>by
 cases ps with
 | nil=>cases e;exact⟨rfl,fun _ _=>rfl⟩
 | cons _ _=>cases e
theorem zmq{n:Nat}{h:Tgt}{h':Tgts}(a:LowT n h)(b:zx3 n h'):zx3 n (zat h h'):=fun ps ρ ρ2 e=>by
 cases ps with
 | nil=>cases e
 | cons p qs=>
  have e:(h p ρ).bind (fun ρ1=>h' qs ρ1)=some ρ2:=e
  obtain⟨ρ1,e1,e2⟩:=AV.mp e;obtain⟨l1,g1⟩:=a p ρ ρ1 e1;obtain⟨l2,g2⟩:=b qs ρ1 ρ2 e2;exact⟨l2.trans l1,fun i hi=>(g2 i hi).trans (g1 i hi)⟩
theorem zo6{n m:Nat}{h:Tgts}(a:zx3 n h):LowT n (tupT m h):=fun p ρ ρ1 e=>by
 cases p with
 | tup ps=>
  have e:(if ps.length=m then h ps ρ else none)=some ρ1:=e
  split at e
  ·exact a ps ρ ρ1 e
  ·cases e
 | _=>cases e
def ETs(C:Cn)(ifs:List Expr)(t:PSt->R Bool):Prop:=(ifs=[]/\t=yesB)\/∃c,ifs=[c]/\ET C c t
theorem zpl{C:Cn}:ETs C [] yesB:=.inl ⟨rfl,rfl⟩
theorem zu0{C:Cn}{c:Expr}{t:PSt->R Bool}(h:ET C c t):ETs C [c] t:=.inr ⟨c,rfl,h⟩
def clOf(cells:List (Str×Addr)):List (Str×CZ)->List (Str×Addr)->List (Str×Addr)
 | [],acc=>acc
 | (n,k)::r,acc=>if (k == .free)=true then (match cells.lookup n with
  | some c=>clOf cells r ((n,c)::acc)
  | none=>clOf cells r acc) else clOf cells r acc
theorem zbv{scope:Scope}{env:FY}(h:∀y∈scope.names,y.2=.free->∃c,env.cells.lookup y.1=some c):closureFor scope env=pure (clOf env.cells scope.names []):=by
 have gen:∀(l:List (Str×CZ))(acc:List (Str×Addr)),(∀y∈l,y.2=.free->∃c,env.cells.lookup y.1=some c)->
   (forIn l acc fun x r=>(match x with | (name,kind)=>if (kind == BH)=true then do let a<- Gi env name;pure (Bl ((name,a)::r)) else pure (Bl r):Sem (ForInStep (List (Str×Addr)))))=pure (clOf env.cells l acc):=by
  intro l
  induction l with
  | nil=>intro acc _;rfl
  | cons y r ih=>
   intro acc hy;obtain⟨n,k⟩:=y;rw[List.forIn_cons];have hr:=fun z hz=>hy z (Ah _ hz)
   by_cases hk:(k == BH)=true
   ·obtain⟨c,hc⟩:=hy (n,k) Ai (by simpa using hk)
    have hc:env.cells.lookup n=some c:=hc;have e1:Gi env n=pure c:=by unfold Gi;rw[hc]
    simp only[hk,if_true,e1,clOf,hc];exact ih _ hr
   ·simp only[hk,if_false,clOf]
    exact ih _ hr
 have:=gen scope.names [] h;have e:closureFor scope env=((forIn scope.names ([]:List (Str×Addr)) fun x r=>(match x with | (name,kind)=>if (kind == BH)=true then do let a<- Gi env name;pure (Bl ((name,a)::r)) else pure (Bl r):Sem (ForInStep (List (Str×Addr))))) >>= fun cs=>pure cs):=rfl
 rw[e,this];rfl
theorem zcc{cells:List (Str×Addr)}{x:Str}{c:Addr}:∀{l:List (Str×CZ)}{acc:List (Str×Addr)},(clOf cells l acc).lookup x=some c->cells.lookup x=some c\/acc.lookup x=some c
 | [],acc,h=>.inr h
 | (n,k)::r,acc,h=>by
  unfold clOf at h;split at h
  ·split at h
   ·rename_i d hd
    rcases zcc h with z | z
    ·exact .inl z
    ·rw[Aq] at z
     by_cases e:(x == n)=true
     ·rw[e] at z
      cases z;rw[D3 e];exact .inl hd
     ·simp only[DR] at e
      rw[e] at z;exact .inr z
   ·exact zcc h
  ·exact zcc h
theorem zic{cells:List (Str×Addr)}{x:Str}:∀{l:List (Str×CZ)}{acc:List (Str×Addr)},(acc.lookup x).isSome=true->((clOf cells l acc).lookup x).isSome=true
 | [],acc,h=>h
 | (n,k)::r,acc,h=>by
  unfold clOf
  split
  ·split
   ·refine zic ?_
    rw[Aq]
    split
    ·rfl
    ·exact h
   ·exact zic h
  ·exact zic h
theorem zq0{cells:List (Str×Addr)}{x:Str}{c:Addr}(hc:cells.lookup x=some c):∀{l:List (Str×CZ)}{acc:List (Str×Addr)},(x,BH)∈l->(clOf cells l acc).lookup x=some c:=by
 have fin:∀{l:List (Str×CZ)}{acc:List (Str×Addr)},(∀d,acc.lookup x=some d->d=c)->((clOf cells l acc).lookup x).isSome=true->(clOf cells l acc).lookup x=some c:=fun {l acc} ha h=>by
  obtain⟨d,hd⟩:=G9.mp h;rcases zcc hd with z | z
  ·rw[hc] at z;cases z;exact hd
  ·rw[hd,ha d z]
 intro l
 induction l with
 | nil=>intro acc h;cases h
 | cons y r ih=>
  intro acc h;obtain⟨n,k⟩:=y;have rest:∀acc,(x,BH)∈r->(clOf cells r acc).lookup x=some c:=fun acc hr=>ih hr
  rcases AU.mp h with z | z
  ·cases z
   unfold clOf;rw[if_pos (show (BH == BH)=true from rfl),hc];show (clOf cells r ((x,c)::acc)).lookup x=some c;have hs:(((x,c)::acc).lookup x)=some c:=by rw[Aq,beq_self_eq_true]
   exact fin (fun d hd=>by rw[hs] at hd;cases hd;rfl) (zic (by rw[hs];rfl))
  ·unfold clOf
   split
   ·split
    ·exact rest _ z
    ·exact rest _ z
   ·exact rest _ z
theorem zg4{env:FY}{x:Str}:∀{names:List (Str×CZ)},names.lookup x=some .free->
  (names.map fun (n,k)=>if (k == BH && env.scope.kind == .function && env.kindOf n == some .cell) then (n,Eo) else (n,k)).lookup x=some .cell ∨
  (names.map fun (n,k)=>if (k == BH && env.scope.kind == .function && env.kindOf n == some .cell) then (n,Eo) else (n,k)).lookup x=some .free
 | [],h=>by simp at h
 | (n,k)::r,h=>by
  have ih:=@zg4 env x r;cases hx:x == n with
  | true=>
   simp only[Aq,hx] at h;cases h
   by_cases hc:(BH == BH && env.scope.kind == .function && env.kindOf n == some .cell)=true
   ·left
    simp only[AE,hc,if_true,Aq,hx]
   ·right
    simp only[DR] at hc;simp only[AE,hc,BW,if_false,Aq,hx]
  | false=>
   simp only[Aq,hx] at h
   by_cases hc:(k == BH && env.scope.kind == .function && env.kindOf n == some .cell)=true
   ·simp only[AE,hc,if_true,Aq,hx]
    exact ih h
   ·simp only[DR] at hc
    simp only[AE,hc,Aq,BW,if_false,hx];exact ih h
theorem zgw{prog:Ak}{w:Ar}{A:B0}{R:Gn->AD->Prop}{s:AD}{elt target iter:Expr}{ifs:List Expr}{scope:Scope}{pos:C7}{it acc:A9}{env:FY}(I:Nat->AD->Prop)
  (turn:∀n s,I n s->Af (Ap prog w) A (Ec it) (fun r s₁=>match r with
   | none=>R (.ok .next) s₁
   | some v=>Af (Ap prog w) A (F3 target it v) (fun _ s₁=>Af (Ap prog w) A (Dr target env v) (fun _ s₂=>
     Af (Ap prog w) A (forIn ifs true fun c r=>if r=true then do let ok<- isTrue c env (BR c env);pure (Bl ok) else pure (Bl r)) (fun ok s₃=>
      if ok=true then Af (Ap prog w) A (BR elt env) (fun x s₄=>
       Af (Ap prog w) A (call (.builtin "list.append") [acc,x]) (fun _ s₅=>∃m,m<n/\I m s₅) (fun _ _=>False) s₄) (fun _ _=>False) s₃
      else ∃m,m<n/\I m s₃) (fun _ _=>False) s₂) (fun _ _=>False) s₁) (fun _ _=>False) s₁) (fun _ _=>False) s)
  (n:Nat) (h:I n s) :
  D0 (Ap prog w) A (.compLoop (.ListComp elt [⟨target,iter,ifs,0⟩] scope pos) 0 it acc env) R s:=by
 refine codeAny_loop rfl I (fun n s hI=>?_) n h
 show Af _ A ((compTurn (.ListComp elt [⟨target,iter,ifs,0⟩] scope pos) 0 it acc env).onRaise (fun x=>do noteFrame x env;theTreesLotGoes x)) _ _ s
 refine wpAny_noted ?_;rw[compTurn_list];refine AB (FX (AB (C9 (turn n s hI) (fun r s₁ h₁=>?_) fun _ _ h'=>h'.elim)))
 cases r with
 | none=>exact AH h₁
 | some v=>
  refine AB (C9 h₁ (fun _ s₁ h₁=>?_) fun _ _ h'=>h'.elim)
  refine AB (C9 h₁ (fun _ s₂ h₂=>AB (C9 h₂ (fun ok s₃ h₃=>?_) fun _ _ h'=>h'.elim)) fun _ _ h'=>h'.elim)
  cases ok with
  | false=>exact AH ⟨rfl,h₃⟩
  | true=>
   exact AB (AB (C9 h₃ (fun x s₄ h₄=>AB (C9 h₄ (fun _ s₅ h₅=>AH (AH ⟨rfl,h₅⟩)) fun _ _ h'=>h'.elim)) fun _ _ h'=>h'.elim))
end PU
namespace PU
open PySem PySem.Spec PyProof.Rows L2
variable[TW]
structure CompOk(NX:List Str)(scX:Scope)(scope:Scope)(N':List Str)(nt:Nat)(idx:List Nat):Prop where
 kind:scope.kind=.function
 cell:∀y∈scope.names,y.2≠.cell
 names:∀y∈scope.names,y.2=.local->scope.names.lookup y.1=some .local
 free:∀y∈scope.names,y.2=.free->scX.names.lookup y.1=some .cell\/scX.names.lookup y.1=some .free
 len:N'.length=nt+idx.length
 ix:(idx.zip (N'.drop nt)).all (fun p=>decide (NX[p.1]?=some p.2) && decide (scope.names.lookup p.2=some .free))=true
theorem CompOk.at{NX:List Str}{scX:Scope}{scope:Scope}{N':List Str}{nt:Nat}{idx:List Nat}(O:CompOk NX scX scope N' nt idx){k:Nat}{x:Str}(h:N'[nt+k]?=some x) :
  ∃i,idx[k]?=some i/\NX[i]?=some x/\scope.names.lookup x=some .free:=by
 have hk:k<idx.length:=by
  have:=(AA.mp h).1;have:=O.len;omega
 have e1:idx[k]?=some idx[k]:=by simp[hk]
 have e2:(N'.drop nt)[k]?=some x:=by rw[List.getElem?_drop];exact h
 have e3:(idx.zip (N'.drop nt))[k]?=some (idx[k],x):=by
  rw[GG];exact⟨e1,e2⟩
 have:=Cr.mp O.ix _ (AS e3);simp only[BJ,decide_eq_true_eq] at this;exact⟨_,e1,this.1,this.2⟩
section
variable{C : Cn}{elt tg iter : Expr}{ifs : List Expr}{scope : Scope}{pos : C7}{N' : List Str}{nt : Nat}{idx : List Nat}{h : Tgt}{t : PSt → R Bool}{fe : PSt → R PV}
theorem ziy{pins:List (Addr×Bi)}{σ:L2.St}{H₂:Hp}{s₂:AD}{J:It}{fp:List Addr}{it:Addr}{tn:Nat->Heap->Prop}{ρ:PSt}(O:CompOk C.X.N C.X.env.scope scope N' nt idx)(hc:C.X.calm=true)
  (I:Inv C.X pins σ H₂ s₂) (T:Turn C.X.prog C.X.w C.X.K tg J fp it tn) (st:tn 0 s₂.heap) (hf:∀b∈fp,FpOk C.X pins H₂ b) (vw:View C.X.K H₂ σ ρ)
  {L D:Addr} {h₁:Heap} {tk:Nat} (hD:D=s₂.heap.objs.size) (hL:s₂.heap.objs.size<=L) (hDL:D≠L) (ns:h₁.Ns L (fun _=>none)) (keep:∀b o,s₂.heap.get? b=some o->h₁.get? b=some o)
  (acc:h₁.get? D=some { cls:=.type "list",data:=.seq ([]:List A9).toArray }) :
  ∃σ',Inv (zbi C.X N' scope (clOf C.X.env.cells scope.names []) L s₂ H₂ fp) [] σ' (upd H₂ D (.lst [])) { s₂ with heap:=h₁,toks:=tk }/\View C.X.K (upd H₂ D (.lst [])) σ' (zbh nt idx ρ)/\(zbh nt idx ρ).length=σ'.length/\
   ∀b∈fp,b<s₂.heap.objs.size:=by
 have fl:∀b∈fp,b<s₂.heap.objs.size:=fun b hb=>by
  obtain⟨o,e,_⟩:=T.obj 0 _ st b hb;exact AL e
 have nD:H₂ D=none:=by rw[hD];exact I.fresh
 have frC:∀y∈scope.names,y.2=.free->∃c,C.X.env.cells.lookup y.1=some c:=fun y hy hk=>I.ok.has y.1 (O.free y hy hk)
 have clS:∀x c,(clOf C.X.env.cells scope.names []).lookup x=some c->C.X.env.cells.lookup x=some c:=fun x c e=>by
  rcases zcc e with z | z
  ·exact z
  ·cases z
 have cne:∀x c,(clOf C.X.env.cells scope.names []).lookup x=some c->c<s₂.heap.objs.size:=fun x c e=>by
  obtain⟨v,q⟩:=I.cell x c (clS x c e);exact q.lt
 refine⟨B4 nt none++idx.map (fun i=>(σ[i]?).getD none),⟨⟨I.ok.mod,O.kind,I.ok.glob,I.ok.blt,hL,fun x y c e1 e2=>I.ok.inj x y c (clS x c e1) (clS y c e2),fun x hx=>?_,(fun x c z=>absurd (show false=true from z) AM),fun _=>I.ok.hd hc,I.ok.frames,.inl rfl,
  fun b hb=>⟨AZ (AR (fl b hb) hL),fun x c e=>(hf b hb).2.2.2.2.1 x c (clS x c e)⟩,I.bs,B9 I.ok.bsz I.sz,fun b o e hb=>?_,fun b hb z=>?_,I.stack,I.stkFree⟩,
  rfl,I.bare,Un.laid keep (Gs hD.symm) nD,⟨_,ns,fun i x v hN hσ hv=>?_⟩,fun x c e=>?_,?_,fun x c e=>?_,fun p hp=>absurd (show p∈([]:List (Addr×Bi)) from hp) (by simp),?_,?_⟩,?_,?_,fl⟩
 ·-- has
  have hx:(HY scope C.X.env).names.lookup x=some .cell\/(HY scope C.X.env).names.lookup x=some .free:=hx
  have:scope.names.lookup x=some .free:=by
   have gen:∀(l:List (Str×CZ)),(∀y∈l,y.2≠.cell)->((l.map fun (n,k)=>if (k == BH && C.X.env.scope.kind == .function && C.X.env.kindOf n == some .cell) then (n,Eo) else (n,k)).lookup x=some .cell ∨
     (l.map fun (n,k)=>if (k == BH && C.X.env.scope.kind == .function && C.X.env.kindOf n == some .cell) then (n,Eo) else (n,k)).lookup x=some .free)->l.lookup x=some .free:=by
    intro l
    induction l with
    | nil=>intro _ z;simp at z
    | cons y r ih=>
     intro hy z;obtain⟨n,k⟩:=y;have hk:k≠.cell:=hy (n,k) Ai;have ih:=ih fun y' hy'=>hy y' (Ah _ hy')
     rw[Aq]
     by_cases hc':(k == BH && C.X.env.scope.kind == .function && C.X.env.kindOf n == some .cell)=true
     ·simp only[AE,hc',if_true,Aq] at z
      cases hx':x == n with
      | true=>
       have:k=.free:=by
        simp only[BJ] at hc';exact D3 hc'.1.1
       rw[this]
      | false=>
       rw[hx'] at z;exact ih z
     ·simp only[DR] at hc'
      simp only[AE,hc',BW,if_false,Aq] at z;cases hx':x == n with
      | true=>
       rw[hx'] at z;rcases z with z | z
       ·cases z;exact absurd rfl hk
       ·cases z;rfl
      | false=>
       rw[hx'] at z;exact ih z
   exact gen scope.names O.cell hx
  obtain⟨c,e⟩:=frC (x,.free) (Ax this) rfl;exact⟨c,zq0 e (Ax this)⟩
 ·-- noex
  obtain⟨e1,e2⟩:=I.bs b o e;obtain⟨g1,g2,g3,g4,_⟩:=hf b hb;rcases g4 with z | z
  ·exact I.ok.noex b o e z
  ·exact absurd (AL (I.ok.bs b o e).1) (Ee.mpr z)
 ·-- exfs
  obtain⟨g1,g2,g3,_⟩:=hf b hb;exact(AU.mp (I.stkSub b z)).elim g2 g3
 ·-- loc
  by_cases hi:i<nt
  ·rw[Ae (by simpa using hi),BA,if_pos hi] at hσ
   cases hσ
  ·obtain⟨k,rfl⟩:∃k,i=nt+k:=⟨i-nt,by omega⟩
   have hN:N'[nt+k]?=some x:=hN;obtain⟨j,ej,ex,el⟩:=O.at hN;rw[As (by simp),Bv,GY,AG,ej] at hσ
   have hσ:some ((σ[j]?).getD none)=some (some v):=hσ
   have hσ:σ[j]?=some (some v):=by
    cases q:σ[j]? with
    | none=>rw[q] at hσ;cases hσ
    | some z=>rw[q] at hσ;cases hσ;rfl
   obtain⟨m,hn,hl⟩:=I.loc;have hfr:=O.free (x,.free) (Ax el) rfl;obtain⟨u,ru,lk⟩:=hl j x v ex hσ (by rcases hfr with z | z;exact .inr (.inl z);exact .inr (.inr z))
   refine⟨u,ru,.inr ?_⟩;rcases lk with⟨z,_⟩|⟨_,c,ec,hcell⟩
   ·exfalso
    have z:C.X.env.scope.names.lookup x=some .local:=z;rcases hfr with q | q <;> (rw[show C.X.env.scope.names.lookup x=_ from q] at z;cases z)
   ·refine⟨zg4 (env:=C.X.env) el,c,zq0 ec (Ax el),?_⟩
    obtain⟨o,ho,hd⟩:=hcell;exact⟨o,keep c o ho,hd⟩
 ·obtain⟨v,o,ho,hd⟩:=I.cell x c (clS x c e)
  exact⟨v,o,keep c o ho,hd⟩
 ·-- free
  show upd H₂ D _ L=none;rw[zal (Bc hDL)];exact I.hok.fresh hL
 ·show upd H₂ D _ c=none
  rw[zal (by rw[hD];exact AZ (cne x c e))]
  exact I.freeC x c (clS x c e)
 ·exact I.hok.laid keep (Gs hD.symm) ⟨by simp,[],0,.nil,acc⟩
 ·show _=N'.length
  rw[O.len];simp
 ·refine⟨fun i l e=>?_,(Same.new (o:=.lst []) nD).tabs vw.tb⟩
  unfold zbh at e
  by_cases hi:i<nt
  ·rw[Ae (by simpa using hi),BA,if_pos hi] at e
   cases e;exact trivial
  ·obtain⟨k,rfl⟩:∃k,i=nt+k:=⟨i-nt,by omega⟩
   rw[As (by simp),Bv,GY,AG] at e ⊢
   cases ej:idx[k]? with
   | none=>rw[ej] at e;cases e
   | some j=>
    rw[ej] at e;have e:some (roS ρ[j]?)=some l:=e;cases e;cases q:ρ[j]? with
    | none=>exact trivial
    | some l'=>
     have:=(vw j l' q).same (Same.new (o:=.lst []) nD);cases l' with
     | no=>exact trivial
     | val p=>
      obtain⟨v,ev,r⟩:=this;exact⟨v,by show some ((σ[j]?).getD none)=_;rw[ev];rfl,r⟩
     | own p=>exact trivial
     | pin qs a=>exact trivial
 ·simp[zbh]
theorem zlu{ρ:PSt}{p:PV}{ps rest:List PV}(e:zci h t fe ρ (p::ps)=.ok rest):∃ρ1 b,h p ρ=some ρ1/\t ρ1=.ok b/\
  ((b=true/\∃q r,fe ρ1=.ok q/\zci h t fe ρ ps=.ok r/\rest=q::r)\/(b=false/\zci h t fe ρ ps=.ok rest)):=by
 unfold zci at e;cases h1:h p ρ with
 | none=>rw[h1] at e;cases e
 | some ρ1=>
  rw[h1] at e;simp only[R.ofO_some,R.ok_bind] at e;cases h2:t ρ1 with
  | ok b=>
   rw[h2] at e;simp only[R.ok_bind] at e;refine⟨ρ1,b,rfl,h2,?_⟩;cases b with
   | true=>
    rw[if_pos rfl] at e;cases h3:fe ρ1 with
    | ok q=>
     rw[h3] at e;simp only[R.ok_bind] at e;cases h4:zci h t fe ρ ps with
     | ok r=>
      rw[h4] at e;cases e;exact .inl ⟨rfl,q,r,rfl,rfl,rfl⟩
     | er x=>rw[h4] at e;cases e
     | no=>rw[h4] at e;cases e
    | er x=>rw[h3] at e;cases e
    | no=>rw[h3] at e;cases e
   | false=>
    rw[if_neg AM] at e;exact .inr ⟨rfl,e⟩
  | er x=>rw[h2] at e;cases e
  | no=>rw[h2] at e;cases e
theorem View.weak{K:A0}{H:Hp}{σ:L2.St}{ρ ρ1:PSt}{n:Nat}(vw:View K H σ ρ1)(low:∀i,n<=i->ρ1[i]?=ρ[i]?)(no:∀i l,i<n->ρ[i]?=some l->l=.no):View K H σ ρ:=by
 refine⟨fun i l e=>?_,vw.tb⟩
 by_cases hi:i<n
 ·rw[no i l hi e];exact trivial
 ·exact vw i l (by rw[low i (by omega)];exact e)
theorem zkr{idx:List Nat}{nt:Nat}{ρ:PSt}{i:Nat}{l:Sl}(hi:i<nt)(e:(zbh nt idx ρ)[i]?=some l):l=.no:=by
 unfold zbh at e;rw[Ae (by simpa using hi),BA,if_pos hi] at e
 cases e;rfl
theorem zkq{idx:List Nat}{nt:Nat}{ρ:PSt}{i:Nat}{p:PV}(e:(zbh nt idx ρ)[i]?=some (.own p)):False:=by
 unfold zbh at e
 by_cases hi:i<nt
 ·rw[Ae (by simpa using hi),BA,if_pos hi] at e
  cases e
 ·rw[As (by simpa using hi),AG] at e
  cases q:idx[i-(B4 nt Sl.no).length]? with
  | none=>rw[q] at e;cases e
  | some j=>
   rw[q] at e;have e:some (roS ρ[j]?)=some (Sl.own p):=e;unfold roS at e;split at e <;> cases e
theorem zkp{idx:List Nat}{nt:Nat}{ρ:PSt}{i:Nat}{p:List PV}{a:Addr}(e:(zbh nt idx ρ)[i]?=some (.pin p a)):False:=by
 unfold zbh at e
 by_cases hi:i<nt
 ·rw[Ae (by simpa using hi),BA,if_pos hi] at e
  cases e
 ·rw[As (by simpa using hi),AG] at e
  cases q:idx[i-(B4 nt Sl.no).length]? with
  | none=>rw[q] at e;cases e
  | some j=>
   rw[q] at e;have e:some (roS ρ[j]?)=some (Sl.pin p a):=e;unfold roS at e;split at e <;> cases e
theorem View.noOwn{K:A0}{H H':Hp}{σ:L2.St}{ρ:PSt}(vw:View K H σ ρ)(no:∀(i:Nat)(p:PV),ρ[i]?≠some (Sl.own p))(np:∀(i:Nat)(ps:List PV)(a:Addr),ρ[i]?≠some (Sl.pin ps a))(k:Kp H H')(tb:Tabs H'):View K H' σ ρ:=by
 refine⟨fun i l e=>?_,tb⟩
 have:=vw i l e;cases l with
 | no=>exact trivial
 | val p=>obtain⟨v,ev,r⟩:=this;exact⟨v,ev,r.kp k⟩
 | own p=>exact absurd e (no i p)
 | pin ps a=>exact absurd e (np i ps a)
theorem zog{pins:List (Addr×Bi)}{σ:L2.St}{H₂:Hp}{s₂:AD}{J:It}{fp:List Addr}{it:Addr}{tn:Nat->Heap->Prop}{ρ:PSt}{ps qs:List PV}{RR:A9->Addr->Gn->AD->Prop}{E:A9->AD->Prop}
  (O:CompOk C.X.N C.X.env.scope scope N' nt idx) (hc:C.X.calm=true)
  (hg:∀cl L s H fp,TCt (zcl C N' scope cl L s H fp) tg h) (hlow:LowT nt h) (ht:∀cl L s H fp,ETs (zcl C N' scope cl L s H fp) ifs t) (he:∀cl L s H fp,EV (zcl C N' scope cl L s H fp) elt fe)
  (I:Inv C.X pins σ H₂ s₂) (T:Turn C.X.prog C.X.w C.X.K tg J fp it tn) (st:tn 0 s₂.heap) (hf:∀b∈fp,FpOk C.X pins H₂ b) (vw:View C.X.K H₂ σ ρ) (ip:ItP C.X.K J H₂ ps)
  (hq:zci h t fe (zbh nt idx ρ) ps=.ok qs) (hz:qs.length<=sizeLine)
  (hRR:∀D L σ' H' s' xs,Inv (zbi C.X N' scope (clOf C.X.env.cells scope.names []) L s₂ H₂ fp) [] σ' H' s'->Same H₂ H'->H₂ D=none->H' D=some (.lst xs)->Reps C.X.K H' qs xs->s₂.heap.objs.size<=L->RR (.ref D) L (.ok .next) s') :
  Af (Ap C.X.prog C.X.w) C.X.A (GR []) (fun acc s₃=>Af (Ap C.X.prog C.X.w) C.X.A (Gh scope C.X.env.globals (clOf C.X.env.cells scope.names []) [] C.X.env.qual none .none (some C.X.env)) (fun cenv s₄=>
   D0 (Ap C.X.prog C.X.w) C.X.A (.compStart (.ListComp elt [⟨tg,iter,ifs,0⟩] scope pos) 0 (.ref it) acc { cenv with scope:=HY scope C.X.env }) (RR acc cenv.locals) s₄) E s₃) E s₂:=by
 refine Bt (Dl O.cell (by intro y hy;simp at hy) (fun h₁ hns₁ hsb₁=>?_) O.kind)
 dsimp only at hns₁ hsb₁ ⊢;generalize hG:s₂.heap.push { cls:=.type "list",dict:=none,data:=.seq ([]:List A9).toArray }=G at hns₁ hsb₁ ⊢;have hC:G.objs.size=s₂.heap.objs.size+1:=by rw[← hG,DB]
 have hDL:s₂.heap.objs.size≠G.objs.size:=by rw[hC];exact AZ (EX _)
 have keep:∀b o,s₂.heap.get? b=some o->h₁.get? b=some o:=fun b o e=>
  hsb₁.extBut b o (by rw[hC];exact AZ (C1 (AL e))) (AC _ (hG▸AC _ e))
 have acc:h₁.get? s₂.heap.objs.size=some { cls:=.type "list",data:=.seq ([]:List A9).toArray }:=hsb₁.extBut _ _ hDL (AC _ (hG▸Aa _ rfl));have nD:H₂ s₂.heap.objs.size=none:=I.fresh;have hGe:s₂.heap.objs.size<=G.objs.size:=by rw[hC];exact De _
 obtain⟨σ0,I0,vw0,hl0,fl⟩:=ziy O hc I T st hf vw (L:=G.objs.size) (tk:=s₂.toks+([]:List (Str×A9)).length) rfl hGe hDL (by simpa using hns₁) keep acc
 have fpk:∀{H':Hp}{pins':List (Addr×Bi)},(∀b∈fp,H' b=none)->(∀p∈pins',p.1 ∉ fp)->∀b∈fp,FpOk (zbi C.X N' scope (clOf C.X.env.cells scope.names []) G.objs.size s₂ H₂ fp) pins' H' b:=fun {H' pins'} hn hp b hb=>by
  obtain⟨g1,g2,g3,g4,g5,g6⟩:=hf b hb;refine⟨hn b hb,AZ (AR (fl b hb) hGe),fun z=>?_,.inl hb,fun x c e=>?_,fun p hp' z=>?_⟩
  ·exact(AU.mp (I.stkSub b z)).elim g2 g3
  ·rcases zcc e with z | z
   ·exact g5 x c z
   ·cases z
  ·subst z
   exact hp p ((show p∈([]:List (Addr×Bi))++pins' from hp')) hb
 have loop:D0 (Ap C.X.prog C.X.w) C.X.A (.compLoop (.ListComp elt [⟨tg,iter,ifs,0⟩] scope pos) 0 (.ref it) (.ref s₂.heap.objs.size) (Em scope (clOf C.X.env.cells scope.names []) G.objs.size C.X.env))
   (RR (.ref s₂.heap.objs.size) G.objs.size) { s₂ with heap:=h₁,toks:=s₂.toks+([]:List (Str×A9)).length }:=by
  refine zgw (fun n s=>∃i σ' H' xs dn rest,n=ps.length-i/\i<=ps.length/\Inv (zbi C.X N' scope (clOf C.X.env.cells scope.names []) G.objs.size s₂ H₂ fp) [] σ' H' s/\tn i s.heap/\(∀b∈fp,H' b=none)/\Same H₂ H'/\
   H' s₂.heap.objs.size=some (.lst xs)/\Reps C.X.K H' dn xs/\View C.X.K H' σ' (zbh nt idx ρ)/\(zbh nt idx ρ).length=σ'.length/\zci h t fe (zbh nt idx ρ) (ps.drop i)=.ok rest/\dn++rest=qs) ?_ ps.length
   ⟨0,σ0,_,[],[],qs,rfl,B3 _,I0,T.keep _ _ _ st fun b _ o e=>keep b o e,fun b hb=>?_,Same.new nD,zak,Reps.nil,vw0,hl0,by simpa using hq,rfl⟩
  ·rintro n s ⟨i,σ',H',xs,dn,rest,rfl,hi,I',st',fr',sm',hD',rp',vw',hl',e',ea⟩
   obtain⟨stp,stepp⟩:=ip i H' (Same.kp sm')
   by_cases hlt:i<ps.length
   ·have ei:ps[i]?=some ps[i]:=by simp[hlt]
    obtain⟨go,yl⟩:=stepp _ ei;rw[zh8 ei] at e';obtain⟨ρ1,b,e1,e2,e3⟩:=zlu e';obtain⟨l1,low1⟩:=hlow _ _ _ e1;refine thn (T.item (zbi C.X N' scope (clOf C.X.env.cells scope.names []) G.objs.size s₂ H₂ fp) rfl rfl rfl rfl i [] s σ' H' _ I' (fpk fr' (by simp)) st' go) fun r s1 ⟨u,hr,h4⟩=>?_
    subst hr;refine thn h4 fun _ s2 ⟨x,H3,I3,r3,y3,st3,fr3⟩=>?_
    obtain⟨sm3,rp3⟩:=yl x H3 y3;have I3':=I3.pinned (fpk fr3 (by simp)) (T.obj _ _ st3)
    refine thn (hg _ _ _ _ _ _ s2 σ' H3 x u (fun σ4 H4=>H4=H3/\ρ1.length=σ4.length/\View C.X.K H4 σ4 ρ1) I3' r3 ⟨_,_,ρ1,hl',vw'.same sm3,rp3,e1,fun σ4 hl4 vw4=>⟨rfl,hl4,vw4⟩⟩) fun _ s4 ⟨σ4,H4,I4,q4⟩=>?_
    obtain⟨rfl,hl4,vw4⟩:=q4
    have tests:Af (Ap C.X.prog C.X.w) C.X.A (forIn ifs true fun c r=>if r=true then do let ok<- isTrue c (Em scope (clOf C.X.env.cells scope.names []) G.objs.size C.X.env) (BR c (Em scope (clOf C.X.env.cells scope.names []) G.objs.size C.X.env));pure (Bl ok) else pure (Bl r))
      (TP (zbi C.X N' scope (clOf C.X.env.cells scope.names []) G.objs.size s₂ H₂ fp) ([]++zg3 fp s2.heap) σ4 (fun b' H5=>b'=b/\Same H4 H5)) (fun _ _=>False) s4:=by
     rcases ht (clOf C.X.env.cells scope.names []) G.objs.size s₂ H₂ fp with⟨ez,et⟩|⟨c,ez,et⟩
     ·subst ez
      subst et;cases e2;exact GP ⟨H4,I4,rfl,Same.refl _⟩
     ·subst ez
      exact wpAny_tests_one (et _ s4 σ4 H4 _ I4 ⟨ρ1,vw4,by rw[e2];exact fun H' s'=>⟨rfl,s'⟩⟩)
    refine thn tests fun b' s5 ⟨H5,I5,eb,sm5⟩=>?_
    subst eb
    have fin:∀{H7:Hp}{s7:AD},Inv (zbi C.X N' scope (clOf C.X.env.cells scope.names []) G.objs.size s₂ H₂ fp) ([]++zg3 fp s2.heap) σ4 H7 s7->Inv (zbi C.X N' scope (clOf C.X.env.cells scope.names []) G.objs.size s₂ H₂ fp) [] σ4 H7 s7/\tn (i+1) s7.heap/\∀b∈fp,H7 b=none:=fun {H7 s7} I7=>by
     refine⟨I7.unpinned,T.keep _ _ _ st3 fun b hb o e=>(I7.pin (b,o) (Ab _ (Ab _ (zc1 hb e)))).1,fun b hb=>?_⟩
     obtain⟨o,e,_⟩:=T.obj _ _ st3 b hb;exact(I7.pin (b,o) (Ab _ (Ab _ (zc1 hb e)))).2.1
    have sm25:Same H₂ H5:=(sm'.trans sm3).trans sm5;have smd:Same H' H5:=sm3.trans sm5;have vw5:View C.X.K H5 σ4 (zbh nt idx ρ):=View.weak (vw4.same sm5) low1 fun i l hi e=>zkr hi e
    have hl5:(zbh nt idx ρ).length=σ4.length:=by rw[← l1];exact hl4
    rcases e3 with⟨rfl,q,r,e4,e5,rfl⟩|⟨rfl,e4⟩
    ·rw[if_pos rfl]
     refine thn (he _ _ _ _ _ _ s5 σ4 H5 (fun v H6=>Same H5 H6/\Rep C.X.K H6 q v) I5 ⟨ρ1,vw4.same sm5,by rw[e4];exact fun v H' s' r=>⟨s',r⟩⟩) fun u6 s6 ⟨v,H6,I6,r6,sm6,rp6⟩=>?_
     have hD6:H6 s₂.heap.objs.size=some (.lst xs):=sm6 _ _ (smd _ _ hD')
     have hx:xs.length<sizeLine:=by
      have a1:=rp'.length;have a2:qs.length=dn.length+(r.length+1):=by rw[← ea];simp
      omega
     refine thn (zgj (X:=zbi C.X N' scope (clOf C.X.env.cells scope.names []) G.objs.size s₂ H₂ fp) _ s6 σ4 H6 (.ref s₂.heap.objs.size) [v] (.ref s₂.heap.objs.size) [u6] (fun _ H7=>H7=upd H6 s₂.heap.objs.size (.lst (xs++[v]))) I6 rfl (.cons r6 .nil) ⟨_,xs,v,rfl,rfl,hD6,hx,rfl⟩) fun _ s7 ⟨_,H7,I7,_,e7⟩=>?_
     subst e7;obtain⟨J7,st7,fr7⟩:=fin I7;have kp7:Kp H6 (upd H6 s₂.heap.objs.size (.lst (xs++[v]))):=Kp.upd hD6 rfl;refine⟨ps.length-(i+1),by omega,i+1,σ4,_,xs++[v],dn++[q],r,rfl,hlt,J7,st7,fr7,(sm25.trans sm6).but nD (fun u h=>by rw[hD6] at h;cases h;rfl) (fun b hb=>zal hb),zak,?_,?_,hl5,e5,by rw[← ea];simp⟩
     ·exact Reps.append (Reps.kp kp7 _ ((rp'.same smd).same sm6)) (Reps.cons (Rep.kp kp7 _ rp6) Reps.nil)
     ·exact(vw5.same sm6).noOwn (fun i p e=>zkq e) (fun i p a e=>zkp e) kp7 ((vw5.same sm6).tb.but (fun u h=>by rw[hD6] at h;cases h;exact⟨rfl,rfl⟩) (fun b hb=>zal hb))
    ·rw[if_neg AM]
     obtain⟨J7,st7,fr7⟩:=fin I5;exact⟨ps.length-(i+1),by omega,i+1,σ4,H5,xs,dn,rest,rfl,hlt,J7,st7,fr7,sm25,smd _ _ hD',rp'.same smd,vw5,hl5,e4,ea⟩
   ·have e:i=ps.length:=by omega
    subst e;rw[CV] at e';cases e';rw[BY] at ea;subst ea;refine thn (T.done (zbi C.X N' scope (clOf C.X.env.cells scope.names []) G.objs.size s₂ H₂ fp) rfl rfl rfl rfl ps.length [] s σ' H' _ I' (fpk fr' (by simp)) st' (stp rfl)) fun r s1 ⟨hr,I1⟩=>?_
    subst hr;exact hRR _ _ σ' H' s1 xs I1 sm' nD hD' rp' hGe
  ·show upd H₂ _ _ b=none
   rw[zal (AZ (fl b hb))];exact(hf b hb).1
 exact Et loop (T.self _ 0 _ _ _ (T.keep _ _ _ st fun b _ o e=>keep b o e) loop)
end
end PU
namespace PU
open PySem PySem.Spec PyProof.Rows L2
variable[TW]
section
variable{C : Cn}{elt tg iter : Expr}{ifs : List Expr}{scope : Scope}{pos : C7}{N' : List Str}{nt : Nat}{idx : List Nat}{fi : PSt → R (List PV)}{h : Tgt}{t : PSt → R Bool}{fe : PSt → R PV}
theorem zia{pins:List (Addr×Bi)}{σ σ':L2.St}{H₂ H':Hp}{s₂ s':AD}{fp:List Addr}{cl:List (Str×Addr)}{L:Addr}(I:Inv C.X pins σ H₂ s₂)(hf:∀b∈fp,FpOk C.X pins H₂ b)
  (I':Inv (zbi C.X N' scope cl L s₂ H₂ fp) [] σ' H' s'):Inv C.X pins σ H' s':=
 I.call' (ch:=fp) I'.os I'.base I'.hok I'.bare fun b hb=>by
  obtain⟨g1,g2,g3,g4,g5,g6⟩:=hf b hb;exact⟨g4,g2,g5,g6⟩
theorem Zan{α:Type}{H:Hp}{r:R α}{k:α->Prop}(q:RQ C H (noEr r) k):∃a,r=.ok a/\k a:=by
 cases r with
 | ok a=>exact⟨a,rfl,q⟩
 | er x=>exact AK q
 | no=>exact AK q
theorem zh9{pins:List (Addr×Bi)}{σ:L2.St}{H:Hp}{s:AD}{L:Addr}{h':Heap}(I:Inv C.X pins σ H s)(hn:H L=none)(hL:L≠C.X.env.locals)(h1:C.X.s₀.heap.objs.size<=L)(h2:∀x c,C.X.env.cells.lookup x=some c->c≠L)
  (h3:∀p∈C.X.pn++pins,p.1≠L) (sb:DC L s.heap h'):Inv C.X pins σ H { s with heap:=h' }:=
 I.turned (t':=s.toks) (fun b o hb e=>(sb.2 b hb).trans e) hn hL (.inr h1) h2 h3
theorem ziw(O:CompOk C.X.N C.X.env.scope scope N' nt idx)(hi:EI C tg iter fi)
  (hg:∀cl L s H fp,TCt (zcl C N' scope cl L s H fp) tg h) (he:∀cl L s H fp,EV (zcl C N' scope cl L s H fp) elt fe)
  (hs:∀x,C6 iter C.X.env x=pure x:=by intro _;rfl) (hc:C.X.calm=true:=by rfl) (hlow:LowT nt h:=by repeat' (first | exact zo7 | exact zjj (by decide) | apply zo6 | apply zmq)) (ht:∀cl L s H fp,ETs (zcl C N' scope cl L s H fp) ifs t:=by exact fun _ _ _ _ _=>zpl):EN C (.ListComp elt [⟨tg,iter,ifs,0⟩] scope pos) (zfa fi h t fe nt idx):=by
 intro pins s σ H Q I ⟨ρ,vw,q⟩;rw[eval_ListComp];refine D8 (use:=none) rfl hs (zbv fun y hy hk=>I.ok.has y.1 (O.free y hy hk)) O.kind O.names ?_
 refine thn (hi pins s σ H (fun J H'=>∃ps qs,Same H H'/\ItP C.X.K J H' ps/\zci h t fe (zbh nt idx ρ) ps=.ok qs/\qs.length<=sizeLine/\∀a H'',Same H H''->H a=none->zco C.X.K H'' a (.lst qs)->Q (.ref a) H'') I
  ⟨ρ,vw,q.bind.imp fun ps _ k J H' s' ip=>?_⟩) fun v s1 h1=>thn h1 fun itv s2 h2=>?_
 ·obtain⟨qs,e1,k⟩:=Zan k.bind
  obtain⟨z,k⟩:=zkd k;exact⟨ps,qs,s',ip,e1,z,k⟩
 ·obtain⟨it,fp,tn,J,H2,e,I2,T,st2,f2,ps,qs,sm,ip,e1,hz,k⟩:=h2
  subst e;refine zog O hc hg hlow ht he I2 T st2 f2 (vw.same sm) ip e1 hz fun D L σ' H' s' xs I' sm' nD hD rp hL=>?_
  obtain⟨m,hn,_⟩:=id I'.loc;have IB:=zia I2 f2 I';refine⟨m,hn,fun h' sb=>⟨.ref D,H',zh9 IB I'.free ?_ (B9 I2.sz hL) ?_ ?_ sb,rfl,k D H' (sm.trans sm') (sm.free nD) ⟨xs,hD,rp⟩⟩⟩
  ·exact BS (AR I2.lt hL)
  ·intro x c ec z
   obtain⟨v,qc⟩:=I2.cell x c ec;have z:c=L:=z;exact BE _ (AR (z▸qc.lt) hL)
  ·intro p hp z
   have z:p.1=L:=z;exact BE _ (AR (z▸AL (I2.pin p hp).1) hL)
theorem RS.bind'{C:Cn}{B:Hp×Hp}{D:Ends}{H:Hp}{fi:PSt->R (List PV)}{h:Tgt}{t:PSt->R Bool}{fe:PSt->R PV}{nt:Nat}{idx:List Nat}{ρ:PSt}{g:PV->Sl}{i:Nat}
  (q:RS C B D (zfa fi h t fe nt idx ρ >>= fun p=>.ok (.next (ρ.set i (g p))))) (s:Same B.1 H) :
  RQ C H (fi ρ) fun ps=>∃qs,zci h t fe (zbh nt idx ρ) ps=.ok qs/\qs.length<=sizeLine/\∀σ' H'',StOk C.X.K B H'' σ' (ρ.set i (g (.lst qs)))->D.nx σ' H'':=by
 unfold zfa at q;rw[R.bind_assoc] at q;refine(q.bind s).imp fun ps _ k=>?_
 rw[R.bind_assoc] at k;cases hc:zci h t fe (zbh nt idx ρ) ps with
 | ok qs=>
  rw[hc] at k;have k:RS C B D ((zg5 qs >>= fun qs=>R.ok (.lst qs)) >>= fun p=>.ok (.next (ρ.set i (g p)))):=k
  unfold zg5 at k
  by_cases hz:qs.length<=16777216
  ·rw[if_pos hz] at k
   exact⟨qs,rfl,by rw[B2];exact hz,k⟩
  ·rw[if_neg hz] at k
   exact AK k
 | er x=>rw[hc] at k;exact AK k
 | no=>rw[hc] at k;exact AK k
theorem zos(own:Bool)(i:Nat){x:Str}{px:C7}{spos:C7}(hN:C.X.N.Nodup)(O:CompOk C.X.N C.X.env.scope scope N' nt idx)(hi:EI C tg iter fi)
  (hg:∀cl L s H fp,TCt (zcl C N' scope cl L s H fp) tg h) (he:∀cl L s H fp,EV (zcl C N' scope cl L s H fp) elt fe)
  (hsw:Cm (.ListComp elt [⟨tg,iter,ifs,0⟩] scope pos) (some (.Name x px)) spos.line C.X.env=pure true:=by rfl)
  (hs:∀x,C6 iter C.X.env x=pure x:=by intro _;rfl)
  (hf:C.X.fn x=true\/C.X.env.scope.names.lookup x=some .local:=by first | exact .inl rfl | exact .inr rfl | assumption) (hc:C.X.calm=true:=by rfl) (hlow:LowT nt h:=by repeat' (first | exact zo7 | exact zjj (by decide) | apply zo6 | apply zmq)) (ht:∀cl L s H fp,ETs (zcl C N' scope cl L s H fp) ifs t:=by exact fun _ _ _ _ _=>zpl) (hi':C.X.N[i]?=some x:=by rfl) (hx:Loc C.X.env.scope x:=by first | exact .inl rfl | exact .inr rfl) :
  SV C (.Assign [.Name x px] (.ListComp elt [⟨tg,iter,ifs,0⟩] scope pos) spos) ((if own=true then ownF else setF) i (zfa fi h t fe nt idx)):=by
 intro pins s σ H D I ⟨ρ,B,S,q⟩;rw[F5 _ _ _ _ hsw];refine AB (FX (AB ?_));show Af _ C.X.A (do let _<- HF (.ListComp elt [⟨tg,iter,ifs,0⟩] scope pos) scope C.X.env _ (GR []) false (BR iter C.X.env) (some (Dr (.Name x px) C.X.env))) _ _ s
 refine AB (C9 (D8 (use:=some (Dr (.Name x px) C.X.env)) (Q:=fun _ s'=>SP C.X pins D .next s') rfl hs (zbv fun y hy hk=>I.ok.has y.1 (O.free y hy hk)) O.kind O.names ?_)
  (fun _ s' hq=>AH (AH hq)) fun _ _ e=>e)
 have q':RS C B D (zfa fi h t fe nt idx ρ >>= fun p=>.ok (.next (ρ.set i (if own=true then .own p else .val p)))):=by
  cases own with
  | true=>exact q
  | false=>exact q
 refine thn (hi pins s σ H (fun J H'=>∃ps qs,Same H H'/\ItP C.X.K J H' ps/\zci h t fe (zbh nt idx ρ) ps=.ok qs/\qs.length<=sizeLine/\∀σ' H'',StOk C.X.K B H'' σ' (ρ.set i (if own=true then .own (.lst qs) else .val (.lst qs)))->D.nx σ' H'') I
  ⟨ρ,S.vw,(RS.bind' q' S.same).imp fun ps _ k J H' s' ip=>?_⟩) fun v s1 h1=>thn h1 fun itv s2 h2=>?_
 ·obtain⟨qs,e1,z,k⟩:=k
  exact⟨ps,qs,s',ip,e1,z,k⟩
 ·obtain⟨it,fp,tn,J,H2,e,I2,T,st2,f2,ps,qs,sm,ip,e1,hz,k⟩:=h2
  subst e;refine zog O hc hg hlow ht he I2 T st2 f2 (S.vw.same sm) ip e1 hz fun Da L σ' H' s' xs I' sm' nD hD rp hL=>?_
  obtain⟨m,⟨o,es,ep,ho,hrest⟩,_⟩:=id I'.loc;have IB:=zia I2 f2 I';have nL:L≠C.X.env.locals:=BS (AR I2.lt hL)
  have nC:∀x c,C.X.env.cells.lookup x=some c->c≠L:=fun x c ec z=>by
   obtain⟨v,qc⟩:=I2.cell x c ec;have z:c=L:=z;exact BE _ (AR (z▸qc.lt) hL)
  have nP:∀p∈C.X.pn++pins,p.1≠L:=fun p hp z=>by
   have z:p.1=L:=z;exact BE _ (AR (z▸AL (I2.pin p hp).1) hL)
  have IP:Inv C.X (pins++[(L,o)]) σ H' s':=IB.pins_of fun p hp=>by
   rcases Aj.mp hp with z | z
   ·exact IB.pin p (Ab _ z)
   ·have:p=(L,o):=by simpa using z
    subst this;exact⟨ho,I'.free,nL,I2.nofs hL,fun v z=>by rw[hrest.1] at z;cases z⟩
  have S2:=S.grow (sm.trans sm')
  have fin:∀{H3:Hp}{v:V},Inv C.X (pins++[(L,o)]) σ H3 s'->v=.ref Da->(∀σ3,σ3=σ.set i (some v)->D.nx σ3 H3)->
    Af (Ap C.X.prog C.X.w) C.X.A (Dr (.Name x px) C.X.env (.ref Da)) (fun _ s''=>∃m,s''.heap.Ns L m/\∀h',DC L s''.heap h'->SP C.X pins D .next { s'' with heap:=h' }) C.X.xe s':=fun {H3 v} I3 ev k3=>by
   refine thn (zgb hN hi' hx hf (pins++[(L,o)]) s' σ H3 v (.ref Da) (fun σ4 H4=>σ4=σ.set i (some v)/\H4=H3) I3 (by subst ev;rfl) ⟨rfl,rfl⟩) fun _ s4 ⟨σ4,H4,I4,e4,e5⟩=>?_
   have hp:=I4.pin (L,o) (by simp)
   have IU:Inv C.X pins σ4 H4 s4:=I4.unpinned;refine⟨m,⟨o,es,ep,hp.1,hrest⟩,fun h' sb=>⟨σ4,H4,zh9 IU hp.2.1 nL (B9 I2.sz hL) nC nP sb,?_⟩⟩
   subst e5;exact k3 σ4 e4
  cases own with
  | true=>
   exact fin IP rfl fun σ3 e3=>by
    subst e3;exact k _ _ (S.setN (sm.trans sm') (sm.free nD) ⟨xs,hD,rp⟩)
  | false=>
   obtain⟨H3,I3,rp3,oth⟩:=L2.Inv.frz (a:=Da) (p:=.lst qs) IP ⟨xs,hD,rp⟩;refine fin I3 rfl fun σ3 e3=>?_
   subst e3;exact k _ _ ((S.grow ((sm.trans sm').but (sm.free nD) (fun u h=>by rw[hD] at h;cases h;rfl) oth)).setV rp3)
end
end PU
namespace PU
open PySem PySem.Spec PyProof.Rows L2 PySem.SeqAt
variable[TW]
section
variable{X : Cx}{pins : List (Addr×Bi)}{σ : L2.St}{H : Hp}{s : AD}
theorem zi4{a:Addr}{xs ys:List V}(I:Inv X pins σ H s)(h1:SqT X.K H a xs)(h2:SqO X.K H a ys):False:=by
 obtain⟨its,_,⟨o,e,c,_⟩,_⟩:=I.tuple h1;obtain⟨_,its2,n,_,e2⟩:=h2.is I;rw[e] at e2;cases e2;have c:CP "list"=CP "tuple":=c;exact absurd c (by decide)
theorem zzu{a:Addr}{xs ys:List V}(I:Inv X pins σ H s)(h1:SqO X.K H a xs)(h2:SqO X.K H a ys):xs=ys:=I.list_inj h1.l h2.l
mutual
theorem zhu(I:Inv X pins σ H s):∀(p q:PV)(v:V)(b:Bool),RepO X.K H p v->RepO X.K H q v->peqO p q=some b->b=true
 | .non,q,v,b,h1,h2,e=>by
  cases (show v=.non from h1);cases q with
  | non=>simpa [peqO] using e.symm
  | bl j=>cases (show V.non=.bl j from h2)
  | int j=>cases (show V.non=.int j from h2)
  | str j=>cases (show V.non=.str j from h2)
  | tup qs=>obtain⟨a,xs,z,_⟩:=RepO.tup_inv h2;cases z
  | lst qs=>obtain⟨a,xs,z,_⟩:=RepO.lst_inv h2;cases z
  | _=>simp[peqO] at e
 | .bl i,q,v,b,h1,h2,e=>by
  cases (show v=.bl i from h1);cases q with
  | bl j=>cases (show V.bl i=.bl j from h2);simpa [peqO] using e.symm
  | non=>cases (show V.bl i=.non from h2)
  | int j=>cases (show V.bl i=.int j from h2)
  | str j=>cases (show V.bl i=.str j from h2)
  | tup qs=>obtain⟨a,xs,z,_⟩:=RepO.tup_inv h2;cases z
  | lst qs=>obtain⟨a,xs,z,_⟩:=RepO.lst_inv h2;cases z
  | _=>simp[peqO] at e
 | .int i,q,v,b,h1,h2,e=>by
  cases (show v=.int i from h1);cases q with
  | int j=>cases (show V.int i=.int j from h2);simpa [peqO] using e.symm
  | bl j=>cases (show V.int i=.bl j from h2)
  | non=>cases (show V.int i=.non from h2)
  | str j=>cases (show V.int i=.str j from h2)
  | tup qs=>obtain⟨a,xs,z,_⟩:=RepO.tup_inv h2;cases z
  | lst qs=>obtain⟨a,xs,z,_⟩:=RepO.lst_inv h2;cases z
  | _=>simp[peqO] at e
 | .str i,q,v,b,h1,h2,e=>by
  cases (show v=.str i from h1);cases q with
  | str j=>cases (show V.str i=.str j from h2);simpa [peqO] using e.symm
  | bl j=>cases (show V.str i=.bl j from h2)
  | non=>cases (show V.str i=.non from h2)
  | int j=>cases (show V.str i=.int j from h2)
  | tup qs=>obtain⟨a,xs,z,_⟩:=RepO.tup_inv h2;cases z
  | lst qs=>obtain⟨a,xs,z,_⟩:=RepO.lst_inv h2;cases z
  | _=>simp[peqO] at e
 | .tup ps,q,v,b,h1,h2,e=>by
  obtain⟨a,xs,rfl,g1,r1⟩:=RepO.tup_inv h1;cases q with
  | tup qs=>
   obtain⟨a2,ys,z,g2,r2⟩:=RepO.tup_inv h2;cases z;cases I.tuple_inj g1 g2;exact zj5 I ps qs xs b r1 r2 (by simpa [peqO] using e)
  | lst qs=>
   obtain⟨a2,ys,z,g2,r2⟩:=RepO.lst_inv h2;cases z;exact(zi4 I g1 g2).elim
  | non=>cases (show V.ref a=.non from h2)
  | bl j=>cases (show V.ref a=.bl j from h2)
  | int j=>cases (show V.ref a=.int j from h2)
  | str j=>cases (show V.ref a=.str j from h2)
  | _=>simp[peqO] at e
 | .lst ps,q,v,b,h1,h2,e=>by
  obtain⟨a,xs,rfl,g1,r1⟩:=RepO.lst_inv h1;cases q with
  | lst qs=>
   obtain⟨a2,ys,z,g2,r2⟩:=RepO.lst_inv h2;cases z;cases zzu I g1 g2;exact zj5 I ps qs xs b r1 r2 (by simpa [peqO] using e)
  | tup qs=>
   obtain⟨a2,ys,z,g2,r2⟩:=RepO.tup_inv h2;cases z;exact(zi4 I g2 g1).elim
  | non=>cases (show V.ref a=.non from h2)
  | bl j=>cases (show V.ref a=.bl j from h2)
  | int j=>cases (show V.ref a=.int j from h2)
  | str j=>cases (show V.ref a=.str j from h2)
  | _=>simp[peqO] at e
 | .dct _ _,_,_,_,_,_,e=>by simp[peqO] at e
 | .dtt _ _,_,_,_,_,_,e=>by simp[peqO] at e
 | .fn _ _,_,_,_,_,_,e=>by simp[peqO] at e
theorem zj5(I:Inv X pins σ H s):∀(ps qs:List PV)(xs:List V)(b:Bool),Reps X.K H ps xs->Reps X.K H qs xs->zdw ps qs=some b->b=true
 | [],qs,xs,b,r1,r2,e=>by
  cases r1;cases qs with
  | nil=>simpa [zdw] using e.symm
  | cons q qs=>obtain⟨x,r,z,_⟩:=r2;cases z
 | p::ps,qs,xs,b,r1,r2,e=>by
  obtain⟨x,r,rfl,h1,t1⟩:=r1;cases qs with
  | nil=>cases (show x::r=[] from r2)
  | cons q qs=>
   obtain⟨x2,r2',z,h2,t2⟩:=r2;cases z;simp only[zdw] at e;obtain⟨b1,e1,e⟩:=AV.mp e;obtain⟨b2,e2,e⟩:=AV.mp e;cases e;rw[zhu I p q x b1 h1.o h2.o e1,zj5 I ps qs r b2 t1 t2 e2];rfl
end
theorem zlh{p q:PV}{ps qs:List PV}{j:Nat}:zhe (p::ps) (q::qs) (j+1)=zhe ps qs j:=by simp[zhe]
theorem zjh:∀(ps qs:List PV)(b:Bool),zdw ps qs=some b->((AF (min ps.length qs.length)).all (zhe ps qs) && ps.length == qs.length)=b
 | [],[],b,e=>by simp[zdw] at e;simp[e]
 | [],_::_,b,e=>by simp[zdw] at e;simp[e]
 | _::_,[],b,e=>by simp[zdw] at e;simp[e]
 | p::ps,q::qs,b,e=>by
  simp only[zdw] at e;obtain⟨b1,e1,e⟩:=AV.mp e;obtain⟨b2,e2,e⟩:=AV.mp e;cases e;have ih:=zjh ps qs b2 e2;have hm:min (p::ps).length (q::qs).length=min ps.length qs.length+1:=by simp only[An];omega
  rw[hm,List.range_succ_eq_map,Cz,List.all_map];have h0:zhe (p::ps) (q::qs) 0=b1:=by simp[zhe,e1]
  have hs:(zhe (p::ps) (q::qs) ∘ Nat.succ)=zhe ps qs:=by funext j;exact zlh
  rw[h0,hs,← ih,An,An];simp[Bool.and_assoc]
theorem zmm:∀{ps:List PV}{j:Nat}{p:PV},ps[j]?=some p->pdep p<=pdeps ps
 | [],_,_,h=>by simp at h
 | p::ps,0,_,h=>by simp at h;subst h;simp only[pdeps];omega
 | p::ps,j+1,q,h=>by
  have:=zmm (ps:=ps) (j:=j) (p:=q) (by simpa using h)
  simp only[pdeps];omega
mutual
theorem zu1(I:Inv X pins σ H s):∀(p q:PV)(A:B0)(v u:V)(v' u':A9)(b:Bool),RepO X.K H p v->RepO X.K H q u->RelV v v'->RelV u u'->peqO p q=some b->A.units+pdep p<cLine->EqAt A s v' u' b
 | .non,q,A,v,u,v',u',b,h1,h2,e1,e2,e,hu=>by
  cases (show v=.non from h1);cases e1;have hu:=D6 (EY _ _) hu;cases q with
  | non=>cases (show u=.non from h2);cases e2;simp[peqO] at e;subst e;exact EqAt.same _
  | bl j=>cases (show u=.bl j from h2);cases e2;simp[peqO] at e;subst e;exact EqAt.none_bool j
  | int j=>cases (show u=.int j from h2);obtain⟨t,rfl⟩:=e2;simp[peqO] at e;subst e;exact EqAt.none_int j t
  | str j=>cases (show u=.str j from h2);obtain⟨t,rfl⟩:=e2;simp[peqO] at e;subst e;exact EqAt.none_str j t
  | tup qs=>obtain⟨a,xs,rfl,g,_⟩:=RepO.tup_inv h2;cases e2;obtain⟨its,_,pl,_⟩:=I.tuple g;simp[peqO] at e;subst e;exact EqAt.none_tuple pl hu
  | lst qs=>obtain⟨a,xs,rfl,g,_⟩:=RepO.lst_inv h2;cases e2;obtain⟨its,_,pl,_⟩:=I.list g.l;simp[peqO] at e;subst e;exact EqAt.none_list pl.isList hu
  | _=>simp[peqO] at e
 | .bl i,q,A,v,u,v',u',b,h1,h2,e1,e2,e,hu=>by
  cases (show v=.bl i from h1);cases e1;have hu:=D6 (EY _ _) hu;cases q with
  | non=>cases (show u=.non from h2);cases e2;simp[peqO] at e;subst e;exact EqAt.bool_none i
  | bl j=>cases (show u=.bl j from h2);cases e2;simp only[peqO,Cw] at e;subst e;exact EqAt.bool_bool i j
  | int j=>cases (show u=.int j from h2);obtain⟨t,rfl⟩:=e2;simp only[peqO,Cw] at e;subst e;exact EqAt.bool_int i j t
  | str j=>cases (show u=.str j from h2);obtain⟨t,rfl⟩:=e2;simp[peqO] at e;subst e;exact EqAt.bool_str i j t
  | tup qs=>obtain⟨a,xs,rfl,g,_⟩:=RepO.tup_inv h2;cases e2;obtain⟨its,_,pl,_⟩:=I.tuple g;simp[peqO] at e;subst e;exact EqAt.bool_tuple i pl hu
  | lst qs=>obtain⟨a,xs,rfl,g,_⟩:=RepO.lst_inv h2;cases e2;obtain⟨its,_,pl,_⟩:=I.list g.l;simp[peqO] at e;subst e;exact EqAt.bool_list i pl.isList hu
  | _=>simp[peqO] at e
 | .int i,q,A,v,u,v',u',b,h1,h2,e1,e2,e,hu=>by
  cases (show v=.int i from h1);obtain⟨t',rfl⟩:=e1;have hu:=D6 (EY _ _) hu;cases q with
  | non=>cases (show u=.non from h2);cases e2;simp[peqO] at e;subst e;exact EqAt.int_none i t'
  | bl j=>cases (show u=.bl j from h2);cases e2;simp only[peqO,Cw] at e;subst e;exact EqAt.int_bool i t' j
  | int j=>cases (show u=.int j from h2);obtain⟨t,rfl⟩:=e2;simp only[peqO,Cw] at e;subst e;exact EqAt.int_int i t' j t
  | str j=>cases (show u=.str j from h2);obtain⟨t,rfl⟩:=e2;simp[peqO] at e;subst e;exact EqAt.int_str i t' j t
  | tup qs=>obtain⟨a,xs,rfl,g,_⟩:=RepO.tup_inv h2;cases e2;obtain⟨its,_,pl,_⟩:=I.tuple g;simp[peqO] at e;subst e;exact EqAt.int_tuple i t' pl hu
  | lst qs=>obtain⟨a,xs,rfl,g,_⟩:=RepO.lst_inv h2;cases e2;obtain⟨its,_,pl,_⟩:=I.list g.l;simp[peqO] at e;subst e;exact EqAt.int_list i t' pl.isList hu
  | _=>simp[peqO] at e
 | .str i,q,A,v,u,v',u',b,h1,h2,e1,e2,e,hu=>by
  cases (show v=.str i from h1);obtain⟨t',rfl⟩:=e1;have hu:=D6 (EY _ _) hu;cases q with
  | non=>cases (show u=.non from h2);cases e2;simp[peqO] at e;subst e;exact EqAt.str_none i t'
  | bl j=>cases (show u=.bl j from h2);cases e2;simp[peqO] at e;subst e;exact EqAt.str_bool i t' j
  | int j=>cases (show u=.int j from h2);obtain⟨t,rfl⟩:=e2;simp[peqO] at e;subst e;exact EqAt.str_int i t' j t
  | str j=>cases (show u=.str j from h2);obtain⟨t,rfl⟩:=e2;simp only[peqO,Cw] at e;subst e;exact EqAt.str_str i t' j t
  | tup qs=>obtain⟨a,xs,rfl,g,_⟩:=RepO.tup_inv h2;cases e2;obtain⟨its,_,pl,_⟩:=I.tuple g;simp[peqO] at e;subst e;exact EqAt.str_tuple i t' pl hu
  | lst qs=>obtain⟨a,xs,rfl,g,_⟩:=RepO.lst_inv h2;cases e2;obtain⟨its,_,pl,_⟩:=I.list g.l;simp[peqO] at e;subst e;exact EqAt.str_list i t' pl.isList hu
  | _=>simp[peqO] at e
 | .tup ps,q,A,v,u,v',u',b,h1,h2,e1,e2,e,hu=>by
  obtain⟨a,xs,rfl,g1,r1⟩:=RepO.tup_inv h1;cases e1;obtain⟨its,rv,pl,_⟩:=I.tuple g1;simp only[pdep] at hu;have hu0:A.units<cLine:=by omega
  cases q with
  | non=>cases (show u=.non from h2);cases e2;simp[peqO] at e;subst e;exact EqAt.tuple_none pl hu0
  | bl j=>cases (show u=.bl j from h2);cases e2;simp[peqO] at e;subst e;exact EqAt.tuple_bool j pl hu0
  | int j=>cases (show u=.int j from h2);obtain⟨t,rfl⟩:=e2;simp[peqO] at e;subst e;exact EqAt.tuple_int j t pl hu0
  | str j=>cases (show u=.str j from h2);obtain⟨t,rfl⟩:=e2;simp[peqO] at e;subst e;exact EqAt.tuple_str j t pl hu0
  | lst qs=>obtain⟨a2,ys,rfl,g,_⟩:=RepO.lst_inv h2;cases e2;obtain⟨its2,_,pl2,_⟩:=I.list g.l;simp[peqO] at e;subst e;exact EqAt.tuple_list pl pl2.isList hu0
  | tup qs=>
   by_cases hv:V.ref a=u
   ·subst hv
    rw[zhu I _ _ _ b h1 h2 e];cases e2;exact EqAt.same _
   ·obtain⟨a2,ys,rfl,g2,r2⟩:=RepO.tup_inv h2
    cases e2;obtain⟨its2,rv2,pl2,_⟩:=I.tuple g2;have l1:=r1.length;have l2:=r2.length;have l3:=rv.length;have l4:=rv2.length;have e':zdw ps qs=some b:=by simpa [peqO] using e
    rw[← zjh ps qs b e',show ps.length=its.toArray.size by simp;omega,show qs.length=its2.toArray.size by simp;omega]
    refine EqAt.of_refs (fun z=>hv (by rw[z])) (RcAt.tuples pl pl2 hu0 fun j j1 j2=>?_)
    have:=zkj I ps qs A.in1 xs ys its its2 b r1 r2 rv rv2 e' (by show A.units+1+_<_;omega) j (by simpa using j1) (by simpa using j2)
    simpa using this
  | _=>simp[peqO] at e
 | .lst ps,q,A,v,u,v',u',b,h1,h2,e1,e2,e,hu=>by
  obtain⟨a,xs,rfl,g1,r1⟩:=RepO.lst_inv h1;cases e1;obtain⟨its,rv,pl,_⟩:=I.list g1.l;simp only[pdep] at hu;have hu0:A.units<cLine:=by omega
  cases q with
  | non=>cases (show u=.non from h2);cases e2;simp[peqO] at e;subst e;exact EqAt.list_none pl.isList hu0
  | bl j=>cases (show u=.bl j from h2);cases e2;simp[peqO] at e;subst e;exact EqAt.list_bool j pl.isList hu0
  | int j=>cases (show u=.int j from h2);obtain⟨t,rfl⟩:=e2;simp[peqO] at e;subst e;exact EqAt.list_int j t pl.isList hu0
  | str j=>cases (show u=.str j from h2);obtain⟨t,rfl⟩:=e2;simp[peqO] at e;subst e;exact EqAt.list_str j t pl.isList hu0
  | tup qs=>obtain⟨a2,ys,rfl,g,_⟩:=RepO.tup_inv h2;cases e2;obtain⟨its2,_,pl2,_⟩:=I.tuple g;simp[peqO] at e;subst e;exact EqAt.list_tuple pl.isList pl2 hu0
  | lst qs=>
   by_cases hv:V.ref a=u
   ·subst hv
    rw[zhu I _ _ _ b h1 h2 e];cases e2;exact EqAt.same _
   ·obtain⟨a2,ys,rfl,g2,r2⟩:=RepO.lst_inv h2
    cases e2;obtain⟨its2,rv2,pl2,_⟩:=I.list g2.l;have l1:=r1.length;have l2:=r2.length;have l3:=rv.length;have l4:=rv2.length;have e':zdw ps qs=some b:=by simpa [peqO] using e
    have hp:=zjh ps qs b e';refine EqAt.of_refs (fun z=>hv (by rw[z])) ?_
    by_cases hl:ps.length=qs.length
    ·have hb:(AF its.toArray.size).all (zhe ps qs)=b:=by
      rw[← hp,hl,Nat.min_self,beq_self_eq_true,GN,show its.toArray.size=qs.length by simp;omega]
     rw[← hb];refine RcAt.lists pl.isList pl2.isList (by simp;omega) hu0 fun j j1 j2=>?_
     have:=zkj I ps qs A.in1 xs ys its its2 b r1 r2 rv rv2 e' (by show A.units+1+_<_;omega) j (by simpa using j1) (by simpa using j2)
     simpa using this
    ·have hb:b=false:=by
      rw[← hp,beq_eq_false_iff_ne.mpr hl,Er]
     rw[hb];exact RcAt.lists_lengths pl.isList pl2.isList (by simp;omega) hu0
  | _=>simp[peqO] at e
 | .dct _ _,_,_,_,_,_,_,_,_,_,_,_,e,_=>by simp[peqO] at e
 | .dtt _ _,_,_,_,_,_,_,_,_,_,_,_,e,_=>by simp[peqO] at e
 | .fn _ _,_,_,_,_,_,_,_,_,_,_,_,e,_=>by simp[peqO] at e
theorem zkj(I:Inv X pins σ H s):∀(ps qs:List PV)(A:B0)(xs ys:List V)(vs ws:List A9)(b:Bool),Reps X.K H ps xs->Reps X.K H qs ys->Vals xs vs->Vals ys ws->zdw ps qs=some b->A.units+pdeps ps<cLine->
  ∀j (h1:j<vs.length) (h2:j<ws.length),EqAt A s vs[j] ws[j] (zhe ps qs j)
 | [],qs,A,xs,ys,vs,ws,b,r1,r2,rv,rw',e,hu,j,h1,h2=>by
  cases r1;cases rv;exact absurd h1 (Fy _)
 | p::ps,[],A,xs,ys,vs,ws,b,r1,r2,rv,rw',e,hu,j,h1,h2=>by
  cases r2;cases rw';exact absurd h2 (Fy _)
 | p::ps,q::qs,A,xs,ys,vs,ws,b,r1,r2,rv,rw',e,hu,j,h1,h2=>by
  obtain⟨x,r,rfl,p1,t1⟩:=r1;obtain⟨y,r',rfl,p2,t2⟩:=r2;cases rv with
  | cons a1 c1=>
   cases rw' with
   | cons a2 c2=>
    simp only[zdw] at e;obtain⟨b1,e1,e⟩:=AV.mp e;obtain⟨b2,e2,e⟩:=AV.mp e;simp only[pdeps] at hu;cases j with
    | zero=>
     have:zhe (p::ps) (q::qs) 0=b1:=by simp[zhe,e1]
     rw[this];exact zu1 I p q A x y _ _ b1 p1.o p2.o a1 a2 e1 (by omega)
    | succ j=>
     rw[zlh];exact zkj I ps qs A r r' _ _ b2 t1 t2 c1 c2 e2 (by omega) j (Gr h1) (Gr h2)
end
end
end PU
namespace PU
open PySem PySem.Spec PyProof.Rows L2 PySem.SeqAt PySem.Calls PyProof.V
variable[TW]
def EqW(P:Ak)(w:Ar)(A:B0)(s:AD)(y x:A9)(b:Bool):Prop:=∀(E:A9->AD->Prop)(Q:Bool->AD->Prop),Q b s->Af (Ap P w) A (eqBool y x) Q E s
theorem EqW.of{P:Ak}{w:Ar}{A:B0}{s:AD}{y x:A9}{b:Bool}(h:EqAt A s y x b):EqW P w A s y x b:=fun E Q q=>h P w E Q q
section
variable{P : Ak}{w : Ar}{κ : Type}[DecidableEq κ]{kd : KeyKind P w κ}{A : B0}{E : A9 → AD → Prop}{s : AD}
inductive HitW (P:Ak) (w:Ar) (A:B0) (s:AD) (other:List (κ×A9)):List (κ×A9)->Bool->Prop
 | done:HitW P w A s other [] true
 | lacks {k:κ} {v:A9} {t:List (κ×A9)}:Bn other k=none->HitW P w A s other ((k,v)::t) false
 | meets {k:κ} {v y:A9} {t:List (κ×A9)} {e b:Bool}:Bn other k=some y->EqW P w A s v y e->HitW P w A s other t b->HitW P w A s other ((k,v)::t) (e && b)
theorem HitW.split{other:List (κ×A9)}{k:κ}{v:A9}{t:List (κ×A9)}{b:Bool}(h:HitW P w A s other ((k,v)::t) b) :
  (Bn other k=none/\b=false)\/∃y e c,Bn other k=some y/\EqW P w A s v y e/\HitW P w A s other t c/\b=(e && c):=by
 cases h with
 | lacks n=>exact .inl ⟨n,rfl⟩
 | meets y1 y2 y3=>exact .inr ⟨_,_,_,y1,y2,y3,rfl⟩
theorem zrd{nm:String}{d1 d2:Addr}{l1 l2:List (κ×A9)}{r:Bool}{Q:Bool->AD->Prop}(n1:(d1 == BN)=false)(n2:(d2 == BN)=false)(D1:s.heap.DictOf kd d1 l1)(D2:s.heap.DictOf kd d2 l2)
  (hh:l1.length=l2.length->HitW P w A s l2 l1 r) (q:Q (l1.length == l2.length && r) s):Af (Ap P w) A (Fb nm d1 d2) Q E s:=by
 obtain⟨o1,es1,c1,get1,_,dat1,ks1,prs1,_⟩:=D1;obtain⟨o2,es2,c2,get2,_,dat2,ks2,prs2,_⟩:=D2;have len1:l1.length=es1.size:=by rw[← prs1.length];exact CS
 have len2:l2.length=es2.size:=by rw[← prs2.length];exact CS
 have seek:∀k,findBy kd.is es2 k=Bn l2 k:=fun k=>by
  rw[← prs2.find k];clear len2 prs2 ks2 dat2 get2;cases es2;simp[findBy]
 rw[len1,len2] at q;unfold Fb Builtin.Dict.showsAll;rw[if_neg (by rw[n1];exact AM),if_neg (by rw[n2];exact AM)]
 refine AB (AH (AB (AH (AB (Co get1 dat1 ?_)))));dsimp only;refine AB (Co get2 dat2 ?_)
 by_cases sz:es1.size=es2.size
 case neg=>
  rw[if_pos (by simpa using sz)]
  have no:(es1.size == es2.size)=false:=by simpa using sz
  rw[no,GB] at q;exact AB (Gf (AH q))
 case pos=>
  have q':Q r s:=by simpa [sz] using q
  have hh':=hh (by rw[len1,len2];exact sz)
  rw[if_neg (by rw[sz];simp)]
  refine AB (Ez get1 dat1 (AB ?_));rw[Std.Legacy.Range.forIn_eq_forIn_range'];simp only[Std.Legacy.Range.size,Nat.sub_zero,Nat.add_sub_cancel,Nat.div_one];refine wpAny_forIn_list _ (fun todo z s'=>s'=s/\z=(none,())/\∃j,todo=List.range' j (es1.size-j)/\j<=es1.size/\HitW P w A s l2 (l1.drop j) r) _ ?_ ?_ _ _ ⟨rfl,rfl,0,by simp,B3 _,hh'⟩
  ·rintro x todo z s' ⟨rfl,rfl,j,et,hj,rest⟩
   have lt:j<es1.size:=by
    rcases FU j es1.size with g | g
    ·exact g
    ·rw[Nat.sub_eq_zero_of_le g] at et;simp at et
   have e1:es1.size-j=(es1.size-(j+1))+1:=by omega
   rw[e1,List.range'_succ] at et;injection et with ex et;subst ex;refine AB (Co get1 dat1 ?_);rw[Br lt];have lt':x<l1.length:=by rw[len1];exact lt
   obtain⟨k,v,ekv⟩:∃k v,l1[x]=(k,v):=⟨_,_,rfl⟩;have cut:l1.drop x=(k,v)::l1.drop (x+1):=by rw[← ekv];exact Dw lt'
   obtain⟨isk,isv⟩:=prs1.get? (i:=x) (e:=es1[x]) (k:=k) (v:=v) (by rw[Ge];exact Br lt) (by rw[AX lt',ekv])
   obtain⟨k',isk',hs⟩:=ks1 es1[x] (Array.getElem_mem lt);have ek:k'=k:=kd.inj _ _ _ isk' isk;rw[ek] at hs;rw[cut] at rest;show Af _ _ (holding [es1[x].key,es1[x].val] _ >>= _) _ _ _;rw[hs];refine AB (CG (AB (wpAny_dictFind_of isk get2 dat2 ks2 ?_)));cases at2:es2.findIdx? fun e=>kd.is k e.key with
   | none=>
    have nn:Bn l2 k=none:=by rw[← seek k,findBy_of_findIdx?,at2]
    rcases rest.split with⟨_,er⟩|⟨y,_,_,hy,_⟩
    ·rw[er] at q'
     refine AH ?_;show Af _ _ (if (!false)=true then _ else _) _ _ _
     rw[if_pos (by decide)]
     exact AH (AH q')
    ·rw[nn] at hy;cases hy
   | some m=>
    obtain⟨mlt,_,_⟩:=Array.findIdx?_eq_some_iff_getElem.mp at2
    have vv:Bn l2 k=some es2[m].val:=by
     rw[← seek k,findBy_of_findIdx?,at2];simp[Br mlt]
    refine AB (Co get2 dat2 ?_);rw[Br mlt];rcases rest.split with⟨nn,_⟩|⟨y,e,c,hy,he,ht,er⟩
    ·rw[vv] at nn;cases nn
    ·have ey:es2[m].val=y:=BD (vv.symm.trans hy)
     rw[← ey,← isv] at he;refine CG (he _ _ ?_);cases e with
     | false=>
      rw[er,GB] at q';show Af _ _ (if (!false)=true then _ else _) _ _ _
      rw[if_pos (by decide)]
      exact AH (AH q')
     | true=>
      rw[GL] at er;rw[← er] at ht;show Af _ _ (if (!true)=true then _ else _) _ _ _
      rw[if_neg (by decide)]
      refine AB (Ez get1 dat1 ?_);rw[if_neg (by simp)]
      exact AH ⟨rfl,rfl,x+1,et,lt,ht⟩
  ·rintro z s' ⟨rfl,rfl,j,et,hj,rest⟩
   have ej:j=es1.size:=by
    rcases FU j es1.size with g | g
    ·have e1:es1.size-j=(es1.size-(j+1))+1:=by omega
     rw[e1,List.range'_succ] at et;cases et
    ·exact Nat.le_antisymm hj g
   refine AH ?_;rw[ej,← len1,CV] at rest;cases rest;exact q'
theorem zjp{d1 d2:Addr}{l1 l2:List (κ×A9)}{r:Bool}{Q:A9->AD->Prop}(n1:(d1 == BN)=false)(n2:(d2 == BN)=false)(D1:s.heap.DictOf kd d1 l1)(D2:s.heap.DictOf kd d2 l2)(hu:A.units<cLine)
  (hh:l1.length=l2.length->HitW P w A.in1 s l2 l1 r) (q:Q (.bool (l1.length == l2.length && r)) s):Af (Ap P w) A (richCompare .Eq (.ref d1) (.ref d2)) Q E s:=by
 refine wpAny_richCompare_same_room (op:=.Eq) D1.typeIs D2.typeIs GQ (Dj GQ D1.typeIs PySem.F.entry_dict_eq ?_ (PySem.F.args_dict_eq_2 _ _)) hu;show Af _ _ (FG "__eq__" ⟨[.ref d1,.ref d2],[]⟩ >>= _) _ _ s;unfold FG;refine AB (AB (wpAny_notOrdered_dict D1.typeIs ?_));show Af _ _ (pure (B6 d1,B6 d2)) _ _ s;refine AH (AB (El (T:="dict") D2.typeIs PySem.F.sub_dict_dict ?_));simp only[Bool.not_true,BW,if_false];refine AB (AH (AB (AH (AB (zrd n1 n2 D1 D2 hh (AH ⟨_,rfl,(fun z=>nomatch z),?_⟩))))))
 simpa using q
end
section
variable{X : Cx}{pins : List (Addr×Bi)}{σ : L2.St}{H : Hp}{s : AD}
theorem zk7{kvs:List (Key×V)}{vs:List (Key×A9)}(r:KV kvs vs)(k:Key):(valV kvs k=none/\Bn vs k=none)\/∃v u,valV kvs k=some v/\Bn vs k=some u/\RelV v u:=by
 induction r with
 | nil=>exact .inl ⟨rfl,rfl⟩
 | @cons p q ps qs h t ih=>
  obtain⟨h1,h2⟩:=h
  by_cases e:p.1=k
  ·refine .inr ⟨p.2,q.2,zhn e,?_,h2⟩
   simp[Bn,C2,← h1,e]
  ·rw[zfd e]
   have e2:Bn (q::qs) k=Bn qs k:=by simp[Bn,C2,← h1,e]
   rw[e2];exact ih
theorem zlm{k:Key}:∀{ks:List Key}{ps:List PV}{kvs:List (Key×V)},kvs.map (·.1)=ks->ps.length=kvs.length->zb3 ks ps k=none->valV kvs k=none
 | [],_,kvs,e,_,_=>by
  have:kvs=[]:=by simpa using e
  subst this;rfl
 | j::ks,[],kvs,e,hl,_=>by
  have:kvs.length=0:=by simpa using hl.symm
  have:kvs=[]:=Bz this;subst this;cases e
 | j::ks,p::ps,kv::kvs,e,hl,h=>by
  have e1:kv.1=j:=by simpa using congrArg FC e
  have e2:kvs.map (·.1)=ks:=by simpa using congrArg Fd e
  have h:(if j=k then some p else zb3 ks ps k)=none:=h
  split at h
  ·cases h
  ·rename_i hn
   rw[zfd (by rw[e1];exact hn)]
   exact zlm e2 (by simpa using hl) h
 | j::ks,p::ps,[],e,_,_=>by cases e
theorem zhx{K:A0}{H:Hp}{k:Key}:∀{ks:List Key}{ps:List PV}{kvs:List (Key×V)}{p:PV},kvs.map (·.1)=ks->Reps K H ps (kvs.map (·.2))->zb3 ks ps k=some p->∃v,valV kvs k=some v/\Rep K H p v
 | _,_,[],_,h1,h2,e=>by
  subst h1;simp only[CL,zb3] at e;cases e
 | _,[],kv::kvs,_,h1,h2,e=>by
  cases h2
 | _,q::ps,kv::kvs,p,h1,h2,e=>by
  subst h1;obtain⟨x,r,ex,hx,ht⟩:=h2;simp only[AE,Cq] at ex;obtain⟨rfl,rfl⟩:=ex;simp only[AE,zb3] at e
  by_cases hk:kv.1=k
  ·rw[if_pos hk] at e
   cases e;exact⟨kv.2,zhn hk,hx⟩
  ·rw[if_neg hk] at e
   rw[zfd hk];exact zhx rfl ht e
theorem zmu(A:B0)(eqf:PV->PV->Option Bool)(I:Inv X pins σ H s){ls:List Key}{qs:List PV}{kvs2:List (Key×V)}{vs2:List (Key×A9)}(e2:kvs2.map (·.1)=ls)(r2:Reps X.K H qs (kvs2.map (·.2)))(kv2:KV kvs2 vs2) :
  ∀(ks:List Key)(ps:List PV)(kvs1:List (Key×V))(vs1:List (Key×A9))(b:Bool),kvs1.map (·.1)=ks->Reps X.K H ps (kvs1.map (·.2))->KV kvs1 vs1->zh1 eqf ks ps ls qs=some b->
   (∀p∈ps,∀(q:PV)(v u:V)(v' u':A9)(c:Bool),RepO X.K H p v->RepO X.K H q u->RelV v v'->RelV u u'->eqf p q=some c->EqW X.prog X.w A s v' u' c)->HitW X.prog X.w A s vs2 vs1 b
 | [],[],kvs1,vs1,b,e1,r1,kv1,h,_=>by
  have:kvs1=[]:=by simpa using e1
  subst this;cases kv1;have h:some true=some b:=h;cases h;exact .done
 | k::ks,p::ps,kvs1,vs1,b,e1,r1,kv1,h,he=>by
  cases kvs1 with
  | nil=>cases e1
  | cons kv kvs=>
   have ek:kv.1=k:=by simpa using congrArg FC e1
   have et:kvs.map (·.1)=ks:=by simpa using congrArg Fd e1
   obtain⟨x,r,ex,rp,rt⟩:=r1;have exx:kv.2=x:=by simpa using congrArg FC ex
   have err:kvs.map (·.2)=r:=by simpa using congrArg Fd ex
   cases kv1 with
   | @cons _ q _ qs' hd tl=>
    obtain⟨k',u1⟩:=q;obtain⟨h1,h2⟩:=hd;have h1:kv.1=k':=h1;have h2:RelV kv.2 u1:=h2;subst err;rw[← h1,ek];unfold zh1 at h;cases hl:zb3 ls qs k with
    | none=>
     rw[hl] at h;have h:some false=some b:=h;cases h;have:=zlm e2 (by rw[r2.length,AI]) hl
     rcases zk7 kv2 k with⟨_,z⟩|⟨v,u,z,_⟩
     ·exact .lacks z
     ·rw[this] at z;cases z
    | some q2=>
     rw[hl] at h;have h:((eqf p q2).bind fun a=>(zh1 eqf ks ps ls qs).bind fun b=>some (a && b))=some b:=h
     obtain⟨c1,g1,h⟩:=AV.mp h;obtain⟨c2,g2,h⟩:=AV.mp h;cases h;obtain⟨v2,ev2,rp2⟩:=zhx e2 r2 hl;rcases zk7 kv2 k with⟨z,_⟩|⟨v,u,z,z2,z3⟩
     ·rw[ev2] at z;cases z
     ·rw[ev2] at z
      cases z;exact .meets z2 (he p Ai q2 kv.2 v2 u1 u c1 (exx▸rp.o) rp2.o h2 z3 g1) (zmu A eqf I e2 r2 kv2 ks ps kvs qs' c2 et rt tl g2 fun p' hp'=>he p' (Ah _ hp'))
 | [],_::_,_,_,_,_,_,_,h,_=>by cases h
 | _::_,[],_,_,_,_,_,_,h,_=>by cases h
theorem zts{k:Key}{r:PV}:∀(ks:List Key)(ps:List PV),ks.length=ps.length->k ∉ ks->∀(ls:List Key)(qs:List PV),zb3 (ks++k::ls) (ps++r::qs) k=some r
 | [],[],_,_,ls,qs=>by
  show (if k=k then some r else _)=_
  rw[if_pos rfl]
 | j::ks,p::ps,hl,hn,ls,qs=>by
  show (if j=k then some p else zb3 (ks++k::ls) (ps++r::qs) k)=_
  rw[if_neg (fun e=>hn (by rw[e];exact Ai))]
  exact zts ks ps (by simpa using hl) (fun h=>hn (Ah _ h)) ls qs
 | [],_::_,h,_,_,_=>by simp at h
 | _::_,[],h,_,_,_=>by simp at h
theorem znl{P:Ak}{w:Ar}{κ:Type}[DecidableEq κ]{kd:KeyKind P w κ}:∀{es:List DictEntry}{l1 l2:List (κ×A9)},Pairs kd es l1->Pairs kd es l2->l1=l2
 | _,_,_,.nil,.nil=>rfl
 | _,_,_,.cons a b c,.cons a' b' c'=>by
  rw[znl c c'];have h1:=kd.inj _ _ _ a a';have h2:=b.symm.trans b';rw[G8 h1 h2]
theorem zrw{P:Ak}{w:Ar}{κ:Type}[DecidableEq κ]{kd:KeyKind P w κ}{h:Heap}{a:Addr}{l1 l2:List (κ×A9)}(d1:h.DictOf kd a l1)(d2:h.DictOf kd a l2):l1=l2:=by
 obtain⟨o1,es1,c1,get1,_,dat1,_,prs1,_⟩:=d1;obtain⟨o2,es2,c2,get2,_,dat2,_,prs2,_⟩:=d2;rw[get1] at get2;cases get2;rw[dat1] at dat2;cases dat2;exact znl prs1 prs2
theorem zyx:∀{l1 l2:List (Key×V)}{vs:List (Key×A9)},KV l1 vs->KV l2 vs->l1=l2
 | _,_,_,.nil,.nil=>rfl
 | _,_,_,.cons a c,.cons a' c'=>by
  rw[zyx c c'];rw[G8 (a.1.trans a'.1.symm) (RelV.inj a.2 a'.2)]
theorem zty:∀{l:List (Key×V)}{vs:List (Key×A9)},KV l vs->l.map (·.1)=vs.map (·.1)
 | _,_,.nil=>rfl
 | _,_,.cons a c=>by rw[AE,AE,zty c,a.1]
theorem zn3(eqf:PV->PV->Option Bool)(he:∀(p q:PV)(v:V)(c:Bool),Rep X.K H p v->Rep X.K H q v->eqf p q=some c->c=true):∀(kvs kvs0:List (Key×V))(qs0 qs ps:List PV)(b:Bool),
  ((kvs0++kvs).map (·.1)).Nodup->Reps X.K H qs0 (kvs0.map (·.2))->Reps X.K H qs (kvs.map (·.2))->Reps X.K H ps (kvs.map (·.2))->zh1 eqf (kvs.map (·.1)) ps ((kvs0++kvs).map (·.1)) (qs0++qs)=some b->b=true
 | [],kvs0,qs0,qs,ps,b,nd,r0,rq,rp,h=>by
  have:ps=[]:=Bz (by rw[rp.length];rfl)
  subst this;have h:some true=some b:=h;cases h;rfl
 | kv::kvs,kvs0,qs0,[],ps,b,nd,r0,rq,rp,h=>by
  have:=rq.length;simp at this
 | kv::kvs,kvs0,qs0,q::qs,[],b,nd,r0,rq,rp,h=>by
  have:=rp.length;simp at this
 | kv::kvs,kvs0,qs0,q::qs,p::ps,b,nd,r0,rq,rp,h=>by
  obtain⟨x,r,ex,rp1,rpt⟩:=rp;obtain⟨y,r',ey,rq1,rqt⟩:=rq;have exx:kv.2=x:=by simpa using congrArg FC ex
  have err:kvs.map (·.2)=r:=by simpa using congrArg Fd ex
  have eyy:kv.2=y:=by simpa using congrArg FC ey
  have err':kvs.map (·.2)=r':=by simpa using congrArg Fd ey
  subst exx eyy err;rw[← err'] at rqt
  have nk:kv.1 ∉ kvs0.map (·.1):=fun z=>by
   rw[AW,BK] at nd;exact nd.2.2 _ z _ (by simp) rfl
  have lk:zb3 ((kvs0++kv::kvs).map (·.1)) (qs0++q::qs) kv.1=some q:=by
   rw[AW,AE];exact zts _ _ (by rw[AI,r0.length,AI]) nk _ _
  rw[AE] at h;unfold zh1 at h;rw[lk] at h;have h:((eqf p q).bind fun a=>(zh1 eqf (kvs.map (·.1)) ps ((kvs0++kv::kvs).map (·.1)) (qs0++q::qs)).bind fun b=>some (a && b))=some b:=h
  obtain⟨c1,g1,h⟩:=AV.mp h;obtain⟨c2,g2,h⟩:=AV.mp h;cases h;rw[he p q kv.2 c1 rp1 rq1 g1];have:=zn3 eqf he kvs (kvs0++[kv]) (qs0++[q]) qs ps c2 (by simpa using nd) (by rw[AW];exact r0.append (Reps.cons rq1 Reps.nil)) rqt rpt (by simpa using g2)
  rw[this];rfl
theorem zta(hw:X.w=TW.w)(I:Inv X pins σ H s):∀(n:Nat)(p q:PV)(v:V)(b:Bool),RepO X.K H p v->RepO X.K H q v->peqN n p q=some b->b=true:=by
 intro n
 induction n with
 | zero=>
  intro p q v b h1 h2 e;have e:peqO p q=some b:=by cases p <;> exact e
  exact zhu I p q v b h1 h2 e
 | succ n ih=>
  intro p q v b h1 h2 e
  by_cases hd:∃ks ps ls qs,p=.dct ks ps/\q=.dct ls qs
  ·obtain⟨ks,ps,ls,qs,rfl,rfl⟩:=hd
   have e:(if ks.length=ls.length then zh1 (peqN n) ks ps ls qs else some false)=some b:=e
   obtain⟨a1,kvs1,rfl,d1,k1,r1⟩:=h1;obtain⟨a2,kvs2,ea,d2,k2,r2⟩:=h2;cases ea;obtain⟨_,n1,vs1,kv1,D1⟩:=DkR.at hw I d1;obtain⟨_,n2,vs2,kv2,D2⟩:=DkR.at hw I d2;have:=zrw D1 D2;subst this;have:=zyx kv1 kv2;subst this;subst k1;subst k2;rw[if_pos rfl] at e;obtain⟨_,_,_,_,_,_,_,_,nd⟩:=D1;exact zn3 (peqN n) (fun p q v c g1 g2 g=>ih p q v c g1.o g2.o g) kvs1 [] [] qs ps b (by rw[Dh,zty kv1];exact nd) Reps.nil r2 r1 (by simpa using e)
  ·have e:peqO p q=some b:=by
    rw[← e];cases p with
    | dct ks ps=>
     cases q with
     | dct ls qs=>exact absurd ⟨ks,ps,ls,qs,rfl,rfl⟩ hd
     | _=>rfl
    | _=>rfl
   exact zhu I p q v b h1 h2 e
theorem Zbm(hw:X.w=TW.w)(I:Inv X pins σ H s):∀(n:Nat)(p q:PV)(A:B0)(v u:V)(v' u':A9)(b:Bool),RepO X.K H p v->RepO X.K H q u->RelV v v'->RelV u u'->peqN n p q=some b->A.units+pdep p<cLine->EqW X.prog X.w A s v' u' b:=by
 intro n
 induction n with
 | zero=>
  intro p q A v u v' u' b h1 h2 e1 e2 e hu;have e:peqO p q=some b:=by cases p <;> exact e
  exact .of (zu1 I p q A v u v' u' b h1 h2 e1 e2 e hu)
 | succ n ih=>
  intro p q A v u v' u' b h1 h2 e1 e2 e hu
  by_cases hd:∃ks ps ls qs,p=.dct ks ps/\q=.dct ls qs
  ·obtain⟨ks,ps,ls,qs,rfl,rfl⟩:=hd
   have e0:=e;have h10:=h1;have h20:=h2;have e:(if ks.length=ls.length then zh1 (peqN n) ks ps ls qs else some false)=some b:=e
   obtain⟨a1,kvs1,rfl,d1,k1,r1⟩:=h1;obtain⟨a2,kvs2,rfl,d2,k2,r2⟩:=h2;cases e1;cases e2;obtain⟨_,n1,vs1,kv1,D1⟩:=DkR.at hw I d1;obtain⟨_,n2,vs2,kv2,D2⟩:=DkR.at hw I d2;have l1:vs1.length=ks.length:=by rw[← k1,AI];exact(BC kv1).symm
   have l2:vs2.length=ls.length:=by rw[← k2,AI];exact(BC kv2).symm
   simp only[pdep] at hu;have hu0:A.units<cLine:=by omega
   have dep:∀p∈ps,pdep p<=pdeps ps:=fun p hp=>by
    obtain⟨j,hj⟩:=DO.mp hp;exact zmm hj
   by_cases same:a1=a2
   ·subst same
    rw[zta hw I (n+1) _ _ _ b h10 h20 e0];exact .of (EqAt.same _)
   ·intro E Q hq
    unfold eqBool;refine CG (wpAny_ite_split (fun hab=>absurd (by have:=D3 hab;injection this) same) fun _=>AB ?_)
    by_cases hl:ks.length=ls.length
    ·rw[if_pos hl] at e
     refine zjp (r:=b) n1 n2 D1 D2 hu0 (fun _=>zmu A.in1 (peqN n) I k2 r2 kv2 ks ps kvs1 vs1 b k1 r1 kv1 e fun p hp q v u v' u' c g1 g2 g3 g4 g5=>ih p q A.in1 v u v' u' c g1 g2 g3 g4 g5 ?_) (Bs ?_)
     ·have:=dep p hp
      show A.units+1+_<_;omega
     ·have:(vs1.length == vs2.length)=true:=by rw[l1,l2,hl];simp
      rw[this,GL];exact hq
    ·rw[if_neg hl] at e
     cases e;refine zjp (r:=false) n1 n2 D1 D2 hu0 (fun z=>absurd (by rw[← l1,← l2];exact z) hl) (Bs ?_)
     rw[Er];exact hq
  ·have e:peqO p q=some b:=by
    rw[← e];cases p with
    | dct ks ps=>
     cases q with
     | dct ls qs=>exact absurd ⟨ks,ps,ls,qs,rfl,rfl⟩ hd
     | _=>rfl
    | _=>rfl
   exact .of (zu1 I p q A v u v' u' b h1 h2 e1 e2 e hu)
end
end PU
namespace PU
open PySem PySem.Spec PyProof.Rows L2 PySem.SeqAt
variable[TW]
theorem zch{K:A0}{H:Hp}{p:PV}{v:V}(h:isSc p=true)(r:RepO K H p v):v=scV p:=by
 cases p with
 | non=>exact r
 | bl b=>exact r
 | int i=>exact r
 | str x=>exact r
 | _=>cases h
section
variable{X : Cx}
theorem zpy{pins:List (Addr×Bi)}{σ:L2.St}{H:Hp}{s:AD}{ps qs:List PV}{v u:V}{v' u':A9}{b:Bool}(hu:X.A.units+64<cLine)(I:Inv X pins σ H s)(e:zdw ps qs=some b)(hd:pdeps ps<=60) :
  (RepO X.K H (.tup ps) v->RepO X.K H (.tup qs) u->RelV v v'->RelV u u'->RcAt X.A s v' u' b/\RcNeAt X.A s v' u' (!b))/\
  (RepO X.K H (.lst ps) v->RepO X.K H (.lst qs) u->RelV v v'->RelV u u'->RcAt X.A s v' u' b/\RcNeAt X.A s v' u' (!b)):=by
 have hu0:X.A.units<cLine:=by omega
 have hp:=zjh ps qs b e;constructor
 ·intro h1 h2 e1 e2
  obtain⟨a,xs,rfl,g1,r1⟩:=RepO.tup_inv h1;obtain⟨a2,ys,rfl,g2,r2⟩:=RepO.tup_inv h2;cases e1;cases e2;obtain⟨its,rv,pl,_⟩:=I.tuple g1;obtain⟨its2,rv2,pl2,_⟩:=I.tuple g2;have l1:=r1.length;have l2:=r2.length;have l3:=rv.length;have l4:=rv2.length
  have each:∀j (j1:j<its.toArray.size) (j2:j<its2.toArray.size),EqAt X.A.in1 s its.toArray[j] its2.toArray[j] (zhe ps qs j):=fun j j1 j2=>by
   have:=zkj I ps qs X.A.in1 xs ys its its2 b r1 r2 rv rv2 e (by show X.A.units+1+_<_;omega) j (by simpa using j1) (by simpa using j2)
   simpa using this
  rw[← hp,show ps.length=its.toArray.size by simp;omega,show qs.length=its2.toArray.size by simp;omega]
  exact⟨RcAt.tuples pl pl2 hu0 each,RcNeAt.tuples pl pl2 hu0 each⟩
 ·intro h1 h2 e1 e2
  obtain⟨a,xs,rfl,g1,r1⟩:=RepO.lst_inv h1;obtain⟨a2,ys,rfl,g2,r2⟩:=RepO.lst_inv h2;cases e1;cases e2;obtain⟨its,rv,pl,_⟩:=I.list g1.l;obtain⟨its2,rv2,pl2,_⟩:=I.list g2.l;have l1:=r1.length;have l2:=r2.length;have l3:=rv.length;have l4:=rv2.length
  have each:∀j (j1:j<its.toArray.size) (j2:j<its2.toArray.size),EqAt X.A.in1 s its.toArray[j] its2.toArray[j] (zhe ps qs j):=fun j j1 j2=>by
   have:=zkj I ps qs X.A.in1 xs ys its its2 b r1 r2 rv rv2 e (by show X.A.units+1+_<_;omega) j (by simpa using j1) (by simpa using j2)
   simpa using this
  by_cases hl:ps.length=qs.length
  ·have hb:(AF its.toArray.size).all (zhe ps qs)=b:=by
    rw[← hp,hl,Nat.min_self,beq_self_eq_true,GN,show its.toArray.size=qs.length by simp;omega]
   rw[← hb];exact⟨RcAt.lists pl.isList pl2.isList (by simp;omega) hu0 each,RcNeAt.lists pl.isList pl2.isList (by simp;omega) hu0 each⟩
  ·have hb:b=false:=by
    rw[← hp,beq_eq_false_iff_ne.mpr hl,Er]
   rw[hb];exact⟨RcAt.lists_lengths pl.isList pl2.isList (by simp;omega) hu0,RcNeAt.lists_lengths pl.isList pl2.isList (by simp;omega) hu0⟩
theorem opEq(hu:X.A.units+64<cLine)(hw:X.w=TW.w:=by rfl):OpR X (B8 .Eq) (rP X.K gEq):=by
 intro pins s σ H x y v u Q I rx ry ⟨p,q,z,hp,hq,e,k⟩;unfold gEq at e;split at e
 ·rename_i ks ps ls qs
  split at e
  ·rename_i hd
   obtain⟨b,eb,ez⟩:=AQ.mp e;subst ez;have eb:(if ks.length=ls.length then zh1 (peqN 2) ks ps ls qs else some false)=some b:=eb
   obtain⟨a1,kvs1,rfl,d1,k1,r1⟩:=hp;obtain⟨a2,kvs2,rfl,d2,k2,r2⟩:=hq;cases rx;cases ry;obtain⟨_,n1,vs1,kv1,D1⟩:=DkR.at hw I d1;obtain⟨_,n2,vs2,kv2,D2⟩:=DkR.at hw I d2;have l1:vs1.length=ks.length:=by rw[← k1,AI];exact(BC kv1).symm
   have l2:vs2.length=ls.length:=by rw[← k2,AI];exact(BC kv2).symm
   have fin:EP X pins σ Q (.bool b) s:=⟨.bl b,H,I,rfl,k _ H (Same.refl H) rfl⟩;have hu0:X.A.units<cLine:=by omega
   by_cases hl:ks.length=ls.length
   ·rw[if_pos hl] at eb
    refine zjp (r:=b) n1 n2 D1 D2 hu0 (fun _=>zmu X.A.in1 (peqN 2) I k2 r2 kv2 ks ps kvs1 vs1 b k1 r1 kv1 eb fun p hp q v u v' u' c g1 g2 g3 g4 g5=>Zbm hw I 2 p q X.A.in1 v u v' u' c g1 g2 g3 g4 g5 ?_) ?_
    ·obtain⟨j,hj⟩:=DO.mp hp
     have:=zmm hj;show X.A.units+1+_<_;omega
    ·have:(vs1.length == vs2.length)=true:=by rw[l1,l2,hl];simp
     rw[this,GL];exact fin
   ·rw[if_neg hl] at eb
    cases eb;refine zjp (r:=false) n1 n2 D1 D2 hu0 (fun z=>absurd (by rw[← l1,← l2];exact z) hl) ?_
    rw[Er];exact fin
  ·cases e
 ·split at e
  ·rename_i hd
   obtain⟨b,eb,ez⟩:=AQ.mp e;subst ez;exact((zpy hu I eb hd).1 hp hq rx ry).1 _ _ _ _ ⟨.bl b,H,I,rfl,k _ H (Same.refl H) rfl⟩
  ·cases e
 ·split at e
  ·rename_i hd
   obtain⟨b,eb,ez⟩:=AQ.mp e;subst ez;exact((zpy hu I eb hd).2 hp hq rx ry).1 _ _ _ _ ⟨.bl b,H,I,rfl,k _ H (Same.refl H) rfl⟩
  ·cases e
 ·split at e
  ·rename_i hc
   obtain⟨h1,h2,h3⟩:=hc;cases e;rw[zch h1 hp] at rx;rw[zch h2 hq] at ry;exact Zg7 pins s σ H _ _ v u Q I rx ry ⟨h3,k _ H (Same.refl H) rfl⟩
  ·cases e
theorem opNe(hu:X.A.units+64<cLine):OpR X (B8 .NotEq) (rP X.K gNe):=by
 intro pins s σ H x y v u Q I rx ry ⟨p,q,z,hp,hq,e,k⟩;unfold gNe at e;split at e
 ·split at e
  ·rename_i hd
   obtain⟨b,eb,ez⟩:=AQ.mp e;subst ez;exact((zpy hu I eb hd).1 hp hq rx ry).2 _ _ _ _ ⟨.bl (!b),H,I,rfl,k _ H (Same.refl H) rfl⟩
  ·cases e
 ·split at e
  ·rename_i hd
   obtain⟨b,eb,ez⟩:=AQ.mp e;subst ez;exact((zpy hu I eb hd).2 hp hq rx ry).2 _ _ _ _ ⟨.bl (!b),H,I,rfl,k _ H (Same.refl H) rfl⟩
  ·cases e
 ·split at e
  ·rename_i hc
   obtain⟨h1,h2,h3⟩:=hc;cases e;rw[zch h1 hp] at rx;rw[zch h2 hq] at ry;exact Zg4 pins s σ H _ _ v u Q I rx ry ⟨h3,k _ H (Same.refl H) rfl⟩
  ·cases e
theorem opLt:OpR X (B8 .Lt) (rP X.K gLt):=by
 intro pins s σ H x y v u Q I rx ry ⟨p,q,z,hp,hq,e,k⟩;unfold gLt at e;split at e
 ·rename_i i j
  cases e;cases (show x=.int i from hp);cases (show y=.int j from hq);exact Zg5 pins s σ H _ _ v u Q I rx ry ⟨i,j,rfl,rfl,k _ H (Same.refl H) rfl⟩
 ·rename_i i j
  cases e;cases (show x=.str i from hp);cases (show y=.str j from hq);exact ztg pins s σ H _ _ v u Q I rx ry ⟨i,j,rfl,rfl,k _ H (Same.refl H) rfl⟩
 ·cases e
theorem opLe:OpR X (B8 .LtE) (rP X.K gLe):=by
 intro pins s σ H x y v u Q I rx ry ⟨p,q,z,hp,hq,e,k⟩;unfold gLe at e;split at e
 ·rename_i i j
  cases e;cases (show x=.int i from hp);cases (show y=.int j from hq);exact Zg6 pins s σ H _ _ v u Q I rx ry ⟨i,j,rfl,rfl,k _ H (Same.refl H) rfl⟩
 ·rename_i i j
  cases e;cases (show x=.str i from hp);cases (show y=.str j from hq);obtain⟨t,rfl⟩:=rx;obtain⟨t',rfl⟩:=ry;exact PySem.P.le_str ⟨.bl _,H,I,rfl,k _ H (Same.refl H) rfl⟩
 ·cases e
theorem zsx{K:A0}{H:Hp}{p:PV}{v:V}(r:RepO K H p v):decide (v=.non)=Za8 p:=by
 cases p with
 | non=>cases (show v=.non from r);rfl
 | bl b=>cases (show v=.bl b from r);rfl
 | int b=>cases (show v=.int b from r);rfl
 | str b=>cases (show v=.str b from r);rfl
 | tup ps=>obtain⟨a,xs,rfl,_⟩:=RepO.tup_inv r;rfl
 | lst ps=>obtain⟨a,xs,rfl,_⟩:=RepO.lst_inv r;rfl
 | dct ks ps=>obtain⟨a,kvs,rfl,_⟩:=r;rfl
 | dtt ks ps=>obtain⟨a,kvs,rfl,_⟩:=r;rfl
 | fn L cs=>obtain⟨f,_,_,_,_,_,rfl,_⟩:=(show Rep K H (.fn L cs) v from r);rfl
theorem zrm:OpR X (B8 .Is) (rP X.K gIsN):=by
 intro pins s σ H x y v u Q I rx ry ⟨p,q,z,hp,hq,e,k⟩;unfold gIsN at e;split at e
 ·cases e
  cases (show y=.non from hq);refine Zdt pins s σ H _ _ v u Q I rx ry ⟨rfl,?_⟩;rw[zsx hp];exact k _ H (Same.refl H) rfl
 ·cases e
theorem zyq:OpR X (B8 .IsNot) (rP X.K zmx):=by
 intro pins s σ H x y v u Q I rx ry ⟨p,q,z,hp,hq,e,k⟩;unfold zmx at e;split at e
 ·cases e
  cases (show y=.non from hq);refine Zai pins s σ H _ _ v u Q I rx ry ⟨rfl,?_⟩;rw[zsx hp];exact k _ H (Same.refl H) rfl
 ·cases e
end
end PU
namespace PU
open PySem PySem.Spec PyProof.Rows L2 PySem.SeqAt
variable[TW]
theorem zdo{K:A0}{H:Hp}{p:PV}{v:V}{k:Key}(e:zfe p=some k)(r:RepO K H p v):v=kV k:=by
 cases p with
 | int i=>cases e;exact r
 | str i=>cases e;exact r
 | _=>cases e
theorem zp0{K:A0}{H:Hp}{ps:List PV}{xs:List V}{i:Int}{p:PV}(r:Reps K H ps xs)(e:atI ps i=some p):∃v,atI xs i=some v/\Rep K H p v:=by
 unfold atI at e ⊢;rw[← r.length];obtain⟨j,ej,e2⟩:=AV.mp e;obtain⟨v,ev,rp⟩:=r.get e2;exact⟨v,by rw[ej];exact ev,rp⟩
section
variable{X : Cx}
theorem ixP(hu:X.A.units+64<cLine)(hw:X.w=TW.w:=by rfl):IxR X (rP X.K gIx):=by
 intro value slice pins s σ H x y v u Q I rx ry ⟨p,q,z,hp,hq,e,k⟩ hs;have h16:=B2;unfold gIx at e;split at e
 ·rename_i ps i
  obtain⟨a,xs,rfl,g,r⟩:=RepO.lst_inv hp;cases (show y=.int i from hq);obtain⟨w,ew,rp⟩:=zp0 r e;exact zt7 value slice pins s σ H _ _ v u Q I rx ry ⟨a,xs,i,w,rfl,rfl,g.l,ew,k w H (Same.refl H) rp⟩ hs
 ·rename_i ps i
  obtain⟨a,xs,rfl,g,r⟩:=RepO.tup_inv hp;cases (show y=.int i from hq);obtain⟨w,ew,rp⟩:=zp0 r e;exact zy3 value slice pins s σ H _ _ v u Q I rx ry ⟨a,xs,i,w,rfl,rfl,g,ew,k w H (Same.refl H) rp⟩ hs
 ·rename_i t i
  split at e
  ·rename_i hl
   obtain⟨c,ec,ez⟩:=AQ.mp e;subst ez;cases (show x=.str t from hp);cases (show y=.int i from hq);exact zy4 value slice pins s σ H _ _ v u Q I rx ry ⟨t,i,c,rfl,rfl,by omega,ec,k _ H (Same.refl H) rfl⟩ hs
  ·cases e
 ·rename_i ks ps
  obtain⟨kk,ek,e⟩:=AV.mp e;obtain⟨a,kvs,rfl,g,e1,r⟩:=hp;cases rx;have hy:=zdo ek hq;subst hy;obtain⟨w,ew,rp⟩:=zhx e1 r e;obtain⟨zz,hd,vs,rel,dd⟩:=DkR.at hw I g;obtain⟨w',hw,rw'⟩:=RelO.some_of (v:=w) (o:=Bn vs kk) (by rw[← ew];exact rel.val kk)
  exact tail_any dd.typeIs Fo.lookup (wpAny_getItem_of (zk2 ry) dd.mapOf hw ⟨w,H,I.tok _,rw',k w H (Same.refl H) rp⟩) hs
 ·cases e
theorem zkw{K:A0}{H:Hp}:∀{qs:List PV}{xs:List V},qs.all isSc=true->Reps K H qs xs->xs=qs.map scV/\xs.all zk3=true
 | [],_,_,r=>by cases r;exact⟨rfl,rfl⟩
 | q::qs,_,h,⟨x,t,e,h1,h2⟩=>by
  subst e;simp only[Cz,BJ] at h;obtain⟨e1,e2⟩:=zkw h.2 h2;have hx:=zch h.1 h1.o;refine⟨by rw[AE,hx,e1],?_⟩
  rw[Cz,e2,GN,hx];cases q <;> first | rfl | cases h.1
theorem zl7{p:PV}(h:isSc p=true):zk3 (scV p)=true:=by
 cases p <;> first | rfl | cases h
theorem opIn(hu:X.A.units+64<cLine)(hw:X.w=TW.w:=by rfl):OpR X (B8 .In) (rP X.K gIn):=by
 intro pins s σ H x y v u Q I rx ry ⟨p,q,z,hp,hq,e,k⟩;unfold gIn at e;split at e
 ·rename_i i j
  cases e;cases (show x=.str i from hp);cases (show y=.str j from hq);exact zth pins s σ H _ _ v u Q I rx ry ⟨i,j,rfl,rfl,k _ H (Same.refl H) rfl⟩
 ·rename_i qs _
  split at e
  ·rename_i hc
   cases e;obtain⟨a,xs,rfl,g,r⟩:=RepO.lst_inv hq;obtain⟨e1,e2⟩:=zkw hc.2 r;refine znp pins s σ H _ _ v u Q I rx ry ⟨a,xs,rfl,.inl g.l,by rw[zch hc.1 hp];exact zl7 hc.1,e2,?_⟩
   rw[zch hc.1 hp,e1];exact k _ H (Same.refl H) rfl
  ·cases e
 ·rename_i qs _
  split at e
  ·rename_i hc
   cases e;obtain⟨a,xs,rfl,g,r⟩:=RepO.tup_inv hq;obtain⟨e1,e2⟩:=zkw hc.2 r;refine znp pins s σ H _ _ v u Q I rx ry ⟨a,xs,rfl,.inr g,by rw[zch hc.1 hp];exact zl7 hc.1,e2,?_⟩
   rw[zch hc.1 hp,e1];exact k _ H (Same.refl H) rfl
  ·cases e
 ·rename_i ks ps _
  obtain⟨kk,ek,ez⟩:=AQ.mp e;subst ez;obtain⟨a,kvs,rfl,g,e1,r⟩:=hq;cases ry;have hx:=zdo ek hp;subst hx;obtain⟨zz,hd,vs,rel,dd⟩:=DkR.at hw I g;refine wpAny_in_of (zk2 rx) hd dd.mapOf ?_;rw[← (rel.val kk).isSome_eq,← zho];refine⟨.bl _,H,I.tok _,rfl,k _ H (Same.refl H) ?_⟩;subst e1;rw[CN];rfl
 ·cases e
theorem Zak(hu:X.A.units+64<cLine)(hw:X.w=TW.w:=by rfl):OpR X (B8 .NotIn) (rP X.K zg6):=by
 intro pins s σ H x y v u Q I rx ry ⟨p,q,z,hp,hq,e,k⟩;have e:=e;obtain⟨z0,e1,ez⟩:=AV.mp e;clear e;have e:=e1;clear e1;unfold gIn at e;split at e
 ·rename_i i j _
  cases e;cases ez;cases (show x=.str i from hp);cases (show y=.str j from hq);exact zno pins s σ H _ _ v u Q I rx ry ⟨i,j,rfl,rfl,k _ H (Same.refl H) rfl⟩
 ·rename_i qs _
  split at e
  ·rename_i hc
   cases e;cases ez;obtain⟨a,xs,rfl,g,r⟩:=RepO.lst_inv hq;obtain⟨e1,e2⟩:=zkw hc.2 r;refine zi8 pins s σ H _ _ v u Q I rx ry ⟨a,xs,rfl,.inl g.l,by rw[zch hc.1 hp];exact zl7 hc.1,e2,?_⟩
   rw[zch hc.1 hp,e1];exact k _ H (Same.refl H) rfl
  ·cases e
 ·rename_i qs _
  split at e
  ·rename_i hc
   cases e;cases ez;obtain⟨a,xs,rfl,g,r⟩:=RepO.tup_inv hq;obtain⟨e1,e2⟩:=zkw hc.2 r;refine zi8 pins s σ H _ _ v u Q I rx ry ⟨a,xs,rfl,.inr g,by rw[zch hc.1 hp];exact zl7 hc.1,e2,?_⟩
   rw[zch hc.1 hp,e1];exact k _ H (Same.refl H) rfl
  ·cases e
 ·rename_i ks ps _
  obtain⟨kk,ek,ez'⟩:=AQ.mp e;subst ez';cases ez;obtain⟨a,kvs,rfl,g,e1,r⟩:=hq;cases ry;have hx:=zdo ek hp;subst hx;obtain⟨zz,hd,vs,rel,dd⟩:=DkR.at hw I g;refine wpAny_notIn_of (zk2 rx) hd dd.mapOf ?_;rw[← (rel.val kk).isSome_eq,← zho];refine⟨.bl _,H,I.tok _,rfl,k _ H (Same.refl H) ?_⟩;subst e1;rw[CN];rfl
 ·cases e
theorem zzn(hw:X.w=TW.w):TruR X (fun v H Q=>∃p b,RepO X.K H p v/\truB p=some b/\Q b H):=by
 intro pins s σ H x v Q I rx ⟨p,b,rp,e,q⟩;have h16:=B2;cases p with
 | non=>
  cases (show x=.non from rp);cases e;exact zla pins s σ H _ v Q I rx ⟨_,rfl,q⟩
 | bl i=>
  cases (show x=.bl i from rp);cases e;exact zla pins s σ H _ v Q I rx ⟨_,rfl,q⟩
 | int i=>
  cases (show x=.int i from rp);cases e;exact zla pins s σ H _ v Q I rx ⟨_,rfl,q⟩
 | str i=>
  cases (show x=.str i from rp);simp only[truB] at e;split at e
  ·cases e
   exact zla pins s σ H _ v Q I rx ⟨_,⟨by omega,rfl⟩,q⟩
  ·cases e
 | tup ps=>
  obtain⟨a,xs,rfl,g,r⟩:=RepO.tup_inv rp;cases e;have:ps.isEmpty=xs.isEmpty:=by have:=r.length;cases ps <;> cases xs <;> simp_all
  exact zla pins s σ H _ v Q I rx ⟨_,.inr (.inl ⟨xs,g,by rw[this]⟩),q⟩
 | lst ps=>
  obtain⟨a,xs,rfl,g,r⟩:=RepO.lst_inv rp;cases e;have:ps.isEmpty=xs.isEmpty:=by have:=r.length;cases ps <;> cases xs <;> simp_all
  exact zla pins s σ H _ v Q I rx ⟨_,.inl ⟨xs,g.l,by rw[this]⟩,q⟩
 | dct ks ps=>
  obtain⟨a,kvs,rfl,g,e1,r⟩:=rp;cases rx;cases e;obtain⟨hz,hS,vs,rel,m⟩:=DkR.at hw I g;have hlen:kvs.length=vs.length:=BC rel;refine wpAny_truthy_dict hS m (by omega) ⟨H,I.tok _,?_⟩
  rw[zls rel];subst e1;have:(kvs.map (·.1)).isEmpty=kvs.isEmpty:=by cases kvs <;> rfl
  rw[this] at q;exact q
 | dtt ks ps=>cases e
 | fn L cs=>cases e
end
section
variable{C : Cn}{a b c e : Expr}{f fa fb fc : PSt → R PV}{t u : PSt → R Bool}{rest : List Expr}{pos : C7}
theorem zh7(ha:EO C a f)(he:∀whole,isTrue a C.X.env whole=(do let v<- whole;standAt a.pos;holding [v] (truthy v)):=by intro _;rfl)(hw:C.X.w=TW.w:=by rfl):ET C a (truF f):=by
 intro pins s σ H Q I ⟨ρ,vw,q⟩;refine isTrue_plain (thn (ha pins s σ H (fun v H'=>∃p b,RepO C.X.K H' p v/\truB p=some b/\Q b H') I ⟨ρ,vw,q.bind.imp fun p _ k v H' s' r=>?_⟩) fun v s1 ⟨x,H1,I1,r1,q1⟩=>zzn hw pins s1 σ H1 x v Q I1 r1 q1) (he _)
 obtain⟨b,eb,k⟩:=k.ofO;exact⟨p,b,r,eb,k H' s'⟩
def isBl(g:PV->PV->Option PV):Prop:=∀p q z,g p q=some z->∃b,z=.bl b
theorem za2{op:CmpOp}{g:PV->PV->Option PV}(ho:OpR C.X (B8 op) (rP C.X.K g))(hg:isBl g)(ha:EO C a fa)(hb:EO C b fb)(hm:Dk op b=false:=by first | exact nomark _ | with_unfolding_all rfl):ET C (.Compare a [op] [b] pos) (truF (bin2 fa fb g)):=by
 intro pins s σ H Q I ⟨ρ,vw,q⟩;refine zz8 ho ha hb hm pins s σ H Q I ?_;refine t2 vw (g:=g) (q.bind.imp fun p e k v H' s' r=>?_) fun _ _ _ _ h=>h
 have:∃b,p=.bl b:=by
  unfold bin2 at e;cases h1:fa ρ with
  | ok x=>
   rw[h1] at e;cases h2:fb ρ with
   | ok y=>
    rw[h2] at e;cases h3:g x y with
    | some z=>
     simp only[R.ok_bind,h3,R.ofO_some] at e;cases e;exact hg x y _ h3
    | none=>simp only[R.ok_bind,h3,R.ofO_none] at e;cases e
   | er x=>rw[h2] at e;cases e
   | no=>rw[h2] at e;cases e
  | er x=>rw[h1] at e;cases e
  | no=>rw[h1] at e;cases e
 obtain⟨b,rfl⟩:=this;cases (show v=.bl b from r);exact⟨b,rfl,k H' s'⟩
theorem EW.et(h:EW C e t):ET C e t:=PW.pt h
theorem zpj(ha:ET C a t):EW C (.BoolOp .And [a] pos) t:=zz6 ha
theorem zqv(ha:ET C a t):EW C (.BoolOp .Or [a] pos) t:=Zda ha
theorem zuw(ha:ET C a t)(hb:EW C (.BoolOp .And (b::rest) pos) u):EW C (.BoolOp .And (a::b::rest) pos) (andB t u):=by
 intro wh pins s σ H Q I ⟨ρ,vw,q⟩;refine Zdb ha hb wh pins s σ H Q I ⟨ρ,vw,q.bind.imp fun c _ k H' s'=>?_⟩
 cases c with
 | true=>exact iteT ⟨ρ,vw.same s',(k.same s').imp fun b _ k2 H2 s2=>k2 H2 (s'.trans s2)⟩
 | false=>exact iteF (k H' s')
theorem zuv(ha:ET C a t)(hb:EW C (.BoolOp .Or (b::rest) pos) u):EW C (.BoolOp .Or (a::b::rest) pos) (orB t u):=by
 intro wh pins s σ H Q I ⟨ρ,vw,q⟩;refine Zgw ha hb wh pins s σ H Q I ⟨ρ,vw,q.bind.imp fun c _ k H' s'=>?_⟩
 cases c with
 | true=>exact iteT (k H' s')
 | false=>exact iteF ⟨ρ,vw.same s',(k.same s').imp fun b _ k2 H2 s2=>k2 H2 (s'.trans s2)⟩
theorem zy7(ha:ET C a t):ET C (.UnaryOp .Not a pos) (notB t):=by
 intro pins s σ H Q I ⟨ρ,vw,q⟩;exact Zdc ha pins s σ H Q I ⟨ρ,vw,q.bind.imp fun c _ k H' s'=>k H' s'⟩
theorem zuy{op}(h:EV C a f):EV C (.BoolOp op [a] pos) f:=Zdj h
theorem zy6(ha:EV C a fa)(hb:EV C (.BoolOp .And (b::rest) pos) fb):EV C (.BoolOp .And (a::b::rest) pos) (andV fa fb):=by
 intro pins s σ H Q I ⟨ρ,vw,q⟩;refine Zdq ha hb pins s σ H Q I ⟨ρ,vw,q.bind.imp fun p _ k v H' s' r=>?_⟩
 cases p with
 | bl c=>
  cases (show v=.bl c from r);refine⟨c,rfl,?_⟩;cases c with
  | true=>exact iteT ⟨ρ,vw.same s',(RQ.same k s').imp fun z _ k2 v2 H2 s2 r2=>k2 v2 H2 (s'.trans s2) r2⟩
  | false=>exact iteF (k _ H' s' rfl)
 | _=>exact AK k
theorem Zhx(ha:EV C a fa)(hb:EV C (.BoolOp .Or (b::rest) pos) fb):EV C (.BoolOp .Or (a::b::rest) pos) (orV fa fb):=by
 intro pins s σ H Q I ⟨ρ,vw,q⟩;refine Zg1 ha hb pins s σ H Q I ⟨ρ,vw,q.bind.imp fun p _ k v H' s' r=>?_⟩
 cases p with
 | bl c=>
  cases (show v=.bl c from r);refine⟨c,rfl,?_⟩;cases c with
  | true=>exact iteT (k _ H' s' rfl)
  | false=>exact iteF ⟨ρ,vw.same s',(RQ.same k s').imp fun z _ k2 v2 H2 s2 r2=>k2 v2 H2 (s'.trans s2) r2⟩
 | _=>exact AK k
theorem Zey(ha:EV C a fa):EV C (.UnaryOp .Not a pos) (notV fa):=by
 intro pins s σ H Q I ⟨ρ,vw,q⟩;refine Zdk ha pins s σ H Q I ⟨ρ,vw,q.bind.imp fun p _ k v H' s' r=>?_⟩
 cases p with
 | bl c=>
  cases (show v=.bl c from r);exact⟨c,rfl,k _ H' s' rfl⟩
 | _=>exact AK k
theorem Zbi(hc:ET C c t)(ha:EV C a fa)(hb:EV C b fb):EV C (.IfExp c a b pos) (ifV t fa fb):=by
 intro pins s σ H Q I ⟨ρ,vw,q⟩;refine zwx hc ha hb pins s σ H Q I ⟨ρ,vw,q.bind.imp fun c _ k H' s'=>?_⟩
 cases c with
 | true=>exact iteT ⟨ρ,vw.same s',(RQ.same k s').imp fun z _ k2 v2 H2 s2 r2=>k2 v2 H2 (s'.trans s2) r2⟩
 | false=>exact iteF ⟨ρ,vw.same s',(RQ.same k s').imp fun z _ k2 v2 H2 s2 r2=>k2 v2 H2 (s'.trans s2) r2⟩
end
theorem zb6:isBl gEq:=fun p q z e=>by
 unfold gEq at e;split at e
 ·split at e
  ·obtain⟨b,_,ez⟩:=AQ.mp e
   exact⟨b,ez.symm⟩
  ·cases e
 ·split at e
  ·obtain⟨b,_,ez⟩:=AQ.mp e
   exact⟨b,ez.symm⟩
  ·cases e
 ·split at e
  ·obtain⟨b,_,ez⟩:=AQ.mp e
   exact⟨b,ez.symm⟩
  ·cases e
 ·split at e
  ·cases e
   exact⟨_,rfl⟩
  ·cases e
theorem zka:isBl gNe:=fun p q z e=>by
 unfold gNe at e;split at e
 ·split at e
  ·obtain⟨b,_,ez⟩:=AQ.mp e;exact⟨_,ez.symm⟩
  ·cases e
 ·split at e
  ·obtain⟨b,_,ez⟩:=AQ.mp e;exact⟨_,ez.symm⟩
  ·cases e
 ·split at e
  ·cases e;exact⟨_,rfl⟩
  ·cases e
theorem zis:isBl gLt:=fun p q z e=>by unfold gLt at e;split at e <;> cases e <;> exact⟨_,rfl⟩
theorem Zba:isBl gLe:=fun p q z e=>by unfold gLe at e;split at e <;> cases e <;> exact⟨_,rfl⟩
theorem zh0:isBl gIsN:=fun p q z e=>by unfold gIsN at e;split at e <;> cases e <;> exact⟨_,rfl⟩
theorem zn0:isBl zmx:=fun p q z e=>by unfold zmx at e;split at e <;> cases e <;> exact⟨_,rfl⟩
theorem zpe:isBl gIn:=fun p q z e=>by
 unfold gIn at e;split at e
 ·cases e;exact⟨_,rfl⟩
 ·split at e <;> cases e;exact⟨_,rfl⟩
 ·split at e <;> cases e;exact⟨_,rfl⟩
 ·obtain⟨b,_,ez⟩:=AQ.mp e;exact⟨_,ez.symm⟩
 ·cases e
theorem zrr:isBl zg6:=fun p q z e=>by
 obtain⟨z0,e,ez⟩:=AV.mp e;cases z0 <;> cases ez;exact⟨_,rfl⟩
end PU
namespace PU
open PySem PySem.Spec PyProof.Rows L2 PySem.SeqAt
variable[TW]
def r1(K:A0)(g:PV->Option PV):List V->Hp->VK->Prop:=fun vs H Q=>∃v p z,vs=[v]/\RepO K H p v/\g p=some z/\∀w H',Same H H'->Rep K H' z w->Q w H'
def rn1(K:A0)(g:PV->Option PV):List V->Hp->VK->Prop:=fun vs H Q=>∃v p z,vs=[v]/\RepO K H p v/\g p=some z/\∀a H',Same H H'->H a=none->zco K H' a z->Q (.ref a) H'
section
variable{C : Cn}{e : Expr}{f : PSt → R PV}{g : PV → Option PV}{x : Str}{p pos : C7}{id T : String}
theorem t1{σ:L2.St}{H:Hp}{Q:VK}{ρ:PSt}(vw:View C.X.K H σ ρ)(q:RQ C H (un1 f g ρ) fun p=>∀v H',Same H H'->Rep C.X.K H' p v->Q v H'):tCB (r1 C.X.K g) (tA1 C f) σ H Q:=by
 refine⟨ρ,vw,q.bind.imp fun p _ k v H1 s1 r1=>?_⟩
 obtain⟨z,ez,k⟩:=k.ofO;exact⟨v,p,z,rfl,r1,ez,fun w H' s' r'=>k w H' (s1.trans s') r'⟩
theorem tn1{σ:L2.St}{H:Hp}{Q:VK}{ρ:PSt}(vw:View C.X.K H σ ρ)(q:RQ C H (un1 f g ρ) fun p=>∀a H',Same H H'->H a=none->zco C.X.K H' a p->Q (.ref a) H'):tCB (rn1 C.X.K g) (tA1 C f) σ H Q:=by
 refine⟨ρ,vw,q.bind.imp fun p _ k v H1 s1 r1=>?_⟩
 obtain⟨z,ez,k⟩:=k.ofO;exact⟨v,p,z,rfl,r1,ez,fun a H' s' n' r'=>k a H' (s1.trans s') (s1.free n') r'⟩
theorem zk4 (hc:zhl C.X (.builtin id) (r1 C.X.K g)) (hg:Gl C.X x) (hm:C.X.mg x=none) (hv:CC x=some (.builtin id)) (ha:EO C e f) (hn:x≠"__name__":=by decide) (hdb:(x == ("__debug__":Str))=false:=by decide)
  (hs:Ad [e] C.X.env=[(false,BR e C.X.env)]:=by exact zbm rfl):EV C (.Call (.Name x p) [e] [] pos) (un1 f g):=by
 intro pins s σ H Q I ⟨ρ,vw,q⟩;exact zp5 hc hg hm hv (zqw ha hs) hn hdb hs (by rfl) pins s σ H Q I (t1 vw q)
theorem Zbh (hc:zhl C.X (.type T) (r1 C.X.K g)) (hg:Gl C.X x) (hm:C.X.mg x=none) (hv:CC x=some (.type T)) (ha:EO C e f) (hn:x≠"__name__":=by decide) (hdb:(x == ("__debug__":Str))=false:=by decide)
  (hs:Ad [e] C.X.env=[(false,BR e C.X.env)]:=by exact zbm rfl):EV C (.Call (.Name x p) [e] [] pos) (un1 f g):=by
 intro pins s σ H Q I ⟨ρ,vw,q⟩;exact znk hc hg hm hv (zqw ha hs) hn hdb hs (by rfl) pins s σ H Q I (t1 vw q)
theorem Zbp (hc:zhl C.X (.type T) (rn1 C.X.K g)) (hg:Gl C.X x) (hm:C.X.mg x=none) (hv:CC x=some (.type T)) (ha:EO C e f) (hn:x≠"__name__":=by decide) (hdb:(x == ("__debug__":Str))=false:=by decide)
  (hs:Ad [e] C.X.env=[(false,BR e C.X.env)]:=by exact zbm rfl):EN C (.Call (.Name x p) [e] [] pos) (un1 f g):=by
 intro pins s σ H Q I ⟨ρ,vw,q⟩;exact znk hc hg hm hv (zqw ha hs) hn hdb hs (by rfl) pins s σ H Q I (tn1 vw q)
end
section
variable{X : Cx}
theorem cLen (hw:X.w=TW.w:=by rfl):zhl X (.builtin "len") (r1 X.K gLen):=by
 intro pins s σ H xs us Q I r ⟨v,p,z,e1,rp,ez,k⟩;have h16:=B2;subst e1;cases p with
 | lst ps=>
  obtain⟨a,xs,rfl,g,rr⟩:=RepO.lst_inv rp;cases ez;exact zm6 pins s σ H _ us Q I r ⟨_,_,rfl,.inl ⟨xs,g.l,rfl⟩,by rw[← rr.length];exact k _ H (Same.refl H) rfl⟩
 | tup ps=>
  obtain⟨a,xs,rfl,g,rr⟩:=RepO.tup_inv rp;cases ez;exact zm6 pins s σ H _ us Q I r ⟨_,_,rfl,.inr ⟨xs,g,rfl⟩,by rw[← rr.length];exact k _ H (Same.refl H) rfl⟩
 | str x=>
  simp only[gLen] at ez;split at ez
  ·cases ez
   cases (show v=.str x from rp);exact zm6 pins s σ H _ us Q I r ⟨_,_,rfl,⟨by omega,rfl⟩,k _ H (Same.refl H) rfl⟩
  ·cases ez
 | dct ks ps=>
  obtain⟨a,kvs,rfl,g,e1,rr⟩:=rp;cases ez;obtain⟨u,rfl,ru⟩:=vals1 r;cases ru;obtain⟨hz,hS,vs,rel,m⟩:=DkR.at hw I g;have hlen:kvs.length=vs.length:=BC rel;subst e1;rw[AI,hlen] at k;exact call_len_dict hS m (by omega) ⟨.int vs.length,H,I.tok _,⟨_,rfl⟩,k _ H (Same.refl H) rfl⟩
 | _=>cases ez
theorem cInt:zhl X (.type "int") (r1 X.K gInt):=by
 intro pins s σ H xs us Q I r ⟨v,p,z,e1,rp,ez,k⟩;subst e1;cases p with
 | int i=>cases ez;cases (show v=.int i from rp);exact zoi pins s σ H _ us Q I r (.inl ⟨i,rfl,k _ H (Same.refl H) rfl⟩)
 | bl i=>cases ez;cases (show v=.bl i from rp);exact zoi pins s σ H _ us Q I r (.inr ⟨i,rfl,k _ H (Same.refl H) rfl⟩)
 | _=>cases ez
theorem zze:zhl X (.type "tuple") (r1 X.K zn4):=by
 intro pins s σ H xs us Q I r ⟨v,p,z,e1,rp,ez,k⟩;subst e1;cases p with
 | lst ps=>
  obtain⟨a,xs,rfl,g,rr⟩:=RepO.lst_inv rp;cases ez;exact zie pins s σ H _ us Q I r ⟨a,xs,rfl,.inl ⟨g.l,fun l hl=>k _ _ (Same.new hl) ⟨l,xs,rfl,zak,rr.same (Same.new hl)⟩⟩⟩
 | tup ps=>
  obtain⟨a,xs,rfl,g,rr⟩:=RepO.tup_inv rp;cases ez;exact zie pins s σ H _ us Q I r ⟨a,xs,rfl,.inr ⟨g,k _ H (Same.refl H) rp⟩⟩
 | _=>cases ez
end
section
variable{C : Cn}{e tg : Expr}{f : PSt → R PV}{pos : C7}
theorem Za5{K:A0}{H:Hp}{a:Addr}{xs:List V}{ps:List PV}(g:SqF K H a xs)(r:Reps K H ps xs):ItP K (Itl K a) H ps:=fun i H' k=>by
 have g':=(k.sqF g).l.l;have r':=Reps.kp k ps r;have hl:=r'.length;refine⟨fun h=>⟨xs,g',by omega⟩,fun p e=>?_⟩
 obtain⟨x,ex,rp⟩:=r'.get e
 exact⟨⟨xs,x,g',ex⟩,fun y H2 ⟨eh,hy⟩=>by
  subst eh;have:=hy xs g';rw[ex] at this;cases this;exact⟨Same.refl _,rp⟩⟩
theorem Zen{K:A0}{H:Hp}{a:Addr}{xs:List V}{ps:List PV}(g:SqT K H a xs)(r:Reps K H ps xs):ItP K (Itt K a) H ps:=fun i H' k=>by
 have g':=k.sqT g;have r':=Reps.kp k ps r;have hl:=r'.length;refine⟨fun h=>⟨xs,g',by omega⟩,fun p e=>?_⟩
 obtain⟨x,ex,rp⟩:=r'.get e
 exact⟨⟨xs,x,g',ex⟩,fun y H2 ⟨eh,hy⟩=>by
  subst eh;have:=hy xs g';rw[ex] at this;cases this;exact⟨Same.refl _,rp⟩⟩
theorem zqk{K:A0}{H:Hp}{lo:Int}{n:Nat}:ItP K (Itr lo n) H (zb9 lo n):=fun i H' k=>by
 refine⟨fun h=>?_,fun p e=>?_⟩
 ·have:n<=i:=by simp[zb9] at h;omega
  exact this
 ·unfold zb9 at e
  rw[AG] at e
  have hi:i<n:=by
   by_cases hi:i<n
   ·exact hi
   ·rw[Bx (by simpa using hi)] at e
    cases e
  rw[Bq hi] at e;cases e;exact⟨hi,fun y H2 ⟨eh,hy⟩=>by subst eh hy;exact⟨Same.refl _,rfl⟩⟩
theorem zgv {p:C7} (hg:Gl C.X "range") (hm:C.X.mg "range"=none) (he:EV C e f) (hs:Ad [e] C.X.env=[(false,BR e C.X.env)]:=by exact zbm rfl):EI C tg (.Call (.Name "range" p) [e] [] pos) (rng1 f):=by
 intro pins s σ H Rk I ⟨ρ,vw,q⟩;refine zs8 hg hm (zb0 he ze7 hs) hs pins s σ H Rk I ⟨ρ,vw,q.bind.imp fun p _ k v H1 s1 r1=>?_⟩
 cases p with
 | int j=>
  cases (show v=.int j from r1)
  by_cases hj:j.natAbs<1000000000
  ·have k:RQ C H (if j.natAbs<1000000000 then R.ok (zb9 0 j.toNat) else R.no) fun ps=>∀J H',Same H H'->ItP C.X.K J H' ps->Rk J H':=k
   rw[if_pos hj] at k;exact⟨j,rfl,by omega,by omega,k _ H1 s1 zqk⟩
  ·have k:RQ C H (if j.natAbs<1000000000 then R.ok (zb9 0 j.toNat) else R.no) fun ps=>∀J H',Same H H'->ItP C.X.K J H' ps->Rk J H':=k
   rw[if_neg hj] at k;exact AK k
 | _=>exact AK k
end
section
variable{C : Cn}{e : Expr}{f : PSt → R PV}{pos apos cpos : C7}
theorem zcp(i:Nat){x:Str}{np:C7}(he:EV C e f)(hs:Ad [e] C.X.env=[(false,BR e C.X.env)]:=by exact zbm rfl)
  (hb:DA (.Name x np) "append" C.X.env (BR (.Name x np) C.X.env)=BR (.Name x np) C.X.env:=by rfl) (hline:(apos.endLine == cpos.line)=true:=by rfl)
  (hd:(x == ("__debug__":Str))=false:=by decide) (hcd:(x == ("__classdict__":Str))=false:=by decide) (hN:C.X.N[i]?=some x:=by rfl) (hv:Vis C.X.env.scope x:=by first | exact .inl rfl | exact .inr (.inl rfl) | exact .inr (.inr rfl)):SV C (.Expr (.Call (.Attribute (.Name x np) "append" apos) [e] [] cpos) pos) (appF i f):=by
 intro pins s σ H D I ⟨ρ,B,S,q⟩;unfold appF at q;split at q
 ·rename_i ps e1
  obtain⟨a,e2,xs,hx,rr⟩:=S.vw i _ e1;refine zoz (zw0 G6 EM Fv zgj (zeb hN hv hd hcd) (zb0 he ze7 hs) hb (by rw[hs];rfl) hline hs (by rfl)) (by rfl) pins s σ H D I ?_
  refine⟨_,e2,.inl ⟨rfl,xs,SqL.of hx⟩,ρ,S.vw,(RS.bind q S.same).imp fun p _ q' v H1 s1 r1=>?_⟩
  by_cases hl:ps.length<16777216
  ·rw[if_pos hl] at q'
   refine⟨a,xs,v,rfl,rfl,s1 _ _ hx,by rw[B2,← rr.length];exact hl,?_⟩
   refine q' σ _ ((S.grow s1).turn e1 e2 (fun b hb=>zal hb) ?_)
   have kp:Kp H1 (upd H1 a (.lst (xs++[v]))):=Kp.upd (s1 _ _ hx) rfl;exact⟨a,rfl,xs++[v],zak,Reps.append (Reps.kp kp _ (rr.same s1)) (Reps.cons (Rep.kp kp _ r1) Reps.nil)⟩
  ·rw[if_neg hl] at q'
   exact AK q'
 ·exact AK q
end
end PU
namespace PU
open PySem PySem.Spec PyProof.Rows L2 PySem.SeqAt
variable[TW]
section
variable{C : Cn}
theorem ev_v(i:Nat){x:Str}{pos:C7}(hN:C.X.N[i]?=some x:=by rfl)(hv:Vis C.X.env.scope x:=by first | exact Dc rfl | exact DZ (Dc rfl) | exact DZ (DZ rfl))
  (hd:(x == ("__debug__":Str))=false:=by decide) (hcd:(x == ("__classdict__":Str))=false:=by decide):EV C (.Name x pos) (getV i):=zux i hN hv hd hcd
theorem eo_v(i:Nat){x:Str}{pos:C7}(hN:C.X.N[i]?=some x:=by rfl)(hv:Vis C.X.env.scope x:=by first | exact Dc rfl | exact DZ (Dc rfl) | exact DZ (DZ rfl))
  (hd:(x == ("__debug__":Str))=false:=by decide) (hcd:(x == ("__classdict__":Str))=false:=by decide):EO C (.Name x pos) (getO i):=Ze1 i hN hv hd hcd
variable{a b c : Expr}{fa fb fc : PSt → R PV}{pos : C7}
end
end PU
namespace PU
open PySem PySem.Spec PyProof.Rows L2 PySem.SeqAt
variable[TW]
section
variable{X : Cx}{pins : List (Addr×Bi)}{σ : L2.St}{H : Hp}{s : AD}
theorem _root_.L2.Inv.turnedL{wr:List Addr}{h':Heap}{t':Nat}(I:L2.Inv X pins σ H s)(k:∀b o,b ∉ wr->s.heap.get? b=some o->h'.get? b=some o)(hw:∀b∈wr,FpOk X pins H b):L2.Inv X pins σ H { s with heap:=h',toks:=t' }:=by
 have nw:∀b u,H b=some u->b ∉ wr:=fun b u e z=>by rw[(hw b z).1] at e;cases e
 refine I.step (g':=s.gens) (d':=s.drawn) (ch:=wr) (fun b hb=>?_) (fun b o _ _ hc e _=>k b o hc e) (fun b o _ _ hc e _=>⟨o.slots,k b o hc e⟩) (fun _ _ _ _ n=>n)
  (fun b o hc e=>⟨o,k b o hc e⟩) (fun _ _ e=>e) (fun _ _ _ e=>e) (fun b ps e=>⟨#[],by rw[e];simp⟩) (fun m hm=>?_) (fun b u e=>?_) I.bare
 ·obtain⟨g1,g2,g3,g4,g5,g6⟩:=hw b hb
  exact⟨g4,g2,g5,g6⟩
 ·obtain⟨o,es,ep,ho,r⟩:=hm
  exact⟨o,es,ep,k _ o (fun z=>(hw _ z).2.1 rfl) ho,r⟩
 ·refine(I.hok b u e).stay (fun c v hc q=>k c v ?_ q) (fun _ q=>q) fun _ _ q=>q
  rcases hc with z | z
  ·rw[z];exact nw b u e
  ·exact nw c _ z
theorem _root_.L2.Inv.tupled{wr:List Addr}{h':Heap}{t':Nat}{T:Addr}{vals:List A9}{xs:List V}(I:L2.Inv X pins σ H s)(k:∀b o,b ∉ wr->s.heap.get? b=some o->h'.get? b=some o)(hw:∀b∈wr,FpOk X pins H b)(hws:∀b∈wr,b<s.heap.objs.size)
  (hT:s.heap.objs.size<=T) (ht:h'.IsTuple T vals.toArray) (rv:Vals xs vals) (hz:xs.length<=sizeLine) (hnr:¬ ∀v∈vals,∃b,v=B6 b):L2.Inv X pins σ (upd H T (.tup xs)) { s with heap:=h',toks:=t' }:=by
 have nw:∀b u,H b=some u->b ∉ wr:=fun b u e z=>by rw[(hw b z).1] at e;cases e
 have nT:H T=none:=I.hok.fresh hT;have neT:∀b u,H b=some u->b≠T:=fun b u e=>zbj e nT
 have lo:∀b o,s.heap.get? b=some o->b≠T:=fun b o e z=>by
  subst z;exact absurd (AL e) (Ee.mpr hT)
 have hlt:X.env.locals≠T:=fun z=>absurd I.lt (by rw[z];exact Ee.mpr hT)
 refine I.step (g':=s.gens) (d':=s.drawn) (ch:=wr) (fun b hb=>?_) (fun b o _ _ hc e _=>k b o hc e) (fun b o _ _ hc e _=>⟨o.slots,k b o hc e⟩) (fun b o _ e n=>by rw[zal (lo b o e)];exact n)
  (fun b o hc e=>⟨o,k b o hc e⟩) (fun b xs e=>by rw[zal (neT _ _ e)];exact e) (fun b o u e=>by rw[zal (neT _ _ e)];exact e) (fun b ps e=>⟨#[],by rw[zal (neT _ _ e),e];simp⟩) (fun m hm=>?_) (fun b u e=>?_) I.bare
 ·obtain⟨g1,g2,g3,g4,g5,g6⟩:=hw b hb
  exact⟨g4,g2,g5,g6⟩
 ·obtain⟨o,es,ep,ho,r⟩:=hm
  exact⟨o,es,ep,k _ o (fun z=>(hw _ z).2.1 rfl) ho,r⟩
 ·by_cases hb:b=T
  ·subst hb
   rw[zak] at e;cases e;obtain⟨o,e1,e2,e3⟩:=ht;exact⟨hz,vals,rv,o,e1,e2,e3,fun h=>absurd h hnr⟩
  ·rw[zal hb] at e
   refine(I.hok b u e).stay (fun c v hc q=>k c v ?_ q) (fun c q=>by rw[zal (neT _ _ q)];exact q) fun c ys q=>by rw[zal (neT _ _ q)];exact q
   rcases hc with z | z
   ·rw[z];exact nw b u e
   ·exact nw c _ z
end
theorem zsk{P:Ak}{w:Ar}{K:A0}{elts:List Expr}{kk:Nat}{tp:C7}{it:Addr}{fp wr:List Addr}{n:Nat}{own:Nat->Heap->Prop}{J:It}
  (W:∀(X:Cx)(pins:List (Addr×Bi))(σ:L2.St)(H:Hp)(s:AD)(i:Nat),X.prog=P->X.w=w->X.K=K->X.calm=true->L2.Inv X pins σ H s->own i s.heap->J.go i H\/J.stop i H->
   ∃(more:List Addr)(Pt:Nat->Array A9->Prop)(St:Nat->Heap->Prop)(Mid:Nat->Addr->Heap->Prop),WalksT P w X.A it more wr n Pt St Mid/\St i s.heap/\(∀j h,St j h->own j h)/\
    ∀vals,Pt i vals->∃xs,Vals xs vals.toList/\xs.length<=sizeLine/\(¬ ∀v∈vals.toList,∃b,v=B6 b)/\∀T,H T=none->J.yld i H (.ref T) (upd H T (.tup xs)))
  (hI:it∈fp) (hwr:∀b∈wr,b∈fp)
  (obj:∀i h,own i h->∀b∈fp,∃o,h.get? b=some o/\∀v,o.data≠.cell v) (keep:∀i h h',own i h->(∀b∈fp,∀o,h.get? b=some o->h'.get? b=some o)->own i h')
  (hgo:∀i H,J.go i H->i<n) (hstop:∀i H,J.stop i H->i=n)
  (self:∀(A:B0)(i:Nat)(s:AD)(Q:A9->AD->Prop)(E:A9->AD->Prop),own i s.heap->Q (.ref it) s->Af (Ap P w) A (pyIter (.ref it)) Q E s) :
  Turn P w K (.Tuple elts kk tp) J fp it own where
 mem:=hI
 obj:=obj
 keep:=keep
 item:=by
  intro X hP hw hK hc i pins s σ H E I hf st hg;obtain⟨more,Pt,St,Mid,W',st',ofSt,hval⟩:=W X pins σ H s i hP hw hK hc I st (.inl hg);subst hP hw hK;refine W'.item i s _ _ (hgo i H hg) st' fun T vals h' tk hPt hT hTup hMid hk=>?_
  obtain⟨xs,rv,hz,hnr,hy⟩:=hval vals hPt;have nT:H T=none:=I.hok.fresh hT;have hfw:∀b∈wr,FpOk X pins H b:=fun b hb=>hf b (hwr b hb)
  have hws:∀b∈wr,b<s.heap.objs.size:=fun b hb=>by
   obtain⟨o,e,_⟩:=obj i _ st b (hwr b hb);exact AL e
  have I1:L2.Inv X pins σ (upd H T (.tup xs)) { s with heap:=h',toks:=tk }:=I.tupled (vals:=vals.toList) hk hfw hws hT (by simpa using hTup) rv hz hnr
  refine⟨_,rfl,W'.go elts kk tp i T _ _ _ hMid fun h'' st'' hk''=>?_⟩
  have fne:∀b∈fp,upd H T (.tup xs) b=none:=fun b hb=>by
   obtain⟨o,e,_⟩:=obj i _ st b hb;rw[zal (AZ (AR (AL e) hT))];exact(hf b hb).1
  have I2:L2.Inv X pins σ (upd H T (.tup xs)) { s with heap:=h'',toks:=tk }:=L2.Inv.turnedL (s:={ s with heap:=h',toks:=tk }) (wr:=wr) (t':=tk) I1 hk'' fun b hb=>⟨fne b (hwr b hb),(hfw b hb).2⟩
  exact⟨.ref T,_,I2,rfl,hy T nT,ofSt _ _ st'',fne⟩
 done:=by
  intro X hP hw hK hc i pins s σ H E I hf st hg;obtain⟨more,Pt,St,Mid,W',st',ofSt,hval⟩:=W X pins σ H s i hP hw hK hc I st (.inr hg);subst hP hw hK;have e:=hstop i H hg;subst e;refine W'.done s _ _ st' fun h' tk hk=>⟨rfl,?_⟩
  exact I.turnedL hk fun b hb=>hf b (hwr b hb)
 self:=self
def zm9(n:Nat)(Gd:Hp->Prop)(xs:List (List V)):It:=
 ⟨fun i H=>i<n/\Gd H,fun i H x H'=>∃T ys,x=.ref T/\H T=none/\xs[i]?=some ys/\H'=upd H T (.tup ys),fun i H=>i=n/\Gd H⟩
theorem zpc{K:A0}{H₁:Hp}{n:Nat}{Gd:Hp->Prop}{xs:List (List V)}{pss:List (List PV)}(hn:pss.length=n)(hg:∀H,Kp H₁ H->Gd H)(r:∀(i:Nat)(ps:List PV)(ys:List V),pss[i]?=some ps->xs[i]?=some ys->Reps K H₁ ps ys) :
  ItP K (zm9 n Gd xs) H₁ (pss.map PV.tup):=fun i H k=>by
 refine⟨fun h=>⟨by rw[h,AI,hn],hg H k⟩,fun p e=>?_⟩
 rw[AG] at e;cases hp:pss[i]? with
 | none=>rw[hp] at e;cases e
 | some ps=>
  rw[hp] at e;cases e;have hi:i<n:=by rw[← hn];exact(AA.mp hp).1
  refine⟨⟨hi,hg H k⟩,fun x H' ⟨T,ys,ex,nT,ey,eH⟩=>?_⟩
  subst ex eH;refine⟨Same.new nT,T,ys,rfl,zak,?_⟩;exact(Reps.kp k ps (r i ps ys hp ey)).same (Same.new nT)
end PU
namespace PU
open PySem PySem.Spec PyProof.Rows L2 PySem.SeqAt
variable[TW]
theorem zg8:CC "enumerate"=some (.type "enumerate"):=by decide +kernel
def znf(x:Str):List V:=x.cps.toList.map fun c=>.str ⟨#[c]⟩
theorem zra{K:A0}{H:Hp}(x:Str):Reps K H (zf3 x) (znf x):=by
 unfold zf3 znf
 induction x.cps.toList with
 | nil=>rfl
 | cons c r ih=>exact⟨_,_,rfl,rfl,ih⟩
def numV(xs:List V):List (List V):=(AF xs.length).zipWith (fun (i:Nat) x=>[.int (i:Int),x]) xs
theorem zmp{α β:Type}(f:Nat->α->β)(l:List α)(i:Nat):((AF l.length).zipWith f l)[i]?=l[i]?.map (f i):=by
 rw[Bw]
 by_cases hi:i<l.length
 ·rw[Bq hi]
  simp[hi]
 ·rw[Bx (by simpa using hi)]
  simp[hi]
theorem zmo{K:A0}{H:Hp}{ps:List PV}{xs:List V}(r:Reps K H ps xs):∀(i:Nat)(qs:List PV)(ys:List V),(numP ps)[i]?=some qs->(numV xs)[i]?=some ys->Reps K H qs ys:=fun i qs ys h1 h2=>by
 unfold numP at h1;unfold numV at h2;rw[zmp] at h1 h2;cases e:ps[i]? with
 | none=>rw[e] at h1;cases h1
 | some p=>
  rw[e] at h1;obtain⟨x,ex,rp⟩:=r.get e;rw[ex] at h2;cases h1;cases h2;exact⟨_,_,rfl,rfl,_,_,rfl,rp,rfl⟩
theorem zhv(ps:List PV):(numP ps).length=ps.length:=by simp[numP]
section
variable{P : Ak}{w : Ar}{K : A0}{elts : List Expr}{kk : Nat}{tp : C7}
theorem zk9(a it e:Addr)(xs:List V)(hne:e≠it)(hae:a≠e)(hai:a≠it) :
  Turn P w K (.Tuple elts kk tp) (zm9 xs.length (fun H=>SqL K H a xs) (numV xs)) [e,it] e (fun i h=>(∃old,IsEnum h e it i old)/\h.IsListIter it a i):=by
 refine zsk (wr:=[e,it]) (n:=xs.length) (fun X pins σ H s i hP hw hK hc I st hg=>?_) (by simp) (fun b hb=>hb) (fun i h st b hb=>?_) (fun i h h' st k=>?_) (fun i H h=>h.1) (fun i H h=>h.1) fun A i s Q E st h=>DU st.1.choose_spec h
 ·subst hP hw hK
  have hq:SqL X.K H a xs:=by rcases hg with h | h <;> exact h.2
  obtain⟨its,rv,pl,hz⟩:=I.list hq;have hl:=rv.length;have W:=HI (A:=X.A) (Draws.list (prog:=X.prog) (w:=X.w) (A:=X.A.in1) (I.ok.hd hc) it a hai its.toArray) e hne (by simp[hne,Bc hae]) (by simp)
  rw[show its.toArray.size=xs.length by simp[hl]] at W
  refine⟨_,_,_,_,W,⟨st.1,st.2,pl.isList⟩,fun j h st=>⟨st.1,st.2.1⟩,fun vals hv=>?_⟩
  obtain⟨t,x,hx,rfl⟩:=hv;have hx:its[i]?=some x:=by simpa using hx
  have hi:i<xs.length:=by rw[hl];exact(AA.mp hx).1
  have e1:xs[i]?=some xs[i]:=by simp[hi]
  obtain⟨u,eu,ru⟩:=rv.get e1;rw[hx] at eu;cases eu;refine⟨[.int i,xs[i]],.cons ⟨t,rfl⟩ (.cons ru .nil),by show 2<=sizeLine;decide,fun z=>(by obtain⟨b,z⟩:=z _ Ai;cases z),fun T hT=>⟨T,_,rfl,hT,?_,rfl⟩⟩
  unfold numV;rw[zmp,e1];rfl
 ·obtain⟨⟨old,he⟩,o,ho,hc,hd⟩:=st
  rcases AU.mp hb with rfl | hb
  ·exact⟨_,he,fun v z=>by cases (show Fk _=Ew v from z)⟩
  ·have:b=it:=by simpa using hb
   subst this;exact⟨o,ho,fun v z=>by rw[hd] at z;cases z⟩
 ·obtain⟨⟨old,he⟩,hi⟩:=st
  exact⟨⟨old,k e (by simp) _ he⟩,hi.at fun o x=>k it (by simp) o x⟩
theorem zu4{prog:Ak}{w:Ar}{A:B0}(hh:A.handled=none)(it:Addr)(x:Str)(t:Tok) :
  Draws prog w A it [it] x.cps.size (fun i v=>∃c u,x.cps[i]?=some c/\v=.str ⟨#[c]⟩ u) (fun i h=>h.IsStrIter it (Cv x) x t i):=by
 unfold Cv
 split
 ·exact Draws.strAscii hh it x t
 ·exact Draws.strWide hh it x t
theorem zq8(it e:Addr)(x:Str)(t:Tok)(hne:e≠it) :
  Turn P w K (.Tuple elts kk tp) (zm9 x.cps.size (fun _=>True) (numV (znf x))) [e,it] e (fun i h=>(∃old,IsEnum h e it i old)/\h.IsStrIter it (Cv x) x t i):=by
 refine zsk (wr:=[e,it]) (n:=x.cps.size) (fun X pins σ H s i hP hw hK hc I st hg=>?_) (by simp) (fun b hb=>hb) (fun i h st b hb=>?_) (fun i h h' st k=>?_) (fun i H h=>h.1) (fun i H h=>h.1) fun A i s Q E st h=>DU st.1.choose_spec h
 ·subst hP hw hK
  refine⟨_,_,_,_,HI (A:=X.A) (zu4 (A:=X.A.in1) (I.ok.hd hc) it x t) e hne (by simp[hne]) (by simp),⟨st.1,st.2⟩,fun j h st=>⟨st.1,st.2⟩,fun vals hv=>?_⟩
  obtain⟨t',v,⟨c,u,hc',rfl⟩,rfl⟩:=hv
  have e1:(znf x)[i]?=some (.str ⟨#[c]⟩):=by
   unfold znf;rw[AG];simp[hc']
  refine⟨[.int i,.str ⟨#[c]⟩],.cons ⟨t',rfl⟩ (.cons ⟨u,rfl⟩ .nil),by show 2<=sizeLine;decide,fun z=>(by obtain⟨b,z⟩:=z _ Ai;cases z),fun T hT=>⟨T,_,rfl,hT,?_,rfl⟩⟩
  unfold numV;rw[zmp,e1];rfl
 ·obtain⟨⟨old,he⟩,o,ho,hc,hd⟩:=st
  rcases AU.mp hb with rfl | hb
  ·exact⟨_,he,fun v z=>by cases (show Fk _=Ew v from z)⟩
  ·have:b=it:=by simpa using hb
   subst this;exact⟨o,ho,fun v z=>by rw[hd] at z;cases z⟩
 ·obtain⟨⟨old,he⟩,o,ho,r⟩:=st
  exact⟨⟨old,k e (by simp) _ he⟩,o,k it (by simp) o ho,r⟩
end
theorem zix {C:Cn} {e:Expr} {elts:List Expr} {kk:Nat} {tp p pos:C7} {f:PSt->R PV} (hg:Gl C.X "enumerate") (hm:C.X.mg "enumerate"=none) (he:EV C e f) (hs:Ad [e] C.X.env=[(false,BR e C.X.env)]:=by exact zbm rfl) :
  EI C (.Tuple elts kk tp) (.Call (.Name "enumerate" p) [e] [] pos) (zoe f):=by
 intro pins s σ H Rk I ⟨ρ,vw,q⟩
 refine Call_ (zhz I hg hm zg8 (BM (thn ((zb0 he ze7 hs) pos pins s σ H (fun vs H'=>∃v p ps,vs=[v]/\Same H H'/\Rep C.X.K H' p v/\zod p=some ps/\∀J H2,Same H' H2->ItP C.X.K J H2 ps->Rk J H2) I ⟨ρ,vw,q.bind.imp fun p _ k v H' s' r=>?_⟩)
  fun us s1 ⟨vs,H1,I1,r1,v,p,ps,ev,sm,rp,ep,k⟩=>?_) hs rfl))
 ·obtain⟨ps,ep,k⟩:=k.ofO
  exact⟨v,p,ps,rfl,s',r,ep,fun J H2 s2 it=>k J H2 (s'.trans s2) it⟩
 ·subst ev
  obtain⟨u,rfl,ru⟩:=vals1 r1;have hne:s1.heap.objs.size+1≠s1.heap.objs.size:=EU _
  have fp:∀{h':Heap},(∀b o,s1.heap.get? b=some o->h'.get? b=some o)->L2.Inv C.X pins σ H1 { s1 with heap:=h' }/\∀b∈[s1.heap.objs.size+1,s1.heap.objs.size],FpOk C.X pins H1 b:=fun {h'} hk=>by
   refine⟨I1.kept (t':=s1.toks) hk,fun b hb=>?_⟩
   have hb:s1.heap.objs.size<=b:=by
    simp only[AU,B7,or_false] at hb;rcases hb with rfl | rfl
    ·exact De _
    ·exact AY _
   exact I1.fpOk hb (I1.hok.fresh hb)
  cases p with
  | lst qs=>
   cases ep;obtain⟨a,xs,rfl,g,rr⟩:=rp;cases ru;obtain⟨its,rv,pl,hz⟩:=I1.list g.l.l;have ha:a<s1.heap.objs.size:=by obtain⟨o,n,ho,_⟩:=pl;exact AL ho
   refine call_enumerate_list pl.isList fun h' he' hi' hsz hk=>DU he' ?_
   obtain⟨I2,hf⟩:=fp hk;refine⟨_,_,_,_,H1,rfl,I2,zk9 a s1.heap.objs.size (s1.heap.objs.size+1) xs hne (AZ (C1 ha)) (AZ ha),⟨⟨_,he'⟩,hi'⟩,hf,k _ H1 (Same.refl H1) ?_⟩;exact zpc (by rw[zhv,rr.length]) (fun H2 k2=>(k2.sqF g).l.l) (zmo rr)
  | str x=>
   cases ep;cases (show v=.str x from rp);obtain⟨t,rfl⟩:=ru;refine call_enumerate_str fun h' he' hi' hsz hk=>DU he' ?_
   obtain⟨I2,hf⟩:=fp hk;refine⟨_,_,_,_,H1,rfl,I2,zq8 s1.heap.objs.size (s1.heap.objs.size+1) x t hne,⟨⟨_,he'⟩,hi'⟩,hf,k _ H1 (Same.refl H1) ?_⟩;exact zpc (by rw[zhv];simp[zf3]) (fun H2 k2=>trivial) (zmo (zra x))
  | _=>cases ep
end PU
namespace PU
open PySem PySem.Spec PyProof.Rows L2 PySem.SeqAt
variable[TW]
def ztd(kvs:List (Key×V)):List (List V):=kvs.map fun kv=>[kV kv.1,kv.2]
theorem zqj{K:A0}{H:Hp}(k:Key):Rep K H (keyP k) (kV k):=by
 cases k <;> rfl
theorem zrj{K:A0}{H:Hp}:∀{kvs:List (Key×V)}{ps:List PV},Reps K H ps (kvs.map (·.2))->∀(i:Nat)(qs:List PV)(ys:List V),(zi6 (kvs.map (·.1)) ps)[i]?=some qs->(ztd kvs)[i]?=some ys->Reps K H qs ys:=fun {kvs ps} r i qs ys h1 h2=>by
 unfold zi6 at h1;unfold ztd at h2;rw[Bw,AG] at h1;rw[AG] at h2;cases e:kvs[i]? with
 | none=>rw[e] at h2;cases h2
 | some kv=>
  rw[e] at h1 h2;cases h2;obtain⟨p,ep,rp⟩:=r.getV (i:=i) (x:=kv.2) (by rw[AG,e];rfl)
  rw[ep] at h1;cases h1;exact⟨_,_,rfl,zqj kv.1,_,_,rfl,rp,rfl⟩
section
variable{P : Ak}{w : Ar}{K : A0}{elts : List Expr}{kk : Nat}{tp : C7}
theorem zlg{kvs:List (Key×V)}{vs:List (Key×A9)}(rel:KV kvs vs):∀{i:Nat}{a:Key×V}{b:Key×A9},kvs[i]?=some a->vs[i]?=some b->a.1=b.1/\RelV a.2 b.2:=by
  induction rel with
  | nil=>intro i a b h _;simp at h
  | cons h t ih=>
   intro i a b h1 h2;cases i with
   | zero=>simp at h1 h2;subst h1 h2;exact h
   | succ i=>exact ih (by simpa using h1) (by simpa using h2)
def DObj(K:A0)(H:Hp)(d:Addr)(o:Bi)(kvs:List (Key×V)):Prop:=H d=some (.frz o (.dK kvs))\/(K.lookup d=some o/\KDict K d kvs)
theorem DObj.at{X:Cx}{pins:List (Addr×Bi)}{σ:L2.St}{H:Hp}{s:AD}{d:Addr}{o:Bi}{kvs:List (Key×V)}{es:Array DictEntry}{ep:Nat}(hw:X.w=TW.w)(I:L2.Inv X pins σ H s)(h:DObj X.K H d o kvs)(ho:o.data=.dict es ep) :
  ∃vs,KV kvs vs/\s.heap.DictAt (zao X.prog X.w) d vs ep/\s.heap.get? d=some o/\o.ExactDict:=by
 rcases h with hq | ⟨hk,_,_,o2,es2,ep2,e,x,d2,r⟩
 ·obtain⟨e0,z,_,vs,rel,o',es',ep',e1,x1,d1,rest⟩:=I.hok d _ hq
  rw[e0] at e1;cases e1;rw[ho] at d1;cases d1;exact⟨vs,rel,⟨o,es,e0,x1,ho,rest⟩,e0,x1⟩
 ·rw[hk] at e
  cases e;rw[ho] at d2;cases d2;obtain⟨vs,rel,rest⟩:=r X.prog;rw[← hw] at rest;exact⟨vs,rel,⟨o,es,I.kIn _ _ hk,x,ho,rest⟩,I.kIn _ _ hk,x⟩
end
end PU
namespace PU
open PySem PySem.Spec PyProof.Rows L2 PySem.SeqAt
variable[TW]
section
variable{P : Ak}{w : Ar}{K : A0}{tg : Expr}
def zzi(K:A0)(d:Addr)(o:Bi)(kvs:List (Key×V)):It:=
 ⟨fun i H=>i<kvs.length/\DObj K H d o kvs,fun i H x H'=>H'=H/\∃kv,kvs[i]?=some kv/\x=kV kv.1,fun i H=>i=kvs.length/\DObj K H d o kvs⟩
theorem DObj.kp{H H':Hp}{d:Addr}{o:Bi}{kvs:List (Key×V)}(k:Kp H H')(h:DObj K H d o kvs):DObj K H' d o kvs:=by
 rcases h with h | h
 ·exact .inl (k _ _ h rfl)
 ·exact .inr h
theorem Za6{H:Hp}{d:Addr}{o:Bi}{kvs:List (Key×V)}{ks:List Key}(g:DObj K H d o kvs)(e:kvs.map (·.1)=ks):ItP K (zzi K d o kvs) H (ks.map keyP):=fun i H' k=>by
 subst e;refine⟨fun h=>⟨by simpa using h,g.kp k⟩,fun p ep=>?_⟩
 rw[AG,AG] at ep;cases hk:kvs[i]? with
 | none=>rw[hk] at ep;cases ep
 | some kv=>
  rw[hk] at ep;cases ep;refine⟨⟨(AA.mp hk).1,g.kp k⟩,fun x H2 ⟨eh,kv',e1,e2⟩=>?_⟩
  rw[hk] at e1;cases e1;subst eh e2;exact⟨Same.refl _,zqj kv.1⟩
theorem zsj(d it:Addr)(o:Bi)(es:Array DictEntry)(ep:Nat)(ho:o.data=.dict es ep)(kvs:List (Key×V))(hw:w=TW.w):Turn P w K tg (zzi K d o kvs) [it] it (fun i h=>h.IsKeyIter it d i kvs.length ep) where
 mem:=by simp
 obj:=fun i h st b hb=>by
  have e:b=it:=by simpa using hb
  subst e;obtain⟨o,e,c,dd⟩:=st;exact⟨o,e,fun v z=>by rw[dd] at z;cases z⟩
 keep:=fun i h h' st k=>st.at fun o e=>k it (by simp) o e
 item:=by
  intro X hP hw hK hc i pins s σ H E I hf st hg;subst hP hw hK;obtain⟨hi,hq⟩:=hg;obtain⟨vs,rel,dat,_,_⟩:=hq.at hw I ho;have hl:kvs.length=vs.length:=BC rel;obtain⟨f0,f1,f2,f3,f4,f5⟩:=hf it (by simp)
  have eg:vs[i]?=some vs[i]:=by simp[← hl,hi]
  have egk:kvs[i]?=some kvs[i]:=by simp[hi]
  obtain⟨hk1,hk2⟩:kvs[i].1=vs[i].1/\RelV kvs[i].2 vs[i].2:=zlg rel egk eg;rw[hl] at st;refine wpAny_pyNext_dict_item st dat (k:=vs[i].1) (v:=vs[i].2) eg fun key h' hkey st' sb=>?_
  have I1:Inv X pins σ H { s with heap:=h' }:=I.turned (t':=s.toks) (fun b o hb e=>(sb.2 b hb).trans e) f0 f1 f3 f4 f5
  obtain⟨oi,e,c,dd⟩:=id st'
  have rk:RelV (kV kvs[i].1) key:=by
   rw[hk1];rcases zbg hkey with⟨j,t,e1,e2⟩|⟨y,t,e1,e2⟩
   ·rw[e1,e2];exact⟨t,rfl⟩
   ·rw[e1,e2];exact⟨t,rfl⟩
  exact⟨key,rfl,zue (s:={ s with heap:=h' }) e c dd (by decide) ⟨kV kvs[i].1,H,I1,rk,⟨rfl,_,egk,rfl⟩,by rw[hl];exact st',fun b hb=>(hf b hb).1⟩⟩
 done:=by
  intro X hP hw hK hc i pins s σ H E I hf st hg;subst hP hw hK;obtain⟨hi,hq⟩:=hg;obtain⟨vs,rel,dat,_,_⟩:=hq.at hw I ho;have hl:kvs.length=vs.length:=BC rel;obtain⟨f0,f1,f2,f3,f4,f5⟩:=hf it (by simp)
  rw[hl] at st;exact wpAny_pyNext_dict_end (I.ok.hd hc) st dat (by simp[← hl,hi]) fun h' eb=>⟨rfl,I.turned (t':=s.toks) (fun b o hb e=>eb b o hb e) f0 f1 f3 f4 f5⟩
 self:=fun _ _ _ _ _ st h=>wpAny_pyIter_keyiter st h
def zvs(x:Str):It:=⟨fun i _=>i<x.cps.size,fun i H y H'=>H'=H/\∃c,x.cps[i]?=some c/\y=.str ⟨#[c]⟩,fun i _=>i=x.cps.size⟩
theorem zxf{H:Hp}{x:Str}:ItP K (zvs x) H (zf3 x):=fun i H' k=>by
 refine⟨fun h=>show i=x.cps.size by simpa [zf3] using h,fun p ep=>?_⟩
 unfold zf3 at ep;rw[AG] at ep;cases hk:x.cps.toList[i]? with
 | none=>rw[hk] at ep;cases ep
 | some c=>
  rw[hk] at ep;cases ep;refine⟨show i<x.cps.size by simpa using (AA.mp hk).1,fun y H2 ⟨eh,c',e1,e2⟩=>?_⟩
  have:c'=c:=by
   rw[Ge] at hk;rw[hk] at e1;exact(BD e1).symm
  subst this eh e2;exact⟨Same.refl _,rfl⟩
theorem zna{A:B0}(hh:A.handled=none)(it:Addr)(x:Str)(t:Tok):Walks P w A it [it] [it] x.cps.size (SignAt x) (fun i h=>h.IsStrIter it (Cv x) x t i):=by
 unfold Cv
 split
 ·exact Walks.strAscii hh it x t
 ·exact Walks.strWide hh it x t
theorem zot (x:Str):["enumerate","zip","dict_itemiterator","dict_reverseitemiterator","odict_iterator","itertools.zip_longest","itertools.pairwise"].contains (Cv x)=false:=by
 unfold Cv
 split <;> decide
theorem zq6(it:Addr)(x:Str)(t:Tok):Turn P w K tg (zvs x) [it] it (fun i h=>h.IsStrIter it (Cv x) x t i) where
 mem:=by simp
 obj:=fun i h st b hb=>by
  have e:b=it:=by simpa using hb
  subst e;obtain⟨o,e,c,dd⟩:=st;exact⟨o,e,fun v z=>by rw[dd] at z;cases z⟩
 keep:=fun i h h' st k=>by
  obtain⟨o,e,r⟩:=st;exact⟨o,k it (by simp) o e,r⟩
 item:=by
  intro X hP hw hK hc i pins s σ H E I hf st hg;subst hP hw hK;obtain⟨f0,f1,f2,f3,f4,f5⟩:=hf it (by simp)
  have W:=zna (P:=X.prog) (w:=X.w) (I.ok.hd hc) it x t;refine W.item i s _ _ hg st fun v h' tk hv st' kk=>?_
  obtain⟨c,u,ec,rfl⟩:=hv;have I1:Inv X pins σ H { s with heap:=h',toks:=tk }:=I.turned (fun b o hb e=>kk b o (by simpa using hb) e) f0 f1 f3 f4 f5
  obtain⟨oi,e,cc,dd⟩:=id st';exact⟨_,rfl,zue (s:={ s with heap:=h',toks:=tk }) e cc dd (zot x) ⟨.str ⟨#[c]⟩,H,I1,⟨u,rfl⟩,⟨rfl,c,ec,rfl⟩,st',fun b hb=>(hf b hb).1⟩⟩
 done:=by
  intro X hP hw hK hc i pins s σ H E I hf st hg;subst hP hw hK;obtain⟨f0,f1,f2,f3,f4,f5⟩:=hf it (by simp)
  have W:=zna (P:=X.prog) (w:=X.w) (I.ok.hd hc) it x t;have hg:i=x.cps.size:=hg;subst hg;refine W.done s _ _ st fun h' tk hk=>⟨rfl,I.turned (fun b o hb e=>hk b o (by simpa using hb) e) f0 f1 f3 f4 f5⟩
 self:=fun A i s Q E st h=>by
  unfold Cv at st;split at st
  ·exact wpAny_pyIter_striter_ascii st h
  ·exact wpAny_pyIter_striter_wide st h
end
section
variable{C : Cn}{e tg : Expr}{f : PSt → R PV}
theorem zdh(he:EV C e f)(hw:C.X.w=TW.w:=by rfl):EI C tg e (itF f):=by
 intro pins s σ H R I ⟨ρ,vw,q⟩;refine thn (he pins s σ H (fun v H'=>∃p ps,Same H H'/\Rep C.X.K H' p v/\zem p=some ps/\∀J H2,Same H' H2->ItP C.X.K J H2 ps->R J H2) I ⟨ρ,vw,q.bind.imp fun p _ k v H' s' r=>?_⟩) fun v s1 ⟨x,H1,I1,r1,p,ps,sm,rp,ep,k⟩=>?_
 ·obtain⟨ps,ep,k⟩:=k.ofO
  exact⟨p,ps,s',r,ep,fun J H2 s2 it=>k J H2 (s'.trans s2) it⟩
 ·cases p with
  | lst qs=>
   cases ep;obtain⟨a,xs,rfl,g,rr⟩:=rp;cases r1;obtain⟨its,rv,pl,hz⟩:=I1.list g.l.l;refine wpAny_pyIter_list pl.isList ?_;refine⟨s1.heap.objs.size,[s1.heap.objs.size],_,_,H1,rfl,I1.kept (t':=s1.toks) fun b o e=>AC _ e,zsi a _,⟨_,Aa _ rfl,rfl,rfl⟩,fun b hb=>?_,k _ H1 (Same.refl H1) (Za5 g rr)⟩
   have e:b=s1.heap.objs.size:=by simpa using hb
   subst e;exact I1.fpOk (AY _) (I1.hok.fresh (AY _))
  | tup qs=>
   cases ep;obtain⟨a,xs,rfl,g,rr⟩:=rp;cases r1;obtain⟨its,rv,pl,hz⟩:=I1.tuple (tq g);refine wpAny_pyIter_tuple (show s1.heap.IsTuple a its.toArray from pl) ?_;refine⟨s1.heap.objs.size,[s1.heap.objs.size],_,_,H1,rfl,I1.kept (t':=s1.toks) fun b o e=>AC _ e,zq5 a _,⟨_,Aa _ rfl,rfl,rfl⟩,fun b hb=>?_,k _ H1 (Same.refl H1) (Zen (tq g) rr)⟩
   have e:b=s1.heap.objs.size:=by simpa using hb
   subst e;exact I1.fpOk (AY _) (I1.hok.fresh (AY _))
  | dct ks qs=>
   cases ep;obtain⟨a,kvs,rfl,g,ek,rr⟩:=rp;cases r1
   obtain⟨o,es,ep,ho,hq,hs⟩:∃o es ep,o.data=.dict es ep/\DObj C.X.K H1 a o kvs/\(a == BN)=false:=by
    rcases g with⟨o,g⟩ | g
    ·obtain⟨e0,z,hs,vs,rel,o',es',ep',e1,x1,d1,rest⟩:=I1.hok a _ g
     rw[e0] at e1;cases e1;exact⟨o,es',ep',d1,.inl g,hs⟩
    ·obtain⟨_,hs,o,es,ep,e,x,d,r⟩:=id g
     exact⟨o,es,ep,d,.inr ⟨e,g⟩,hs⟩
   obtain⟨vs,rel,dat,_,_⟩:=hq.at hw I1 ho;have hl:kvs.length=vs.length:=BC rel;refine wpAny_pyIter_dict hs dat ?_;refine⟨s1.heap.objs.size,[s1.heap.objs.size],_,_,H1,rfl,I1.kept (t':=s1.toks) fun b o e=>AC _ e,zsj a _ o es ep ho kvs hw,⟨_,Aa _ rfl,rfl,by rw[hl];rfl⟩,fun b hb=>?_,k _ H1 (Same.refl H1) (Za6 hq ek)⟩
   have e:b=s1.heap.objs.size:=by simpa using hb
   subst e;exact I1.fpOk (AY _) (I1.hok.fresh (AY _))
  | str y=>
   cases ep;cases (show x=.str y from rp);obtain⟨t,rfl⟩:=r1;refine wpAny_pyIter_strU ?_;refine⟨s1.heap.objs.size,[s1.heap.objs.size],_,_,H1,rfl,I1.kept (t':=s1.toks) fun b o e=>AC _ e,zq6 _ y t,⟨_,Aa _ rfl,rfl,rfl⟩,fun b hb=>?_,k _ H1 (Same.refl H1) zxf⟩
   have e:b=s1.heap.objs.size:=by simpa using hb
   subst e;exact I1.fpOk (AY _) (I1.hok.fresh (AY _))
  | _=>cases ep
end
end PU
namespace PU
open PySem PySem.Spec PyProof.Rows L2 PySem.SeqAt
variable[TW]
def IsiC (K:A0) (c:String):Prop:=∀t∈["NoneType","bool","int","str","tuple","list","dict"],PySem.W.kitOne K (.type t) (.type c)=some (isiB t c)
theorem Za7 {K:A0}:IsiC K "int":=by intro t ht;simp only[AU,B7,or_false] at ht;rcases ht with rfl | rfl | rfl | rfl | rfl | rfl | rfl <;> first | rfl | kernel_rfl
theorem zxh {K:A0}:IsiC K "bool":=by intro t ht;simp only[AU,B7,or_false] at ht;rcases ht with rfl | rfl | rfl | rfl | rfl | rfl | rfl <;> first | rfl | kernel_rfl
theorem zxg {K:A0}:IsiC K "list":=by intro t ht;simp only[AU,B7,or_false] at ht;rcases ht with rfl | rfl | rfl | rfl | rfl | rfl | rfl <;> first | rfl | kernel_rfl
theorem Zbg{c:String}{p z:PV}(h:gIsi c p=some z):z=.bl (isiB (tyN p) c):=by
 cases p <;> cases h <;> rfl
def rIsi(K:A0)(c:String):List V->Hp->VK->Prop:=fun vs H Q=>∃v p,vs=[v,.ty c]/\RepO K H p v/\(gIsi c p).isSome=true/\Q (.bl (isiB (tyN p) c)) H
theorem cIsi {X:Cx} {c:String} (hw:X.w=TW.w) (h:IsiC X.K c):zhl X (.builtin "isinstance") (rIsi X.K c):=by
 intro pins s σ H xs us Q I r ⟨v,p,e1,rp,hsm,q⟩;subst e1;obtain⟨u,u2,rfl,ru,ru2⟩:=vals2 r;cases (show u2=CP c from ru2);have fin:∀tk,EP X pins σ Q (.bool (isiB (tyN p) c)) { s with toks:=tk }:=fun tk=>⟨.bl _,H,I.tok _,rfl,q⟩
 have hk:=fun t ht=>h t ht
 cases p with
 | non=>cases (show v=.non from rp);cases ru;exact CI PySem.W.kitx_none I.kIn CQ (hk _ (by simp[tyN])) (fun z=>nomatch z) fin
 | bl b=>cases (show v=.bl b from rp);cases ru;exact CI PySem.W.kitx_bool I.kIn CQ (hk _ (by simp[tyN])) (fun z=>nomatch z) fin
 | int i=>cases (show v=.int i from rp);obtain⟨t,rfl⟩:=ru;exact CI PySem.W.kitx_int I.kIn CQ (hk _ (by simp[tyN])) (fun z=>nomatch z) fin
 | str i=>cases (show v=.str i from rp);obtain⟨t,rfl⟩:=ru;exact CI PySem.W.kitx_str I.kIn CQ (hk _ (by simp[tyN])) (fun z=>nomatch z) fin
 | tup ps=>
  obtain⟨a,ys,rfl,g,_⟩:=RepO.tup_inv rp;cases ru;obtain⟨its,_,⟨o,e,c',_⟩,_⟩:=I.tuple g;exact CI PySem.W.kitx_tuple I.kIn ⟨o,e,c'⟩ (hk _ (by simp[tyN])) (fun z=>nomatch z) fin
 | lst ps=>
  obtain⟨a,ys,rfl,g,_⟩:=RepO.lst_inv rp;cases ru;obtain⟨_,its,n,_,e⟩:=g.is I;exact CI PySem.W.kitx_list I.kIn ⟨_,e,rfl⟩ (hk _ (by simp[tyN])) (fun z=>nomatch z) fin
 | dct ks ps=>
  obtain⟨a,kvs,rfl,g,_⟩:=rp;cases ru;obtain⟨_,_,vs,_,o,es,ep,e,x,_⟩:=DkR.at hw I g;exact CI Gu I.kIn ⟨o,e,x.1⟩ (hk _ (by simp[tyN])) (fun z=>nomatch z) fin
 | dtt ks ps=>
  obtain⟨a,kvs,rfl,g,_⟩:=rp;cases ru;obtain⟨_,_,_,_,o,es,ep,e,x,_⟩:=zrv I.hok g;exact CI Gu I.kIn ⟨o,e,x.1⟩ (hk _ (by simp[tyN])) (fun z=>nomatch z) fin
 | fn L cs=>cases hsm
theorem zuz {C:Cn} {e:Expr} {f:PSt->R PV} {c:Str} {cs:String} {p p2 pos:C7} (h:IsiC C.X.K cs) (hg:Gl C.X "isinstance") (hm:C.X.mg "isinstance"=none) (hg2:Gl C.X c) (hm2:C.X.mg c=none) (hb2:CC c=some (.type cs)) (ha:EO C e f)
  (hs:Ad [e,.Name c p2] C.X.env=[(false,BR e C.X.env),(false,BR (.Name c p2) C.X.env)]:=by exact zpx rfl rfl) (hs2:Ad [.Name c p2] C.X.env=[(false,BR (.Name c p2) C.X.env)]:=by rfl)
  (hn:c≠"__name__":=by decide) (hd:(c == ("__debug__":Str))=false:=by decide) (hw:C.X.w=TW.w:=by rfl):EV C (.Call (.Name "isinstance" p) [e,.Name c p2] [] pos) (un1 f (gIsi cs)):=by
 intro pins s σ H Q I ⟨ρ,vw,q⟩;have hpa:PA C.X [e,.Name c p2] (zzp (tO C f) (zzp (tC (.ty cs)) tNil)):=zb0 ha (zb0 (Zah hg2 hm2 hb2 rfl hn hd) ze7 hs2) (by rw[hs,hs2])
 refine zp5 (cIsi hw h) hg hm (by decide +kernel) hpa (by decide) (by decide) (by rw[hs,hs2]) (by rw[hs2];rfl) pins s σ H Q I ⟨ρ,vw,q.bind.imp fun p _ k v H1 s1 r1=>?_⟩
 obtain⟨z,ez,k⟩:=RQ.ofO k;have hz:=Zbg ez;subst hz;exact⟨v,p,rfl,r1,by rw[ez];rfl,k _ H1 s1 rfl⟩
theorem Zez{C:Cn}{e:Expr}{f:PSt->R PV}{pos:C7}(h:EV C e f):EV C (.UnaryOp .USub e pos) (un1 f gNeg):=by
 intro pins s σ H Q I ⟨ρ,vw,q⟩;refine Zg0 Zcv h pins s σ H Q I ⟨ρ,vw,q.bind.imp fun p _ k v H1 s1 r1=>?_⟩
 obtain⟨z,ez,k⟩:=k.ofO;cases p with
 | int i=>cases ez;cases (show v=.int i from r1);exact⟨i,rfl,k _ H1 s1 rfl⟩
 | _=>cases ez
def rM1(K:A0)(g:PV->PV->Option PV):V->List V->Hp->VK->Prop:=fun v vs H Q=>∃p q z u,vs=[u]/\RepO K H p v/\RepO K H q u/\g p q=some z/\∀w H',Same H H'->Rep K H' z w->Q w H'
structure StrM(name:Str)(id:String):Prop where
 slot:Slot "str" name id
 ty:typeOf (.builtin id)=pure (.type "method_descriptor")
theorem Zhy{C:Cn}{o e:Expr}{fo fe:PSt->R PV}{g:PV->PV->Option PV}{name:Str}{id:String}{apos cpos:C7}(S:StrM name id)(hm:MtR C.X id (rM1 C.X.K g))(ho:EV C o fo)(he:EO C e fe)
  (hbase:DA o name C.X.env (BR o C.X.env)=BR o C.X.env:=by rfl) (hline:(apos.endLine == cpos.line)=true:=by rfl) (hs:Ad [e] C.X.env=[(false,BR e C.X.env)]:=by exact zbm rfl) :
  EV C (.Call (.Attribute o name apos) [e] [] cpos) (meth1 fo fe g):=by
 intro pins s σ H Q I ⟨ρ,vw,q⟩;refine zw0 PySem.F.plainAttrs_str S.slot S.ty hm ho (zqw he hs) hbase (by rw[hs];rfl) hline hs (by rfl) pins s σ H Q I ⟨ρ,vw,q.bind.imp fun p _ k v H1 s1 r1=>?_⟩
 cases p with
 | str x=>
  cases (show v=.str x from r1);have k:RQ C H (fe ρ >>= fun q=>R.ofO (g (.str x) q)) fun p=>∀v H',Same H H'->Rep C.X.K H' p v->Q v H':=k
  refine⟨rfl,ρ,vw.same s1,(k.bind.same s1).imp fun p2 _ k2 u H2 s2 r2=>?_⟩
  obtain⟨z,ez,k3⟩:=k2.ofO;exact⟨.str x,p2,z,u,rfl,rfl,r2,ez,fun w H3 s3 r3=>k3 w H3 ((s1.trans s2).trans s3) r3⟩
 | _=>exact AK k
theorem zi0{K:A0}{H:Hp}:∀{ps:List PV}{xs:List V}{us:List A9}{ys:List Str},zja ps=some ys->Reps K H ps xs->Vals xs us->StrsAre us ys
 | [],_,_,_,e,r,rv=>by cases e;cases r;cases rv;exact .nil
 | p::ps,_,_,_,e,⟨x,t,ex,h1,h2⟩,rv=>by
  subst ex;cases p with
  | str y=>
   obtain⟨r,er,ez⟩:=AQ.mp (show (zja ps).map (y::·)=some _ from e);subst ez;cases (show x=.str y from h1);cases rv with
   | cons a b=>
    obtain⟨tt,rfl⟩:=a;exact .cons y tt (zi0 er h2 b)
  | _=>cases e
theorem Zgt:StrM "join" "str.join":=⟨PySem.F.slot_str_join,PySem.F.type_str_join⟩
theorem Zhf {X:Cx}:MtR X "str.join" (rM1 X.K zuj):=by
 intro pins s σ H x xs v us Q I rx rs ⟨p,q,z,u,e1,rp,rq,ez,k⟩;subst e1;obtain⟨u',rfl,ru⟩:=vals1 rs;unfold zuj at ez;split at ez
 ·rename_i y ps
  obtain⟨ys,ey,ez⟩:=AV.mp ez;split at ez
  ·rename_i hl
   cases ez;cases (show x=.str y from rp);obtain⟨t,rfl⟩:=rx;obtain⟨a,zs,rfl,g,rr⟩:=RepO.lst_inv rq;cases ru;obtain⟨_,its,n,rv,e⟩:=g.is I;exact join_list (items:=its.toArray) ⟨_,e,rfl,_,rfl⟩ (zi0 ey rr (by simpa using rv)) hl fun t' k'=>⟨.str _,H,I.tok _,⟨_,rfl⟩,k _ H (Same.refl H) rfl⟩
  ·cases ez
 ·rename_i y ps
  obtain⟨ys,ey,ez⟩:=AV.mp ez;split at ez
  ·rename_i hl
   cases ez;cases (show x=.str y from rp);obtain⟨t,rfl⟩:=rx;obtain⟨a,zs,rfl,g,rr⟩:=RepO.tup_inv rq;cases ru;obtain⟨its,rv,pl,_⟩:=I.tuple g;exact join_tuple (items:=its.toArray) pl (zi0 ey rr (by simpa using rv)) hl fun t' k'=>⟨.str _,H,I.tok _,⟨_,rfl⟩,k _ H (Same.refl H) rfl⟩
  ·cases ez
 ·cases ez
end PU
namespace PU
open PySem PySem.Spec PyProof.Rows L2 PySem.SeqAt
variable[TW]
def rSlP(K:A0):V->Option Int->Option Int->Hp->VK->Prop:=fun v lo hi H Q=>∃p z,RepO K H p v/\gSl p lo hi=some z/\∀w H',Same H H'->Rep K H' z w->Q w H'
def tOI(C:Cn)(f:PSt->R (Option Int)):TO:=fun σ H Q=>∃ρ,View C.X.K H σ ρ/\RQ C H (f ρ) fun o=>∀H',Same H H'->Q o H'
def EOI(C:Cn)(e:Option Expr)(f:PSt->R (Option Int)):Prop:=PO C.X e (tOI C f)
theorem zqz{K:A0}{H:Hp}{ps:List PV}{xs:List V}(r:Reps K H ps xs)(lo hi:Option Int):Reps K H (cutP ps lo hi) (cutV xs lo hi):=by
 unfold cutP cutV;rw[r.length];exact(r.drop _).take _
section
variable{C : Cn}{e : Expr}{f : PSt → R PV}{lo hi : Option Expr}{l h : PSt → R (Option Int)}{pos p2 : C7}
theorem zf2:EOI C none zgi:=fun pins s σ H Q I ⟨ρ,vw,q⟩=>Zac pins s σ H Q I (q H (Same.refl H))
theorem zf1(he:EV C e f):EOI C (some e) (zkx f):=by
 intro pins s σ H Q I ⟨ρ,vw,q⟩;refine Zab he pins s σ H Q I ⟨ρ,vw,q.bind.imp fun p _ k v H1 s1 r1=>?_⟩
 cases p with
 | int i=>cases (show v=.int i from r1);exact⟨i,rfl,k H1 s1⟩
 | _=>exact AK k
theorem slP{X:Cx}:SlR X (rSlP X.K):=by
 intro pins s σ H x v vl vu lo hi sl Q I rx hs pl pu ⟨p,z,rp,ez,k⟩;cases p with
 | lst ps=>
  cases ez;obtain⟨a,xs,rfl,g,rr⟩:=RepO.lst_inv rp;obtain⟨T,id,h1,h2,h3⟩:=zzv pins s σ H _ v vl vu lo hi sl (fun w H'=>∃b,w=.ref b/\H b=none/\H'=upd H b (.lst (cutV xs lo hi))) I rx hs pl pu ⟨a,xs,rfl,g.l,fun b hb=>⟨b,rfl,hb,rfl⟩⟩
  refine⟨T,id,h1,h2,thn h3 fun u s' ⟨w,H',I',rw',b,ew,nb,eH⟩=>?_⟩
  subst ew eH;obtain⟨H2,I2,rp2,oth⟩:=L2.Inv.frz (a:=b) (p:=.lst (cutP ps lo hi)) I' ⟨_,zak,(zqz rr lo hi).same (Same.new nb)⟩;refine⟨.ref b,H2,I2,rw',k _ H2 (.of fun c o ec=>?_) rp2⟩
  have hc:=zbj ec nb;rw[oth c hc,zal hc];exact ec
 | tup ps=>
  simp only[gSl] at ez;obtain⟨a,xs,rfl,g,rr⟩:=RepO.tup_inv rp
  by_cases hw:HT.sIx ps.length 0 lo=0/\HT.sIx ps.length ps.length hi=ps.length
  ·rw[if_pos hw] at ez
   cases ez
  ·rw[if_neg hw] at ez
   cases ez;exact Zc4 pins s σ H _ v vl vu lo hi sl Q I rx hs pl pu ⟨a,xs,rfl,g,by rw[← rr.length];exact hw,fun b hb=>k _ _ (Same.new hb) ⟨b,_,rfl,zak,(zqz rr lo hi).same (Same.new hb)⟩⟩
 | _=>cases ez
theorem zm0(ha:EO C e f)(hl:EOI C lo l)(hh:EOI C hi h):EV C (.Subscript e (.Slice lo hi none p2) pos) (zlc f l h):=by
 intro pins s σ H Q I ⟨ρ,vw,q⟩;refine zp4 slP ha hl hh pins s σ H Q I ⟨ρ,vw,q.bind.imp fun p _ k v H1 s1 r1=>⟨ρ,vw.same s1,(k.bind.same s1).imp fun o1 _ k2 H2 s2=>⟨ρ,(vw.same s1).same s2,(k2.bind.same (s1.trans s2)).imp fun o2 _ k3 H3 s3=>?_⟩⟩⟩
 obtain⟨z,ez,k4⟩:=k3.ofO;exact⟨p,z,(r1.same s2).same s3,ez,fun w H4 s4 r4=>k4 w H4 (((s1.trans s2).trans s3).trans s4) r4⟩
end
theorem znj{K:A0}{H:Hp}{k:Key}{p:PV}{v:V}(rp:Rep K H p v):∀{kvs:List (Key×V)}{ps:List PV},Reps K H ps (kvs.map (·.2))->Reps K H (zjc (kvs.map (·.1)) ps k p) ((kvs.map fun kv=>if kv.1=k then (kv.1,v) else kv).map (·.2))
 | [],ps,r=>by
  cases ps with
  | nil=>rfl
  | cons q qs=>obtain⟨x,t,e,_⟩:=r;cases e
 | kv::kvs,ps,r=>by
  cases ps with
  | nil=>cases r
  | cons q qs=>
   obtain⟨x,t,e,h1,h2⟩:=r;simp only[AE,Cq] at e;obtain⟨rfl,rfl⟩:=e;have ih:=znj (k:=k) rp h2;simp only[AE,zjc,Bp]
   by_cases hk:kv.1=k
   ·rw[if_pos hk,if_pos hk];exact⟨_,_,rfl,rp,ih⟩
   ·rw[if_neg hk,if_neg hk];exact⟨_,_,rfl,h1,ih⟩
theorem zp2{K:A0}{H:Hp}{kvs:List (Key×V)}{ps:List PV}{k:Key}{p:PV}{v:V}(rr:Reps K H ps (kvs.map (·.2)))(rp:Rep K H p v) :
  ∃ks' ps',putP (kvs.map (·.1)) ps k p=.dct ks' ps'/\(putK kvs k v).map (·.1)=ks'/\Reps K H ps' ((putK kvs k v).map (·.2)):=by
 unfold putP;have e:((kvs.map (·.1)).any fun j=>decide (j=k))=(kvs.any fun kv=>decide (kv.1=k)):=by rw[CN];rfl
 rw[e];unfold putK
 split
 ·refine⟨_,_,rfl,?_,znj rp rr⟩
  rw[Am];apply C4;intro kv _;simp only[CW]
  split <;> rfl
 ·refine⟨_,_,rfl,by simp,?_⟩
  rw[AW];exact Reps.append rr ⟨_,_,rfl,rp,rfl⟩
theorem zmg{K:A0}{H:Hp}{a:Addr}{kvs:List (Key×V)}{ps:List PV}{k:Key}{p:PV}{v:V}(rr:Reps K H ps (kvs.map (·.2)))(rp:Rep K H p v)(ha:H a=some (.dK (putK kvs k v))):zco K H a (putP (kvs.map (·.1)) ps k p):=by
 obtain⟨ks',ps',e,e1,e2⟩:=zp2 (k:=k) rr rp;rw[e];exact⟨_,ha,e1,e2⟩
theorem zfy{C:Cn}(i:Nat){x:Str}{ke e:Expr}{fk fv:PSt->R PV}{np pos' pos:C7}(hu:C.X.A.units+64<cLine)(hk:EV C ke fk)(hv:EV C e fv)(hN:C.X.N[i]?=some x:=by rfl)(hvis:Vis C.X.env.scope x:=by first | exact Dc rfl | exact DZ (Dc rfl))
  (hs:Cm e (some (.Subscript (.Name x np) ke pos')) pos.line C.X.env=pure false:=by rfl) (hd:(x == ("__debug__":Str))=false:=by decide) (hcd:(x == ("__classdict__":Str))=false:=by decide) :
  SV C (.Assign [.Subscript (.Name x np) ke pos'] e pos) (putF i fk fv):=by
 intro pins s σ H D I ⟨ρ,B,S,q⟩;unfold putF at q;split at q
 ·rename_i ks ps e1
  obtain⟨a,e2,kvs,hx,ek,rr⟩:=S.vw i _ e1;refine zs3 (by omega) (zeb hN hvis hd hcd) hk hv hs pins s σ H D I ⟨ρ,S.vw,(q.bind S.same).imp fun p _ q1 v H1 s1 r1=>⟨_,e2,ρ,S.vw.same s1,(q1.bind (S.same.trans s1)).imp fun kp _ q2 y H2 s2 r2=>?_⟩⟩
  obtain⟨k,e3,q3⟩:=RS.ofO q2
  by_cases hl:ks.length<16777216
  ·rw[if_pos hl] at q3
   have hy:=zdo e3 r2.o;subst hy;subst ek;have hx2:H2 a=some (.dK kvs):=s2 _ _ (s1 _ _ hx);refine⟨a,_,rfl,DPut.k hx2 (by rw[B2];simpa using hl),?_⟩
   have kp:Kp H2 (upd H2 a (.dK (putK kvs k v))):=Kp.upd hx2 rfl;refine q3 σ _ (((S.grow s1).grow s2).turn e1 e2 (fun b hb=>zal hb) ⟨a,rfl,?_⟩)
   exact zmg (Reps.kp kp _ ((rr.same s1).same s2)) (Rep.kp kp _ (r1.same s2)) zak
  ·rw[if_neg hl] at q3
   exact AK q3
 ·exact AK q
theorem zhj{C:Cn}{pos:C7}:EN C (.Dict [] [] pos) newD:=fun pins s σ H Q I ⟨ρ,vw,q⟩=>zwz pins s σ H Q I fun p hp=>q p _ (Same.new hp) hp ⟨[],zak,rfl,rfl⟩
def KReps(K:A0)(H:Hp):List (Key×PV)->List (Key×V)->Prop
 | [],xs=>xs=[]
 | kp::r,xs=>∃v t,xs=(kp.1,v)::t/\Rep K H kp.2 v/\KReps K H r t
theorem KReps.kp{K:A0}{H H':Hp}(k:Kp H H'):∀{kps:List (Key×PV)}{xs:List (Key×V)},KReps K H kps xs->KReps K H' kps xs
 | [],_,h=>h
 | kp::r,_,⟨v,t,e,h1,h2⟩=>⟨v,t,e,Rep.kp k _ h1,KReps.kp k h2⟩
def ED(C:Cn)(pos:C7)(ks:List (Option Expr))(vs:List Expr)(f:PSt->R (List (Key×PV))):Prop:=∃trs,PPs C.X pos ks vs trs/\
 ∀σ H Q,(∃ρ,View C.X.K H σ ρ/\RQ C H (f ρ) fun kps=>∀kvs H',Same H H'->KReps C.X.K H' kps kvs->Q (kvs.map fun kv=>(kV kv.1,kv.2)) H')->zpw trs σ H Q
theorem Ze5{C:Cn}{pos:C7}:ED C pos [] [] nilD:=⟨[],zs4,fun σ H Q ⟨ρ,vw,q⟩=>q [] H (Same.refl H) rfl⟩
theorem zpm{C:Cn}{pos:C7}{k v:Expr}{ks:List (Option Expr)}{vs:List Expr}{fk fv:PSt->R PV}{f:PSt->R (List (Key×PV))}(hk:EV C k fk)(hv:EV C v fv)(h:ED C pos ks vs f):ED C pos (some k::ks) (v::vs) (zry fk fv f):=by
 obtain⟨trs,hp,ht⟩:=h;refine⟨_,zp3 hk hv hp,fun σ H Q ⟨ρ,vw,q⟩=>⟨ρ,vw,q.bind.imp fun kp _ q1 x H1 s1 r1=>?_⟩⟩
 obtain⟨kk,ek,q1⟩:∃kk,zfe kp=some kk/\RQ C H (fv ρ >>= fun p=>f ρ >>= fun r=>R.ok ((kk,p)::r)) _:=by
  cases h:zfe kp with
  | none=>rw[h] at q1;exact AK q1
  | some kk=>rw[h] at q1;exact⟨kk,rfl,q1⟩
 refine⟨ρ,vw.same s1,(q1.bind.same s1).imp fun p _ q2 y H2 s2 r2=>ht σ H2 _ ⟨ρ,(vw.same s1).same s2,(q2.bind.same (s1.trans s2)).imp fun kps _ q3 kvs H3 s3 r3=>?_⟩⟩
 have hx:=zdo ek r1.o;subst hx;exact q3 ((kk,y)::kvs) H3 ((s1.trans s2).trans s3) ⟨y,kvs,rfl,r2.same s3,r3⟩
def addP(d:PV)(kp:Key×PV):PV:=match d with
 | .dct ks ps=>putP ks ps kp.1 kp.2
 | d=>d
theorem zqc(kps:List (Key×PV)):zf0 kps=kps.foldl addP (.dct [] []):=rfl
theorem zj7{K:A0}{H:Hp}:∀{kps:List (Key×PV)}{kvs acc:List (Key×V)}{ps:List PV},KReps K H kps kvs->Reps K H ps (acc.map (·.2))->
  ∃ks' ps',kps.foldl addP (PV.dct (acc.map (·.1)) ps)=PV.dct ks' ps'/\(ze9 acc kvs).map (·.1)=ks'/\Reps K H ps' ((ze9 acc kvs).map (·.2))
 | [],kvs,acc,ps,h,r=>by cases h;exact⟨_,_,rfl,rfl,r⟩
 | kp::kps,kvs,acc,ps,⟨v,t,e,h1,h2⟩,r=>by
  subst e;obtain⟨ks',ps',g,g1,g2⟩:=zp2 (k:=kp.1) r h1;obtain⟨ks2,ps2,f,f1,f2⟩:=zj7 (acc:=putK acc kp.1 v) h2 g2;refine⟨ks2,ps2,?_,f1,f2⟩;rw[Bg]
  have:addP (PV.dct (acc.map (·.1)) ps) kp=PV.dct ((putK acc kp.1 v).map (·.1)) ps':=by
   show putP _ _ _ _=_;rw[g,g1]
  rw[this];exact f
theorem KReps.length{K:A0}{H:Hp}:∀{kps:List (Key×PV)}{xs:List (Key×V)},KReps K H kps xs->kps.length=xs.length
 | [],_,h=>by cases h;rfl
 | kp::r,_,⟨v,t,e,h1,h2⟩=>by subst e;simp[KReps.length h2]
theorem Zbq{C:Cn}{pos:C7}{ks:List (Option Expr)}{vs:List Expr}{f:PSt->R (List (Key×PV))}(h:ED C pos ks vs f)(hall:ks.all (·.isSome)=true:=by rfl)(hl:ks.length=vs.length:=by rfl)(h0:ks≠[]:=by exact fun z=>nomatch z)
  (h15:ks.length<=15:=by decide):EN C (.Dict ks vs pos) (zxu f):=by
 obtain⟨trs,hp,ht⟩:=h;intro pins s σ H Q I ⟨ρ,vw,q⟩;refine Zaf hp hall hl h0 h15 pins s σ H Q I fun p hn=>ht σ _ _ ⟨ρ,vw.same (Same.new hn),(q.bind.same (Same.new hn)).imp fun kps _ q1 kvs H3 s3 r3=>?_⟩
 have sm:Same H H3:=(Same.new hn).trans s3;have e3:H3 p=some (.dK []):=s3 _ _ zak
 by_cases hk:kps.length<=15
 ·rw[if_pos hk] at q1
  refine⟨e3,kvs,rfl,by rw[← r3.length];exact hk,?_⟩
  have kp:Kp H3 (upd H3 p (.dK (ze9 [] kvs))):=Kp.upd e3 rfl;obtain⟨ks',ps',g,g1,g2⟩:=zj7 (acc:=[]) (ps:=[]) (KReps.kp kp r3) Reps.nil;refine q1 p _ (sm.but hn (fun u h=>by rw[e3] at h;cases h;rfl) (fun b hb=>zal hb)) hn ?_
  ·rw[zqc]
   have g:kps.foldl addP (PV.dct [] [])=PV.dct ks' ps':=g;rw[g];exact⟨_,zak,g1,g2⟩
 ·rw[if_neg hk] at q1
  exact AK q1
end PU
namespace PU
open PySem PySem.Spec PyProof.Rows L2 PySem.SeqAt
variable[TW]
structure Con(K:A0)(mg:Str->Option A9)(x:Str)(c:PV):Prop where
 ex:∃v u,mg x=some u/\RelV v u/\∀H,Rep K H c v
theorem zob {C:Cn} {x:Str} {c:PV} {pos:C7} (hg:Gl C.X x) (h:Con C.X.K C.X.mg x c) (hd:(x == ("__debug__":Str))=false:=by decide):EV C (.Name x pos) (kP c):=by
 obtain⟨v,u,hm,r,rp⟩:=h.ex;exact Zbj hg hm r rp hd
def entS(p:Params)(e:Str×Tok×A9):DictEntry:={ hash:=PyData.keyHash p e.1,key:=.str e.1 e.2.1,val:=e.2.2 }
omit [TW] in
theorem zrq(w:Ar)(x:Str):PyData.keyHash w.params x=hashStr w x:=rfl
omit [TW] in
theorem zlf{P:Ak}{w:Ar}:∀(es:List (Str×Tok×A9)),Pairs (zao P w) (es.map (entS w.params)) (es.map fun e=>((C8 e.1:Key),e.2.2))
 | []=>.nil
 | e::es=>.cons (zfq P w e.1 e.2.1) rfl (zlf es)
omit [TW] in
theorem ztz:∀{xs:List V}{es:List (Str×Tok×A9)},Vals xs (es.map (·.2.2))->KV ((es.map fun e=>(C8 e.1:Key)).zip xs) (es.map fun e=>((C8 e.1:Key),e.2.2))
 | [],[],_=>.nil
 | x::xs,e::es,r=>by
  cases r with
  | cons a b=>exact .cons ⟨rfl,a⟩ (ztz b)
 | [],_::_,r=>by cases r
 | _::_,[],r=>by cases r
omit [TW] in
theorem con_dct{w:Ar}{tabs:List Addr}{qual:Nat->Nat->Str}{K:A0}{h:Heap}{mg:Str->Option A9}{x:Str}{a:Addr}{o:Bi}(es:List (Str×Tok×A9)){ep:Nat}{ps:List PV}{xs:List V}(X:K.In h)(G:h.Ns mainGlobals mg)
  (n1:BP K mainGlobals x=some (some (.ref a))) (n2:K.lookup a=some o) (n3:o={ cls:=.type "dict",data:=.dict (es.map (entS w.params)).toArray ep }) (hs:(a == BN)=false)
  (nd:(es.map (·.1)).Nodup) (hz:es.length<=sizeLine) (vals:Vals xs (es.map (·.2.2))) (reps:∀H,@Reps ⟨w,tabs,qual⟩ K H ps xs):@Con ⟨w,tabs,qual⟩ K mg x (.dct (es.map fun e=>.inr e.1) ps):=by
 letI:TW:=⟨w,tabs,qual⟩
 have hl:xs.length=es.length:=by rw[vals.length,AI]
 have e1:((es.map fun e=>(C8 e.1:Key)).zip xs).map (·.1)=es.map fun e=>.inr e.1:=Fe (by rw[AI];omega)
 have e2:((es.map fun e=>(C8 e.1:Key)).zip xs).map (·.2)=xs:=DQ (by rw[AI];omega)
 refine⟨.ref a,_,Ds X G n1,rfl,fun H=>⟨a,(es.map fun e=>(C8 e.1:Key)).zip xs,rfl,.inr ⟨?_,hs,o,_,_,n2,?_,by rw[n3],fun P=>⟨es.map fun e=>((C8 e.1:Key),e.2.2),ztz vals,?_,?_,?_⟩⟩,e1,by rw[e2];exact reps H⟩⟩
 ·rw[List.length_zip,AI,hl]
  omega
 ·rw[n3]
  exact⟨rfl,rfl,rfl⟩
 ·intro e he
  have he:e∈es.map (entS w.params):=by simpa using he
  obtain⟨z,_,rfl⟩:=AJ.mp he;exact⟨.inr z.1,zfq P w z.1 z.2.1,zrq w z.1⟩
 ·have e3:(es.map (entS w.params)).toArray.toList=es.map (entS w.params):=by simp
  rw[e3];exact zlf (P:=P) (w:=w) es
 ·rw[Am]
  have:((·.1) ∘ fun e:Str×Tok×A9=>((C8 e.1:Key),e.2.2))=C8 ∘ (·.1):=rfl
  rw[this,← Am];exact GA _ (fun a b hab e=>hab (CT e)) nd
theorem Zg8{P:Ak}{w:Ar}{K:A0}{mg:Str->Option A9}{base:Heap}{x qual:Str}{st:Stmt}{f:Addr}{fd:By}{N ps:List Str}{k:Nat}{g:PSt->R Fl}(F:Fun K x qual st f fd)(S:FnScope N ps (zad st))
  (hbody:∀(cdv:A9)(A:B0)(outer:List FY)(s:AD)(H:Hp)(E:XK),Room k (A.deeper (DY qual (zad st) s.heap.objs.size f cdv))->SVs (cnOf P w K mg base N qual (zad st) f cdv A outer s H E) (zbr st) g) :
  FnOk P w K mg base CX0 (k+1) f fd ps (spP K ps.length (runF ps.length N.length g)):=by
 refine F.ok S (fun vs H Q E h=>h.1) (fun cdv A outer s H vs Q E hr h=>?_)
 obtain⟨hl,tb,qs,p,r,e,k⟩:=h;refine⟨_,hbody cdv A outer s H E hr,start N.length qs,(H,H),zje tb r,?_⟩;unfold runF at e;rw[if_pos (by rw[r.length];exact hl)] at e
 cases hg:g (start N.length qs) with
 | ok fl=>
  rw[hg] at e;cases fl with
  | next ρ=>cases e;exact fun σ H' S'=>k .non H' S'.same rfl
  | ret q=>cases e;exact fun v H' s' r'=>k v H' s' r'
  | brk ρ=>cases e
  | cont ρ=>cases e
 | er x=>rw[hg] at e;cases e
 | no=>rw[hg] at e;cases e
theorem zrb{K:A0}{H:Hp}{a:Addr}{ns:List Int}(h:SqF K H a (ns.map V.int)):Reps K H [.lst (ns.map .int)] [.ref a]:=by
 have:∀l:List Int,Reps K H (l.map PV.int) (l.map V.int):=by
  intro l
  induction l with
  | nil=>rfl
  | cons x l ih=>exact⟨_,_,rfl,rfl,ih⟩
 exact⟨_,_,rfl,⟨a,_,rfl,h,this ns⟩,rfl⟩
end PU
namespace PU
open PySem PySem.Spec PyProof.Rows L2 PySem.SeqAt
section
variable{P : Ak}{w : Ar}{A : B0}{E : A9 → AD → Prop}{s : AD}{it a : Addr}{i n ep slot : Nat}
def Tells(P:Ak)(w:Ar)(s:AD)(a:Addr)(slot i ep:Nat)(r:Option (A9×Nat)):Prop:=∀(A:B0)(E:A9->AD->Prop)(Q:Option (A9×Nat)->AD->Prop),Q r s->Af (Ap P w) A (setNext a slot i ep) Q E s
end
end PU
section
namespace PU
def whF(t:PSt->R Bool)(g:PSt->R Fl):Nat->PSt->R Fl
 | 0,_=>.no
 | n+1,ρ=>t ρ >>= fun b=>if b=true then g ρ >>= fun fl=>(match fl with
  | .next ρ2=>whF t g n ρ2
  | .cont ρ2=>whF t g n ρ2
  | .brk ρ2=>.ok (.next ρ2)
  | .ret q=>.ok (.ret q)) else .ok (.next ρ)
def whS(n:Nat)(t:PSt->R Bool)(g:PSt->R Fl):PSt->R Fl:=whF t g n
end PU
namespace PU
open PySem PySem.Spec PyProof.Rows L2 PySem.SeqAt
variable[TW]
theorem zlz{C:Cn}{c:Expr}{body:List Stmt}{t:PSt->R Bool}{g:PSt->R Fl}{pos:C7}(n:Nat)(hc:ET C c t)(hb:SVs C body g)(hp:FJ (Ap C.X.prog C.X.w) C.X.A C.X.env C.X.xe:=by exact E2):SV C (.While c body [] pos) (whS n t g):=by
 intro pins s σ H D I ⟨ρ,B,S,q⟩;refine zwr hp hc hb pins s σ H D I ⟨fun m σ' H'=>∃ρ',StOk C.X.K B H' σ' ρ'/\RS C B D (whF t g m ρ'),⟨n,ρ,S,q⟩,?_⟩
 rintro m σ' H' ⟨ρ',S',q'⟩;cases m with
 | zero=>exact AK q'
 | succ m=>
  have q':RS C B D (t ρ' >>= fun b=>if b=true then g ρ' >>= fun fl=>(match fl with
   | .next ρ2=>whF t g m ρ2
   | .cont ρ2=>whF t g m ρ2
   | .brk ρ2=>.ok (.next ρ2)
   | .ret q=>.ok (.ret q)) else .ok (.next ρ')):=q'
  refine⟨ρ',S'.vw,(q'.bind S'.same).imp fun b _ k H1 s1=>?_⟩
  cases b with
  | false=>
   rw[if_neg AM] at k ⊢;exact k σ' H1 (S'.grow s1)
  | true=>
   rw[if_pos rfl] at k ⊢;refine⟨fun σ2 H2=>∃ρ2,StOk C.X.K B H2 σ2 ρ2/\RS C B D (whF t g m ρ2),fun σ2 H2 z=>⟨m,EX m,z⟩,ρ',B,S'.grow s1,?_⟩
   cases hgr:g ρ' with
   | ok fl=>
    rw[hgr] at k;cases fl with
    | next ρ2=>exact fun σ4 H4 S4=>⟨ρ2,S4,k⟩
    | cont ρ2=>exact fun σ4 H4 S4=>⟨ρ2,S4,k⟩
    | brk ρ2=>exact fun σ4 H4 S4=>k σ4 H4 S4
    | ret p=>exact k
   | er x=>rw[hgr] at k;exact k
   | no=>rw[hgr] at k;exact k
end PU
end
namespace PU
open PySem PySem.Spec PyProof.Rows L2 PySem.SeqAt
variable[TW]
theorem zkk {C:Cn} {tg a b:Expr} {f f2:PSt->R PV} {p pos:C7} (hg:Gl C.X "range") (hm:C.X.mg "range"=none) (ha:EV C a f) (hb:EV C b f2) (hs:Ad [a,b] C.X.env=[(false,BR a C.X.env),(false,BR b C.X.env)]:=by rfl)
  (hs2:Ad [b] C.X.env=[(false,BR b C.X.env)]:=by exact zbm rfl):EI C tg (.Call (.Name "range" p) [a,b] [] pos) (rng2 f f2):=by
 intro pins s σ H Rk I ⟨ρ,vw,q⟩;refine zs7 hg hm (zb0 ha (zb0 hb ze7 hs2) (by rw[hs,hs2])) hs hs2 pins s σ H Rk I ⟨ρ,vw,q.bind.imp fun p _ k v H1 s1 r1=>⟨ρ,vw.same s1,(k.bind.same s1).imp fun p2 _ k2 v2 H2 s2 r2=>?_⟩⟩
 cases p with
 | int i=>
  cases p2 with
  | int j=>
   cases (show v=.int i from r1);cases (show v2=.int j from r2);have k2:RQ C H (if i.natAbs<1000000000/\j.natAbs<1000000000 then R.ok (zb9 i (j-i).toNat) else R.no) fun ps=>∀J H',Same H H'->ItP C.X.K J H' ps->Rk J H':=k2
   by_cases hj:i.natAbs<1000000000/\j.natAbs<1000000000
   ·rw[if_pos hj] at k2
    exact⟨i,j,rfl,⟨by omega,by omega,by omega,by omega⟩,k2 _ H2 (s1.trans s2) zqk⟩
   ·rw[if_neg hj] at k2
    exact AK k2
  | _=>exact AK k2
 | _=>exact AK k2
end PU
section
namespace PU
def Za9:PV->Bool
 | .dct _ _=>true
 | _=>false
end PU
namespace PU
open PySem PySem.Spec PyProof.Rows L2 PySem.SeqAt
variable[TW]
theorem zll{K:A0}{H:Hp}{k:Key}:∀{ks:List Key}{ps:List PV}{kvs:List (Key×V)},kvs.map (·.1)=ks->Reps K H ps (kvs.map (·.2))->zb3 ks ps k=none->valV kvs k=none
 | _,_,[],h1,h2,e=>rfl
 | _,[],kv::kvs,h1,h2,e=>by
  cases h2
 | _,q::ps,kv::kvs,h1,h2,e=>by
  subst h1;obtain⟨x,r,ex,hx,ht⟩:=h2;simp only[AE,Cq] at ex;obtain⟨rfl,rfl⟩:=ex;simp only[AE,zb3] at e
  by_cases hk:kv.1=k
  ·rw[if_pos hk] at e
   cases e
  ·rw[if_neg hk] at e
   rw[zfd hk];exact zll rfl ht e
end PU
end
namespace PU
open PySem PySem.Spec PyProof.Rows L2 PySem.SeqAt
theorem zl0:isSubtype (.type "dict") (.type "dict")=pure true:=by rw[isSubtype_type];kernel_rfl
section
variable{P : Ak}{w : Ar}{A : B0}{E : A9 → AD → Prop}{s : AD}{d : Addr}{kvs : List (Key×A9)}{ep : Nat}
theorem znv{Q:A9->AD->Prop}(hh:A.handled=none)(hd:(d == BN)=false)(m:s.heap.DictAt (zao P w) d kvs ep)(hz:kvs.length<=sizeLine)
  (q:∀(h':Heap) (tk:Nat) (acc:Array A9) (c:Nat),(∀b o,s.heap.get? b=some o->h'.get? b=some o)->h'.get? s.heap.objs.size=some { cls:=.type "list",data:=.seq acc c }->
   ItemsOf (fun i v=>∃k x,kvs[i]?=some (k,x)/\(zao P w).is k v=true) acc kvs.length->Q (.ref s.heap.objs.size) { s with heap:=h',toks:=tk }):Af (Ap P w) A (call (.type "list") [.ref d]) Q E s:=by
 have ld:d<s.heap.objs.size:=by obtain⟨o,es,ho,_⟩:=m;exact AL ho
 refine Gj (Q₁:=fun obj s₁=>obj=.ref s.heap.objs.size/\s₁={ s with heap:=s.heap.push { cls:=.type "list",data:=.seq #[] } }) GU (G4 _) G7 (code_list_new _ ⟨rfl,rfl⟩) fun obj s₁ h₁=>?_
 obtain⟨rfl,rfl⟩:=h₁;have g0:(s.heap.push { cls:=.type "list",data:=.seq #[] }).get? s.heap.objs.size=some { cls:=.type "list",data:=.seq #[] }:=Aa _ rfl;refine⟨⟨_,g0,rfl⟩,Fw _ _,?_⟩;show Af _ _ (do let old<- Ct (.ref s.heap.objs.size);FR (.ref s.heap.objs.size) (fun _=>#[]);letGo old.toList.reverse;Be (.ref s.heap.objs.size) (.ref d) .none) _ _ _
 refine AB ?_;unfold Ct;refine AB (wpAny_seqItems g0 rfl (AH ?_));show Af _ _ (updateSeq s.heap.objs.size (fun _=>#[]) >>= fun _=>letGo (#[]:Array A9).toList.reverse >>= fun _=>Be (.ref s.heap.objs.size) (.ref d) .none) _ _ _
 refine AB (Cj g0 rfl ?_ (B3 _) (B3 _));have g1:=Bu (Av (fun _=>(#[]:Array A9))) g0 rfl
 have k1:∀b o,s.heap.get? b=some o->((s.heap.push { cls:=.type "list",data:=.seq #[] }).update s.heap.objs.size (Av (fun _=>(#[]:Array A9)))).get? b=some o:=
  fun b o e=>(BZ _ _ (BS (AL e))).trans (AC _ e)
 have z1:((s.heap.push { cls:=.type "list",data:=.seq #[] }).update s.heap.objs.size (Av (fun _=>(#[]:Array A9)))).objs.size=s.heap.objs.size+1:=by rw[Heap.size_update,DB]
 refine AB (wpAny_letGo ?_);generalize (s.heap.push { cls:=.type "list",data:=.seq #[] }).update s.heap.objs.size (Av (fun _=>(#[]:Array A9)))=h1 at g1 k1 z1 ⊢
 have m1:h1.DictAt (zao P w) d kvs ep:=by
  obtain⟨o,es,ho,r⟩:=m;exact⟨o,es,k1 _ _ ho,r⟩
 have t1:({ s with heap:=h1 }:AD).TypeIs (.ref d) "dict":=m1.dictOf.typeIs;unfold Be;refine AB (DS (T:="dict") t1 ?_)
 have r1:FK (.ref s.heap.objs.size) (.ref d)=false:=by
  show (s.heap.objs.size == d)=false;simpa using BS ld
 have r2:(CP "dict" == CP "list")=false:=by decide
 have r3:(CP "dict" == CP "tuple")=false:=by decide
 simp only[r1,r2,r3,GM,BW,if_false];refine AB (wpAny_pyIter_dict (knd:=zao P w) (s:={ s with heap:=h1 }) hd m1 ?_);refine AB (CG ?_)
 have m2:(h1.push { cls:=.type "dict_keyiterator",data:=.fields #[.ref d,.int 0 0,.int kvs.length 0,.int ep 0] }).DictAt (zao P w) d kvs ep:=by
  obtain⟨o,es,ho,r⟩:=m1;exact⟨o,es,AC _ ho,r⟩
 have t2:=(show ({ s with heap:=h1.push { cls:=.type "dict_keyiterator",data:=.fields #[.ref d,.int 0 0,.int kvs.length 0,.int ep 0] } }:AD).TypeIs (.ref d) "dict" from m2.dictOf.typeIs);unfold F8;refine AB (wpAny_specialOf (T:="dict") (v:=.ref d) t2 PySem.F.slot_dict_len.lookup ?_)
 wp_delta
 refine AB (El (T:="dict") (v:=.ref d) (b:=true) t2 zl0 ?_);show Af _ _ (typeOf (B6 d) >>= _) _ _ _;refine AB (DS (T:="dict") (v:=.ref d) t2 (AH ?_));rw[if_pos (by decide)]
 refine AB (Gf (AB ?_));unfold FZ;have nI:h1.objs.size≠s.heap.objs.size:=by rw[z1];exact EU _
 have gL2:(h1.push { cls:=.type "dict_keyiterator",data:=.fields #[.ref d,.int 0 0,.int kvs.length 0,.int ep 0] }).get? s.heap.objs.size=some _:=AC _ g1;have gI2:(h1.push { cls:=.type "dict_keyiterator",data:=.fields #[.ref d,.int 0 0,.int kvs.length 0,.int ep 0] }).get? h1.objs.size=some _:=Aa _ rfl;have k2:∀b o,s.heap.get? b=some o->(h1.push { cls:=.type "dict_keyiterator",data:=.fields #[.ref d,.int 0 0,.int kvs.length 0,.int ep 0] }).get? b=some o:=fun b o e=>AC _ (k1 b o e)
 refine AB (Cj gL2 rfl ?_ (B3 _) (by show 1<=_;rw[B2];decide))
 have g3:=Bu (Av (·.push Bm)) gL2 rfl;refine Cj g3 rfl ?_ (by show 1<=_;rw[B2];decide) (B3 _)
 have g4:=Bu (Av (·.pop)) g3 rfl
 have k4:∀b ob,b≠s.heap.objs.size->(h1.push { cls:=.type "dict_keyiterator",data:=.fields #[.ref d,.int 0 0,.int kvs.length 0,.int ep 0] }).get? b=some ob->(((h1.push { cls:=.type "dict_keyiterator",data:=.fields #[.ref d,.int 0 0,.int kvs.length 0,.int ep 0] }).update s.heap.objs.size (Av (·.push Bm))).update s.heap.objs.size (Av (·.pop))).get? b=some ob:=fun b ob hb e=>
  (BZ _ _ (Bc hb)).trans ((BZ _ _ (Bc hb)).trans e)
 show Af _ _ _ _ _ { s with heap:=(((h1.push { cls:=.type "dict_keyiterator",data:=.fields #[.ref d,.int 0 0,.int kvs.length 0,.int ep 0] }).update s.heap.objs.size (Av (·.push Bm))).update s.heap.objs.size (Av (·.pop))) };generalize ((h1.push { cls:=.type "dict_keyiterator",data:=.fields #[.ref d,.int 0 0,.int kvs.length 0,.int ep 0] }).update s.heap.objs.size (Av (·.push Bm))).update s.heap.objs.size (Av (·.pop))=h4 at g4 k4 ⊢;have nd:d≠s.heap.objs.size:=AZ ld;have ndI:d≠h1.objs.size:=by rw[z1];exact AZ (C1 ld)
 have st4:h4.IsKeyIter h1.objs.size d 0 kvs.length ep/\h4.DictAt (zao P w) d kvs ep:=by
  refine⟨⟨_,k4 _ _ nI gI2,rfl,rfl⟩,?_⟩;obtain⟨o,es,ho,r⟩:=m2;exact⟨o,es,k4 _ _ nd ho,r⟩
 have nL:s.heap.objs.size ∉ [h1.objs.size,d]:=fun z=>by
  rcases AU.mp z with e | z
  ·exact nI e.symm
  ·exact nd (AO.mp z).symm
 have W:∀A':B0,A'.handled=none->Walks P w A' h1.objs.size [h1.objs.size,d] [h1.objs.size] kvs.length _ _:=fun A' hA=>Walks.dictKeys (knd:=zao P w) hA h1.objs.size d ndI kvs ep
 refine AH ⟨HE CD _,codeAny_extend_loopS (W A.in1.in1 hh).toS hz _ nL _ kvs.length 0 _ _ _ rfl (B3 _) st4 g4 (ItemsOf.nil _) fun s' acc c mm gA it'=>?_⟩
 rw[Moved.eq_with mm];refine⟨rfl,q s'.heap s'.toks acc c (fun b o e=>mm.heap b o (fun hb=>?_) (k4 b o (AZ (AL e)) (k2 b o e))) gA it'⟩
 have lt:=AL e;rcases AU.mp hb with z | z
 ·exact absurd lt (z▸BE _)
 ·rw[AO.mp z,z1] at lt
  exact absurd lt (Ee.mpr (De _))
end
end PU
section
namespace PU
def zui:PV->Option PV
 | .lst ps=>some (.lst ps)
 | .tup ps=>some (.lst ps)
 | .dct ks _=>some (.lst (ks.map keyP))
 | _=>none
end PU
namespace PU
open PySem PySem.Spec PyProof.Rows L2 PySem.SeqAt
variable[TW]
theorem zny{K:A0}{H:Hp}:∀ks:List Key,Reps K H (ks.map keyP) (ks.map kV)
 | []=>rfl
 | k::ks=>by
  refine⟨kV k,ks.map kV,rfl,?_,zny ks⟩;cases k <;> exact rfl
omit [TW] in
theorem zt0{P:Ak}{w:Ar}{k:Key}{v:A9}(h:(zao P w).is k v=true):RelV (kV k) v:=by
 rcases zbg (show zpb k v=true from h) with⟨i,t,rfl,rfl⟩|⟨x,t,rfl,rfl⟩
 ·exact⟨t,rfl⟩
 ·exact⟨t,rfl⟩
omit [TW] in
theorem zsb{P:Ak}{w:Ar}:∀(kvs:List (Key×A9))(us:List A9),us.length=kvs.length->(∀(i:Nat)(v:A9),us[i]?=some v->∃k x,kvs[i]?=some (k,x)/\(zao P w).is k v=true)->Vals ((kvs.map (·.1)).map kV) us
 | [],us,hl,_=>by
  cases us with
  | nil=>exact .nil
  | cons a r=>cases hl
 | kv::kvs,us,hl,h=>by
  cases us with
  | nil=>cases hl
  | cons a r=>
   obtain⟨k,x,e,hk⟩:=h 0 a rfl;cases e;exact .cons (zt0 hk) (zsb kvs r (by simpa using hl) fun i v e=>h (i+1) v e)
theorem Zfe {X:Cx} (hc:X.calm=true:=by rfl) (hw:X.w=TW.w:=by rfl):zhl X (.type "list") (rn1 X.K zui):=by
 intro pins s σ H xs us Q I r ⟨v,p,z,e1,rp,ez,k⟩;subst e1;cases p with
 | lst ps=>
  obtain⟨a,xs,rfl,g,rr⟩:=RepO.lst_inv rp;cases ez;exact zi9 pins s σ H _ us Q I r ⟨a,xs,rfl,.inl g.l,fun l hl=>k _ _ (Same.new hl) hl ⟨xs,zak,rr.same (Same.new hl)⟩⟩
 | tup ps=>
  obtain⟨a,xs,rfl,g,rr⟩:=RepO.tup_inv rp;cases ez;exact zi9 pins s σ H _ us Q I r ⟨a,xs,rfl,.inr g,fun l hl=>k _ _ (Same.new hl) hl ⟨xs,zak,rr.same (Same.new hl)⟩⟩
 | dct ks ps=>
  obtain⟨a,kvs,rfl,g,e1,rr⟩:=rp;cases ez;obtain⟨u,rfl,ru⟩:=vals1 r;cases ru;obtain⟨hz,hS,vs,rel,o,es,ep,ho,x1,d1,rest⟩:=DkR.at hw I g;have hl:kvs.length=vs.length:=BC rel
  have hk:kvs.map (·.1)=vs.map (·.1):=by
   clear hl hz e1 rr g rest
   induction rel with
   | nil=>rfl
   | cons a b ih=>rw[AE,AE,ih,a.1]
  refine znv (kvs:=vs) (ep:=ep) (I.ok.hd hc) hS ⟨o,es,ho,x1,d1,rest⟩ (by omega) fun h' tk acc c keep gA it'=>?_
  obtain⟨i1,i2⟩:=it'
  have rv:Vals (ks.map kV) acc.toList:=by
   rw[← e1,hk];exact zsb (P:=X.prog) (w:=X.w) vs acc.toList (by simpa using i1) fun i v e=>i2 i v (by simpa using e)
  have hlk:ks.length=kvs.length:=by rw[← e1,AI]
  have I2:=I.laid (a:=s.heap.objs.size) (o:=.lst (ks.map kV)) (h':=h') (t':=tk) keep (AY _) ⟨by rw[AI];omega,acc.toList,c,rv,by rw[Array.toArray_toList];exact gA⟩
  have nf:H s.heap.objs.size=none:=I.fresh;exact⟨.ref _,_,I2,rfl,k _ _ (Same.new nf) nf ⟨_,zak,zny ks⟩⟩
 | _=>cases ez
end PU
end
section
namespace PU
def zqb(fo fe fd:PSt->R PV)(g:PV->PV->PV->Option PV):PSt->R PV:=fun ρ=>fo ρ >>= fun p=>if Za9 p=true then fe ρ >>= fun q=>fd ρ >>= fun y=>R.ofO (g p q y) else .no
def zru:PV->PV->PV->Option PV
 | .dct ks ps,q,y=>(zfe q).bind fun k=>some ((zb3 ks ps k).getD y)
 | _,_,_=>none
end PU
namespace PU
open PySem PySem.Spec PyProof.Rows L2 PySem.SeqAt
variable[TW]
theorem Zbk{C:Cn}{o e d:Expr}{fo fe fd:PSt->R PV}{apos cpos:C7}(ho:EO C o fo)(he:EV C e fe)(hd:EV C d fd)(hw:C.X.w=TW.w:=by rfl)
  (hbase:DA o "get" C.X.env (BR o C.X.env)=BR o C.X.env:=by rfl) (hline:(apos.endLine == cpos.line)=true:=by rfl) (hs:Ad [e,d] C.X.env=[(false,BR e C.X.env),(false,BR d C.X.env)]:=by rfl) (hs2:Ad [d] C.X.env=[(false,BR d C.X.env)]:=by exact zbm rfl) :
  EV C (.Call (.Attribute o "get" apos) [e,d] [] cpos) (zqb fo fe fd zru):=by
 intro pins s σ H Q I ⟨ρ,vw,q⟩;refine HW hbase (by rw[hs];rfl) hline rfl (thn (ho pins s σ H (fun v H1=>∃p,RepO C.X.K H1 p v/\Same H H1/\RQ C H (if Za9 p=true then fe ρ >>= fun q=>fd ρ >>= fun y=>R.ofO (zru p q y) else .no) fun p=>∀v H',Same H H'->Rep C.X.K H' p v->Q v H') I ⟨ρ,vw,q.bind.imp fun p _ k v H1 s1 r1=>⟨p,r1,s1,k⟩⟩) fun v s1 ⟨x,H1,I1,r1,p,ro,sm,k⟩=>?_)
 cases p with
 | dct ks ps=>
  have ro':=ro;obtain⟨a,kvs,rfl,g,e1,r⟩:=ro;cases r1;obtain⟨hz,hdd,vs,rel,dd⟩:=DkR.at hw I1 g;have k:RQ C H (fe ρ >>= fun q=>fd ρ >>= fun y=>R.ofO (zru (.dct ks ps) q y)) fun p=>∀v H',Same H H'->Rep C.X.K H' p v->Q v H':=k
  refine⟨"dict","dict.get",Dy,GJ,PySem.F.type_dict_get,dd.typeIs,dd.mapOf.noDict,?_⟩
  have hA:=(zb0 he (zb0 hd ze7 hs2) (by rw[hs,hs2])) cpos pins s1 σ H1 (fun xs H2=>∃q y z u x,xs=[u,x]/\Rep C.X.K H2 q u/\Rep C.X.K H2 y x/\zru (.dct ks ps) q y=some z/\Same H1 H2/\∀v H',Same H H'->Rep C.X.K H' z v->Q v H') I1 ⟨ρ,vw.same sm,(k.bind.same sm).imp fun q _ k2 u H2 s2 r2=>⟨ρ,vw.same (sm.trans s2),(k2.bind.same (sm.trans s2)).imp fun y _ k4 x H3 s3 r3=>by
   obtain⟨z,ez,k3⟩:=k4.ofO;exact⟨q,y,z,u,x,rfl,r2.same s3,r3,ez,s2.trans s3,k3⟩⟩⟩
  rw[hs] at hA ⊢;refine ER rfl (Gq ?_);refine thn hA fun us s2 ⟨xs,H2,I2,r2,q,y,z,u,x,eu,rq,ry,ez,s2',k3⟩=>?_
  subst eu
  obtain⟨u',x',rfl,ru,rx⟩:∃u' x',us=[u',x']/\RelV u u'/\RelV x x':=by
   cases r2 with
   | cons a b=>
    obtain⟨x',e,rx⟩:=vals1 b;subst e;exact⟨_,x',rfl,a,rx⟩
  obtain⟨kk,ek,ez⟩:=AV.mp (show (zfe q).bind (fun k=>some ((zb3 ks ps k).getD y))=some z from ez)
  cases ez;have hy:=zdo ek rq.o;subst hy;obtain⟨a2,kvs2,ea,g2,e2,rr2⟩:=ro'.same s2';cases ea;obtain⟨_,hd2,vs2,rel2,dd2⟩:=DkR.at hw I2 g2;refine Ha GJ dd2.typeIs PySem.F.entry_dict_get (PySem.F.args_dict_get_3 _ _ _) (meets_dict_get_default (zao C.X.prog C.X.w) a (zk2 ru) hd2 x') ⟨_,dd2.mapOf,?_⟩;cases el:zb3 ks ps kk with
  | some p'=>
   obtain⟨w,ew,rp⟩:=zhx e2 rr2 el;obtain⟨w',hw',rw'⟩:=RelO.some_of (v:=w) (o:=Bn vs2 kk) (by rw[← ew];exact rel2.val kk)
   rw[hw'];rw[el] at k3;exact⟨w,H2,I2.tok _,rw',k3 w H2 (sm.trans s2') rp⟩
  | none=>
   have ew:=zll (k:=kk) e2 rr2 el;have hn:Bn vs2 kk=none:=RelO.none_of (by rw[← ew];exact rel2.val kk)
   rw[hn];rw[el] at k3;exact⟨x,H2,I2.tok _,rx,k3 x H2 (sm.trans s2') ry⟩
 | _=>exact AK k
end PU
end
namespace PU
open PySem PySem.Spec PyProof.Rows L2 PySem.SeqAt
theorem con_str{w:Ar}{tabs:List Addr}{qual:Nat->Nat->Str}{K:A0}{h:Heap}{mg:Str->Option A9}{x:Str}{i:Str}{t:Tok}(X:K.In h)(G:h.Ns mainGlobals mg)(n1:BP K mainGlobals x=some (some (.str i t))):@Con ⟨w,tabs,qual⟩ K mg x (.str i):=by
 letI:TW:=⟨w,tabs,qual⟩
 exact⟨.str i,.str i t,Ds X G n1,⟨t,rfl⟩,fun H=>rfl⟩
end PU
namespace PU
open PySem PySem.Spec PyProof.Rows L2 PySem.SeqAt
variable[TW]
theorem zxn{C:Cn}{a b c:Expr}{fa fb fc:PSt->R PV}{pos:C7}{op op':CmpOp}{g g':PV->PV->Option PV}(ho:OpR C.X (B8 op) (rP C.X.K g))(ho':OpR C.X (B8 op') (rP C.X.K g'))(hg:isBl g)(hg':isBl g')(ha:EO C a fa)(hb:EO C b fb)(hc:EO C c fc)
  (hm:lastMarks [op,op'] [b,c]=false:=by with_unfolding_all rfl):ET C (.Compare a [op,op'] [b,c] pos) (truF (chain2 fa fb fc g g')):=by
 intro pins s σ H Q I ⟨ρ,vw,q⟩;refine zwq ho ho' ha hb hc hm pins s σ H Q I ?_;have q1:=q.bind;refine⟨ρ,vw,q1.bind.imp fun p _ k v H1 s1 r1=>⟨ρ,vw.same s1,(k.bind.same s1).imp fun p2 _ k2 u H2 s2 r2=>?_⟩⟩
 obtain⟨z,ez,k3⟩:=k2.bind.ofO;obtain⟨bb,rfl⟩:=hg _ _ _ ez;refine⟨p,p2,.bl bb,r1.same s2,r2,ez,fun w H3 s3 r3=>?_⟩
 cases (show w=.bl bb from r3);refine⟨bb,rfl,?_⟩;have s13:=(s1.trans s2).trans s3;cases bb with
 | true=>
  refine iteT ⟨ρ,vw.same s13,?_⟩;refine(RQ.same (RQ.bind k3) s13).imp fun p3 _ k4 w4 H4 s4 r4=>?_
  obtain⟨z2,ez2,k5⟩:=k4.ofO;obtain⟨b2,rfl⟩:=hg' _ _ _ ez2;refine⟨p2,p3,.bl b2,(r2.same s3).same s4,r4,ez2,fun w5 H5 s5 r5=>?_⟩
  cases (show w5=.bl b2 from r5);obtain⟨b3,eb,k6⟩:=k5.ofO;cases eb;exact⟨b2,rfl,k6 H5 ((s13.trans s4).trans s5)⟩
 | false=>
  have k3:RQ C H (R.ofO (truB (.bl false))) (fun b=>∀H',Same H H'->Q b H'):=k3
  obtain⟨b3,eb,k6⟩:=RQ.ofO k3;cases eb;exact iteF ⟨false,rfl,k6 H3 s13⟩
end PU
namespace PU
open PySem PySem.Spec PyProof.Rows L2 PySem.SeqAt
def gSlA:PV->Option Int->Option Int->Option PV
 | .str x,lo,hi=>if x.length<=16777216 then some (.str (Bk x lo hi)) else none
 | .lst ps,lo,hi=>gSl (.lst ps) lo hi
 | .tup ps,lo,hi=>gSl (.tup ps) lo hi
 | _,_,_=>none
def zi2(f:PSt->R PV)(l h:PSt->R (Option Int)):PSt->R PV:=fun ρ=>f ρ >>= fun p=>l ρ >>= fun lo=>h ρ >>= fun hi=>R.ofO (gSlA p lo hi)
variable[TW]
def rSlA(K:A0):V->Option Int->Option Int->Hp->VK->Prop:=fun v lo hi H Q=>∃p z,RepO K H p v/\gSlA p lo hi=some z/\∀w H',Same H H'->Rep K H' z w->Q w H'
theorem slA{X:Cx}:SlR X (rSlA X.K):=by
 intro pins s σ H x v vl vu lo hi sl Q I rx hs pl pu ⟨p,z,rp,ez,k⟩;cases p with
 | lst ps=>exact slP pins s σ H x v vl vu lo hi sl Q I rx hs pl pu ⟨_,z,rp,ez,k⟩
 | tup ps=>exact slP pins s σ H x v vl vu lo hi sl Q I rx hs pl pu ⟨_,z,rp,ez,k⟩
 | str y=>
  simp only[gSlA] at ez;split at ez
  ·rename_i hz
   cases ez;cases (show x=.str y from rp);obtain⟨t,rfl⟩:=rx;have fin:∀(lo hi:Option Int) t' kk,(∀w H',Same H H'->Rep X.K H' (.str (Bk y lo hi)) w->Q w H')->EP X pins σ Q (.str (Bk y lo hi) t') { s with toks:=kk }:=fun lo hi t' kk k=>⟨.str _,H,I.tok _,⟨t',rfl⟩,k _ H (Same.refl H) rfl⟩
   obtain⟨o,e1,e2,e3⟩:=hs;have hz:y.length<=sizeLine:=by rw[B2];exact hz
   refine⟨"str",_,PySem.F.slot_str_getitem.lookup,typeIs_str _ _ _,?_⟩;cases pl with
   | none=>
    cases pu with
    | none=>exact DJ (l:=none) (u:=none) (st:=none) ⟨o,e1,e2,e3⟩ rfl (F0 ⟨B9 (Dd y _ _) hz,fun t' kk=>fin none none t' kk k⟩)
    | int j uj=>exact DJ (l:=none) (u:=some (j,uj)) (st:=none) ⟨o,e1,e2,e3⟩ rfl (F0 ⟨B9 (Dd y _ _) hz,fun t' kk=>fin none (some j) t' kk k⟩)
   | int i ui=>
    cases pu with
    | none=>exact DJ (l:=some (i,ui)) (u:=none) (st:=none) ⟨o,e1,e2,e3⟩ rfl (F0 ⟨B9 (Dd y _ _) hz,fun t' kk=>fin (some i) none t' kk k⟩)
    | int j uj=>exact DJ (l:=some (i,ui)) (u:=some (j,uj)) (st:=none) ⟨o,e1,e2,e3⟩ rfl (F0 ⟨B9 (Dd y _ _) hz,fun t' kk=>fin (some i) (some j) t' kk k⟩)
  ·cases ez
 | _=>cases ez
theorem zgu{C:Cn}{e:Expr}{f:PSt->R PV}{lo hi:Option Expr}{l h:PSt->R (Option Int)}{pos p2:C7}(ha:EO C e f)(hl:EOI C lo l)(hh:EOI C hi h):EV C (.Subscript e (.Slice lo hi none p2) pos) (zi2 f l h):=by
 intro pins s σ H Q I ⟨ρ,vw,q⟩;refine zp4 slA ha hl hh pins s σ H Q I ⟨ρ,vw,q.bind.imp fun p _ k v H1 s1 r1=>⟨ρ,vw.same s1,(k.bind.same s1).imp fun o1 _ k2 H2 s2=>⟨ρ,(vw.same s1).same s2,(k2.bind.same (s1.trans s2)).imp fun o2 _ k3 H3 s3=>?_⟩⟩⟩
 obtain⟨z,ez,k4⟩:=k3.ofO;exact⟨p,z,(r1.same s2).same s3,ez,fun w H4 s4 r4=>k4 w H4 (((s1.trans s2).trans s3).trans s4) r4⟩
end PU
namespace PU
open PySem PySem.Spec PyProof.Rows L2 PySem.SeqAt
def zipP(ps qs:List PV):List (List PV):=ps.zipWith (fun a b=>[a,b]) qs
def zhi:PV->Bool
 | .non | .bl _ | .int _ | .str _=>true
 | _=>false
def zipF(f g:PSt->R PV):PSt->R (List PV):=fun ρ=>f ρ >>= fun p=>g ρ >>= fun q=>(match p,q with
 | .lst ps,.lst qs=>if (ps.all zhi || qs.all zhi)=true then .ok ((zipP ps qs).map .tup) else .no
 | _,_=>.no)
variable[TW]
section
variable{P : Ak}{w : Ar}{K : A0}{elts : List Expr}{kk : Nat}{tp : C7}
def zipV(xs ys:List V):List (List V):=xs.zipWith (fun a b=>[a,b]) ys
theorem zqs{x:V}{u:A9}(r:RelV x u)(h:∀b,x≠.ref b):¬ ∃b,u=B6 b:=fun ⟨b,e⟩=>by
 subst e;cases x with
 | ref a=>exact h a rfl
 | non=>cases r
 | bl b=>cases r
 | ty n=>cases r
 | int i=>obtain⟨t,r⟩:=r;cases r
 | str i=>obtain⟨t,r⟩:=r;cases r
 | byt i=>obtain⟨t,r⟩:=r;cases r
 | flt i=>obtain⟨t,r⟩:=r;cases r
theorem zxl{K:A0}{H:Hp}{p:PV}{x:V}(hf:zhi p=true)(r:Rep K H p x):∀b,x≠.ref b:=fun b e=>by
 subst e;cases p with
 | non=>cases (show V.ref b=_ from r)
 | bl _=>cases (show V.ref b=_ from r)
 | int _=>cases (show V.ref b=_ from r)
 | str _=>cases (show V.ref b=_ from r)
 | _=>cases hf
theorem zn7{K:A0}{H:Hp}{ps:List PV}{xs:List V}(hf:ps.all zhi=true)(r:Reps K H ps xs):∀x∈xs,∀b,x≠.ref b:=fun x hx=>by
 obtain⟨i,hi⟩:=DO.mp hx;have hl:=r.length;have hlt:i<ps.length:=by rw[hl];exact(AA.mp hi).1
 have e1:ps[i]?=some ps[i]:=by simp[hlt]
 obtain⟨y,ey,ry⟩:=r.get e1;rw[hi] at ey;cases ey;exact zxl (Cr.mp hf _ (Bh hlt)) ry
theorem zv6(z TI TO i1 i2 a b:Addr)(D:ZipApart z TI TO i1 i2 a b)(xs ys:List V)(hfl:(∀x∈xs,∀b,x≠V.ref b)\/(∀y∈ys,∀b,y≠V.ref b)) :
  Turn P w K (.Tuple elts kk tp) (zm9 (min xs.length ys.length) (fun H=>SqL K H a xs/\SqL K H b ys) (zipV xs ys)) [z,TI,TO,i1,i2] z
   (fun i h=>IsZip h z TI TO .none/\IsPair h TI (.ref i1) (.ref i2)/\(∃a b,IsPair h TO a b)/\h.IsListIter i1 a i/\h.IsListIter i2 b i):=by
 refine zsk (wr:=[z,TO,i1,i2]) (n:=min xs.length ys.length) (fun X pins σ H s i hP hw hK hc I st hg=>?_) (by simp) (fun b hb=>by simp at hb ⊢;rcases hb with rfl | rfl | rfl | rfl <;> simp) (fun i h st b hb=>?_) (fun i h h' st k=>?_) (fun i H h=>h.1) (fun i H h=>h.1) fun A i s Q E st h=>wpAny_pyIter_zip st.1 h
 ·subst hP hw hK
  obtain⟨hq1,hq2⟩:SqL X.K H a xs/\SqL X.K H b ys:=by rcases hg with h | h <;> exact h.2
  obtain⟨its1,rv1,pl1,hz1⟩:=I.list hq1;obtain⟨its2,rv2,pl2,hz2⟩:=I.list hq2;have hl1:=rv1.length;have hl2:=rv2.length;have W:=WalksT.zip2 (prog:=X.prog) (w:=X.w) (A:=X.A) (I.ok.hd hc) z TI TO i1 i2 a b D its1.toArray its2.toArray;rw[show min its1.toArray.size its2.toArray.size=min xs.length ys.length by simp[hl1,hl2]] at W
  refine⟨_,_,_,_,W,⟨st.1,st.2.1,st.2.2.1,st.2.2.2.1,st.2.2.2.2,pl1.isList,pl2.isList⟩,fun j h st=>⟨st.1,st.2.1,st.2.2.1,st.2.2.2.1,st.2.2.2.2.1⟩,fun vals hv=>?_⟩
  obtain⟨x,y,hx,hy,rfl⟩:=hv;have hx:its1[i]?=some x:=by simpa using hx
  have hy:its2[i]?=some y:=by simpa using hy
  have h1:i<xs.length:=by rw[hl1];exact(AA.mp hx).1
  have h2:i<ys.length:=by rw[hl2];exact(AA.mp hy).1
  have e1:xs[i]?=some xs[i]:=by simp[h1]
  have e2:ys[i]?=some ys[i]:=by simp[h2]
  obtain⟨u,eu,ru⟩:=rv1.get e1;rw[hx] at eu;cases eu;obtain⟨v,ev,rv⟩:=rv2.get e2;rw[hy] at ev;cases ev;refine⟨[xs[i],ys[i]],.cons ru (.cons rv .nil),by show 2<=sizeLine;decide,fun z=>?_,fun T hT=>⟨T,_,rfl,hT,?_,rfl⟩⟩
  ·rcases hfl with g | g
   ·exact zqs ru (g _ (Bh h1)) (z _ Ai)
   ·exact zqs rv (g _ (Bh h2)) (z _ (Ah _ Ai))
  unfold zipV;rw[Bw,e1,e2]
 ·obtain⟨hz,hTI,⟨u,v,hTO⟩,⟨o1,ho1,_,hd1⟩,o2,ho2,_,hd2⟩:=st
  simp only[AU,B7,or_false] at hb;rcases hb with rfl | rfl | rfl | rfl | rfl
  ·exact⟨_,hz,fun v z=>by cases (show Fk _=Ew v from z)⟩
  ·exact⟨_,hTI,fun v z=>by cases (show Data.seq _ _=Ew v from z)⟩
  ·exact⟨_,hTO,fun v z=>by cases (show Data.seq _ _=Ew v from z)⟩
  ·exact⟨o1,ho1,fun v z=>by rw[hd1] at z;cases z⟩
  ·exact⟨o2,ho2,fun v z=>by rw[hd2] at z;cases z⟩
 ·obtain⟨hz,hTI,⟨u,v,hTO⟩,h1,h2⟩:=st
  exact⟨k z (by simp) _ hz,k TI (by simp) _ hTI,⟨u,v,k TO (by simp) _ hTO⟩,h1.at fun o x=>k i1 (by simp) o x,h2.at fun o x=>k i2 (by simp) o x⟩
end
theorem zvw{K:A0}{H:Hp}{ps qs:List PV}{xs ys:List V}(r1:Reps K H ps xs)(r2:Reps K H qs ys):∀(i:Nat)(zs:List PV)(ws:List V),(zipP ps qs)[i]?=some zs->(zipV xs ys)[i]?=some ws->Reps K H zs ws:=fun i zs ws h1 h2=>by
 unfold zipP at h1;unfold zipV at h2;rw[Bw] at h1 h2;cases e:ps[i]? with
 | none=>rw[e] at h1;cases h1
 | some p=>
  cases e2:qs[i]? with
  | none=>rw[e,e2] at h1;cases h1
  | some q=>
   rw[e,e2] at h1;obtain⟨x,ex,rp⟩:=r1.get e;obtain⟨y,ey,rq⟩:=r2.get e2;rw[ex,ey] at h2;cases h1;cases h2;exact⟨_,_,rfl,rp,_,_,rfl,rq,rfl⟩
theorem zzb {C:Cn} {e e2:Expr} {elts:List Expr} {kk:Nat} {tp p pos:C7} {f g:PSt->R PV} (hg:Gl C.X "zip") (hm:C.X.mg "zip"=none) (he:EV C e f) (he2:EV C e2 g)
  (hs:Ad [e,e2] C.X.env=[(false,BR e C.X.env),(false,BR e2 C.X.env)]:=by exact zpx rfl rfl) (hs2:Ad [e2] C.X.env=[(false,BR e2 C.X.env)]:=by exact zbm rfl) :
  EI C (.Tuple elts kk tp) (.Call (.Name "zip" p) [e,e2] [] pos) (zipF f g):=by
 intro pins s σ H Rk I ⟨ρ,vw,q⟩
 refine Call_ (zhz I hg hm PyProof.Rows.boot_zip (BM (thn ((zb0 he (zb0 he2 ze7 hs2) (by rw[hs,hs2])) pos pins s σ H (fun vs H'=>∃v u ps qs,vs=[v,u]/\Same H H'/\Rep C.X.K H' (.lst ps) v/\Rep C.X.K H' (.lst qs) u/\(ps.all zhi || qs.all zhi)=true/\∀J H2,Same H' H2->ItP C.X.K J H2 ((zipP ps qs).map .tup)->Rk J H2) I ⟨ρ,vw,q.bind.imp fun p _ k v H1 s1 r1=>⟨ρ,vw.same s1,(k.bind.same s1).imp fun p2 _ k2 u H2 s2 r2=>?_⟩⟩)
  fun us s1 ⟨vs,H1,I1,r1,v,u,ps,qs,ev,sm,rp,rq,hfl,k⟩=>?_) (by rw[hs,hs2]) (by rw[hs2];rfl)))
 ·cases p with
  | lst ps=>
   cases p2 with
   | lst qs=>
    by_cases hfl:(ps.all zhi || qs.all zhi)=true
    ·simp only[if_pos hfl] at k2
     exact⟨v,u,ps,qs,rfl,s1.trans s2,r1.same s2,r2,hfl,fun J H3 s3 it=>k2 J H3 ((s1.trans s2).trans s3) it⟩
    ·simp only[if_neg hfl] at k2
     exact AK k2
   | _=>exact AK k2
  | _=>exact AK k2
 ·subst ev
  obtain⟨w1,w2,rfl,rw1,rw2⟩:=vals2 r1;obtain⟨a,xs,rfl,g1,rr1⟩:=rp;obtain⟨b,ys,rfl,g2,rr2⟩:=rq;cases rw1;cases rw2;obtain⟨its1,rv1,pl1,hz1⟩:=I1.list g1.l.l;obtain⟨its2,rv2,pl2,hz2⟩:=I1.list g2.l.l;have ha:a<s1.heap.objs.size:=by obtain⟨o,n,ho,_⟩:=pl1;exact AL ho
  have hb:b<s1.heap.objs.size:=by obtain⟨o,n,ho,_⟩:=pl2;exact AL ho
  have hfl2:(∀x∈xs,∀b,x≠V.ref b)\/(∀y∈ys,∀b,y≠V.ref b):=by
   cases hA:ps.all zhi with
   | true=>exact .inl (zn7 hA rr1)
   | false=>
    rw[hA,Bool.false_or] at hfl;exact .inr (zn7 hfl rr2)
  refine call_zip_2 pl1.isList pl2.isList fun h' z1 z2 z3 z4 z5 hsz hk=>wpAny_pyIter_zip z1 ?_
  refine⟨_,[s1.heap.objs.size+4,s1.heap.objs.size+2,s1.heap.objs.size+3,s1.heap.objs.size,s1.heap.objs.size+1],_,_,H1,rfl,I1.kept (t':=s1.toks) hk,zv6 (s1.heap.objs.size+4) (s1.heap.objs.size+2) (s1.heap.objs.size+3) s1.heap.objs.size (s1.heap.objs.size+1) a b (zipApart_new ha hb) xs ys hfl2,⟨z1,z2,⟨_,_,z3⟩,z4,z5⟩,fun c hc=>?_,k _ H1 (Same.refl H1) ?_⟩
  ·have hc:s1.heap.objs.size<=c:=by
    simp only[AU,B7,or_false] at hc;rcases hc with rfl | rfl | rfl | rfl | rfl <;> omega
   exact I1.fpOk hc (I1.hok.fresh hc)
  ·refine zpc ?_ (fun H2 k2=>⟨(k2.sqF g1).l.l,(k2.sqF g2).l.l⟩) (zvw rr1 rr2)
   unfold zipP;rw[List.length_zipWith,rr1.length,rr2.length]
end PU
namespace PU
open PySem PySem.Spec PyProof.Rows L2
variable[TW]
def spN(K:A0)(n:Nat)(F:List PV->Option PV):Sp:=fun vs H Q _=>vs.length=n/\Tabs H/\∃ps p,Reps K H ps vs/\F ps=some p/\∀a H',Same H H'->H a=none->zco K H' a p->Q (.ref a) H'
structure PFN(P:Ak)(w:Ar)(K:A0)(mg:Str->Option A9)(base:Heap)(k:Nat)(x:Str)(F:List PV->Option PV):Prop where
 ex:∃(f:Addr)(fd:By)(ps:List Str),FnOk P w K mg base CX0 k f fd ps (spN K ps.length F)/\mg x=some (.ref f)/\CA K (.ref f)=true/\Binds K fd ps []/\∀qs p,F qs=some p->qs.length=ps.length
section
variable{C : Cn}{e : Expr}{es : List Expr}{fs : PSt → R (List PV)}{x : Str}{k : Nat}{F : List PV → Option PV}{p pos : C7}
theorem zm2(G:PFN C.X.prog C.X.w C.X.K C.X.mg C.X.base k x F){kr:Nat}(hr:Room kr C.X.A)(ha:EA C (e::es) fs)
  (hdb:(x == ("__debug__":Str))=false:=by decide) (he:Ad (e::es) C.X.env=(false,BR e C.X.env)::Ad es C.X.env:=by exact zcq rfl) (hpl:(DH pos (Ad es C.X.env)).any (·.1)=false:=by exact zjf rfl) (hk:k<=kr:=by decide) (hg:Gl C.X x:=by exact rfl) :
  EN C (.Call (.Name x p) (e::es) [] pos) (zaz fs F):=by
 replace hr:=hr.mono hk;obtain⟨f,fd,ps,a,b,c,d,l⟩:=G.ex;intro pins s σ H Q I ⟨ρ,vw,q⟩;refine ztb (dvs:=[]) (ds:=[]) (E:=E0) a hr hg b c d .nil pass0 ha hdb he hpl pins s σ H Q I ⟨ρ,vw,q.bind.imp fun qs _ k vs H1 s1 r1=>?_⟩
 obtain⟨z,ez,k⟩:=k.ofO;rw[BY];exact⟨by rw[← r1.length];exact l qs z ez,s1.tabs vw.tb,qs,z,r1,ez,fun v H' s' n' r'=>k v H' (s1.trans s') (s1.free n') r'⟩
end
def ItS(K:A0)(J:It)(H₁:Hp)(ps:List PV):Prop:=
 ∀(i:Nat)(H:Hp),Same H₁ H->(i=ps.length->J.stop i H)/\∀p,ps[i]?=some p->J.go i H/\∀x H',J.yld i H x H'->Same H H'/\Rep K H' p x
def tIS(C:Cn)(f:PSt->R (List PV)):TI:=fun σ H Q=>∃ρ,View C.X.K H σ ρ/\RQ C H (f ρ) fun ps=>∀J H',Same H H'->ItS C.X.K J H' ps->Q J H'
def EIS(C:Cn)(tg iter:Expr)(f:PSt->R (List PV)):Prop:=PI C.X tg iter (tIS C f)
theorem Same.sqO{K:A0}{H H':Hp}(k:Same H H'){a:Addr}{xs:List V}(h:SqO K H a xs):SqO K H' a xs:=by
 rcases h with (h | ⟨o,h⟩) | h
 ·exact .inl (.inl (k _ _ h))
 ·exact .inl (.inr ⟨o,k _ _ h⟩)
 ·exact .inr h
section
variable{C : Cn}{elt tg iter : Expr}{ifs : List Expr}{scope : Scope}{pos : C7}{N' : List Str}{nt : Nat}{idx : List Nat}{fi : PSt → R (List PV)}{h : Tgt}{t : PSt → R Bool}{fe : PSt → R PV}
theorem zr0{pins:List (Addr×Bi)}{σ:L2.St}{H₂:Hp}{s₂:AD}{J:It}{fp:List Addr}{it:Addr}{tn:Nat->Heap->Prop}{ρ:PSt}{ps qs:List PV}{RR:A9->Addr->Gn->AD->Prop}{E:A9->AD->Prop}
  (O:CompOk C.X.N C.X.env.scope scope N' nt idx) (hc:C.X.calm=true)
  (hg:∀cl L s H fp,TCt (zcl C N' scope cl L s H fp) tg h) (hlow:LowT nt h) (ht:∀cl L s H fp,ETs (zcl C N' scope cl L s H fp) ifs t) (he:∀cl L s H fp,EV (zcl C N' scope cl L s H fp) elt fe)
  (I:Inv C.X pins σ H₂ s₂) (T:Turn C.X.prog C.X.w C.X.K tg J fp it tn) (st:tn 0 s₂.heap) (hf:∀b∈fp,FpOk C.X pins H₂ b) (vw:View C.X.K H₂ σ ρ) (ip:ItS C.X.K J H₂ ps)
  (hq:zci h t fe (zbh nt idx ρ) ps=.ok qs) (hz:qs.length<=sizeLine)
  (hRR:∀D L σ' H' s' xs,Inv (zbi C.X N' scope (clOf C.X.env.cells scope.names []) L s₂ H₂ fp) [] σ' H' s'->Same H₂ H'->H₂ D=none->H' D=some (.lst xs)->Reps C.X.K H' qs xs->s₂.heap.objs.size<=L->RR (.ref D) L (.ok .next) s') :
  Af (Ap C.X.prog C.X.w) C.X.A (GR []) (fun acc s₃=>Af (Ap C.X.prog C.X.w) C.X.A (Gh scope C.X.env.globals (clOf C.X.env.cells scope.names []) [] C.X.env.qual none .none (some C.X.env)) (fun cenv s₄=>
   D0 (Ap C.X.prog C.X.w) C.X.A (.compStart (.ListComp elt [⟨tg,iter,ifs,0⟩] scope pos) 0 (.ref it) acc { cenv with scope:=HY scope C.X.env }) (RR acc cenv.locals) s₄) E s₃) E s₂:=by
 refine Bt (Dl O.cell (by intro y hy;simp at hy) (fun h₁ hns₁ hsb₁=>?_) O.kind)
 dsimp only at hns₁ hsb₁ ⊢;generalize hG:s₂.heap.push { cls:=.type "list",dict:=none,data:=.seq ([]:List A9).toArray }=G at hns₁ hsb₁ ⊢;have hC:G.objs.size=s₂.heap.objs.size+1:=by rw[← hG,DB]
 have hDL:s₂.heap.objs.size≠G.objs.size:=by rw[hC];exact AZ (EX _)
 have keep:∀b o,s₂.heap.get? b=some o->h₁.get? b=some o:=fun b o e=>
  hsb₁.extBut b o (by rw[hC];exact AZ (C1 (AL e))) (AC _ (hG▸AC _ e))
 have acc:h₁.get? s₂.heap.objs.size=some { cls:=.type "list",data:=.seq ([]:List A9).toArray }:=hsb₁.extBut _ _ hDL (AC _ (hG▸Aa _ rfl));have nD:H₂ s₂.heap.objs.size=none:=I.fresh;have hGe:s₂.heap.objs.size<=G.objs.size:=by rw[hC];exact De _
 obtain⟨σ0,I0,vw0,hl0,fl⟩:=ziy O hc I T st hf vw (L:=G.objs.size) (tk:=s₂.toks+([]:List (Str×A9)).length) rfl hGe hDL (by simpa using hns₁) keep acc
 have fpk:∀{H':Hp}{pins':List (Addr×Bi)},(∀b∈fp,H' b=none)->(∀p∈pins',p.1 ∉ fp)->∀b∈fp,FpOk (zbi C.X N' scope (clOf C.X.env.cells scope.names []) G.objs.size s₂ H₂ fp) pins' H' b:=fun {H' pins'} hn hp b hb=>by
  obtain⟨g1,g2,g3,g4,g5,g6⟩:=hf b hb;refine⟨hn b hb,AZ (AR (fl b hb) hGe),fun z=>?_,.inl hb,fun x c e=>?_,fun p hp' z=>?_⟩
  ·exact(AU.mp (I.stkSub b z)).elim g2 g3
  ·rcases zcc e with z | z
   ·exact g5 x c z
   ·cases z
  ·subst z
   exact hp p ((show p∈([]:List (Addr×Bi))++pins' from hp')) hb
 have loop:D0 (Ap C.X.prog C.X.w) C.X.A (.compLoop (.ListComp elt [⟨tg,iter,ifs,0⟩] scope pos) 0 (.ref it) (.ref s₂.heap.objs.size) (Em scope (clOf C.X.env.cells scope.names []) G.objs.size C.X.env))
   (RR (.ref s₂.heap.objs.size) G.objs.size) { s₂ with heap:=h₁,toks:=s₂.toks+([]:List (Str×A9)).length }:=by
  refine zgw (fun n s=>∃i σ' H' xs dn rest,n=ps.length-i/\i<=ps.length/\Inv (zbi C.X N' scope (clOf C.X.env.cells scope.names []) G.objs.size s₂ H₂ fp) [] σ' H' s/\tn i s.heap/\(∀b∈fp,H' b=none)/\Same H₂ H'/\
   H' s₂.heap.objs.size=some (.lst xs)/\Reps C.X.K H' dn xs/\View C.X.K H' σ' (zbh nt idx ρ)/\(zbh nt idx ρ).length=σ'.length/\zci h t fe (zbh nt idx ρ) (ps.drop i)=.ok rest/\dn++rest=qs) ?_ ps.length
   ⟨0,σ0,_,[],[],qs,rfl,B3 _,I0,T.keep _ _ _ st fun b _ o e=>keep b o e,fun b hb=>?_,Same.new nD,zak,Reps.nil,vw0,hl0,by simpa using hq,rfl⟩
  ·rintro n s ⟨i,σ',H',xs,dn,rest,rfl,hi,I',st',fr',sm',hD',rp',vw',hl',e',ea⟩
   obtain⟨stp,stepp⟩:=ip i H' sm'
   by_cases hlt:i<ps.length
   ·have ei:ps[i]?=some ps[i]:=by simp[hlt]
    obtain⟨go,yl⟩:=stepp _ ei;rw[zh8 ei] at e';obtain⟨ρ1,b,e1,e2,e3⟩:=zlu e';obtain⟨l1,low1⟩:=hlow _ _ _ e1;refine thn (T.item (zbi C.X N' scope (clOf C.X.env.cells scope.names []) G.objs.size s₂ H₂ fp) rfl rfl rfl rfl i [] s σ' H' _ I' (fpk fr' (by simp)) st' go) fun r s1 ⟨u,hr,h4⟩=>?_
    subst hr;refine thn h4 fun _ s2 ⟨x,H3,I3,r3,y3,st3,fr3⟩=>?_
    obtain⟨sm3,rp3⟩:=yl x H3 y3;have I3':=I3.pinned (fpk fr3 (by simp)) (T.obj _ _ st3)
    refine thn (hg _ _ _ _ _ _ s2 σ' H3 x u (fun σ4 H4=>H4=H3/\ρ1.length=σ4.length/\View C.X.K H4 σ4 ρ1) I3' r3 ⟨_,_,ρ1,hl',vw'.same sm3,rp3,e1,fun σ4 hl4 vw4=>⟨rfl,hl4,vw4⟩⟩) fun _ s4 ⟨σ4,H4,I4,q4⟩=>?_
    obtain⟨rfl,hl4,vw4⟩:=q4
    have tests:Af (Ap C.X.prog C.X.w) C.X.A (forIn ifs true fun c r=>if r=true then do let ok<- isTrue c (Em scope (clOf C.X.env.cells scope.names []) G.objs.size C.X.env) (BR c (Em scope (clOf C.X.env.cells scope.names []) G.objs.size C.X.env));pure (Bl ok) else pure (Bl r))
      (TP (zbi C.X N' scope (clOf C.X.env.cells scope.names []) G.objs.size s₂ H₂ fp) ([]++zg3 fp s2.heap) σ4 (fun b' H5=>b'=b/\Same H4 H5)) (fun _ _=>False) s4:=by
     rcases ht (clOf C.X.env.cells scope.names []) G.objs.size s₂ H₂ fp with⟨ez,et⟩|⟨c,ez,et⟩
     ·subst ez
      subst et;cases e2;exact GP ⟨H4,I4,rfl,Same.refl _⟩
     ·subst ez
      exact wpAny_tests_one (et _ s4 σ4 H4 _ I4 ⟨ρ1,vw4,by rw[e2];exact fun H' s'=>⟨rfl,s'⟩⟩)
    refine thn tests fun b' s5 ⟨H5,I5,eb,sm5⟩=>?_
    subst eb
    have fin:∀{H7:Hp}{s7:AD},Inv (zbi C.X N' scope (clOf C.X.env.cells scope.names []) G.objs.size s₂ H₂ fp) ([]++zg3 fp s2.heap) σ4 H7 s7->Inv (zbi C.X N' scope (clOf C.X.env.cells scope.names []) G.objs.size s₂ H₂ fp) [] σ4 H7 s7/\tn (i+1) s7.heap/\∀b∈fp,H7 b=none:=fun {H7 s7} I7=>by
     refine⟨I7.unpinned,T.keep _ _ _ st3 fun b hb o e=>(I7.pin (b,o) (Ab _ (Ab _ (zc1 hb e)))).1,fun b hb=>?_⟩
     obtain⟨o,e,_⟩:=T.obj _ _ st3 b hb;exact(I7.pin (b,o) (Ab _ (Ab _ (zc1 hb e)))).2.1
    have sm25:Same H₂ H5:=(sm'.trans sm3).trans sm5;have smd:Same H' H5:=sm3.trans sm5;have vw5:View C.X.K H5 σ4 (zbh nt idx ρ):=View.weak (vw4.same sm5) low1 fun i l hi e=>zkr hi e
    have hl5:(zbh nt idx ρ).length=σ4.length:=by rw[← l1];exact hl4
    rcases e3 with⟨rfl,q,r,e4,e5,rfl⟩|⟨rfl,e4⟩
    ·rw[if_pos rfl]
     refine thn (he _ _ _ _ _ _ s5 σ4 H5 (fun v H6=>Same H5 H6/\Rep C.X.K H6 q v) I5 ⟨ρ1,vw4.same sm5,by rw[e4];exact fun v H' s' r=>⟨s',r⟩⟩) fun u6 s6 ⟨v,H6,I6,r6,sm6,rp6⟩=>?_
     have hD6:H6 s₂.heap.objs.size=some (.lst xs):=sm6 _ _ (smd _ _ hD')
     have hx:xs.length<sizeLine:=by
      have a1:=rp'.length;have a2:qs.length=dn.length+(r.length+1):=by rw[← ea];simp
      omega
     refine thn (zgj (X:=zbi C.X N' scope (clOf C.X.env.cells scope.names []) G.objs.size s₂ H₂ fp) _ s6 σ4 H6 (.ref s₂.heap.objs.size) [v] (.ref s₂.heap.objs.size) [u6] (fun _ H7=>H7=upd H6 s₂.heap.objs.size (.lst (xs++[v]))) I6 rfl (.cons r6 .nil) ⟨_,xs,v,rfl,rfl,hD6,hx,rfl⟩) fun _ s7 ⟨_,H7,I7,_,e7⟩=>?_
     subst e7;obtain⟨J7,st7,fr7⟩:=fin I7;have kp7:Kp H6 (upd H6 s₂.heap.objs.size (.lst (xs++[v]))):=Kp.upd hD6 rfl;refine⟨ps.length-(i+1),by omega,i+1,σ4,_,xs++[v],dn++[q],r,rfl,hlt,J7,st7,fr7,(sm25.trans sm6).but nD (fun u h=>by rw[hD6] at h;cases h;rfl) (fun b hb=>zal hb),zak,?_,?_,hl5,e5,by rw[← ea];simp⟩
     ·exact Reps.append (Reps.kp kp7 _ ((rp'.same smd).same sm6)) (Reps.cons (Rep.kp kp7 _ rp6) Reps.nil)
     ·exact(vw5.same sm6).noOwn (fun i p e=>zkq e) (fun i p a e=>zkp e) kp7 ((vw5.same sm6).tb.but (fun u h=>by rw[hD6] at h;cases h;exact⟨rfl,rfl⟩) (fun b hb=>zal hb))
    ·rw[if_neg AM]
     obtain⟨J7,st7,fr7⟩:=fin I5;exact⟨ps.length-(i+1),by omega,i+1,σ4,H5,xs,dn,rest,rfl,hlt,J7,st7,fr7,sm25,smd _ _ hD',rp'.same smd,vw5,hl5,e4,ea⟩
   ·have e:i=ps.length:=by omega
    subst e;rw[CV] at e';cases e';rw[BY] at ea;subst ea;refine thn (T.done (zbi C.X N' scope (clOf C.X.env.cells scope.names []) G.objs.size s₂ H₂ fp) rfl rfl rfl rfl ps.length [] s σ' H' _ I' (fpk fr' (by simp)) st' (stp rfl)) fun r s1 ⟨hr,I1⟩=>?_
    subst hr;exact hRR _ _ σ' H' s1 xs I1 sm' nD hD' rp' hGe
  ·show upd H₂ _ _ b=none
   rw[zal (AZ (fl b hb))];exact(hf b hb).1
 exact Et loop (T.self _ 0 _ _ _ (T.keep _ _ _ st fun b _ o e=>keep b o e) loop)
end
end PU
namespace PU
open PySem PySem.Spec PyProof.Rows L2
variable[TW]
def RN(C:Cn)(B:Hp×Hp)(D:Ends):R Fl->Prop
 | .ok (.ret p)=>∀a H,Same B.1 H->B.1 a=none->zco C.X.K H a p->D.rt (.ref a) H
 | _=>False
def tSN(C:Cn)(g:PSt->R Fl):TS:=fun D σ H=>∃ρ B,StOk C.X.K B H σ ρ/\RN C B D (g ρ)
def SVN(C:Cn)(st:List Stmt)(g:PSt->R Fl):Prop:=PSs C.X st (tSN C g)
section
variable{C : Cn}{st : Stmt}{sts : List Stmt}{e : Expr}{f : PSt → R PV}{g g' : PSt → R Fl}{pos : C7}
theorem zzq(he:EN C e f):SVN C [.Return (some e) pos] (retF f):=by
 intro pins s σ H D I ⟨ρ,B,S,h⟩;refine zoy (zs1 he) pins s σ H D I ⟨ρ,S.vw,?_⟩;unfold retF at h;cases hf:f ρ with
 | ok p=>rw[hf] at h;exact fun a H' s' n' w'=>h a H' (S.same.trans s') (S.same.free n') w'
 | er x=>rw[hf] at h;exact AK h
 | no=>rw[hf] at h;exact AK h
theorem zhq(hn:∀ρ p,g ρ≠.ok (.ret p))(h1:SV C st g)(h2:SVN C sts g'):SVN C (st::sts) (seqF g g'):=by
 intro pins s σ H D I ⟨ρ,B,S,h⟩;refine zfk h1 h2 pins s σ H D I ⟨ρ,B,S,?_⟩;unfold seqF at h;cases hg:g ρ with
 | ok fl=>
  rw[hg] at h;cases fl with
  | next ρ'=>exact fun σ' H' S'=>⟨ρ',B,S',h⟩
  | brk ρ'=>exact AK h
  | cont ρ'=>exact AK h
  | ret p=>exact absurd hg (hn ρ p)
 | er x=>rw[hg] at h;exact AK h
 | no=>rw[hg] at h;exact AK h
omit [TW] in
theorem zhr(i:Nat)(f:PSt->R PV)(ρ:PSt)(p:PV):setF i f ρ≠.ok (.ret p):=by
 unfold setF;cases f ρ with
 | ok q=>intro h;cases h
 | er x=>intro h;cases h
 | no=>intro h;cases h
end
section
variable{P : Ak}{w : Ar}{K : A0}{mg : Str → Option A9}{base : Heap}
omit [TW] in
theorem zxq(f:PSt->R PV)(ρ:PSt):(∃p,retF f ρ=.ok (.ret p))\/∀fl,retF f ρ≠.ok fl:=by
 unfold retF;cases f ρ with
 | ok q=>exact .inl ⟨q,rfl⟩
 | er x=>exact .inr fun fl h=>by cases h
 | no=>exact .inr fun fl h=>by cases h
omit [TW] in
theorem zxp(i:Nat)(f:PSt->R PV)(g:PSt->R Fl)(h:∀ρ,(∃p,g ρ=.ok (.ret p))\/∀fl,g ρ≠.ok fl)(ρ:PSt):(∃p,seqF (setF i f) g ρ=.ok (.ret p))\/∀fl,seqF (setF i f) g ρ≠.ok fl:=by
 unfold seqF setF;cases f ρ with
 | ok q=>exact h _
 | er x=>exact .inr fun fl h=>by cases h
 | no=>exact .inr fun fl h=>by cases h
end
end PU
namespace PU
open PySem PySem.Spec PyProof.Rows L2
variable[TW]
def zo5(i:Nat)(fk fv:PSt->R PV):PSt->R Fl:=fun ρ=>match ρ[i]? with
 | some (.own (.lst ps))=>fv ρ >>= fun p=>fk ρ >>= fun kp=>(match kp with
  | .int j=>if 0<=j/\j<ps.length then .ok (.next (ρ.set i (.own (.lst (ps.set j.toNat p))))) else .no
  | _=>.no)
 | _=>.no
omit [TW] in
theorem Vals.setAt{v:V}{u:A9}(ru:RelV v u):∀{xs:List V}{its:List A9}(n:Nat),Vals xs its->Vals (xs.set n v) (its.set n u)
 | _,_,n,.nil=>.nil
 | _,_,0,.cons r rs=>.cons ru rs
 | _,_,n+1,.cons r rs=>.cons r (Vals.setAt ru n rs)
omit [TW] in
theorem zl4 {prog:Ak} {w:Ar} {A:B0} {E:A9->AD->Prop} {s:AD} {l:Addr} {items:Array A9} {n:Nat} {k:Int} {t:Tok} {v:A9} {Q:Unit->AD->Prop} (ho:s.heap.get? l=some { cls:=.type "list",data:=.seq items n }) (h0:0<=k) (hfit:k<2 ^ 63) (hn:k<items.size)
  (hQ:Q () { s with heap:=s.heap.update l (Av (·.setIfInBounds k.toNat v)) }):Af (Ap prog w) A (setItem (.ref l) (.int k t) v) Q E s:=by
 have hl:s.heap.IsList l items:=⟨_,ho,rfl,n,rfl⟩;unfold setItem
 try with_reducible refine CG ?_
 first | refine AB (AH ?_) | skip
 refine AB (wpAny_sequenceKey hl.typeIs (by decide) ?_)
 refine AB (DK (name:=AN "__setitem__") hl.typeIs Fn
  (Dj Fn hl.typeIs PySem.F.entry_list_setitem ?_ (PySem.F.args_list_setitem_3 _ _ _)))
 show Af _ _ (Builtin.List.listSubscript? (.int k t) >>= _) _ _ s;refine AB (wpAny_listSubscript_int (fitsIndex_of h0 hfit) ?_);clear hfit;obtain⟨j,rfl⟩:=Gc h0;have hj:j<items.size:=by omega
 have hx':items[j]?=some items[j]:=Br hj;show Af _ _ ((seqItemAt l j >>= fun r=>pure (r.map (j,·))) >>= _) _ _ s
 refine AB (AB (wpAny_seqItemAt ho rfl (AH ?_)));rw[hx'];show Af _ _ (setSeqItemAt l j v >>= _) _ _ s;refine AB (wpAny_setSeqItemAt ho rfl ?_)
 first
  | exact AB (AH (AH ⟨.none,rfl,AH hQ⟩))
  | exact AH ⟨.none,rfl,AH hQ⟩
theorem zzr{C:Cn}(i:Nat){x:Str}{ke e:Expr}{fk fv:PSt->R PV}{np pos' pos:C7}(hk:EV C ke fk)(hv:EV C e fv)(hN:C.X.N[i]?=some x:=by rfl)(hvis:Vis C.X.env.scope x:=by first | exact Dc rfl | exact DZ (Dc rfl))
  (hs:Cm e (some (.Subscript (.Name x np) ke pos')) pos.line C.X.env=pure false:=by rfl) (hd:(x == ("__debug__":Str))=false:=by decide) (hcd:(x == ("__classdict__":Str))=false:=by decide) :
  SV C (.Assign [.Subscript (.Name x np) ke pos'] e pos) (zo5 i fk fv):=by
 intro pins s σ H D I ⟨ρ,B,S,q⟩;unfold zo5 at q;split at q
 ·rename_i ps e1
  obtain⟨a,e2,xs,hx,rr⟩:=S.vw i _ e1
  refine HX (thn (hv pins s σ H (fun v H1=>∃p,Same H H1/\Rep C.X.K H1 p v/\RQ C H1 (fk ρ) (fun kp=>RS C B D (match kp with
   | .int j=>if 0<=j/\j<ps.length then R.ok (.next (ρ.set i (.own (.lst (ps.set j.toNat p))))) else .no
   | _=>.no))) I ⟨ρ,S.vw,(RS.bind q S.same).imp fun p _ q1 v H1 s1 r1=>⟨p,s1,r1,RS.bind q1 (S.same.trans s1)⟩⟩) fun uv s1 ⟨v,H1,I1,rv,p,sm1,rp1,q1⟩=>?_) hs
  refine thn ((zeb hN hvis hd hcd) pins s1 σ H1 (fun u H2=>u=.ref a/\H2=H1) I1 ⟨_,e2,rfl,rfl⟩) fun u s2 ⟨x2,H2,I2,rx,ex2,eh2⟩=>?_
  subst ex2 eh2;refine thn (hk pins s2 σ H2 (fun y H3=>∃j:Int,Same H2 H3/\y=.int j/\RS C B D (if 0<=j/\j<ps.length then R.ok (.next (ρ.set i (.own (.lst (ps.set j.toNat p))))) else .no)) I2 ⟨ρ,S.vw.same sm1,q1.imp fun kp _ q2 y H3 s3 r3=>?_⟩) fun iv s3 ⟨y,H3,I3,ry,j,sm3,ey,q3⟩=>?_
  ·cases kp with
   | int j=>exact⟨j,s3,r3,q2⟩
   | _=>exact AK q2
  ·subst ey
   cases rx;obtain⟨t,rfl⟩:=ry
   by_cases hj:0<=j/\j<ps.length
   ·rw[if_pos hj] at q3
    have hx3:H3 a=some (.lst xs):=sm3 _ _ (sm1 _ _ hx);obtain⟨z,its,n,r,hl,eo⟩:=I3.lstM hx3;obtain⟨m,rfl⟩:=Gc hj.1;have hm:m<ps.length:=by have:=hj.2;omega
    have hps:=rr.length;have hsz:=B2;refine zl4 eo hj.1 (by omega) (by rw[Al];omega) ?_
    have I4:=I3.lset (its':=its.set m uv) (ys:=xs.set m v) (t':=s3.toks) (f:=fun y=>y.setIfInBounds m uv) hx3 eo (by simp) (Vals.setAt rv m r) (by rw[Cb];exact z)
    refine⟨σ,_,I4,q3 σ _ (((S.grow sm1).grow sm3).turn e1 e2 (fun b hb=>zal hb) ?_)⟩
    have kp:Kp H3 (upd H3 a (.lst (xs.set m v))):=Kp.upd hx3 rfl;exact⟨a,rfl,xs.set m v,zak,Reps.set m (Reps.kp kp _ ((rr.same sm1).same sm3)) (Rep.kp kp _ (rp1.same sm3))⟩
   ·rw[if_neg hj] at q3
    exact AK q3
 ·exact AK q
end PU
namespace PU
open PySem PySem.Spec PyProof.Rows L2 PySem.SeqAt
theorem zjt:typeLookup (.type "tuple") "keys"=pure none:=by rw[typeLookup_type,builtinLookup_eq_fast];kernel_rfl
theorem zif{prog:Ak}{w:Ar}{A:B0}{E:A9->AD->Prop}{s:AD}{a:Addr}{o:Bi}{xs:Array A9}{k:Nat}{name:Str}{Q:Option A9->AD->Prop}
  (hx:s.heap.get? a=some o) (hc:o.cls=.type "tuple") (hdat:o.data=.seq xs k) (hd:o.dict=none) (hmiss:typeLookup (.type "tuple") name=pure none) (hname:(["__module__","__name__","__qualname__","__doc__","__annotations__"]:List Str).contains name=false) (hA:A.handled=none)
  (h:∀h' tk e,Heap.NewExcOf s.heap h' e "AttributeError"->Q none { s with heap:=h',toks:=tk }) (hsz:name.length+100<=sizeLine:=by size_fits) :
  Af (Ap prog w) A (getAttr? (.ref a) name) Q E s:=by
 obtain⟨c,dct,dat,sl⟩:=o;simp only at hc hdat hd;subst hc hdat hd;obtain⟨hp,g,d,tk,os⟩:=s;have hT:∀tk',(⟨hp,g,d,tk',os⟩:AD).TypeIs (.ref a) "tuple":=fun _=>⟨_,hx,rfl⟩
 have f1:=sub_AttributeError;have f3:=E6.lookup;have f4:=E6.bind (.ref a);have f5:=am_tuple_getattr_none;unfold getAttr? getAttrBy? getAttrBy
 repeat (any_goals (first | assumption | exact hT _ | ((with_reducible show Af _ _ (call (Value.builtin "tuple.__getattribute__") _ _) _ _ _);refine call_meets E6 (hT _) am_entry_tuple_getattribute (F.args_tuple_getattribute_2 _ _) (meets_getattribute_miss_tuple a xs k sl name _ hmiss hname hsz) ⟨hx,hA,fun h' tk' e hx'=>?_⟩) | wp_step))
 obtain⟨t',u',he⟩:=hx'.there;show Af _ _ (getattributeRaised _ _ _ _ _ _ _) _ _ _;unfold getattributeRaised
 repeat (any_goals (first | assumption | wp_step))
 exact h _ _ _ hx'.of
theorem zg7:entryFor table "dict.update.loop"=some Builtin.«dict.update.loop»:=entryFor_of_tree (by kernel_rfl)
section
variable{prog : Ak}{w : Ar}{K : Type}[DecidableEq K]{knd : KeyKind prog w K}{A : B0}
def storeAll(acc:List (K×A9))(l:List (K×A9)):List (K×A9):=l.foldl (fun a p=>Gg a p.1 p.2) acc
theorem zpt{R:Gn->AD->Prop}{h0:Heap}{d it a:Addr}{items:Array A9}{kvs:List (K×A9)}{result:A9}(hh:A.handled=none)(hda:a≠d)(hia:a≠it)(hdi:d≠it)(ha:h0.IsTuple a items)(hn:items.size=kvs.length)
  (hp:∀(j:Nat)(x:A9),items[j]?=some x->∃(p:Addr)(key:A9)(k:K)(v:A9),x=.ref p/\kvs[j]?=some (k,v)/\p≠d/\p≠it/\h0.IsTuple p #[key,v]/\knd.is k key=true) :
  ∀(m i:Nat)(s:AD)(acc:List (K×A9)),m=items.size-i->i<=items.size->(∀b o,b≠d->b≠it->h0.get? b=some o->s.heap.get? b=some o)->s.heap.IsTupleIter it a i->s.heap.DictOf knd d acc->acc.length+m<=sizeLine->
   (∀h' tk,(∀b o,b≠d->b≠it->h0.get? b=some o->h'.get? b=some o)->h'.DictOf knd d (storeAll acc (kvs.drop i))->R (.ok (.ret result)) { s with heap:=h',toks:=tk })->
   D0 (Ap prog w) A (.builtin "dict.update.loop" ⟨[.ref d,.ref it,Dq (i:Int),result],[]⟩) R s
 | 0,i,s,acc,hm,hi,hk,hit,hd,hz,hR=>by
  have e:i=items.size:=by omega
  have hq:s.heap.IsTuple a items:=ha.at fun o e=>hk a o hda hia e
  refine F4 zg7 ?_;unfold Builtin.«dict.update.loop»;show Af _ _ (Ec (.ref it) >>= _) _ _ s;refine AB (HU (by exact hh) hit hq (by rw[e];simp) fun h' eb=>?_)
  have hd':h'.DictOf knd d acc:=hd.extBut eb hdi;show Af _ _ (Builtin.Dict.addKeywords d [] >>= _) _ _ _;refine AB (AH (AH (hR h' s.toks (fun b o hb1 hb2 q=>eb b o hb2 (hk b o hb1 hb2 q)) ?_)))
  rw[e,hn,CV];exact hd'
 | m+1,i,s,acc,hm,hi,hk,hit,hd,hz,hR=>by
  have hlt:i<items.size:=by omega
  have hq:s.heap.IsTuple a items:=ha.at fun o e=>hk a o hda hia e
  have hx:items[i]?=some items[i]:=by simp[hlt]
  obtain⟨p,key,k,v,ex,ek,h1,h2,h3,h4⟩:=hp i _ hx;refine F4 zg7 ?_;unfold Builtin.«dict.update.loop»;show Af _ _ (Ec (.ref it) >>= _) _ _ s;refine AB (HK hit hq hx fun h' hit' sb=>?_)
  rw[ex];have hd':h'.DictOf knd d acc:=hd.extBut sb.extBut hdi;have hpt:h'.IsTuple p #[key,v]:=h3.at fun o e=>(sb.2 p h2).trans (hk p o h1 h2 e)
  obtain⟨op,hop,hcp,np,hdp⟩:=id hpt;dsimp only;refine AB (CG (AB (wpAny_tryCatch ?_)));unfold Builtin.Dict.pairItems;refine AB (DS hpt.typeIs ?_);rw[if_pos (by decide)]
  refine AB ?_
  have hsi:Af (Ap prog w) (A.under (Code.builtin "dict.update.loop" ⟨[.ref d,.ref it,Dq (i:Int),result],[]⟩)) (seqItems? (.ref p)) (fun r s'=>r=some #[key,v]/\s'={ s with heap:=h' }) (fun _ _=>False) { s with heap:=h' }:=by
   repeat (any_goals (first | assumption | wp_step))
   rw[hdp];exact AH ⟨rfl,rfl⟩
  refine C9 hsi (fun r s' hr=>?_) fun _ _ h=>h.elim
  obtain⟨rfl,rfl⟩:=hr;refine AH ?_;show Af _ _ (holding [key,v] (dictSet d key v)) _ _ _;refine CG (wpAny_dictSet_pairs h4 hd' (fun h'' hd'' sb'=>?_) (by omega))
  refine AH ⟨Code.quiet_builtin _ (by decide +kernel),?_⟩
  have ei:((i:Int)+1)=((i+1:Nat):Int):=by omega
  rw[ei];have hlen:=stored_length_le acc k v;refine zpt hh hda hia hdi ha hn hp m (i+1) _ (Gg acc k v) (by omega) hlt (fun b o hb1 hb2 q=>?_) ?_ hd'' (by omega) fun h3 tk hk3 hd3=>hR h3 tk hk3 ?_
  ·exact(sb'.2 b hb1).trans ((sb.2 b hb2).trans (hk b o hb1 hb2 q))
  ·exact hit'.at fun o e=>(sb'.2 it (Bc hdi)).trans e
  ·have hdr:kvs.drop i=(k,v)::kvs.drop (i+1):=by
    obtain⟨hl,e⟩:=AA.mp ek;rw[Dw hl,e]
   rw[hdr];exact hd3
theorem zks {E:A9->AD->Prop} {s:AD} {a:Addr} {o:Bi} {items:Array A9} {n0:Nat} {kvs:List (K×A9)} {Q:A9->AD->Prop} (hA:A.handled=none) (hx:s.heap.get? a=some o) (hc:o.cls=.type "tuple") (hdat:o.data=.seq items n0) (hdn:o.dict=none)
  (hn:items.size=kvs.length) (hz:kvs.length<=sizeLine)
  (hp:∀(j:Nat)(x:A9),items[j]?=some x->∃(p:Addr)(key:A9)(k:K)(v:A9),x=.ref p/\kvs[j]?=some (k,v)/\s.heap.IsTuple p #[key,v]/\knd.is k key=true)
  (h:∀h' tk,(∀b o,s.heap.get? b=some o->h'.get? b=some o)->h'.DictOf knd s.heap.objs.size (storeAll [] kvs)->Q (.ref s.heap.objs.size) { s with heap:=h',toks:=tk }) :
  Af (Ap prog w) A (call (.type "dict") [.ref a]) Q E s:=by
 refine Gj (Q₁:=fun obj s₁=>obj=.ref s.heap.objs.size/\s₁={ s with heap:=s.heap.push { cls:=.type "dict",data:=.dict #[] } }) F.kt_called_dict (F.kt_typeCall_dict_1 _) F.entry_dict_init (kt_code_dict_new _ ⟨rfl,rfl⟩) ?_
 rintro obj s₁ ⟨rfl,rfl⟩;have hnew:(s.heap.push { cls:=.type "dict",data:=.dict #[] }).DictOf knd s.heap.objs.size []:=GT s.heap;have hx':(s.heap.push { cls:=.type "dict",data:=.dict #[] }).get? a=some o:=AC _ hx;have hT:G3 { s with heap:=s.heap.push { cls:=.type "dict",data:=.dict #[] } } (.ref a) "tuple":=⟨o,hx',hc⟩;refine⟨hnew.typeIs,F.args_dict_init_2 _ _,?_⟩;unfold Builtin.«dict.__init__»;refine AB ?_;unfold Builtin.Dict.selfAndRest;refine AB (wpAny_notOrdered_dict hnew.typeIs ?_);show Af _ _ (pure (s.heap.objs.size,[B6 a])) _ _ _;refine AH ?_;show Af _ _ (FT "dict.__init__" s.heap.objs.size (.ref a) [] .none) _ _ _;unfold FT;refine AB (DS hT ?_);rw[if_pos (by decide)]
 refine AB (zif hx' hc hdat hdn zjt (by decide +kernel) (by exact hA) fun h1 tk1 e1 ne=>?_)
 have k1:∀b u,(s.heap.push { cls:=.type "dict",data:=.dict #[] }).get? b=some u->h1.get? b=some u:=fun b u q=>ne.keeps b u q
 rw[if_pos (show (none:Option A9).isNone=true from rfl)];have ht:h1.IsTuple a items:=⟨o,k1 a o hx',hc,n0,hdat⟩;refine AB (Gf (AB (wpAny_pyIter_tuple ht ?_)))
 have sD:s.heap.objs.size<h1.objs.size:=by
  obtain⟨od,_,_,hod,_⟩:=hnew;exact AL (k1 _ _ hod)
 have k2:∀b u,s.heap.get? b=some u->(h1.push { cls:=.type "tuple_iterator",data:=.fields #[.ref a,.int 0 0] }).get? b=some u:=fun b u q=>AC _ (k1 b u (AC _ q))
 refine AH ⟨Code.quiet_builtin _ (by decide +kernel),?_⟩
 have lts:∀b u,s.heap.get? b=some u->b≠s.heap.objs.size/\b≠h1.objs.size:=fun b u q=>⟨AZ (AL q),AZ (Nat.lt_trans (AL q) sD)⟩
 refine zpt (knd:=knd) (h0:=h1.push { cls:=.type "tuple_iterator",data:=.fields #[.ref a,.int 0 0] }) (kvs:=kvs) (by exact hA) (lts a o hx).1 (lts a o hx).2 (AZ sD) (ht.push _) hn (fun j x hj=>?_) items.size 0 _ [] (by omega) (B3 _) (fun b u _ _ q=>q) ⟨_,Aa _ rfl,rfl,rfl⟩ ?_ (by simp;omega) fun h' tk hk' hd'=>?_
 ·obtain⟨p,key,k,v,e1,e2,e3,e4⟩:=hp j x hj
  obtain⟨op,hop,r⟩:=id e3;exact⟨p,key,k,v,e1,e2,(lts p op hop).1,(lts p op hop).2,⟨op,k2 p op hop,r⟩,e4⟩
 ·obtain⟨od,es,ep,hod,r⟩:=hnew
  exact⟨od,es,ep,AC _ (k1 _ _ hod),r⟩
 ·exact⟨rfl,h h' tk (fun b u q=>hk' b u (lts b u q).1 (lts b u q).2 (k2 b u q)) hd'⟩
end
end PU
namespace PU
open PySem L2
def zi7:List PV->Option (List (Key×PV))
 | []=>some []
 | .tup [.str k,v]::r=>(zi7 r).map fun l=>(.inr k,v)::l
 | _=>none
def zn5:PV->Option PV
 | .tup ps=>if ps.length<=1000 then (zi7 ps).map zf0 else none
 | _=>none
end PU
namespace PU
open PySem PySem.Spec PyProof.Rows L2 PySem.SeqAt
variable[TW]
theorem zp8{X:Cx}{pins:List (Addr×Bi)}{σ:L2.St}{H:Hp}{s:AD}(I:L2.Inv X pins σ H s):∀{ps:List PV}{kps:List (Key×PV)}{xs:List V}{its:List A9},zi7 ps=some kps->Reps X.K H ps xs->Vals xs its->
  ∃(kvs:List (Key×V))(vs:List (Key×A9)),KReps X.K H kps kvs/\KV kvs vs/\its.length=vs.length/\∀(j:Nat)(x:A9),its[j]?=some x->∃(p:Addr)(key:A9)(k:Key)(v:A9),x=.ref p/\vs[j]?=some (k,v)/\s.heap.IsTuple p #[key,v]/\(zao X.prog X.w).is k key=true
 | [],kps,xs,its,e,r,rv=>by
  cases e;cases r;cases rv;exact⟨[],[],rfl,.nil,rfl,fun j x h=>by simp at h⟩
 | p::ps,kps,xs,its,e,r,rv=>by
  obtain⟨x,t,rfl,r1,r2⟩:=r;cases rv with
  | cons ru rv=>
  unfold zi7 at e;split at e
  ·rename_i h;cases h
  ·rename_i k v r' h
   cases h;obtain⟨l,el,ez⟩:=AQ.mp e;cases ez;obtain⟨kvs,vs,q1,q2,q3,q4⟩:=zp8 I el r2 rv;obtain⟨a,ys,rfl,g,rr⟩:=r1;obtain⟨y1,t1,rfl,h1,y2,t2,rfl,h2,h3⟩:=rr;cases h3;cases h1;cases ru;obtain⟨its2,rv2,pl,hz⟩:=I.tuple (tq g);cases rv2 with
   | cons ra rv2=>
   cases rv2 with
   | cons rb rv2=>
   cases rv2;obtain⟨tk,rfl⟩:=ra;refine⟨(.inr k,y2)::kvs,(.inr k,_)::vs,⟨y2,kvs,rfl,h2,q1⟩,.cons ⟨rfl,rb⟩ q2,by simp[q3],fun j x hj=>?_⟩
   cases j with
   | zero=>
    simp at hj;subst hj;exact⟨a,_,_,_,rfl,rfl,pl,zfq _ _ _ _⟩
   | succ j=>
    obtain⟨p,key,k',v',e1,e2,e3,e4⟩:=q4 j x (by simpa using hj)
    exact⟨p,key,k',v',e1,by simpa using e2,e3,e4⟩
  ·cases e
omit [TW] in
theorem zi1{K:Type}[DecidableEq K]:∀(l acc:List (K×A9)),(storeAll acc l).length<=acc.length+l.length
 | [],acc=>by simp[storeAll]
 | p::l,acc=>by
  have h1:=zi1 l (Gg acc p.1 p.2);have h2:=stored_length_le acc p.1 p.2;have e:storeAll acc (p::l)=storeAll (Gg acc p.1 p.2) l:=rfl;rw[e,An];omega
theorem zzf {X:Cx} (hc:X.calm=true:=by rfl) (hw:X.w=TW.w:=by rfl):zhl X (.type "dict") (rn1 X.K zn5):=by
 intro pins s σ H xs us Q I r ⟨v,p,z,e1,rp,ez,k⟩;subst e1;cases p with
 | tup ps=>
  have ez:(if ps.length<=1000 then (zi7 ps).map zf0 else none)=some z:=ez
  by_cases hlen:ps.length<=1000
  ·rw[if_pos hlen] at ez
   obtain⟨kps,ek,rfl⟩:=AQ.mp ez;obtain⟨a,xs,rfl,g,rr⟩:=rp;obtain⟨u,rfl,ru⟩:=vals1 r;cases ru;obtain⟨its,rv,⟨o,ho,hcl,⟨n0,hdat⟩,hdn⟩,hz⟩:=I.tupleX (tq g);obtain⟨kvs,vs,q1,q2,q3,q4⟩:=zp8 I ek rr rv;have hl1:=rr.length;have hl2:=rv.length;have hs:=B2;refine zks (knd:=zao X.prog X.w) (kvs:=vs) (I.ok.hd hc) ho hcl hdat (hdn fun v hv=>(by obtain⟨j,hj⟩:=DO.mp hv;obtain⟨p,_,_,_,e,_⟩:=q4 j v (by simpa using hj);exact⟨p,e⟩)) (by rw[Al];exact q3) (by omega) (fun j x hj=>q4 j x (by simpa using hj)) fun h' tk keep D'=>?_
   have nf:H s.heap.objs.size=none:=I.fresh
   have hne:(s.heap.objs.size == BN)=false:=by
    have hb:=I.big;refine beq_eq_false_iff_ne.mpr fun e=>?_
    rw[e] at hb;exact BE _ hb
   have hm:KV (ze9 [] kvs) (storeAll [] vs):=KV.merge q2 .nil
   have hml:(ze9 [] kvs).length<=sizeLine:=by
    have a1:(ze9 [] kvs).length=(storeAll [] vs).length:=BC hm;have a2:=zi1 vs [];simp only[Cc] at a2;omega
   have I2:=I.laid (a:=s.heap.objs.size) (o:=.dK (ze9 [] kvs)) (h':=h') (t':=tk) keep (AY _) ⟨hml,hne,_,hm,D'⟩;have kp:Kp H (upd H s.heap.objs.size (.dK (ze9 [] kvs))):=Same.kp (Same.new nf);obtain⟨ks',ps',g1,g2,g3⟩:=zj7 (acc:=[]) (ps:=[]) (KReps.kp kp q1) Reps.nil;refine⟨.ref _,_,I2,rfl,k _ _ (Same.new nf) nf ?_⟩;rw[zqc];have g1:kps.foldl addP (PV.dct [] [])=PV.dct ks' ps':=g1;rw[g1];exact⟨_,zak,g2,g3⟩
  ·rw[if_neg hlen] at ez
   cases ez
 | _=>cases ez
end PU
namespace PU
open PySem PySem.Spec PyProof.Rows L2 PySem.SeqAt
def zn1:List PV->Option (List Int)
 | []=>some []
 | .int i::r=>(zn1 r).map (i::·)
 | _=>none
variable[TW]
end PU
namespace PU
open PySem PySem.Spec PyProof.Rows L2
def retO(i:Nat):PSt->R Fl:=fun ρ=>match ρ[i]? with
 | some (.own p)=>.ok (.ret p)
 | _=>.no
def runN(m n:Nat)(g:PSt->R Fl)(ps:List PV):Option PV:=if ps.length=m then (match g (start n ps) with
 | .ok (.ret p)=>some p
 | _=>none) else none
section
variable{g g' : PSt → R Fl}{t : PSt → R Bool}{f fk fv : PSt → R PV}{i : Nat}
theorem znn(i:Nat)(f:PSt->R PV)(ρ:PSt)(p:PV):ownF i f ρ≠.ok (.ret p):=by
 unfold ownF;cases f ρ with
 | ok q=>intro h;cases h
 | er x=>intro h;cases h
 | no=>intro h;cases h
theorem zvo(i:Nat)(f:PSt->R PV)(ρ:PSt)(p:PV):appF i f ρ≠.ok (.ret p):=by
 unfold appF;intro h;split at h
 ·cases hf:f ρ with
  | ok q=>
   rw[hf,R.ok_bind] at h
   repeat' split at h
   all_goals cases h
  | er x=>rw[hf] at h;cases h
  | no=>rw[hf] at h;cases h
 ·cases h
theorem zun{h:Tgt}{fi:PSt->R (List PV)}(hg:∀ρ p,g ρ≠.ok (.ret p))(ρ:PSt)(p:PV):forS fi h g ρ≠.ok (.ret p):=by
 have go:∀(ps:List PV)(ρ:PSt),forF h g ps ρ≠.ok (.ret p):=by
  intro ps
  induction ps with
  | nil=>intro ρ h;cases h
  | cons x ps ih=>
   intro ρ e;unfold forF at e;cases h1:h x ρ with
   | none=>rw[h1] at e;cases e
   | some ρ1=>
    rw[h1,R.ofO_some,R.ok_bind] at e;cases h2:g ρ1 with
    | ok fl=>
     rw[h2,R.ok_bind] at e;cases fl with
     | next ρ2=>exact ih ρ2 e
     | cont ρ2=>exact ih ρ2 e
     | brk ρ2=>cases e
     | ret q=>exact hg ρ1 q h2
    | er x=>rw[h2] at e;cases e
    | no=>rw[h2] at e;cases e
 unfold forS;intro e;cases h1:fi ρ with
 | ok ps=>rw[h1,R.ok_bind] at e;exact go ps ρ e
 | er x=>rw[h1] at e;cases e
 | no=>rw[h1] at e;cases e
end
variable[TW]
section
variable{C : Cn}
theorem zv9(i:Nat){x:Str}{np pos:C7}(hN:C.X.N[i]?=some x:=by rfl)(hv:Vis C.X.env.scope x:=by first | exact Dc rfl | exact DZ (Dc rfl) | exact DZ (DZ rfl))
  (hd:(x == ("__debug__":Str))=false:=by decide) (hcd:(x == ("__classdict__":Str))=false:=by decide):SVN C [.Return (some (.Name x np)) pos] (retO i):=by
 intro pins s σ H D I ⟨ρ,B,S,h⟩;unfold retO at h;split at h
 ·rename_i p e1
  obtain⟨a,ea,nw⟩:=S.vw i _ e1;exact zoy (zs1 (zeb hN hv hd hcd)) pins s σ H D I ⟨.ref a,ea,h a H S.same (S.fresh i p a e1 ea) nw⟩
 ·exact AK h
end
section
variable{P : Ak}{w : Ar}{K : A0}{mg : Str → Option A9}{base : Heap}
theorem Zad{x qual:Str}{st:Stmt}{f:Addr}{fd:By}{N ps:List Str}{k:Nat}{g:PSt->R Fl}(F:Fun K x qual st f fd)(S:FnScope N ps (zad st))(hm:mg x=some (.ref f))(hb:Binds K fd ps [])
  (hbody:∀(cdv:A9)(A:B0)(outer:List FY)(s:AD)(H:Hp)(E:XK),Room k (A.deeper (DY qual (zad st) s.heap.objs.size f cdv))->SVN (cnOf P w K mg base N qual (zad st) f cdv A outer s H E) (zbr st) g) :
  PFN P w K mg base (k+1) x (runN ps.length N.length g):=by
 refine⟨f,fd,ps,F.ok S (fun vs H Q E h=>h.1) (fun cdv A outer s H vs Q E hr' h=>?_),hm,F.kp,hb,fun qs p h=>?_⟩
 ·obtain⟨hl,tb,qs,p,r,e0,k⟩:=h
  refine⟨_,hbody cdv A outer s H E hr',start N.length qs,(H,H),zje tb r,?_⟩;unfold runN at e0;rw[if_pos (by rw[r.length];exact hl)] at e0
  split at e0
  ·rename_i q hq
   rw[hq];cases e0;exact fun a H' s' n' w'=>k a H' s' n' w'
  ·cases e0
 ·unfold runN at h
  split at h
  ·rename_i hl;exact hl
  ·cases h
end
end PU
namespace PU
open PySem L2
def rngP(p:PV):R (List PV):=match p with
 | .int j=>if j.natAbs<1000000000 then .ok (zb9 0 j.toNat) else .no
 | _=>.no
def rngQ(p q:PV):R (List PV):=match p,q with
 | .int i,.int j=>if i.natAbs<1000000000/\j.natAbs<1000000000 then .ok (zb9 i (j-i).toNat) else .no
 | _,_=>.no
theorem zsd{j:Int}(h0:0<=j)(h1:j<1000000000):rngP (.int j)=.ok (zb9 0 j.toNat):=by
 unfold rngP;exact if_pos (by omega)
theorem zsc{i j:Int}(h0:0<=i)(h1:i<1000000000)(h2:0<=j)(h3:j<1000000000):rngQ (.int i) (.int j)=.ok (zb9 i (j-i).toNat):=by
 unfold rngQ;exact if_pos ⟨by omega,by omega⟩
section
def seqK(g':PSt->R Fl):R Fl->R Fl
 | .ok (.next ρ)=>g' ρ
 | .ok (.brk ρ)=>.ok (.brk ρ)
 | .ok (.cont ρ)=>.ok (.cont ρ)
 | .ok (.ret p)=>.ok (.ret p)
 | .er x=>.er x
 | .no=>.no
def mapK{α β:Type}(f:α->β):R α->R β
 | .ok a=>.ok (f a)
 | .er x=>.er x
 | .no=>.no
def bndK{α β:Type}(f:α->R β):R α->R β
 | .ok a=>f a
 | .er x=>.er x
 | .no=>.no
def ifK{α:Type}(g g':PSt->R α)(ρ:PSt):R Bool->R α
 | .ok true=>g ρ
 | .ok false=>g' ρ
 | .er x=>.er x
 | .no=>.no
def twoK{α β γ:Type}(f:α->β->R γ):R α->R β->R γ
 | .ok a,.ok b=>f a b
 | .ok _,.er x=>.er x
 | .ok _,.no=>.no
 | .er x,_=>.er x
 | .no,_=>.no
variable{α : Type}{ρ : PSt}{f fa fb fc : PSt → R PV}{g g' : PSt → R Fl}{t u : PSt → R Bool}{i : Nat}
@[simp] theorem zlq:seqK g' (.ok (.next ρ))=g' ρ:=by unfold seqK;exact Ao _
@[simp] theorem zt4(p:PV):seqK g' (.ok (.ret p))=.ok (.ret p):=by unfold seqK;exact Ao _
@[simp] theorem Zef{β:Type}(f:α->β)(a:α):mapK f (.ok a)=.ok (f a):=by unfold mapK;exact Ao _
@[simp] theorem zj9{β:Type}(f:α->R β)(a:α):bndK f (.ok a)=f a:=by unfold bndK;exact Ao _
@[simp] theorem Zix(g g':PSt->R α):ifK g g' ρ (.ok true)=g ρ:=by unfold ifK;exact Ao _
@[simp] theorem Ziy(g g':PSt->R α):ifK g g' ρ (.ok false)=g' ρ:=by unfold ifK;exact Ao _
@[simp] theorem zt3{β γ:Type}(f:α->β->R γ)(a:α)(b:β):twoK f (.ok a) (.ok b)=f a b:=by unfold twoK;exact Ao _
@[simp] theorem zr8:seqF g g' ρ=seqK g' (g ρ):=by
 unfold seqF;cases g ρ with
 | ok fl=>cases fl <;> rfl
 | er x=>rfl
 | no=>rfl
@[simp] theorem Zf8:zca ρ=.ok (.next ρ):=by unfold zca;exact Ao _
@[simp] theorem zx7:retF f ρ=mapK .ret (f ρ):=by unfold retF;cases f ρ <;> rfl
@[simp] theorem Zi9:ifF t g g' ρ=ifK g g' ρ (t ρ):=by
 unfold ifF;cases t ρ with
 | ok b=>cases b <;> rfl
 | er x=>rfl
 | no=>rfl
def setP(i:Nat)(ρ:PSt)(p:PV):Fl:=.next (ρ.set i (.val p))
def ownP(i:Nat)(ρ:PSt)(p:PV):Fl:=.next (ρ.set i (.own p))
@[simp] theorem Zhj(p:PV):setP i ρ p=.next (ρ.set i (.val p)):=by unfold setP;exact Ao _
@[simp] theorem Zjf(p:PV):ownP i ρ p=.next (ρ.set i (.own p)):=by unfold ownP;exact Ao _
@[simp] theorem Zcb:setF i f ρ=mapK (setP i ρ) (f ρ):=by unfold setF;cases f ρ <;> rfl
@[simp] theorem Zid:ownF i f ρ=mapK (ownP i ρ) (f ρ):=by unfold ownF;cases f ρ <;> rfl
@[simp] theorem Zik:frzS i g ρ=g (frzF i ρ):=by unfold frzS;exact Ao _
@[simp] theorem x_kI(j:Int):kI j ρ=.ok (.int j):=by unfold kI;exact Ao _
@[simp] theorem x_kB(j:Bool):kB j ρ=.ok (.bl j):=by unfold kB;exact Ao _
@[simp] theorem x_kN:kN ρ=.ok .non:=by unfold kN;exact Ao _
@[simp] theorem x_kS(j:Str):kS j ρ=.ok (.str j):=by unfold kS;exact Ao _
@[simp] theorem x_kP(j:PV):kP j ρ=.ok j:=by unfold kP;exact Ao _
@[simp] theorem Zig:nilA ρ=.ok []:=by unfold nilA;exact Ao _
def Zbx(p:PV)(ps:List PV):R (List PV):=.ok (p::ps)
@[simp] theorem Zi1(p:PV)(ps:List PV):Zbx p ps=.ok (p::ps):=by unfold Zbx;exact Ao _
@[simp] theorem Zge{fs:PSt->R (List PV)}:zac f fs ρ=twoK Zbx (f ρ) (fs ρ):=by unfold zac;cases f ρ <;> cases fs ρ <;> rfl
def tupP(ps:List PV):R PV:=if ps.length<=16777216 then .ok (.tup ps) else .no
def lstP(ps:List PV):R PV:=if ps.length<=16777216 then .ok (.lst ps) else .no
@[simp] theorem Zhi(ps:List PV):tupP ps=if ps.length<=16777216 then .ok (.tup ps) else .no:=by unfold tupP;exact Ao _
@[simp] theorem Zeg(ps:List PV):lstP ps=if ps.length<=16777216 then .ok (.lst ps) else .no:=by unfold lstP;exact Ao _
@[simp] theorem Zh9{fs:PSt->R (List PV)}:tupF fs ρ=bndK tupP (fs ρ):=by
 unfold tupF;cases fs ρ with
 | ok ps=>simp only[R.ok_bind,zg5,zj9,Zhi];split <;> rfl
 | er x=>rfl
 | no=>rfl
@[simp] theorem Zii{fs:PSt->R (List PV)}:lstF fs ρ=bndK lstP (fs ρ):=by
 unfold lstF;cases fs ρ with
 | ok ps=>simp only[R.ok_bind,zg5,zj9,Zeg];split <;> rfl
 | er x=>rfl
 | no=>rfl
def opP(g:PV->PV->Option PV)(p q:PV):R PV:=R.ofO (g p q)
def op1(g:PV->Option PV)(p:PV):R PV:=R.ofO (g p)
@[simp] theorem k_op(g:PV->PV->Option PV)(p q:PV):opP g p q=R.ofO (g p q):=by unfold opP;exact Ao _
@[simp] theorem Zee(g:PV->Option PV)(p:PV):op1 g p=R.ofO (g p):=by unfold op1;exact Ao _
@[simp] theorem Zim{g:PV->PV->Option PV}:bin2 fa fb g ρ=twoK (opP g) (fa ρ) (fb ρ):=by unfold bin2;cases fa ρ <;> cases fb ρ <;> rfl
@[simp] theorem Zca{g:PV->Option PV}:un1 f g ρ=bndK (op1 g) (f ρ):=by unfold un1;cases f ρ <;> rfl
def truP(p:PV):R Bool:=R.ofO (truB p)
@[simp] theorem Zjb(p:PV):truP p=R.ofO (truB p):=by unfold truP;exact Ao _
@[simp] theorem Zia:truF f ρ=bndK truP (f ρ):=by unfold truF;cases f ρ <;> rfl
@[simp] theorem Zip:andB t u ρ=ifK u (fun _=>.ok false) ρ (t ρ):=by
 unfold andB;cases t ρ with
 | ok b=>cases b <;> rfl
 | er x=>rfl
 | no=>rfl
@[simp] theorem Zi6:orB t u ρ=ifK (fun _=>.ok true) u ρ (t ρ):=by
 unfold orB;cases t ρ with
 | ok b=>cases b <;> rfl
 | er x=>rfl
 | no=>rfl
@[simp] theorem Zie:notB t ρ=mapK not (t ρ):=by unfold notB;cases t ρ <;> rfl
def andK(fb:PSt->R PV)(ρ:PSt)(p:PV):R PV:=match p with
 | .bl true=>fb ρ
 | .bl false=>.ok (.bl false)
 | _=>.no
def orK(fb:PSt->R PV)(ρ:PSt)(p:PV):R PV:=match p with
 | .bl true=>.ok (.bl true)
 | .bl false=>fb ρ
 | _=>.no
@[simp] theorem Zhr:andK fb ρ (.bl true)=fb ρ:=by unfold andK;exact Ao _
@[simp] theorem Ziu:orK fb ρ (.bl true)=.ok (.bl true):=by unfold orK;exact Ao _
@[simp] theorem Ziv:orK fb ρ (.bl false)=fb ρ:=by unfold orK;exact Ao _
@[simp] theorem Zio:andV fa fb ρ=bndK (andK fb ρ) (fa ρ):=by unfold andV;cases fa ρ <;> rfl
@[simp] theorem Zi5:orV fa fb ρ=bndK (orK fb ρ) (fa ρ):=by unfold orV;cases fa ρ <;> rfl
@[simp] theorem Zi8:ifV t fa fb ρ=ifK fa fb ρ (t ρ):=by
 unfold ifV;cases t ρ with
 | ok b=>cases b <;> rfl
 | er x=>rfl
 | no=>rfl
@[simp] theorem zx5:yesB ρ=.ok true:=by unfold yesB;exact Ao _
def Zb3(F:List PV->Option PV)(ps:List PV):R PV:=R.ofO (F ps)
@[simp] theorem Zi2(F:List PV->Option PV)(ps:List PV):Zb3 F ps=R.ofO (F ps):=by unfold Zb3;exact Ao _
@[simp] theorem Zgg{fs:PSt->R (List PV)}{F:List PV->Option PV}:zaz fs F ρ=bndK (Zb3 F) (fs ρ):=by unfold zaz;cases fs ρ <;> rfl
def itQ(F:PV->Option (List PV))(p:PV):R (List PV):=R.ofO (F p)
@[simp] theorem k_it(F:PV->Option (List PV))(p:PV):itQ F p=R.ofO (F p):=by unfold itQ;exact Ao _
@[simp] theorem Zi7:itF f ρ=bndK (itQ zem) (f ρ):=by unfold itF;cases f ρ <;> rfl
@[simp] theorem Zgb:zoe f ρ=bndK (itQ zod) (f ρ):=by unfold zoe;cases f ρ <;> rfl
def forP(h:Tgt)(g:PSt->R Fl)(ρ:PSt)(ps:List PV):R Fl:=forF h g ps ρ
@[simp] theorem Zeh(h:Tgt)(ps:List PV):forP h g ρ ps=forF h g ps ρ:=by unfold forP;exact Ao _
@[simp] theorem zx8{fi:PSt->R (List PV)}{h:Tgt}:forS fi h g ρ=bndK (forP h g ρ) (fi ρ):=by unfold forS;cases fi ρ <;> rfl
@[simp] theorem Zib:rng1 f ρ=bndK rngP (f ρ):=by unfold rng1;cases f ρ <;> rfl
@[simp] theorem zx6:rng2 fa fb ρ=twoK rngQ (fa ρ) (fb ρ):=by unfold rng2;cases fa ρ <;> cases fb ρ <;> rfl
@[simp] theorem Zfp{g:PV->PV->Option PV}(x:Str):meth1 (kS x) fb g ρ=bndK (opP g (.str x)) (fb ρ):=by unfold meth1;cases fb ρ <;> rfl
@[simp] theorem Zfm:zgi ρ=.ok none:=by unfold zgi;exact Ao _
def aP(p:PV):R (Option Int):=match p with
 | .int i=>.ok (some i)
 | _=>.no
@[simp] theorem k_aP(i:Int):aP (.int i)=.ok (some i):=by unfold aP;exact Ao _
@[simp] theorem Zgh:zkx f ρ=bndK aP (f ρ):=by unfold zkx;cases f ρ <;> rfl
def slQ(p:PV)(lh:Option Int×Option Int):R PV:=R.ofO (gSl p lh.1 lh.2)
def zw2(a b:Option Int):R (Option Int×Option Int):=.ok (a,b)
@[simp] theorem k_sl(p:PV)(a b:Option Int):slQ p (a,b)=R.ofO (gSl p a b):=by unfold slQ;exact Ao _
@[simp] theorem Zit(a b:Option Int):zw2 a b=.ok (a,b):=by unfold zw2;exact Ao _
@[simp] theorem Zfk{l h:PSt->R (Option Int)}:zlc f l h ρ=twoK slQ (f ρ) (twoK zw2 (l ρ) (h ρ)):=by unfold zlc;cases f ρ <;> cases l ρ <;> cases h ρ <;> rfl
@[simp] theorem Zih:newD ρ=.ok (.dct [] []):=by unfold newD;exact Ao _
@[simp] theorem Zif:nilD ρ=.ok []:=by unfold nilD;exact Ao _
def keyQ(p:PV):R Key:=R.ofO (zfe p)
@[simp] theorem zy1(p:PV):keyQ p=R.ofO (zfe p):=by unfold keyQ;exact Ao _
def kvQ(k:Key)(p:PV):R (Key×PV):=.ok (k,p)
@[simp] theorem Zjg(k:Key)(p:PV):kvQ k p=.ok (k,p):=by unfold kvQ;exact Ao _
def Zbw(a:Key×PV)(r:List (Key×PV)):R (List (Key×PV)):=.ok (a::r)
@[simp] theorem Zho(a:Key×PV)(r:List (Key×PV)):Zbw a r=.ok (a::r):=by unfold Zbw;exact Ao _
@[simp] theorem Zgd{fd:PSt->R (List (Key×PV))}:zry fa fb fd ρ=twoK Zbw (twoK kvQ (bndK keyQ (fa ρ)) (fb ρ)) (fd ρ):=by
 unfold zry;cases fa ρ with
 | ok p=>simp only[R.ok_bind,zj9,zy1];cases zfe p <;> cases fb ρ <;> cases fd ρ <;> rfl
 | er x=>cases fb ρ <;> cases fd ρ <;> rfl
 | no=>cases fb ρ <;> cases fd ρ <;> rfl
def Zbt(kps:List (Key×PV)):R PV:=if kps.length<=15 then .ok (zf0 kps) else .no
@[simp] theorem Zhm(kps:List (Key×PV)):Zbt kps=if kps.length<=15 then .ok (zf0 kps) else .no:=by unfold Zbt;exact Ao _
@[simp] theorem Zgc{fd:PSt->R (List (Key×PV))}:zxu fd ρ=bndK Zbt (fd ρ):=by unfold zxu;cases fd ρ <;> rfl
def Zby(h:Tgt)(t:PSt->R Bool)(fe:PSt->R PV)(ρ:PSt)(ps:List PV):R PV:=bndK lstP (noEr (zci h t fe ρ ps))
@[simp] theorem Zei(h:Tgt)(ps:List PV):Zby h t f ρ ps=bndK lstP (noEr (zci h t f ρ ps)):=by unfold Zby;exact Ao _
@[simp] theorem Zgf{fi:PSt->R (List PV)}{h:Tgt}{nt:Nat}{idx:List Nat}:zfa fi h t f nt idx ρ=bndK (Zby h t f (zbh nt idx ρ)) (fi ρ):=by
 unfold zfa;cases fi ρ with
 | ok ps=>
  simp only[R.ok_bind,zj9,Zei];cases zci h t f (zbh nt idx ρ) ps with
  | ok qs=>simp only[noEr,R.ok_bind,zj9,Zeg,zg5];split <;> rfl
  | er x=>rfl
  | no=>rfl
 | er x=>rfl
 | no=>rfl
@[simp] theorem zon(p:PV):zai i p ρ=some (ρ.set i (.val p)):=by unfold zai;exact Ao _
@[simp] theorem Zfn(a:α):noEr (.ok a)=.ok a:=by unfold noEr;exact Ao _
end
section
variable{p : PV}{l : Sl}{ρ : PSt}{i : Nat}
@[simp] theorem zoo:getV 0 (.val p::ρ)=.ok p:=by unfold getV;exact Ao _
@[simp] theorem zzj:getV (i+1) (l::ρ)=getV i ρ:=by unfold getV;rw[BI]
@[simp] theorem Zfq:getO 0 (.own p::ρ)=.ok p:=by unfold getO;exact Ao _
@[simp] theorem Zf9:getO (i+1) (l::ρ)=getO i ρ:=by unfold getO;rw[BI]
@[simp] theorem Zil:frzF 0 (.own p::ρ)=.val p::ρ:=by unfold frzF;exact Ao _
@[simp] theorem Zga:frzF 0 (.val p::ρ)=.val p::ρ:=by unfold frzF;exact Ao _
theorem zum:frzF (i+1) (l::ρ)=l::frzF i ρ:=by
 unfold frzF;simp only[BI];cases ρ[i]? with
 | none=>rfl
 | some x=>cases x <;> rfl
@[simp] theorem Zij:frzF (i+1) (l::ρ)=l::frzF i ρ:=zum
def roA(i:Nat)(ρ:PSt):Sl:=roS ρ[i]?
@[simp] theorem Zje:roA 0 (.val p::ρ)=.val p:=by unfold roA roS;exact Ao _
@[simp] theorem Zjd:roA (i+1) (l::ρ)=roA i ρ:=by unfold roA;rw[BI]
theorem zr9(nt:Nat)(idx:List Nat):zbh nt idx ρ=B4 nt .no++idx.map fun i=>roA i ρ:=by unfold zbh roA;exact Ao _
def appQ(i:Nat)(ρ:PSt)(p:PV):R PSt:=match ρ[i]? with
 | some (.own (.lst ps))=>if ps.length<16777216 then .ok (ρ.set i (.own (.lst (ps++[p])))) else .no
 | _=>.no
def hasL(i:Nat)(ρ:PSt):Bool:=match ρ[i]? with
 | some (.own (.lst _))=>true
 | _=>false
def zxv(l:Sl)(ρ:PSt):PSt:=l::ρ
@[simp] theorem Zhn:zxv l ρ=l::ρ:=by unfold zxv;exact Ao _
@[simp] theorem Zi4(ps:List PV):appQ 0 (.own (.lst ps)::ρ) p=if ps.length<16777216 then .ok (.own (.lst (ps++[p]))::ρ) else .no:=by unfold appQ;exact Ao _
@[simp] theorem Zi3:appQ (i+1) (l::ρ) p=mapK (zxv l) (appQ i ρ p):=by
 unfold appQ;rw[BI];cases ρ[i]? with
 | none=>rfl
 | some x=>
  cases x with
  | own q=>
   cases q with
   | lst ps=>dsimp only;split <;> rfl
   | _=>rfl
  | _=>rfl
@[simp] theorem Zi0(ps:List PV):hasL 0 (.own (.lst ps)::ρ)=true:=by unfold hasL;exact Ao _
@[simp] theorem Ziz:hasL (i+1) (l::ρ)=hasL i ρ:=by unfold hasL;rw[BI]
def appZ(i:Nat)(ρ:PSt)(p:PV):R Fl:=mapK .next (appQ i ρ p)
@[simp] theorem Zej:appZ i ρ p=mapK .next (appQ i ρ p):=by unfold appZ;exact Ao _
theorem Zb6(f:PSt->R PV)(h:hasL i ρ=true):appF i f ρ=bndK (appZ i ρ) (f ρ):=by
 unfold hasL at h;unfold appF;cases e:ρ[i]? with
 | none=>rw[e] at h;cases h
 | some x=>
  rw[e] at h;cases x with
  | own q=>
   cases q with
   | lst ps=>
    dsimp only;cases f ρ with
    | ok p=>
     simp only[R.ok_bind,zj9,Zej];unfold appQ;rw[e];dsimp only
     split <;> rfl
    | er x=>rfl
    | no=>rfl
   | _=>cases h
  | _=>cases h
def appC(b:Bool)(i:Nat)(ρ:PSt)(r:R PV):R Fl:=if b=true then bndK (appZ i ρ) r else .no
@[simp] theorem Zek(r:R PV):appC true i ρ r=bndK (appZ i ρ) r:=by unfold appC;exact if_pos rfl
@[simp] theorem Zin(f:PSt->R PV):appF i f ρ=appC (hasL i ρ) i ρ (f ρ):=by
 cases h:hasL i ρ with
 | true=>rw[Zb6 f h,Zek]
 | false=>
  unfold appC;rw[if_neg AM];unfold hasL at h;unfold appF
  split
  ·rename_i ps e
   rw[e] at h;cases h
  ·rfl
def putQ(i:Nat)(ρ:PSt)(k:Key)(p:PV):R PSt:=match ρ[i]? with
 | some (.own (.dct ks ps))=>if ks.length<16777216 then .ok (ρ.set i (.own (putP ks ps k p))) else .no
 | _=>.no
def hasD(i:Nat)(ρ:PSt):Bool:=match ρ[i]? with
 | some (.own (.dct _ _))=>true
 | _=>false
@[simp] theorem Zis(ks:List Key)(ps:List PV)(k:Key):putQ 0 (.own (.dct ks ps)::ρ) k p=if ks.length<16777216 then .ok (.own (putP ks ps k p)::ρ) else .no:=by unfold putQ;exact Ao _
@[simp] theorem Zir(k:Key):putQ (i+1) (l::ρ) k p=mapK (zxv l) (putQ i ρ k p):=by
 unfold putQ;rw[BI];cases ρ[i]? with
 | none=>rfl
 | some x=>
  cases x with
  | own q=>
   cases q with
   | dct ks ps=>dsimp only;split <;> rfl
   | _=>rfl
  | _=>rfl
@[simp] theorem Zhl(ks:List Key)(ps:List PV):hasD 0 (.own (.dct ks ps)::ρ)=true:=by unfold hasD;exact Ao _
@[simp] theorem Zhk:hasD (i+1) (l::ρ)=hasD i ρ:=by unfold hasD;rw[BI]
def putZ(i:Nat)(ρ:PSt)(p:PV)(k:Key):R Fl:=mapK .next (putQ i ρ k p)
@[simp] theorem Zec(k:Key):putZ i ρ p k=mapK .next (putQ i ρ k p):=by unfold putZ;exact Ao _
def putC(b:Bool)(i:Nat)(ρ:PSt)(v:R PV)(k:R PV):R Fl:=if b=true then twoK (putZ i ρ) v (bndK keyQ k) else .no
@[simp] theorem Zed(v k:R PV):putC true i ρ v k=twoK (putZ i ρ) v (bndK keyQ k):=by unfold putC;exact if_pos rfl
@[simp] theorem Zic(fk fv:PSt->R PV):putF i fk fv ρ=putC (hasD i ρ) i ρ (fv ρ) (fk ρ):=by
 unfold putF hasD;cases e:ρ[i]? with
 | none=>rfl
 | some x=>
  cases x with
  | own q=>
   cases q with
   | dct ks ps=>
    dsimp only;rw[Zed];cases fv ρ with
    | ok p=>
     simp only[R.ok_bind];cases fk ρ with
     | ok kp=>
      simp only[R.ok_bind,zj9,zy1];cases zfe kp with
      | none=>rfl
      | some k=>
       simp only[R.ofO_some,R.ok_bind,zt3,Zec];unfold putQ;rw[e];dsimp only
       split <;> rfl
     | er x=>rfl
     | no=>rfl
    | er x=>rfl
    | no=>rfl
   | _=>rfl
  | _=>rfl
end
@[simp] theorem Zcu(a b:Int):gAdd (.int a) (.int b)=some (.int (a+b)):=rfl
theorem zjs{a b:Str}(h:a.length+b.length<=16777216):gAdd (.str a) (.str b)=some (.str (a++b)):=if_pos h
theorem zsg{a b:List PV}(h:a.length+b.length<=16777216):gAdd (.lst a) (.lst b)=some (.lst (a++b)):=if_pos h
@[simp] theorem Zct(a b:List PV):gAdd (.tup a) (.tup b)=if a.length+b.length<=16777216 then some (.tup (a++b)) else none:=rfl
@[simp] theorem Zja(a b:Int):gSub (.int a) (.int b)=some (.int (a-b)):=rfl
theorem zse{a b:Int}(h:a.natAbs<18446744073709551616\/b.natAbs<18446744073709551616):gMul (.int a) (.int b)=some (.int (a * b)):=if_pos h
theorem zsf{a b:Int}(h:0<b/\b<1073741824):gDiv (.int a) (.int b)=some (.int (a / b)):=if_pos h
theorem zds{a b:Int}(h:0<b):gMod (.int a) (.int b)=some (.int (a % b)):=if_pos h
@[simp] theorem v_lt(a b:Int):gLt (.int a) (.int b)=some (.bl (decide (a<b))):=rfl
@[simp] theorem v_le(a b:Int):gLe (.int a) (.int b)=some (.bl (decide (a<=b))):=rfl
@[simp] theorem v_gt(a b:Int):gGt (.int a) (.int b)=some (.bl (decide (b<a))):=rfl
@[simp] theorem v_ge(a b:Int):gGe (.int a) (.int b)=some (.bl (decide (b<=a))):=rfl
@[simp] theorem Zfw(x y:Str):gLt (.str x) (.str y)=some (.bl (decide (x.cps.toList<y.cps.toList))):=rfl
@[simp] theorem Zf4(a b:Int):gEq (.int a) (.int b)=some (.bl (decide (a=b))):=by simp[gEq,isSc,scV,scal]
@[simp] theorem zv3(a b:Str):gEq (.str a) (.str b)=some (.bl (decide (a=b))):=by simp[gEq,isSc,scV,scal]
@[simp] theorem Zfv(a b:Int):gNe (.int a) (.int b)=some (.bl (!decide (a=b))):=by simp[gNe,isSc,scV,scal]
@[simp] theorem Zfu(a b:Str):gNe (.str a) (.str b)=some (.bl (!decide (a=b))):=by simp[gNe,isSc,scV,scal]
@[simp] theorem Zfs(b:Bool):truB (.bl b)=some b:=rfl
@[simp] theorem Zcg(ps:List PV):truB (.lst ps)=some (!ps.isEmpty):=rfl
@[simp] theorem Zch(ks:List Key)(ps:List PV):truB (.dct ks ps)=some (!ks.isEmpty):=rfl
@[simp] theorem Zcn(ps:List PV):gLen (.lst ps)=some (.int ps.length):=rfl
@[simp] theorem Zcm(ps:List PV):gLen (.tup ps)=some (.int ps.length):=rfl
theorem zjr{x:Str}(h:x.length<=16777216):gLen (.str x)=some (.int x.length):=if_pos h
@[simp] theorem Zfy(ps:List PV)(i:Int):gIx (.lst ps) (.int i)=atI ps i:=rfl
@[simp] theorem Zfx(ps:List PV)(i:Int):gIx (.tup ps) (.int i)=atI ps i:=rfl
theorem zv2{z:Str}{i:Int}{c:Nat}(h:z.length<=16777216)(e:atI z.cps.toList i=some c):gIx (.str z) (.int i)=some (.str ⟨#[c]⟩):=by
 show (if z.length<=16777216 then (atI z.cps.toList i).map fun c=>PV.str ⟨#[c]⟩ else none)=_
 rw[if_pos h,e];rfl
@[simp] theorem Zfz(ks:List Key)(ps:List PV)(k:PV):gIx (.dct ks ps) k=(zfe k).bind fun k=>zb3 ks ps k:=rfl
@[simp] theorem Zcp(i:Int):zfe (.int i)=some (.inl i):=rfl
@[simp] theorem Zco(x:Str):zfe (.str x)=some (.inr x):=rfl
@[simp] theorem zjq(k j:Key)(ks:List Key)(p:PV)(ps:List PV):zb3 (k::ks) (p::ps) j=if k=j then some p else zb3 ks ps j:=rfl
@[simp] theorem Zf3(b:Bool):gInt (.bl b)=some (.int (if b then 1 else 0)):=rfl
@[simp] theorem Zcs(b:Int):gInt (.int b)=some (.int b):=rfl
@[simp] theorem Zcf(ps:List PV):zn4 (.lst ps)=some (.tup ps):=rfl
@[simp] theorem Zce(ps:List PV):zn4 (.tup ps)=some (.tup ps):=rfl
@[simp] theorem Zf1(ps:List PV):zem (.lst ps)=some ps:=rfl
@[simp] theorem Zf0(ps:List PV):zem (.tup ps)=some ps:=rfl
@[simp] theorem Zf2(ks:List Key)(ps:List PV):zem (.dct ks ps)=some (ks.map keyP):=rfl
@[simp] theorem Ziq(x:Str):keyP (.inr x)=.str x:=rfl
@[simp] theorem Zb9(ps:List PV):zod (.lst ps)=some ((numP ps).map .tup):=rfl
@[simp] theorem Zb8(x:Str):zod (.str x)=some ((numP (zf3 x)).map .tup):=rfl
@[simp] theorem Zcj(i:Int):gStr (.int i)=if i.natAbs.log2<1920 then some (.str (toString i)) else none:=rfl
@[simp] theorem Zci(x:Str):gStr (.str x)=some (.str x):=rfl
@[simp] theorem Zgj(x:Str):Zep (.str x)=true:=rfl
@[simp] theorem Zft(ps:List PV)(lo hi:Option Int):gSl (.lst ps) lo hi=some (.lst (cutP ps lo hi)):=rfl
theorem zbc{α:Type}{xs:List α}{i:Int}{n:Nat}{x:α}(hi:i=n)(h:xs[n]?=some x):atI xs i=some x:=by
 subst hi;have hl:=(AA.mp h).1;unfold atI ixN;rw[if_pos (by omega),if_pos (by omega)]
 simpa using h
@[simp] theorem Zjl{α:Type}(x:α)(xs:List α):atI (x::xs) 0=some x:=zbc (n:=0) rfl rfl
@[simp] theorem Zjk{α:Type}(x y:α)(xs:List α):atI (x::y::xs) 1=some y:=zbc (n:=1) rfl rfl
@[simp] theorem Zjj{α:Type}(x y z:α)(xs:List α):atI (x::y::z::xs) 2=some z:=zbc (n:=2) rfl rfl
@[simp] theorem Zji{α:Type}(x y z u:α)(xs:List α):atI (x::y::z::u::xs) 3=some u:=zbc (n:=3) rfl rfl
theorem zup{h:Tgt}{g:PSt->R Fl}(I:Nat->PSt->Prop):∀(ps:List PV)(n:Nat)(ρ:PSt),I n ρ->
  (∀(i:Nat)(p:PV)(ρ:PSt),ps[i]?=some p->I (n+i) ρ->∃ρ1 ρ2,h p ρ=some ρ1/\(g ρ1=.ok (.next ρ2)\/g ρ1=.ok (.cont ρ2))/\I (n+i+1) ρ2)->
  ∃ρ',forF h g ps ρ=.ok (.next ρ')/\I (n+ps.length) ρ'
 | [],n,ρ,h0,_=>⟨ρ,rfl,h0⟩
 | p::ps,n,ρ,h0,hs=>by
  obtain⟨ρ1,ρ2,e1,e2,i2⟩:=hs 0 p ρ rfl h0
  obtain⟨ρ3,e3,i3⟩:=zup I ps (n+1) ρ2 i2 fun i q ρ' hq hi=>by
   have:=hs (i+1) q ρ' (by simpa using hq) (by rw[show n+(i+1)=n+1+i by omega];exact hi)
   rw[show n+(i+1)+1=n+1+i+1 by omega] at this
   exact this
  refine⟨ρ3,?_,by rw[An,show n+(ps.length+1)=n+1+ps.length by omega];exact i3⟩
  unfold forF;rw[e1];rcases e2 with e2 | e2 <;> (simp only[R.ofO_some,R.ok_bind,e2];exact e3)
theorem zxk{h:Tgt}{g:PSt->R Fl}{ps:List PV}{ρ:PSt}(I:Nat->PSt->Prop)(h0:I 0 ρ)
  (hs:∀(i:Nat)(p:PV)(ρ:PSt),ps[i]?=some p->I i ρ->∃ρ1 ρ2,h p ρ=some ρ1/\(g ρ1=.ok (.next ρ2)\/g ρ1=.ok (.cont ρ2))/\I (i+1) ρ2) :
  ∃ρ',forF h g ps ρ=.ok (.next ρ')/\I ps.length ρ':=by
 have:=zup I ps 0 ρ h0 fun i p ρ hp hi=>by
  rw[Ed] at hi ⊢;exact hs i p ρ hp hi
 simpa using this
theorem zrf(lo:Int)(n:Nat):(zb9 lo n).length=n:=by simp[zb9]
theorem zrg{lo:Int}{n i:Nat}{p:PV}(h:(zb9 lo n)[i]?=some p):i<n/\p=.int (lo+i):=by
 unfold zb9 at h;rw[AG] at h
 by_cases hi:i<n
 ·rw[Bq hi] at h
  exact⟨hi,(BD h).symm⟩
 ·rw[Bx (by simpa using hi)] at h
  cases h
theorem forR{h:Tgt}{g:PSt->R Fl}{lo:Int}{n:Nat}{ρ:PSt}(I:Nat->PSt->Prop)(h0:I 0 ρ)
  (hs:∀(i:Nat)(ρ:PSt),i<n->I i ρ->∃ρ1 ρ2,h (.int (lo+i)) ρ=some ρ1/\(g ρ1=.ok (.next ρ2)\/g ρ1=.ok (.cont ρ2))/\I (i+1) ρ2) :
  ∃ρ',forF h g (zb9 lo n) ρ=.ok (.next ρ')/\I n ρ':=by
 obtain⟨ρ',e,i'⟩:=zxk (ps:=zb9 lo n) I h0 fun i p ρ hp hi=>by
  obtain⟨hn,rfl⟩:=zrg hp;exact hs i ρ hn hi
 rw[zrf] at i';exact⟨ρ',e,i'⟩
theorem zuo{α:Type}{enc:α->PV}{h:Tgt}{g:PSt->R Fl}{xs:List α}(I:List α->PSt->Prop)
  (hs:∀(pre:List α)(x:α)(post:List α)(ρ:PSt),xs=pre++x::post->I pre ρ->∃ρ1 ρ2,h (enc x) ρ=some ρ1/\(g ρ1=.ok (.next ρ2)\/g ρ1=.ok (.cont ρ2))/\I (pre++[x]) ρ2) :
  ∀(ys pre:List α)(ρ:PSt),xs=pre++ys->I pre ρ->∃ρ',forF h g (ys.map enc) ρ=.ok (.next ρ')/\I xs ρ'
 | [],pre,ρ,e,h0=>⟨ρ,rfl,by rw[e,BY];exact h0⟩
 | y::ys,pre,ρ,e,h0=>by
  obtain⟨ρ1,ρ2,e1,e2,i2⟩:=hs pre y ys ρ e h0;obtain⟨ρ3,e3,i3⟩:=zuo I hs ys (pre++[y]) ρ2 (by rw[e];simp) i2
  refine⟨ρ3,?_,i3⟩;rw[AE];unfold forF;rw[e1];rcases e2 with e2 | e2 <;> (simp only[R.ofO_some,R.ok_bind,e2];exact e3)
theorem forM{α:Type}{enc:α->PV}{h:Tgt}{g:PSt->R Fl}{xs:List α}{ρ:PSt}(I:List α->PSt->Prop)(h0:I [] ρ)
  (hs:∀(pre:List α)(x:α)(post:List α)(ρ:PSt),xs=pre++x::post->I pre ρ->∃ρ1 ρ2,h (enc x) ρ=some ρ1/\(g ρ1=.ok (.next ρ2)\/g ρ1=.ok (.cont ρ2))/\I (pre++[x]) ρ2) :
  ∃ρ',forF h g (xs.map enc) ρ=.ok (.next ρ')/\I xs ρ':=zuo I hs xs [] ρ rfl h0
end PU
namespace PU
open PySem PySem.Spec PyProof.Rows L2 PySem.SeqAt
def toKs:List PV->Option (List Key)
 | []=>some []
 | p::r=>(zfe p).bind fun k=>(toKs r).map fun l=>k::l
def toTK:PV->Option (List Key)
 | .tup ps=>toKs ps
 | _=>none
def zk1:List (List Key)->List PV->List Key->Option PV
 | k::ks,p::ps,j=>if k=j then some p else zk1 ks ps j
 | _,_,_=>none
def gIxT:PV->PV->Option PV
 | .dtt ks ps,q=>(toTK q).bind fun k=>zk1 ks ps k
 | _,_=>none
def ziv:PV->PV->Option PV
 | q,.dtt ks _=>(toTK q).map fun k=>.bl (!(ks.any fun j=>decide (j=k)))
 | _,_=>none
def zz0(ks:List (List Key))(ps:List PV)(k:List Key)(p:PV):List PV:=List.zipWith (fun j q=>if j=k then p else q) ks ps
def putT(ks:List (List Key))(ps:List PV)(k:List Key)(p:PV):PV:=if (ks.any fun j=>decide (j=k))=true then .dtt ks (zz0 ks ps k p) else .dtt (ks++[k]) (ps++[p])
def zk0(i:Nat)(fk fv:PSt->R PV):PSt->R Fl:=fun ρ=>match ρ[i]? with
 | some (.own (.dtt ks ps))=>fv ρ >>= fun p=>fk ρ >>= fun kp=>R.ofO (toTK kp) >>= fun k=>if ks.length<16777216 then .ok (.next (ρ.set i (.own (putT ks ps k p)))) else .no
 | _=>.no
def zxt(fk fv:PSt->R PV):PSt->R PV:=fun ρ=>fk ρ >>= fun kp=>fv ρ >>= fun p=>R.ofO (toTK kp) >>= fun k=>.ok (.dtt [k] [p])
def newT:PSt->R PV:=fun _=>.ok (.dtt [] [])
variable[TW]
theorem znc{K:A0}{H:Hp}:∀{ps:List PV}{xs:List V}{ks:List Key},toKs ps=some ks->Reps K H ps xs->xs=ks.map kV
 | [],_,_,e,r=>by cases e;cases r;rfl
 | p::ps,_,_,e,⟨x,t,ex,h1,h2⟩=>by
  obtain⟨k,ek,e⟩:=AV.mp e;obtain⟨l,el,e⟩:=AQ.mp e;subst e ex;rw[AE,← zdo ek h1.o,← znc el h2]
theorem zjd{K:A0}{H:Hp}{p:PV}{v:V}{k:List Key}(e:toTK p=some k)(r:RepO K H p v):∃b,v=.ref b/\H b=some (.tup (k.map kV)):=by
 cases p with
 | tup ps=>
  obtain⟨a,xs,ev,g,rr⟩:=r;exact⟨a,ev,by rw[← znc e rr];exact g⟩
 | _=>cases e
theorem znu{K:A0}{H:Hp}{k:List Key}:∀{ks:List (List Key)}{ps:List PV}{kvs:List (List Key×V)}{p:PV},kvs.map (·.1)=ks->Reps K H ps (kvs.map (·.2))->zk1 ks ps k=some p->∃v,valV kvs k=some v/\Rep K H p v
 | _,_,[],_,h1,h2,e=>by
  subst h1;simp only[CL,zk1] at e;cases e
 | _,[],kv::kvs,_,h1,h2,e=>by
  cases h2
 | _,q::ps,kv::kvs,p,h1,h2,e=>by
  subst h1;obtain⟨x,r,ex,hx,ht⟩:=h2;simp only[AE,Cq] at ex;obtain⟨rfl,rfl⟩:=ex;simp only[AE,zk1] at e
  by_cases hk:kv.1=k
  ·rw[if_pos hk] at e
   cases e;exact⟨_,by simp[valV,hk],hx⟩
  ·rw[if_neg hk] at e
   obtain⟨v,ev,rv⟩:=znu rfl ht e;exact⟨v,by unfold valV at ev ⊢;rw[DE (by simp[hk])];exact ev,rv⟩
theorem zv1{kvs:List (List Key×V)}{k:List Key}:(valV kvs k).isSome=((kvs.map (·.1)).any fun j=>decide (j=k)):=by
 rw[CN];unfold valV;rw[F9]
 induction kvs with
 | nil=>rfl
 | cons kv r ih=>
  rw[Bf,C2];simp only[CW];cases decide (kv.1=k) with
  | true=>rfl
  | false=>exact ih
section
variable{X : Cx}
theorem ixT(hu:X.A.units+64<cLine):IxR X (rP X.K gIxT):=by
 intro value slice pins s σ H x y v u Q I rx ry ⟨p,q,z,hp,hq,e,k⟩ hs;unfold gIxT at e;split at e
 ·rename_i ks ps
  obtain⟨kk,ek,e⟩:=AV.mp e;obtain⟨a,kvs,rfl,g,e1,r⟩:=hp;cases rx;obtain⟨b,rfl,hb⟩:=zjd ek hq;obtain⟨w,ew,rp⟩:=znu e1 r e;have dg:DGet H a (.ref b) (some w):=.inr ⟨kvs,kk,b,g,rfl,hb,ew.symm⟩;obtain⟨_,_,_,_,dd⟩:=zrv I.hok g;exact tail_any (zpp I dg) Fo.lookup (zvc (by omega) I dg ry fun w' s' I' rw'=>⟨w,H,I',rw',k w H (Same.refl H) rp⟩) hs
 ·cases e
theorem zw3(hu:X.A.units+64<cLine):OpR X (B8 .NotIn) (rP X.K ziv):=by
 intro pins s σ H x y v u Q I rx ry ⟨p,q,z,hp,hq,e,k⟩;unfold ziv at e;split at e
 ·rename_i ks ps
  obtain⟨kk,ek,ez⟩:=AQ.mp e;subst ez;obtain⟨a,kvs,rfl,g,e1,r⟩:=hq;cases ry;obtain⟨b,rfl,hb⟩:=zjd ek hp;have dg:DGet H a (.ref b) (valV kvs kk):=.inr ⟨kvs,kk,b,g,rfl,hb,rfl⟩;refine Zbu (by omega) I dg rx fun s' I'=>⟨.bl _,H,I',rfl,k _ H (Same.refl H) ?_⟩
  subst e1;rw[zv1];rfl
 ·cases e
end
theorem zpd:isBl ziv:=fun p q z e=>by
 unfold ziv at e;split at e
 ·obtain⟨b,_,ez⟩:=AQ.mp e;exact⟨_,ez.symm⟩
 ·cases e
theorem zld{K:A0}{H:Hp}{k:List Key}{p:PV}{v:V}(rp:Rep K H p v):∀{kvs:List (List Key×V)}{ps:List PV},Reps K H ps (kvs.map (·.2))->Reps K H (zz0 (kvs.map (·.1)) ps k p) ((kvs.map fun kv=>if kv.1=k then (kv.1,v) else kv).map (·.2))
 | [],ps,r=>by
  cases ps with
  | nil=>rfl
  | cons q qs=>obtain⟨x,t,e,_⟩:=r;cases e
 | kv::kvs,ps,r=>by
  cases ps with
  | nil=>cases r
  | cons q qs=>
   obtain⟨x,t,e,h1,h2⟩:=r;simp only[AE,Cq] at e;obtain⟨rfl,rfl⟩:=e;have ih:=zld (k:=k) rp h2;simp only[AE,zz0,Bp]
   by_cases hk:kv.1=k
   ·rw[if_pos hk,if_pos hk];exact⟨_,_,rfl,rp,ih⟩
   ·rw[if_neg hk,if_neg hk];exact⟨_,_,rfl,h1,ih⟩
theorem zs0{K:A0}{H:Hp}{kvs:List (List Key×V)}{ps:List PV}{k:List Key}{p:PV}{v:V}(rr:Reps K H ps (kvs.map (·.2)))(rp:Rep K H p v) :
  ∃ks' ps',putT (kvs.map (·.1)) ps k p=.dtt ks' ps'/\(putK kvs k v).map (·.1)=ks'/\Reps K H ps' ((putK kvs k v).map (·.2)):=by
 unfold putT;have e:((kvs.map (·.1)).any fun j=>decide (j=k))=(kvs.any fun kv=>decide (kv.1=k)):=by rw[CN];rfl
 rw[e];unfold putK
 split
 ·refine⟨_,_,rfl,?_,zld rp rr⟩
  rw[Am];apply C4;intro kv _;simp only[CW]
  split <;> rfl
 ·refine⟨_,_,rfl,by simp,?_⟩
  rw[AW];exact Reps.append rr ⟨_,_,rfl,rp,rfl⟩
theorem zwp{K:A0}{H:Hp}{a:Addr}{kvs:List (List Key×V)}{ps:List PV}{k:List Key}{p:PV}{v:V}(rr:Reps K H ps (kvs.map (·.2)))(rp:Rep K H p v)(ha:H a=some (.dT (putK kvs k v))):zco K H a (putT (kvs.map (·.1)) ps k p):=by
 obtain⟨ks',ps',e,e1,e2⟩:=zs0 (k:=k) rr rp;rw[e];exact⟨_,ha,e1,e2⟩
theorem zor{C:Cn}(i:Nat){x:Str}{ke e:Expr}{fk fv:PSt->R PV}{np pos' pos:C7}(hu:C.X.A.units+64<cLine)(hk:EV C ke fk)(hv:EV C e fv)(hN:C.X.N[i]?=some x:=by rfl)(hvis:Vis C.X.env.scope x:=by first | exact .inl rfl | exact .inr (.inl rfl) | exact .inr (.inr rfl))
  (hs:Cm e (some (.Subscript (.Name x np) ke pos')) pos.line C.X.env=pure false:=by rfl) (hd:(x == ("__debug__":Str))=false:=by decide) (hcd:(x == ("__classdict__":Str))=false:=by decide) :
  SV C (.Assign [.Subscript (.Name x np) ke pos'] e pos) (zk0 i fk fv):=by
 intro pins s σ H D I ⟨ρ,B,S,q⟩;unfold zk0 at q;split at q
 ·rename_i ks ps e1
  obtain⟨a,e2,kvs,hx,ek,rr⟩:=S.vw i _ e1;refine zs3 (by omega) (zeb hN hvis hd hcd) hk hv hs pins s σ H D I ⟨ρ,S.vw,(q.bind S.same).imp fun p _ q1 v H1 s1 r1=>⟨_,e2,ρ,S.vw.same s1,(q1.bind (S.same.trans s1)).imp fun kp _ q2 y H2 s2 r2=>?_⟩⟩
  obtain⟨k,e3,q3⟩:=RS.ofO q2
  by_cases hl:ks.length<16777216
  ·rw[if_pos hl] at q3
   obtain⟨b,rfl,hb⟩:=zjd e3 r2.o;subst ek;have hx2:H2 a=some (.dT kvs):=s2 _ _ (s1 _ _ hx);refine⟨a,_,rfl,DPut.t hx2 hb (by rw[B2];simpa using hl),?_⟩
   have kp:Kp H2 (upd H2 a (.dT (putK kvs k v))):=Kp.upd hx2 rfl;refine q3 σ _ (((S.grow s1).grow s2).turn e1 e2 (fun b hb=>zal hb) ⟨a,rfl,?_⟩)
   exact zwp (Reps.kp kp _ ((rr.same s1).same s2)) (Rep.kp kp _ (r1.same s2)) zak
  ·rw[if_neg hl] at q3
   exact AK q3
 ·exact AK q
theorem Zfa{X:Cx}{pins:List (Addr×Bi)}{σ:L2.St}{H:Hp}{s:AD}{a b:Addr}{v:V}{r:A9}{A:B0}{E:A9->AD->Prop}{kvs:List (List Key×V)}{k:List Key}{Q:Unit->AD->Prop}(hu:A.units+1<cLine)(I:Inv X pins σ H s)
  (e:H a=some (.dT kvs)) (eb:H b=some (.tup (k.map kV))) (l:kvs.length<sizeLine) (rv:RelV v r) (h:∀s',Inv X pins σ (upd H a (.dT (putK kvs k v))) s'->Q () s') :
  Af (Ap X.prog X.w) A (dictSet a (.ref b) r) Q E s:=by
 obtain⟨z,hd,xs,rel,dd⟩:=Ze9 I.hok e;have hz:xs.length<=sizeLine:=by rw[← BC rel];exact z
 have hl:(putK kvs k v).length<=sizeLine:=by have:=zec kvs k v;omega
 refine wpAny_dictSet_heap (hsz:=hz) (knd:=FI (zao X.prog X.w)) (show A.units<cLine by omega) (key_of I.hok eb) dd fun h' dd' hs=>h _ ?_
 obtain⟨q,es,ep,hq,h2,h3,h4,_,h5⟩:=dd';refine zkn I (by rw[e];exact CQ) hs ⟨q,hq⟩ ⟨hl,hd,_,(rel.put k eb rv).keeps fun c ys ec=>?_,q,es,ep,hq,h2,h3,h4,h5⟩
 rw[zal (Zd2 ec e (fun z=>nomatch z))]
 exact ec
theorem zxr{C:Cn}{k v:Expr}{fk fv:PSt->R PV}{pos:C7}(hu:C.X.A.units+64<cLine)(hk:EV C k fk)(hv:EV C v fv):EN C (.Dict [some k] [v] pos) (zxt fk fv):=by
 intro pins s σ H Q I ⟨ρ,vw,q⟩;have hn:=I.hok.fresh (AY s.heap.objs.size);have I1:=I.laid (a:=s.heap.objs.size) (o:=.dT []) (h':=s.heap.push { cls:=.type "dict",data:=.dict #[] }) (t':=s.toks) (fun _ _ q=>AC _ q) (AY _) (zqx s.heap I.big)
 refine wpAny_Dict_any rfl rfl (by simp) (show 1<=15 by decide) (thn (zp3 hk hv zs4 pins _ σ _ (fun ps H3=>∃b k y,ps=[(.ref b,y)]/\H3 b=some (.tup (k.map kV))/\H3 s.heap.objs.size=some (.dT [])/\Q (.ref s.heap.objs.size) (upd H3 s.heap.objs.size (.dT (putK [] k y)))) I1
  ⟨ρ,vw.same (Same.new hn),(q.bind.same (Same.new hn)).imp fun kp _ q1 x H1 s1 r1=>⟨ρ,vw.same ((Same.new hn).trans s1),(q1.bind.same ((Same.new hn).trans s1)).imp fun p _ q2 y H2 s2 r2=>?_⟩⟩) fun ws s2 ⟨ps,H2,I2,rel,b,k,y,ep,hb,hd,q2⟩=>?_)
 ·obtain⟨k,ek,q3⟩:=q2.bind.ofO
  obtain⟨b,rfl,hb⟩:=zjd ek (r1.same s2).o;have hd:H2 s.heap.objs.size=some (.dT []):=s2 _ _ (s1 _ _ zak);refine⟨b,k,y,rfl,hb,hd,?_⟩;have kp:Kp H2 (upd H2 s.heap.objs.size (.dT (putK [] k y))):=Kp.upd hd rfl;exact q3 s.heap.objs.size _ ((((Same.new hn).trans s1).trans s2).but hn (fun u h=>by rw[hd] at h;cases h;rfl) (fun b hb=>zal hb)) hn ⟨_,zak,rfl,⟨_,_,rfl,Rep.kp kp _ r2,rfl⟩⟩
 ·subst ep
  cases rel with
  | @cons _ w _ ws h t=>
  cases t;obtain⟨w1,w2⟩:=w;cases (show w1=B6 b from h.1);unfold PySem.storeAll;rw[List.forIn_cons];refine AB (AB (Zfa (by omega) I2 hd hb (by rw[B2];decide) h.2 fun s' I'=>AH ?_))
  dsimp only;rw[List.forIn_nil];exact AH ⟨.ref s.heap.objs.size,_,I',rfl,q2⟩
theorem zu2{C:Cn}{pos:C7}:EN C (.Dict [] [] pos) newT:=fun pins s σ H Q I ⟨ρ,vw,q⟩=>zwy pins s σ H Q I fun p hp=>q p _ (Same.new hp) hp ⟨[],zak,rfl,rfl⟩
end PU
namespace PU
open PySem PySem.Spec PyProof.Rows L2 PySem.SeqAt
def augF(i:Nat)(f:PSt->R PV):PSt->R Fl:=fun ρ=>match ρ[i]? with
 | some (.val (.int a))=>f ρ >>= fun q=>match q with
  | .int b=>.ok (.next (ρ.set i (.val (.int (a+b)))))
  | _=>.no
 | _=>.no
variable[TW]
theorem zyb{C:Cn}{e:Expr}{f:PSt->R PV}{pos:C7}(i:Nat){x:Str}{pos':C7}(hN:C.X.N.Nodup)(he:EV C e f)
  (hf:C.X.fn x=true\/C.X.env.scope.names.lookup x=some .local:=by first | exact .inl rfl | exact .inr rfl | assumption) (hi:C.X.N[i]?=some x:=by rfl) (hx:Loc C.X.env.scope x:=by first | exact .inl rfl | exact .inr rfl) :
  SV C (.AugAssign (.Name x pos') .Add e pos) (augF i f):=by
 intro pins s σ H D I ⟨ρ,B,S,h⟩;unfold augF at h;split at h
 ·rename_i a e1
  obtain⟨v,ev,rv⟩:=S.vw i _ e1;cases (show v=.int a from rv);refine Zde hN hi hx he Zeq hf pins s σ H D I ⟨_,ev,ρ,S.vw,(h.bind S.same).imp fun q _ k w H1 s1 r1=>?_⟩
  cases q with
  | int b=>
   cases (show w=.int b from r1);exact⟨a,b,rfl,rfl,k _ H1 ((S.grow s1).setV rfl)⟩
  | _=>exact AK k
 ·exact AK h
end PU
namespace PU
open PySem PySem.Spec PyProof.Rows L2 PySem.SeqAt
variable[TW]
def trC(H:Hp)(l:List (Addr×Bi)):Hp:=fun b=>match l.lookup b with
 | some o=>some (.frz o (.own 0))
 | none=>H b
def drC(H:Hp)(l:List (Addr×Bi)):Hp:=fun b=>match l.lookup b with
 | some _=>none
 | none=>H b
theorem zju{H:Hp}{l:List (Addr×Bi)}{b:Addr}{o:Bi}(h:l.lookup b=some o):trC H l b=some (.frz o (.own 0)):=by unfold trC;rw[h]
theorem za6{H:Hp}{l:List (Addr×Bi)}{b:Addr}(h:l.lookup b=none):trC H l b=H b:=by unfold trC;rw[h]
theorem zkm{H:Hp}{l:List (Addr×Bi)}{b:Addr}{o:Bi}(h:l.lookup b=some o):drC H l b=none:=by unfold drC;rw[h]
theorem zbd{H:Hp}{l:List (Addr×Bi)}{b:Addr}(h:l.lookup b=none):drC H l b=H b:=by unfold drC;rw[h]
structure Cls(X:Cx)(H:Hp)(s:AD)(l:List (Addr×Bi)):Prop where
 at_:∀c o,l.lookup c=some o->s.heap.get? c=some o
 fr:∀c o,l.lookup c=some o->H c=none
 bs:∀c o,l.lookup c=some o->X.base.get? c=none
 st:∀c o,l.lookup c=some o->c ∉ frs X.stack
section
variable{X : Cx}{pins : List (Addr×Bi)}{σ : L2.St}{H H' : Hp}{s s' : AD}{l : List (Addr×Bi)}
theorem Cls.out(hc:Cls X H s l){b:Addr}{o:HO}(e:H b=some o):l.lookup b=none:=by
 cases q:l.lookup b with
 | none=>rfl
 | some u=>rw[hc.fr b u q] at e;cases e
theorem env0C(I:L2.Inv X pins σ H s)(hc:Cls X H s l):Env0 X.prog X.w X.K X.mg X.base X.A X.stack s (trC H l):=by
 have e:=I.env0;refine⟨e.frames,e.mod,fun b o h=>⟨(e.bs b o h).1,?_⟩,e.bsz,e.funs,fun b hb=>?_,fun b o h=>?_,e.bare⟩
 ·cases q:l.lookup b with
  | none=>rw[za6 q];exact(e.bs b o h).2
  | some u=>rw[hc.bs b u q] at h;cases h
 ·cases q:l.lookup b with
  | none=>rw[za6 q];exact e.frf b hb
  | some u=>exact absurd hb (hc.st b u q)
 ·cases q:l.lookup b with
  | some u=>
   rw[zju q] at h;cases h;exact⟨hc.at_ b u q,u,hc.at_ b u q⟩
  | none=>
   rw[za6 q] at h;exact(e.hok b o h).stay (fun _ _ _ z=>z) (fun c z=>by rw[za6 (hc.out z)];exact z) fun c xs z=>by rw[za6 (hc.out z)];exact z
theorem zp9(un:Un (frs X.stack) [] (trC H l) H' s.heap s'.heap){b:Addr}{o:HO}(e:H' b=some o)(n:∀q,o≠.frz q (.own 0)):l.lookup b=none:=by
 cases q:l.lookup b with
 | none=>rfl
 | some u=>
  rw[un.frzs b u _ (zju q)] at e;cases e;exact absurd rfl (n u)
theorem unC(hc:Cls X H s l)(un:Un (frs X.stack) [] (trC H l) H' s.heap s'.heap)(hok:HOk X.prog X.w H' s'.heap):Un (frs X.stack) [] H (drC H' l) s.heap s'.heap where
 keep:=fun b o e n hb hx=>by
  cases q:l.lookup b with
  | none=>exact un.keep b o e (by rw[za6 q];exact n) hb hx
  | some u=>
   have h1:=hc.at_ b u q;rw[e] at h1;cases h1;exact(hok b _ (un.frzs b o _ (zju q))).1
 slot:=fun b o e n hb hx=>by
  cases q:l.lookup b with
  | none=>exact un.slot b o e (by rw[za6 q];exact n) hb hx
  | some u=>exact absurd hb (hc.st b u q)
 free:=fun b o e n hx=>by
  cases q:l.lookup b with
  | none=>rw[zbd q];exact un.free b o e (by rw[za6 q];exact n) hx
  | some u=>exact zkm q
 there:=un.there
 tups:=fun b xs e=>by
  have q:=hc.out e;rw[zbd q];exact un.tups b xs (by rw[za6 q];exact e)
 frzs:=fun b o u e=>by
  have q:=hc.out e;rw[zbd q];exact un.frzs b o u (by rw[za6 q];exact e)
 tbls:=fun b ps e=>by
  have q:=hc.out e;rw[zbd q];exact un.tbls b ps (by rw[za6 q];exact e)
theorem hokC(un:Un (frs X.stack) [] (trC H l) H' s.heap s'.heap)(hok:HOk X.prog X.w H' s'.heap):HOk X.prog X.w (drC H' l) s'.heap:=fun b o e=>by
 cases q:l.lookup b with
 | some u=>rw[zkm q] at e;cases e
 | none=>
  rw[zbd q] at e;exact(hok b o e).stay (fun _ _ _ z=>z) (fun c z=>by rw[zbd (zp9 un z fun _ h=>by cases h)];exact z) fun c xs z=>by rw[zbd (zp9 un z fun _ h=>by cases h)];exact z
theorem Zgs(hc:Cls X H s l)(un:Un (frs X.stack) [] (trC H l) H' s.heap s'.heap)(sm:Same (trC H l) H'):Same H (drC H' l):=
 ⟨fun b o e n=>by
  have q:=hc.out e;rw[zbd q];exact sm.at_ b o (by rw[za6 q];exact e) n,fun b ps e=>by
  have q:=hc.out e;obtain⟨p1,e1,k1⟩:=sm.tb b ps (by rw[za6 q];exact e)
  refine⟨p1,by rw[zbd q];exact e1,fun t=>?_⟩
  have t1:=k1 ⟨t.1,fun pos v h=>let ⟨c,f1,f2⟩:=t.2 pos v h;⟨c,f1,by rw[za6 (hc.out f2)];exact f2⟩⟩
  exact⟨t1.1,fun pos v h=>let ⟨c,f1,f2⟩:=t1.2 pos v h;⟨c,f1,by rw[zbd (zp9 un f2 fun _ h=>by cases h)];exact f2⟩⟩⟩
theorem Zfj{Q:VK}{u:A9}(I:L2.Inv X pins σ H s)(hc:Cls X H s l)(h:CE X.stack X.prog X.w (trC H l) s (fun v H'=>Un (frs X.stack) [] (trC H l) H' s.heap s'.heap->Q v (drC H' l)) u s'):EP X pins σ Q u s':=by
 obtain⟨v,H',os,bare,un,hok,r,q⟩:=h;obtain⟨hh,g,d,t,os'⟩:=s';obtain rfl:os'=s.os:=os;exact⟨v,drC H' l,I.call (h':=hh) (g':=g) (d':=d) (t':=t) (ch:=[]) (unC hc un hok) (hokC un hok) bare (fun b z=>absurd z (by simp)),r,q un⟩
end
mutual
def noFn:PV->Bool
 | .fn _ _=>false
 | .tup ps=>zbp ps
 | .lst ps=>zbp ps
 | .dct _ ps=>zbp ps
 | .dtt _ ps=>zbp ps
 | _=>true
def zbp:List PV->Bool
 | []=>true
 | p::ps=>noFn p && zbp ps
end
def isPl:HO->Bool
 | .tup _=>true
 | .frz _ (.lst _)=>true
 | .frz _ (.dK _)=>true
 | .frz _ (.dT _)=>true
 | _=>false
mutual
theorem Rep.pl{K:A0}{H H':Hp}(k:∀b u,H b=some u->isPl u=true->H' b=some u):∀(p:PV){v:V},noFn p=true->Rep K H p v->Rep K H' p v
 | .non,_,_,h=>h
 | .bl _,_,_,h=>h
 | .int _,_,_,h=>h
 | .str _,_,_,h=>h
 | .tup ps,_,n,⟨a,xs,e,h,r⟩=>⟨a,xs,e,k _ _ h rfl,Reps.pl k ps n r⟩
 | .lst ps,_,n,⟨a,xs,e,h,r⟩=>⟨a,xs,e,by
   rcases h with⟨o,h⟩ | h
   ·exact .inl ⟨o,k _ _ h rfl⟩
   ·exact .inr h,Reps.pl k ps n r⟩
 | .dct ks ps,_,n,⟨a,kvs,e,h,ek,r⟩=>⟨a,kvs,e,by
   rcases h with⟨o,h⟩ | h
   ·exact .inl ⟨o,k _ _ h rfl⟩
   ·exact .inr h,ek,Reps.pl k ps n r⟩
 | .dtt ks ps,_,n,⟨a,o,kvs,e,h,ek,r⟩=>⟨a,o,kvs,e,k _ _ h rfl,ek,Reps.pl k ps n r⟩
 | .fn _ _,_,n,_=>by cases n
theorem Reps.pl{K:A0}{H H':Hp}(k:∀b u,H b=some u->isPl u=true->H' b=some u):∀(ps:List PV){xs:List V},zbp ps=true->Reps K H ps xs->Reps K H' ps xs
 | [],_,_,h=>h
 | p::ps,_,n,⟨x,r,e,h1,h2⟩=>by
  have n:(noFn p && zbp ps)=true:=n;rw[BJ] at n;exact⟨x,r,e,Rep.pl k p n.1 h1,Reps.pl k ps n.2 h2⟩
end
theorem zql{u:HO}(h:isPl u=true):∀q,u≠.frz q (.own 0):=fun q e=>by subst e;cases h
end PU
namespace PU
open PySem PySem.Spec PyProof.Rows L2 PySem.SeqAt
variable[TW]
theorem zvq{p:C7}{r:List A9}(l:List A9)(h:TriplesOk l):DM p (l++r)=(DM p l).or (DM p r):=by
 fun_induction TriplesOk l with
 | case1=>simp[DM]
 | case2 a t b u x rest ih=>
  simp only[CB,DM]
  split
  ·rfl
  ·exact ih h
 | case3 l h1 h2=>exact h.elim
theorem zvp{p pos:C7}{c v:A9}(h:DM p [Dq pos.line,Dq pos.col,c]=some v):v=c/\p.line=pos.line/\p.col=pos.col:=by
 simp only[DM,Dq] at h;split at h
 ·rename_i hc
  cases h;simp only[BJ,beq_iff_eq] at hc;exact⟨rfl,by omega,by omega⟩
 ·cases h
section
variable{X : Cx}{pins : List (Addr×Bi)}{σ : L2.St}{H : Hp}{s : AD}
theorem Zbb{H':Hp}{h':Heap}{P:Addr}{ps more:Array A9}{t':Nat}(I:L2.Inv X pins σ H s)(hP:H P=some (.tbl ps))(hx:Fj P s.heap h')(hp:H' P=some (.tbl (ps++more)))(gP:h'.get? P=some (D5 (ps++more)))
  (old:∀b,b<s.heap.objs.size->b≠P->H' b=H b) (new:∀b o,s.heap.objs.size<=b->H' b=some o->zdx X.prog X.w H' h' b o):L2.Inv X pins σ H' { s with heap:=h',toks:=t' }:=by
 have lt:∀b o,H b=some o->b<s.heap.objs.size:=fun b o e=>I.hok.lt e
 have k:∀b o,b≠P->H b=some o->H' b=some o:=fun b o n e=>by rw[old b (lt b o e) n];exact e
 have nP:∀{b:Addr}{o:HO},H b=some o->(∀q,o≠.tbl q)->b≠P:=fun {b o} e n z=>by subst z;rw[hP] at e;cases e;exact n _ rfl
 refine I.un ⟨fun b o e n _ _=>hx b o (fun z=>by subst z;rw[hP] at n;cases n) e,fun b o e n _ _=>⟨o.slots,hx b o (fun z=>by subst z;rw[hP] at n;cases n) e⟩,
  fun b o e n _=>by rw[old b (AL e) (fun z=>by subst z;rw[hP] at n;cases n)];exact n,fun b o e _=>?_,fun b xs e=>k b _ (nP e fun _ z=>by cases z) e,fun b o u e=>k b _ (nP e fun _ z=>by cases z) e,fun b qs e=>?_⟩ fun b o e=>?_
 ·by_cases hb:b=P
  ·subst hb;exact⟨_,gP⟩
  ·exact⟨o,hx b o hb e⟩
 ·by_cases hb:b=P
  ·subst hb
   rw[hP] at e;cases e;exact⟨more,hp⟩
  ·exact⟨#[],by rw[k b _ hb e];simp⟩
 ·by_cases hl:b<s.heap.objs.size
  ·by_cases hb:b=P
   ·subst hb
    rw[hp] at e;cases e;exact gP
   ·rw[old b hl hb] at e
    refine(I.hok b o e).stay (fun c u hc q=>hx c u (fun z=>?_) q) (fun c q=>k c _ (nP q fun _ z=>by cases z) q) fun c xs q=>k c _ (nP q fun _ z=>by cases z) q
    rcases hc with h | h
    ·exact hb (h▸z)
    ·exact nP h (fun _ z=>by cases z) z
  ·exact new b o (Fm hl) e
theorem Zd7{params:Arguments}{body:Expr}{scope:Scope}{pos:C7}{c P:Addr}{ps:Array A9}{Q:A9->AD->Prop}{E:A9->AD->Prop}(I:L2.Inv X pins σ H s)(hP:H P=some (.tbl ps))(tk:TOk H ps)(hcode:X.env.code=.ref c)
  (CH:Fh X.base c P) (hbn:∃bm o,X.mg "__builtins__"=some (.ref bm)/\bm≠Ba/\bm≠mainGlobals/\X.base.get? bm=some o/\o.cls=.type "module"/\o.dict=some Ba/\o.data=.plain)
  (hdef:defaultsOf params X.env=([],[])) (hq:TW.qual pos.line pos.col=X.env.qual++"<lambda>") (hfree:∀y∈scope.names,y.2=.free->∃c,X.env.cells.lookup y.1=some c)
  (h:∀f c' pm ct H' s',L2.Inv X pins σ H' s'->Same H H'->H' f=some (FnAt f (DW "<lambda>" (X.env.qual++"<lambda>") params body scope (clOf X.env.cells scope.names []) pm c' ct))->H' c'=some (zig c' (X.env.qual++"<lambda>"))->Q (.ref f) s') :
  Af (Ap X.prog X.w) X.A (BR (.Lambda params body scope pos) X.env) Q E s:=by
 have gP:s.heap.get? P=some (D5 ps):=I.hok P _ hP;have nb:∀b o,X.base.get? b=some o->b≠P:=fun b o e z=>by subst z;have:=(I.bs b o e).2;rw[hP] at this;cases this
 obtain⟨bm,ob,b1,b2,b3,b4,b5,b6,b7⟩:=hbn;have hg:s.heap.Ns mainGlobals X.mg:=I.mod.glob.keeps I.bk
 have hgP:mainGlobals≠P:=by
  obtain⟨o,es,ep,e,_⟩:=I.mod.glob;exact nb _ o e
 have hB:s.heap.BuiltinsAt X.mg P:=⟨bm,ob,b1,b2,b3,nb _ _ b4,I.bk _ _ b4,b5,b6,b7⟩;refine PySem.W.kla_eval hdef ?_;cases hf:DM pos ps.toList with
 | some cv=>
  obtain⟨c',rfl,hc'⟩:=tk.2 pos cv hf;rw[hq] at hc';refine PySem.W.kla_makeFunctionHit (mg:=X.mg) (zbv hfree) I.ok.glob hg hcode (CH.keeps I.bk) gP tk.1 hf hB fun ctv h' t' hk hsz=>?_
  have nf:H h'.objs.size=none:=I.hok.fresh hsz;have I1:L2.Inv X pins σ H { s with heap:=h',toks:=t' }:=I.kept (t':=t') hk;refine h h'.objs.size c' _ ctv (upd H h'.objs.size (FnAt h'.objs.size _)) _ (I1.laid (a:=h'.objs.size) (t':=t') (fun _ _ q=>AC _ q) (AY _) ⟨Aa _ rfl,⟨_,Aa _ rfl⟩,fun h1 h2 e k=>k _ e⟩) (Same.new nf) zak ?_
  rw[zal (zbj hc' nf)];exact hc'
 | none=>
  refine PySem.W.kla_makeFunction (mg:=X.mg) (zbv hfree) I.ok.glob hg hcode (CH.keeps I.bk) gP tk.1 hf hgP hB fun c' ctv h' t' hx hge hlt hrec htb=>?_
  have hPs:P<s.heap.objs.size:=AL gP;have hsz:s.heap.objs.size<=h'.objs.size:=Ef (D6 hge hlt);have nc:H c'=none:=I.hok.fresh hge;have nf:H h'.objs.size=none:=I.hok.fresh hsz;have c1:c'≠P:=BS (AR hPs hge);have f1:h'.objs.size≠P:=BS (AR hPs hsz);have cf:c'≠h'.objs.size:=AZ hlt;obtain⟨F,hF⟩:∃F:Bi,F=DW "<lambda>" (X.env.qual++"<lambda>") params body scope (clOf X.env.cells scope.names []) ((X.mg "__name__").getD .none) c' ctv:=⟨_,rfl⟩;obtain⟨H',hH⟩:∃H':Hp,H'=upd (upd (upd H P (.tbl (ps++#[Dq pos.line,Dq pos.col,.ref c']))) c' (zig c' (X.env.qual++"<lambda>"))) h'.objs.size (FnAt h'.objs.size F):=⟨_,rfl⟩;have eP:H' P=some (.tbl (ps++#[Dq pos.line,Dq pos.col,.ref c'])):=by rw[hH,zal (Bc f1),zal (Bc c1),zak]
  have ec:H' c'=some (zig c' (X.env.qual++"<lambda>")):=by rw[hH,zal cf,zak]
  have ef:H' h'.objs.size=some (FnAt h'.objs.size F):=by rw[hH,zak]
  have old:∀b,b<s.heap.objs.size->b≠P->H' b=H b:=fun b hb hn=>by rw[hH,zal (AZ (AR hb hsz)),zal (AZ (AR hb hge)),zal hn]
  have lt:∀b o,H b=some o->b<s.heap.objs.size:=fun b o e=>I.hok.lt e
  rw[← hF];have hx2:Fj P s.heap (h'.push F):=fun b o n e=>AC _ (hx b o n e)
  refine h h'.objs.size c' _ ctv H' _ (Zbb (t':=t') I hP hx2 eP (AC _ htb) old fun b o hb e=>?_) ⟨fun b o e n=>?_,fun b qs e=>?_⟩ (by rw[← hF];exact ef) ec
  ·by_cases hbf:b=h'.objs.size
   ·subst hbf
    rw[ef] at e;cases e;have hfr:F.isFreed=false:=by rw[hF];rfl
    exact⟨Aa _ hfr,⟨_,Aa _ hfr⟩,fun h1 h2 e k=>k _ e⟩
   ·by_cases hbc:b=c'
    ·subst hbc
     rw[ec] at e;cases e;obtain⟨c2,oc,vs,tq,e1,e2,e3,e4⟩:=hrec;cases e1;refine⟨⟨b,oc,vs,tq,rfl,AC _ e2,e3,e4⟩,⟨oc,AC _ e2⟩,?_⟩;intro h1 h2 ⟨c3,oc3,vs3,tq3,g1,g2,g3,g4⟩ k;cases g1;exact⟨_,oc3,vs3,tq3,rfl,k _ g2,g3,g4⟩
    ·exfalso
     rw[hH,zal hbf,zal hbc,zal (BS (AR hPs hb)),I.hok.fresh hb] at e;cases e
  ·have hb:b≠P:=fun z=>by subst z;rw[hP] at e;cases e;cases n
   rw[old b (lt b o e) hb];exact e
  ·have keep:∀d q,H d=some (zig d q)->H' d=some (zig d q):=fun d q e=>by
    rw[old d (lt d _ e) (fun z=>by subst z;rw[hP] at e;cases e)]
    exact e
   by_cases hb:b=P
   ·subst hb
    rw[hP] at e;cases e;refine⟨_,eP,fun t=>⟨?_,fun p v hv=>?_⟩⟩
    ·rw[HC]
     exact TriplesOk_snoc _ _ _ _ t.1
    ·rw[HC,zvq _ t.1] at hv
     cases hl:DM p ps.toList with
     | some u=>
      rw[hl] at hv;cases hv;obtain⟨d,d1,d2⟩:=t.2 p _ hl;exact⟨d,d1,keep d _ d2⟩
     | none=>
      rw[hl] at hv;obtain⟨e1,e2,e3⟩:=zvp hv;subst e1;exact⟨c',rfl,by rw[e2,e3,hq];exact ec⟩
   ·refine⟨qs,by rw[old b (lt b _ e) hb];exact e,fun t=>⟨t.1,fun p v hv=>?_⟩⟩
    obtain⟨d,d1,d2⟩:=t.2 p v hv;exact⟨d,d1,keep d _ d2⟩
end
end PU
namespace PU
open PySem PySem.Spec PyProof.Rows L2 PySem.SeqAt
variable[TW]
structure LScope(ps fr:List Str)(sc:Scope):Prop where
 kind:sc.kind=.function
 co:sc.isCoroutine=false
 gen:sc.isGenerator=false
 nocell:∀x∈sc.names,x.2≠.cell
 par:∀x∈ps,sc.names.lookup x=some .local
 fre:∀x,sc.names.lookup x=some .free->x∈fr
 frk:∀x∈fr,sc.names.lookup x=some .free
 nd:(ps++fr).Nodup
def cxL(P:Ak)(w:Ar)(K:A0)(mg:Str->Option A9)(base:Heap)(N:List Str)(qual:Str)(scope:Scope)(f:Addr)(cd:A9)(cl:List (Str×Addr))(A:B0)(outer:List FY)(s:AD)(H:Hp):Cx where
 prog:=P
 w:=w
 K:=K
 mg:=mg
 base:=base
 A:=A.deeper (E5 qual scope s.heap.objs.size f cd cl)
 N:=N
 s₀:=s
 H₀:=H
 env:=E5 qual scope s.heap.objs.size f cd cl
 outer:=outer
 stack:=E5 qual scope s.heap.objs.size f cd cl::outer
 ex:=[]
 calm:=true
 fn:=fun _=>false
 pn:=[]
 xe:=fun _ _=>False
theorem zns{cl:List (Str×Addr)}(nd:(cl.map (·.1)).Nodup):∀{i:Nat}{x:Str}{c:Addr},cl[i]?=some (x,c)->cl.lookup x=some c:=by
 induction cl with
 | nil=>intro i x c h;simp at h
 | cons p r ih=>
  intro i x c h;obtain⟨y,d⟩:=p;rw[AE,Ay] at nd;cases i with
  | zero=>simp at h;obtain⟨rfl,rfl⟩:=h;simp[H9]
  | succ i=>
   have h:r[i]?=some (x,c):=by simpa using h
   have hne:(x == y)=false:=by
    rw[beq_eq_false_iff_ne];rintro rfl;exact nd.1 (AJ.mpr ⟨_,AS h,rfl⟩)
   rw[Aq,hne];exact ih nd.2 h
theorem Zd3{cl:List (Str×Addr)}{x:Str}{c:Addr}(h:cl.lookup x=some c):∃i:Nat,cl[i]?=some (x,c):=by
 have:=Ax h;obtain⟨i,hi,e⟩:=C5 this;exact⟨i,by rw[AX hi,e]⟩
theorem zub{x y:Str}{c:Addr}:∀{cl:List (Str×Addr)},(cl.map (·.2)).Nodup->(x,c)∈cl->(y,c)∈cl->x=y
 | [],_,h,_=>nomatch h
 | (z,d)::r,nd,h1,h2=>by
  rw[AE,Ay] at nd;rcases AU.mp h1 with e1 | m1
  ·rcases AU.mp h2 with e2 | m2
   ·cases e1;cases e2;rfl
   ·cases e1
    exact(nd.1 (AJ.mpr ⟨_,m2,rfl⟩)).elim
  ·rcases AU.mp h2 with e2 | m2
   ·cases e2
    exact(nd.1 (AJ.mpr ⟨_,m1,rfl⟩)).elim
   ·exact zub nd.2 m1 m2
theorem Zes{cl:List (Str×Addr)}(nd:(cl.map (·.2)).Nodup){x y:Str}{c:Addr}(h1:cl.lookup x=some c)(h2:cl.lookup y=some c):x=y:=
 zub nd (Ax h1) (Ax h2)
theorem zro{cl:List (Str×A9)}(nd:(cl.map (·.1)).Nodup):∀{i:Nat}{x:Str}{c:A9},cl[i]?=some (x,c)->cl.lookup x=some c:=by
 induction cl with
 | nil=>intro i x c h;simp at h
 | cons p r ih=>
  intro i x c h;obtain⟨y,d⟩:=p;rw[AE,Ay] at nd;cases i with
  | zero=>simp at h;obtain⟨rfl,rfl⟩:=h;simp[H9]
  | succ i=>
   have h:r[i]?=some (x,c):=by simpa using h
   have hne:(x == y)=false:=by
    rw[beq_eq_false_iff_ne];rintro rfl;exact nd.1 (AJ.mpr ⟨_,AS h,rfl⟩)
   rw[Aq,hne];exact ih nd.2 h
theorem zq4{ps:List Str}{us:List A9}(nd:ps.Nodup)(hl:us.length=ps.length){i:Nat}{x:Str}{u:A9}(h1:ps[i]?=some x)(h2:us[i]?=some u):(ps.zip us).reverse.lookup x=some u:=by
 have hm:(x,u)∈ps.zip us:=by
  refine AS (i:=i) ?_;rw[GG];exact⟨h1,h2⟩
 have hn:((ps.zip us).map (·.1)).Nodup:=by
  rw[Fe (by omega)]
  exact nd
 have hr:((ps.zip us).reverse.map (·.1)).Nodup:=by rw[List.map_reverse];exact List.pairwise_reverse.mpr (List.Pairwise.imp (fun h=>Bc h) hn)
 obtain⟨j,hj,e⟩:=C5 (List.mem_reverse.mpr hm);exact zro hr (by rw[AX hj,e])
section
variable{P : Ak}{w : Ar}{K : A0}{mg : Str → Option A9}{base : Heap}{ps fr : List Str}{qual : Str}{scope : Scope}{f : Addr}{cd : A9}{cl : List (Str×Addr)}{A : B0}{outer : List FY}{s : AD}{H : Hp}{l : List (Addr×Bi)}
theorem Zaz{us:List A9}{vs xs:List V}{h':Heap}{t':Nat}(S:LScope ps fr scope)(hd:A.handled=none)(e0:Env0 P w K mg base A outer s H)(hl:∀c o,l.lookup c=some o->H c=some (.frz o (.own 0)))
  (hcl:cl.map (·.1)=fr) (nd:(cl.map (·.2)).Nodup) (hxs:xs.length=cl.length) (hx:∀(i:Nat)(x:Str)(c:Addr),cl[i]?=some (x,c)->∃v o u,xs[i]?=some v/\l.lookup c=some o/\o.data=.cell (some u)/\RelV v u)
  (r:Vals vs us) (hv:vs.length=ps.length) (ns:h'.Ns s.heap.objs.size (fun x=>(ps.zip us).reverse.lookup x)) (hk:∀b o,s.heap.get? b=some o->h'.get? b=some o) :
  L2.Inv (cxL P w K mg base (ps++fr) qual scope f cd cl A outer s (drC H l)) [] ((vs++xs).map some) (drC H l) { s with heap:=h',toks:=t' }:=by
 have noA:∀b:Addr,b ∉ ([]:List Addr):=fun b z=>nomatch z
 have ndf:(cl.map (·.1)).Nodup:=by rw[hcl];exact(BK.mp S.nd).2.1
 have ndp:ps.Nodup:=(BK.mp S.nd).1
 have Gi:∀x c,cl.lookup x=some c->∃(i:Nat)(v:V)(o:Bi)(u:A9),cl[i]?=some (x,c)/\xs[i]?=some v/\l.lookup c=some o/\o.data=.cell (some u)/\RelV v u/\s.heap.get? c=some o:=fun x c h=>by
  obtain⟨i,e⟩:=Zd3 h;obtain⟨v,o,u,e1,e2,e3,e4⟩:=hx i x c e;exact⟨i,v,o,u,e,e1,e2,e3,e4,(e0.hok c _ (hl c o e2)).1⟩
 have drn:∀b,H b=none->drC H l b=none:=fun b n=>by
  cases q:l.lookup b with
  | none=>rw[zbd q];exact n
  | some o=>exact zkm q
 have hok:HOk P w (drC H l) s.heap:=fun b o e=>by
  cases q:l.lookup b with
  | some u=>rw[zkm q] at e;cases e
  | none=>
   rw[zbd q] at e
   have out:∀{c:Addr}{o:HO},H c=some o->(∀q,o≠.frz q (.own 0))->l.lookup c=none:=fun {c o} e n=>by
    cases q:l.lookup c with
    | none=>rfl
    | some u=>rw[hl c u q] at e;cases e;exact absurd rfl (n u)
   exact(e0.hok b o e).stay (fun _ _ _ z=>z) (fun c z=>by rw[zbd (out z fun _ h=>by cases h)];exact z) fun c xs z=>by rw[zbd (out z fun _ h=>by cases h)];exact z
 refine⟨⟨e0.mod,S.kind,rfl,rfl,AY _,fun y z c h1 h2=>Zes nd h1 h2,fun y hy=>?_,fun y c h _=>(by cases h),fun _=>hd,GX e0.frames,.inr ⟨rfl,rfl⟩,fun b z=>absurd z (noA b),fun b o e=>⟨(e0.bs b o e).1,drn b (e0.bs b o e).2⟩,e0.bsz,fun b _ _=>noA b,fun b z=>absurd z (noA b),e0.funs,fun b hb=>drn b (e0.frf b hb)⟩,
  rfl,e0.bare,Un.kept hk,⟨_,ns,fun i y v h1 h2 h3=>?_⟩,fun y c h=>?_,drn _ (e0.hok.fresh (AY _)),fun y c h=>?_,fun p hp=>absurd (show p∈([]:List (Addr×Bi)) from hp) (by simp),hok.kept hk,?_⟩
 ·have hy:scope.names.lookup y=some .cell\/scope.names.lookup y=some .free:=hy
  rcases hy with hy | hy
  ·exact absurd rfl (S.nocell _ (Ax hy))
  ·have:=S.fre y hy
   rw[← hcl] at this;obtain⟨p,hp,e⟩:=AJ.mp this;obtain⟨i,hi,e2⟩:=C5 hp;obtain⟨a,b⟩:=p;cases e;exact⟨b,zns ndf (by rw[AX hi,e2])⟩
 ·have h1:(ps++fr)[i]?=some y:=h1
  rw[AG] at h2;obtain⟨v',h2,e⟩:=AQ.mp h2;cases e
  by_cases hi:i<ps.length
  ·rw[Ae hi] at h1
   rw[Ae (by omega)] at h2
   obtain⟨u,hu,rv⟩:=r.get h2;exact⟨u,rv,.inl ⟨S.par y (AS h1),zq4 ndp (by rw[← r.length];exact hv) h1 hu⟩⟩
  ·rw[As (by omega)] at h1
   rw[As (by omega),hv] at h2
   have hf:=S.frk y (AS h1);rw[← hcl,AG] at h1;obtain⟨p,g1,e⟩:=AQ.mp h1;obtain⟨a,c⟩:=p;cases e;obtain⟨v2,o,u,e1,e2,e3,e4⟩:=hx _ _ _ g1;rw[h2] at e1;cases e1;exact⟨u,e4,.inr ⟨.inr hf,c,zns ndf g1,o,hk _ _ (e0.hok c _ (hl c o e2)).1,e3⟩⟩
 ·obtain⟨i,v,o,u,_,_,_,e3,_,e5⟩:=Gi y c h
  exact⟨_,o,hk _ _ e5,e3⟩
 ·obtain⟨i,v,o,u,_,_,e2,_,_,_⟩:=Gi y c h
  exact zkm e2
 ·show _=(ps++fr).length
  rw[AI,Aw,Aw,hv,hxs,← hcl,AI]
theorem Zay{k:Nat}{params:Arguments}{body:Expr}{pm ct:A9}{c:Addr}{us:List A9}{vs xs:List V}{qs cs:List PV}{p:PV}{fe:PSt->R PV}{Q:VK}{E:XK}(S:LScope ps fr scope)(hr:Room (k+1) A)(e0:Env0 P w K mg base A outer s H)
  (hf:H f=some (FnAt f (DW "<lambda>" qual params body scope cl pm c ct))) (hc:H c=some (zig c qual)) (hl:∀c o,l.lookup c=some o->H c=some (.frz o (.own 0)))
  (hcl:cl.map (·.1)=fr) (nd:(cl.map (·.2)).Nodup) (hxs:xs.length=cl.length) (hx:∀(i:Nat)(x:Str)(c:Addr),cl[i]?=some (x,c)->∃v o u,xs[i]?=some v/\l.lookup c=some o/\o.data=.cell (some u)/\RelV v u)
  (hb:Fu (Hb "<lambda>" qual params body scope cl pm (.ref c) ct) ⟨us,[]⟩=pure (ps.zip us))
  (hbody:EV ⟨cxL P w K mg base (ps++fr) qual scope f (.ref c) cl A outer s (drC H l),fun _ _=>False⟩ body fe)
  (r:Vals vs us) (hv:vs.length=ps.length) (rq:Reps K H qs vs) (rc:Reps K H cs xs) (nq:zbp qs=true) (nc:zbp cs=true) (tb:Tabs H) (e:fe ((qs++cs).map .val)=.ok p)
  (hQ:∀v H',Same H H'->Rep K H' p v->Q v H') :
  D0 (Ap P w) A (.call (.ref f) ⟨us,[]⟩) (CR CX0 outer P w H s Q E) s:=by
 have lim:s.heap.NoLimit:=e0.mod.nolimit.keeps fun b o e=>(e0.bs b o e).1
 have out:∀{b:Addr}{o:HO},H b=some o->(∀q,o≠.frz q (.own 0))->l.lookup b=none:=fun {b o} e n=>by
  cases q:l.lookup b with
  | none=>rfl
  | some u=>rw[hl b u q] at e;cases e;exact absurd rfl (n u)
 have outn:∀{b:Addr},H b=none->l.lookup b=none:=fun {b} n=>by
  cases q:l.lookup b with
  | none=>rfl
  | some u=>rw[hl b u q] at n;cases n
 have drn:∀{b:Addr},H b=none->drC H l b=none:=fun {b} n=>by rw[zbd (outn n)];exact n
 have pl:∀b u,H b=some u->isPl u=true->drC H l b=some u:=fun b u e h=>by rw[zbd (out e (zql h))];exact e
 have tok:∀{qs:Array A9},TOk H qs->TOk (drC H l) qs:=fun t=>⟨t.1,fun pos v h=>let ⟨c,f1,f2⟩:=t.2 pos v h;⟨c,f1,by rw[zbd (out f2 fun _ h=>by cases h)];exact f2⟩⟩
 refine PySem.W.kla_callFunE (by have:=hr.dp;omega) (e0.hok f _ hf).1 rfl S.co S.gen rfl (e0.hok c _ hc).1 ?_
 rw[hb];refine AH (Dl S.nocell (fun y hy=>S.par _ (Eg hy).1) (fun h₁ hns hsb=>⟨lim.fresh _ hsb,?_⟩) S.kind)
 have hk:∀b o,s.heap.get? b=some o->h₁.get? b=some o:=fun b o e=>hsb.extBut b o (AZ (AL e)) (AC _ e)
 have I:=Zaz (qual:=qual) (f:=f) (cd:=.ref c) (t':=s.toks+(ps.zip us).length) S hr.hd e0 hl hcl nd hxs hx r hv hns hk;have rr:Reps K (drC H l) (qs++cs) (vs++xs):=Reps.append (Reps.pl pl qs nq rq) (Reps.pl pl cs nc rc);show D0 _ _ (.expr body (E5 qual scope s.heap.objs.size f (.ref c) cl)) _ _;refine PySem.W.kla_codeExpr (C9 (hbody [] _ _ _ (fun v H1=>Same (drC H l) H1/\Rep K H1 p v) I ⟨(qs++cs).map .val,⟨fun i z ez=>?_,fun P hP=>?_⟩,by rw[e];exact fun v H' s' r'=>⟨s',r'⟩⟩) (fun u s' hq=>?_) fun _ _ h=>AK h)
 ·rw[AG] at ez
  obtain⟨q,eq,e2⟩:=AQ.mp ez;cases e2;obtain⟨v,ev,rp⟩:=rr.get eq;exact⟨v,by rw[AG,ev];rfl,rp⟩
 ·obtain⟨qs',e1,t⟩:=tb P hP
  exact⟨qs',by rw[zbd (out e1 fun _ h=>by cases h)];exact e1,tok t⟩
 ·obtain⟨v,H1,J,rv,sm,rp⟩:=hq
  have un:Un (frs outer) [] (drC H l) H1 s.heap s'.heap:=J.base
  have n1:∀{c:Addr}{o:Bi},l.lookup c=some o->H1 c=none/\s'.heap.get? c=some o:=fun {c o} q=>by
   have g:=(e0.hok c _ (hl c o q)).1;refine⟨un.free c o g (zkm q) (by simp),un.keep c o g (zkm q) (fun z=>?_) (by simp)⟩
   have:=e0.frf c z;rw[hl c o q] at this;cases this
  have out1:∀{b:Addr}{o:HO},H1 b=some o->l.lookup b=none:=fun {b o} e=>by
   cases q:l.lookup b with
   | none=>rfl
   | some u=>rw[(n1 q).1] at e;cases e
  refine⟨v,trC H1 l,J.os,J.bare,⟨fun b o e n hb hx=>un.keep b o e (drn n) hb hx,fun b o e n hb hx=>un.slot b o e (drn n) hb hx,fun b o e n hx=>by rw[za6 (outn n)];exact un.free b o e (drn n) hx,un.there,fun b ys e=>?_,fun b o u e=>?_,fun b qs e=>?_⟩,fun b o e=>?_,rv,hQ v _ ⟨fun b o e n=>?_,fun b qs e=>?_⟩ (rp.same (.of fun b o e=>by rw[za6 (out1 e)];exact e))⟩
  ·have q:=out e fun _ h=>by cases h
   rw[za6 q];exact un.tups b ys (by rw[zbd q];exact e)
  ·cases q:l.lookup b with
   | some o'=>rw[hl b o' q] at e;cases e;exact zju q
   | none=>rw[za6 q];exact un.frzs b o u (by rw[zbd q];exact e)
  ·have q:=out e fun _ h=>by cases h
   rw[za6 q];exact un.tbls b qs (by rw[zbd q];exact e)
  ·cases q:l.lookup b with
   | some o'=>
    rw[zju q] at e;cases e;exact⟨(n1 q).2,o',(n1 q).2⟩
   | none=>
    rw[za6 q] at e;exact(J.hok b o e).stay (fun _ _ _ z=>z) (fun c z=>by rw[za6 (out1 z)];exact z) fun c xs z=>by rw[za6 (out1 z)];exact z
  ·cases q:l.lookup b with
   | some o'=>rw[hl b o' q] at e;cases e;exact zju q
   | none=>rw[za6 q];exact sm.at_ b o (by rw[zbd q];exact e) n
  ·have q:=out e fun _ h=>by cases h
   obtain⟨p1,e1,k1⟩:=sm.tb b qs (by rw[zbd q];exact e)
   refine⟨p1,by rw[za6 q];exact e1,fun t=>?_⟩
   have t1:=k1 (tok t);exact⟨t1.1,fun pos v h=>let ⟨c,f1,f2⟩:=t1.2 pos v h;⟨c,f1,by rw[za6 (out1 f2)];exact f2⟩⟩
end
end PU
namespace PU
open PySem PySem.Spec PyProof.Rows L2 PySem.SeqAt
variable[TW]
theorem zlv{H:Hp}:∀{cl:List (Str×Addr)}{xs:List V},ze5 H cl xs->xs.length=cl.length/\∃l:List (Addr×Bi),(∀c o,l.lookup c=some o->H c=some (.frz o (.own 0)))/\
  ∀(i:Nat)(x:Str)(c:Addr),cl[i]?=some (x,c)->∃v o u,xs[i]?=some v/\l.lookup c=some o/\o.data=.cell (some u)/\RelV v u
 | [],xs,h=>by cases h;exact⟨rfl,[],fun c o h=>(by cases h),fun i x c h=>(by simp at h)⟩
 | p::cl,_,⟨x,r,o,u,e,h,d,v,t⟩=>by
  subst e;obtain⟨hl,l,h1,h2⟩:=zlv t
  have look:∀c o',((p.2,o)::l).lookup c=some o'->H c=some (.frz o' (.own 0)):=fun c o' e=>by
   rw[Aq] at e;cases hb:(c == p.2) with
   | true=>rw[hb] at e;cases e;rw[D3 hb];exact h
   | false=>rw[hb] at e;exact h1 c o' e
  refine⟨by simp[hl],(p.2,o)::l,look,fun i y c e=>?_⟩
  cases i with
  | zero=>
   simp at e;subst e;exact⟨x,o,u,rfl,by simp[H9],d,v⟩
  | succ i=>
   obtain⟨v',o',u',e1,e2,e3,e4⟩:=h2 i y c (by simpa using e)
   refine⟨v',o',u',by simpa using e1,?_,e3,e4⟩
   rw[Aq];cases hb:(c == p.2) with
   | false=>exact e2
   | true=>
    have:=h1 c o' e2;rw[D3 hb,h] at this;cases this;rfl
structure LamB(P:Ak)(w:Ar)(K:A0)(mg:Str->Option A9)(base:Heap)(k:Nat)(L:Lam)(ps:List Str)(fe:PSt->R PV):Prop where
 sc:LScope ps L.kept L.scope
 bd:∀(cl:List (Str×Addr)) (pm ct:A9) (c:Addr) (us:List A9),us.length=ps.length->Fu (Hb "<lambda>" L.qual L.args L.body L.scope cl pm (.ref c) ct) ⟨us,[]⟩=pure (ps.zip us)
 ev:∀(f c:Addr)(cl:List (Str×Addr))(A:B0)(outer:List FY)(s:AD)(H:Hp),Room k (A.deeper (E5 L.qual L.scope s.heap.objs.size f (.ref c) cl))->
  EV ⟨cxL P w K mg base (ps++L.kept) L.qual L.scope f (.ref c) cl A outer s H,fun _ _=>False⟩ L.body fe
def LamT(P:Ak)(w:Ar)(K:A0)(mg:Str->Option A9)(base:Heap)(k:Nat)(app:Lam->List PV->List PV->Option PV):Prop:=
 ∀L qs cs p,app L qs cs=some p->∃ps fe,LamB P w K mg base k L ps fe/\qs.length=ps.length/\fe ((qs++cs).map .val)=.ok p
def zkt(i:Nat)(fs:PSt->R (List PV))(app:Lam->List PV->List PV->Option PV):PSt->R PV:=fun ρ=>match ρ[i]? with
 | some (.val (.fn L cs))=>fs ρ >>= fun qs=>if zbp qs=true/\zbp cs=true then R.ofO (app L qs cs) else .no
 | _=>.no
theorem zm1{C:Cn}{x:Str}{e:Expr}{es:List Expr}{fs:PSt->R (List PV)}{app:Lam->List PV->List PV->Option PV}{k:Nat}{p pos:C7}(i:Nat)(T:LamT C.X.prog C.X.w C.X.K C.X.mg C.X.base k app){kr:Nat}(hr:Room kr C.X.A)(ha:EA C (e::es) fs)
  (hN:C.X.N[i]?=some x:=by rfl) (hvis:Vis C.X.env.scope x:=by first | exact .inl rfl | exact .inr (.inl rfl) | exact .inr (.inr rfl)) (hdb:(x == ("__debug__":Str))=false:=by decide) (hcd:(x == ("__classdict__":Str))=false:=by decide)
  (he:Ad (e::es) C.X.env=(false,BR e C.X.env)::Ad es C.X.env:=by exact zcq rfl) (hpl:(DH pos (Ad es C.X.env)).any (·.1)=false:=by exact zjf rfl) (hk:k+1<=kr:=by decide) :
  EV C (.Call (.Name x p) (e::es) [] pos) (zkt i fs app):=by
 replace hr:=hr.mono hk;intro pins s σ H Q I ⟨ρ,vw,q⟩;unfold zkt at q;split at q
 ·rename_i L cs e1
  obtain⟨v,ev,f,c,cl,pm,ct,xs,rfl,hf,hc,hk,nd,ca,rc⟩:=vw i _ e1;refine DG (thn (zeb hN hvis hdb hcd pins s σ H (fun v' H'=>v'=.ref f/\H'=H) I ⟨_,ev,rfl,rfl⟩) fun u s1 ⟨v',H',I1,ru,e2,e3⟩=>?_)
  subst e2 e3;cases (show u=B6 f from ru);have fnAt:∀{H2:Hp}{s2:AD},L2.Inv C.X pins σ H2 s2->Same H' H2->PySem.W.FnAt f s2.heap:=fun {H2 s2} I2 sm=>⟨_,_,_,_,(I2.hok f _ (sm _ _ hf)).1⟩
  refine PySem.W.callWith_F (fnAt I1 (Same.refl _)) (thn (ha pos pins s1 σ H' (fun vs H2=>∃qs z,Reps C.X.K H2 qs vs/\Same H' H2/\zbp qs=true/\zbp cs=true/\app L qs cs=some z/\∀v H3,Same H' H3->Rep C.X.K H3 z v->Q v H3) I1
   ⟨ρ,vw,q.bind.imp fun qs _ k1 vs H2 sm2 r2=>?_⟩) fun us s2 ⟨vs,H2,I2,r,qs,z,r2,sm2,n1,n2,ea,k2⟩=>⟨fnAt I2 sm2,?_⟩) he hpl
  ·split at k1
   ·rename_i hn
    obtain⟨z,ez,k3⟩:=k1.ofO;exact⟨qs,z,r2,sm2,hn.1,hn.2,ez,fun v H3 s3 r3=>k3 v H3 s3 r3⟩
   ·exact AK k1
  ·obtain⟨ps,fe,B,hl,ef⟩:=T L qs cs z ea
   have ca2:=ze5.kp sm2.kp ca;obtain⟨hxl,l,l1,l2⟩:=zlv ca2;have hus:us.length=ps.length:=by rw[← r.length,← r2.length];exact hl
   refine wpAny_call (Es (Zay (l:=l) (E:=E0) (Q:=Q) B.sc hr I2.env0 (sm2 _ _ hf) (sm2 _ _ hc) l1 hk nd hxl l2 (B.bd cl pm ct c us hus) (B.ev f c cl C.X.A C.X.stack s2 (drC H2 l) (hr.deeper _)) r (by rw[← r2.length];exact hl) r2 (rc.same sm2) n1 n2 (sm2.tabs vw.tb) ef
    fun v H3 s3 r3=>k2 v H3 (sm2.trans s3) r3) fun r' s' hq=>?_)
   cases r' with
   | error e=>exact AK hq
   | ok fl=>
    cases fl with
    | ret u=>exact I2.after hq
    | next=>exact AK hq
    | brk=>exact AK hq
    | cont=>exact AK hq
 ·exact AK q
end PU
namespace PU
open PySem PySem.Spec PyProof.Rows L2 PySem.SeqAt
variable[TW]
def zn6(l:List (Str×CZ)):List Str:=(l.filter fun y=>y.2 == .free).map (·.1)
theorem zm4{cells:List (Str×Addr)}:∀{l:List (Str×CZ)}{acc:List (Str×Addr)},(∀y∈l,y.2=.free->∃c,cells.lookup y.1=some c)->(clOf cells l acc).map (·.1)=(zn6 l).reverse++acc.map (·.1)
 | [],acc,_=>rfl
 | (n,k)::r,acc,h=>by
  unfold clOf;have hr:∀y∈r,y.2=.free->∃c,cells.lookup y.1=some c:=fun y hy=>h y (Ah _ hy)
  by_cases hk:(k == BH)=true
  ·rw[if_pos hk]
   obtain⟨c,hc⟩:=h (n,k) Ai (D3 hk);have hc:cells.lookup n=some c:=hc;rw[hc];dsimp only;rw[zm4 hr];unfold zn6;rw[List.filter_cons,if_pos hk];simp
  ·rw[if_neg hk,zm4 hr]
   unfold zn6;rw[List.filter_cons,if_neg hk]
theorem zib{cells:List (Str×Addr)}{p:Str×Addr}:∀{l:List (Str×CZ)}{acc:List (Str×Addr)},p∈clOf cells l acc->cells.lookup p.1=some p.2\/p∈acc
 | [],acc,h=>.inr h
 | (n,k)::r,acc,h=>by
  unfold clOf at h;split at h
  ·split at h
   ·rename_i c hc
    rcases zib h with z | z
    ·exact .inl z
    ·rcases AU.mp z with z | z
     ·subst z;exact .inl hc
     ·exact .inr z
   ·exact zib h
  ·exact zib h
theorem zyc{cells:List (Str×Addr)}(inj:∀x y c,cells.lookup x=some c->cells.lookup y=some c->x=y):∀{l:List (Str×Addr)},(∀p∈l,cells.lookup p.1=some p.2)->(l.map (·.1)).Nodup->(l.map (·.2)).Nodup
 | [],_,_=>List.nodup_nil
 | p::r,h,nd=>by
  rw[AE,Ay] at nd ⊢;refine⟨fun m=>nd.1 ?_,zyc inj (fun q hq=>h q (Ah _ hq)) nd.2⟩
  obtain⟨q,hq,e⟩:=AJ.mp m;have h1:=h p Ai;have h2:=h q (Ah _ hq);have e:q.2=p.2:=e;rw[e] at h2;exact AJ.mpr ⟨q,hq,inj _ _ _ h2 h1⟩
def capL(ρ:PSt):List Nat->R (List PV)
 | []=>.ok []
 | i::r=>match ρ[i]? with
  | some (.val p)=>capL ρ r >>= fun ps=>.ok (p::ps)
  | _=>.no
def PRep(X:Cx)(H:Hp)(σ:L2.St):PV->V->Prop
 | .fn L cs,v=>∃f c pm ct xs,v=.ref f/\H f=some (FnAt f (DW "<lambda>" L.qual L.args L.body L.scope (clOf X.env.cells L.scope.names []) pm c ct))/\H c=some (zig c L.qual)/\
   (clOf X.env.cells L.scope.names []).map (·.1)=L.kept/\((clOf X.env.cells L.scope.names []).map (·.2)).Nodup/\xs.length=L.kept.length/\Reps X.K H cs xs/\
   ∀(j:Nat)(y:Str),L.kept[j]?=some y->∃(i:Nat)(v:V),X.N[i]?=some y/\σ[i]?=some (some v)/\xs[j]?=some v/\X.env.scope.names.lookup y=some .cell
 | p,v=>Rep X.K H p v/\noFn p=true
def PReps(X:Cx)(H:Hp)(σ:L2.St):List PV->List V->Prop
 | [],xs=>xs=[]
 | p::ps,xs=>∃x r,xs=x::r/\PRep X H σ p x/\PReps X H σ ps r
theorem PRep.same{X:Cx}{H H':Hp}{σ:L2.St}{p:PV}{v:V}(h:PRep X H σ p v)(s:Same H H'):PRep X H' σ p v:=by
 cases p with
 | fn L cs=>
  obtain⟨f,c,pm,ct,xs,e,h1,h2,h3,h4,h5,h6,h7⟩:=h;exact⟨f,c,pm,ct,xs,e,s _ _ h1,s _ _ h2,h3,h4,h5,h6.same s,h7⟩
 | _=>exact⟨Rep.same h.1 s,h.2⟩
def tL(C:Cn)(f:PSt->R (List PV)):TA:=fun σ H Q=>∃ρ,View C.X.K H σ ρ/\RQ C H (f ρ) fun ps=>∀vs H',Same H H'->PReps C.X H' σ ps vs->Q vs H'
def EL(C:Cn)(es:List Expr)(f:PSt->R (List PV)):Prop:=PA C.X es (tL C f)
def lamA(L:Lam)(idx:List Nat)(fs:PSt->R (List PV)):PSt->R (List PV):=fun ρ=>capL ρ idx >>= fun cs=>fs ρ >>= fun ps=>.ok (.fn L cs::ps)
def valA(f:PSt->R PV)(fs:PSt->R (List PV)):PSt->R (List PV):=fun ρ=>f ρ >>= fun p=>if noFn p=true then fs ρ >>= fun ps=>.ok (p::ps) else .no
theorem zoh{K:A0}{H:Hp}{σ:L2.St}{ρ:PSt}(vw:View K H σ ρ):∀{idx:List Nat}{cs:List PV},capL ρ idx=.ok cs->∃xs,Reps K H cs xs/\xs.length=idx.length/\∀(j i:Nat),idx[j]?=some i->∃v,σ[i]?=some (some v)/\xs[j]?=some v
 | [],cs,e=>by cases e;exact⟨[],rfl,rfl,fun j i h=>(by simp at h)⟩
 | i::r,cs,e=>by
  unfold capL at e;split at e
  ·rename_i p hp
   cases hc:capL ρ r with
   | ok ps=>
    rw[hc] at e;cases e;obtain⟨xs,h1,h2,h3⟩:=zoh vw hc;obtain⟨v,ev,rp⟩:=vw i _ hp;refine⟨v::xs,⟨v,xs,rfl,rp,h1⟩,by simp[h2],fun j k hj=>?_⟩
    cases j with
    | zero=>simp at hj;subst hj;exact⟨v,ev,rfl⟩
    | succ j=>simpa using h3 j k (by simpa using hj)
   | er x=>rw[hc] at e;cases e
   | no=>rw[hc] at e;cases e
  ·cases e
theorem zq2{ρ:PSt}:∀(idx:List Nat)(x:PX),capL ρ idx≠.er x
 | [],x,e=>by cases e
 | i::r,x,e=>by
  unfold capL at e;split at e
  ·cases hc:capL ρ r with
   | ok ps=>rw[hc] at e;cases e
   | er y=>exact zq2 r y hc
   | no=>rw[hc] at e;cases e
  ·cases e
structure LamC(C:Cn)(L:Lam)(idx:List Nat)(pos:C7)(c P:Addr):Prop where
 qual:L.qual=C.X.env.qual++"<lambda>"
 tq:TW.qual pos.line pos.col=L.qual
 code:C.X.env.code=.ref c
 hd:Fh C.X.base c P
 tab:P∈TW.tabs
 bn:∃bm o,C.X.mg "__builtins__"=some (.ref bm)/\bm≠Ba/\bm≠mainGlobals/\C.X.base.get? bm=some o/\o.cls=.type "module"/\o.dict=some Ba/\o.data=.plain
 df:defaultsOf L.args C.X.env=([],[])
 free:∀y∈L.scope.names,y.2=.free->C.X.env.scope.names.lookup y.1=some .cell
 kept:(zn6 L.scope.names).reverse=L.kept
 nd:L.kept.Nodup
 ix:idx.map (fun i=>C.X.N[i]?)=L.kept.map some
def tLam(C:Cn)(L:Lam)(idx:List Nat):TE:=fun σ H Q=>∃ρ cs,View C.X.K H σ ρ/\capL ρ idx=.ok cs/\∀v H',Same H H'->PRep C.X H' σ (.fn L cs) v->Q v H'
theorem Zdn{C:Cn}{L:Lam}{idx:List Nat}{pos:C7}{c P:Addr}(h:LamC C L idx pos c P):PE C.X (.Lambda L.args L.body L.scope pos) (tLam C L idx):=by
 intro pins s σ H Q I ⟨ρ,cs,vw,ec,q⟩;obtain⟨ps,eP,tk⟩:=vw.tb P h.tab;have has:∀y∈L.scope.names,y.2=.free->∃c,C.X.env.cells.lookup y.1=some c:=fun y hy hk=>I.ok.has y.1 (.inl (h.free y hy hk))
 refine Zd7 (c:=c) (P:=P) I eP tk h.code h.hd h.bn h.df (h.tq.trans h.qual) has fun f c' pm ct H' s' I' sm hf hc=>?_
 rw[← h.qual] at hf hc;obtain⟨xs,x1,x2,x3⟩:=zoh (vw.same sm) ec;have hm:(clOf C.X.env.cells L.scope.names []).map (·.1)=L.kept:=by rw[zm4 has,CL,BY];exact h.kept
 have hlen:idx.length=L.kept.length:=by have:=congrArg CM h.ix;simpa using this
 refine⟨.ref f,H',I',rfl,q _ H' sm ⟨f,c',pm,ct,xs,rfl,hf,hc,hm,zyc I.ok.inj (fun p hp=>?_) (by rw[hm];exact h.nd),by rw[x2];exact hlen,x1,fun j y hy=>?_⟩⟩
 ·rcases zib hp with z | z
  ·exact z
  ·exact nomatch z
 ·have hj:j<idx.length:=by rw[hlen];exact(AA.mp hy).1
  have e1:idx[j]?=some idx[j]:=AX hj;have e2:=congrArg (fun l=>l[j]?) h.ix
  simp only[AG,e1,hy,ES] at e2;obtain⟨v,ev,xv⟩:=x3 j _ e1;refine⟨idx[j],v,by simpa using e2,ev,xv,?_⟩
  have hmem:=AS hy;rw[← h.kept,List.mem_reverse] at hmem;unfold zn6 at hmem;obtain⟨z,hz,ez⟩:=AJ.mp hmem;obtain⟨hz1,hz2⟩:=BX.mp hz;have:=h.free z hz1 (D3 hz2);rw[ez] at this;exact this
section
variable{C : Cn}{e : Expr}{es : List Expr}{f : PSt → R PV}{fs : PSt → R (List PV)}
theorem Ze4:EL C [] nilA:=fun pos pins s σ H Q I ⟨_,_,q⟩=>ze7 pos pins s σ H Q I (q [] H (Same.refl H) rfl)
theorem Ze3(ha:EV C e f)(hr:EL C es fs)(hs:Ad (e::es) C.X.env=(false,BR e C.X.env)::Ad es C.X.env:=by exact zcq rfl):EL C (e::es) (valA f fs):=by
 intro pos pins s σ H Q I ⟨ρ,vw,q⟩;refine zb0 ha hr hs pos pins s σ H Q I ⟨ρ,vw,q.bind.imp fun p _ k v H1 s1 r1=>?_⟩
 split at k
 ·rename_i hn
  refine⟨ρ,vw.same s1,(k.bind.same s1).imp fun ps _ k2 vs H2 s2 r2=>k2 (v::vs) H2 (s1.trans s2) ⟨v,vs,rfl,?_,r2⟩⟩
  cases p with
  | fn L cs=>cases hn
  | _=>exact⟨r1.same s2,hn⟩
 ·exact AK k
theorem zza{L:Lam}{idx:List Nat}{lp:C7}{c P:Addr}(h:LamC C L idx lp c P)(hr:EL C es fs)(hs:Ad (.Lambda L.args L.body L.scope lp::es) C.X.env=(false,BR (.Lambda L.args L.body L.scope lp) C.X.env)::Ad es C.X.env:=by exact zcq rfl) :
  EL C (.Lambda L.args L.body L.scope lp::es) (lamA L idx fs):=by
 intro pos pins s σ H Q I ⟨ρ,vw,q⟩;unfold lamA at q;cases hc:capL ρ idx with
 | ok cs=>
  rw[hc] at q;have q:RQ C H (fs ρ >>= fun ps=>R.ok (.fn L cs::ps)) _:=q
  refine zb0 (Zdn h) hr hs pos pins s σ H Q I ⟨ρ,cs,vw,hc,fun v H1 s1 r1=>⟨ρ,vw.same s1,(q.bind.same s1).imp fun ps _ k2 vs H2 s2 r2=>k2 (v::vs) H2 (s1.trans s2) ⟨v,vs,rfl,r1.same s2,r2⟩⟩⟩
 | er x=>
  exact absurd hc (zq2 idx x)
 | no=>rw[hc] at q;exact AK q
end
def zid(X:Cx)(h:Heap)(ys:List Str):List (Addr×Bi):=ys.filterMap fun y=>(X.env.cells.lookup y).map fun c=>(c,(h.get? c).getD default)
theorem zfb{X:Cx}{h:Heap}{c:Addr}{o:Bi}:∀{ys:List Str},(zid X h ys).lookup c=some o->o=(h.get? c).getD default/\∃y,X.env.cells.lookup y=some c
 | [],e=>by cases e
 | y::r,e=>by
  unfold zid at e;rw[Cu] at e;cases hy:X.env.cells.lookup y with
  | none=>rw[hy] at e;exact zfb (ys:=r) e
  | some d=>
   rw[hy] at e;simp only[ES] at e;rw[Aq] at e;cases hb:(c == d) with
   | true=>rw[hb] at e;cases e;have:=D3 hb;subst this;exact⟨rfl,y,hy⟩
   | false=>rw[hb] at e;exact zfb (ys:=r) e
theorem zm5{X:Cx}{h:Heap}{c:Addr}{y:Str}(hy:X.env.cells.lookup y=some c):∀{ys:List Str},y∈ys->(zid X h ys).lookup c=some ((h.get? c).getD default)
 | [],m=>nomatch m
 | z::r,m=>by
  unfold zid;rw[Cu];cases hz:X.env.cells.lookup z with
  | none=>
   rcases AU.mp m with e | m
   ·subst e;rw[hy] at hz;cases hz
   ·exact zm5 hy m
  | some d=>
   simp only[ES];rw[Aq];cases hb:(c == d) with
   | true=>have:=D3 hb;subst this;rfl
   | false=>
    rcases AU.mp m with e | m
    ·subst e;rw[hy] at hz;cases hz;simp at hb
    ·exact zm5 hy m
section
variable{X : Cx}{pins : List (Addr×Bi)}{σ : L2.St}{H : Hp}{s : AD}
theorem zzd(I:L2.Inv X pins σ H s)(hfn:∀y,X.fn y=true)(ys:List Str):Cls X H s (zid X s.heap ys):=by
 have at_:∀c o,(zid X s.heap ys).lookup c=some o->s.heap.get? c=some o:=fun c o e=>by
  obtain⟨e1,y,e2⟩:=zfb e;obtain⟨v,o',g,_⟩:=I.cell y c e2;rw[e1,g];rfl
 have big:∀c o,(zid X s.heap ys).lookup c=some o->X.s₀.heap.objs.size<=c:=fun c o e=>by
  obtain⟨_,y,e2⟩:=zfb e;exact I.ok.cab y c (hfn y) e2
 refine⟨at_,fun c o e=>?_,fun c o e=>?_,fun c o e hs=>?_⟩
 ·obtain⟨_,y,e2⟩:=zfb e
  exact I.freeC y c e2
 ·exact Gv (B9 I.ok.bsz (big c o e))
 ·obtain⟨_,y,e2⟩:=zfb e
  rcases AU.mp (I.stkSub c hs) with z | z
  ·obtain⟨v,o',g,d⟩:=I.cell y c e2
   obtain⟨m,⟨o2,es,ep,g2,d2,_⟩,_⟩:=I.loc;rw[← z,g] at g2;cases g2;rw[d] at d2;cases d2
  ·obtain⟨_,o2,g2,_⟩:=I.ok.funs.mem z
   exact absurd (AL g2) (Nat.not_lt_of_le (big c o e))
theorem zwu{p:PV}{v:V}(I:L2.Inv X pins σ H s)(hfn:∀y,X.fn y=true)(h:PRep X H σ p v):Rep X.K (trC H (zid X s.heap (X.env.scope.names.map (·.1)))) p v:=by
 have hc:=zzd I hfn (X.env.scope.names.map (·.1));have ext:Same H (trC H (zid X s.heap (X.env.scope.names.map (·.1)))):=.of fun b o e=>by rw[za6 (hc.out e)];exact e
 cases p with
 | fn L cs=>
  obtain⟨f,c,pm,ct,xs,e,h1,h2,h3,h4,h5,h6,h7⟩:=h;refine⟨f,c,_,pm,ct,xs,e,ext _ _ h1,ext _ _ h2,h3,h4,?_,h6.same ext⟩
  have gen:∀(cl:List (Str×Addr))(zs:List V),zs.length=cl.length->(∀p∈cl,X.env.cells.lookup p.1=some p.2)->(∀(j:Nat)(y:Str),(cl.map (·.1))[j]?=some y->∃(i:Nat)(v:V),X.N[i]?=some y/\σ[i]?=some (some v)/\zs[j]?=some v/\X.env.scope.names.lookup y=some .cell)->
    ze5 (trC H (zid X s.heap (X.env.scope.names.map (·.1)))) cl zs:=by
   intro cl
   induction cl with
   | nil=>intro zs hl _ _;exact Bz hl
   | cons p r ih=>
    intro zs hl hm hj;cases zs with
    | nil=>cases hl
    | cons z zs=>
     obtain⟨i,v,n1,n2,n3,n4⟩:=hj 0 p.1 (by simp)
     simp at n3;subst n3;obtain⟨m,hn,hloc⟩:=I.loc;obtain⟨u,ru,lk⟩:=hloc i p.1 z n1 n2 (.inr (.inl n4));have hp:=hm p Ai;rcases lk with⟨k1,_⟩|⟨_,c',c1,o,c2,c3⟩
     ·have k1:X.env.scope.names.lookup p.1=some .local:=k1
      rw[n4] at k1;cases k1
     ·rw[hp] at c1
      cases c1;refine⟨z,zs,o,u,rfl,zju ?_,c3,ru,ih zs (by simpa using hl) (fun q hq=>hm q (Ah _ hq)) fun j y hy=>?_⟩
      ·rw[zm5 hp (AJ.mpr ⟨_,Ax n4,rfl⟩),c2];rfl
      ·obtain⟨i,v,a1,a2,a3,a4⟩:=hj (j+1) y (by simpa using hy)
       exact⟨i,v,a1,a2,by simpa using a3,a4⟩
  refine gen _ xs (by rw[h5,← h3,AI]) (fun p hp=>?_) fun j y hy=>h7 j y (by rw[← h3];exact hy)
  rcases zib hp with z | z
  ·exact z
  ·exact nomatch z
 | _=>exact Rep.same h.1 ext
theorem zle(I:L2.Inv X pins σ H s)(hfn:∀y,X.fn y=true):∀{ps:List PV}{vs:List V},PReps X H σ ps vs->Reps X.K (trC H (zid X s.heap (X.env.scope.names.map (·.1)))) ps vs
 | [],_,h=>h
 | p::ps,_,⟨x,r,e,h1,h2⟩=>⟨x,r,e,zwu I hfn h1,zle I hfn h2⟩
end
def zq3(fs:PSt->R (List PV))(F:List PV->Option PV):PSt->R PV:=fun ρ=>fs ρ >>= fun qs=>R.ofO (F qs) >>= fun z=>if noFn z=true then .ok z else .no
theorem zco.pl{K:A0}{H H':Hp}{a:Addr}{z:PV}(k:∀b u,H b=some u->(∀q,u≠.frz q (.own 0))->H' b=some u)(n:noFn z=true)(h:zco K H a z):zco K H' a z:=by
 have k2:∀b u,H b=some u->isPl u=true->H' b=some u:=fun b u e h=>k b u e (zql h)
 cases z with
 | lst ps=>obtain⟨xs,w,r⟩:=h;exact⟨xs,k _ _ w (fun _ h=>by cases h),Reps.pl k2 ps n r⟩
 | dct ks ps=>obtain⟨xs,w,e,r⟩:=h;exact⟨xs,k _ _ w (fun _ h=>by cases h),e,Reps.pl k2 ps n r⟩
 | dtt ks ps=>obtain⟨xs,w,e,r⟩:=h;exact⟨xs,k _ _ w (fun _ h=>by cases h),e,Reps.pl k2 ps n r⟩
 | _=>exact h
theorem zxs{C:Cn}{e:Expr}{es:List Expr}{fs:PSt->R (List PV)}{x:Str}{k:Nat}{F:List PV->Option PV}{p pos:C7}(G:PFN C.X.prog C.X.w C.X.K C.X.mg C.X.base k x F){kr:Nat}(hr:Room kr C.X.A)(ha:EL C (e::es) fs)
  (hdb:(x == ("__debug__":Str))=false:=by decide) (he:Ad (e::es) C.X.env=(false,BR e C.X.env)::Ad es C.X.env:=by exact zcq rfl) (hpl:(DH pos (Ad es C.X.env)).any (·.1)=false:=by exact zjf rfl) (hk:k<=kr:=by decide) (hg:Gl C.X x:=by exact rfl) (hfn:∀y,C.X.fn y=true:=by exact fun _=>rfl) :
  EN C (.Call (.Name x p) (e::es) [] pos) (zq3 fs F):=by
 replace hr:=hr.mono hk;obtain⟨f,fd,ps,a,b,c,d,l⟩:=G.ex;intro pins s σ H Q I ⟨ρ,vw,q⟩;refine DG (zo9 I hg b ?_ hdb)
 refine Gm (h₀:=C.X.base) I.ok.mod.kin c (thn (ha pos pins s σ H (fun vs H1=>∃qs z,PReps C.X H1 σ qs vs/\Same H H1/\F qs=some z/\noFn z=true/\∀a H',Same H H'->H a=none->zco C.X.K H' a z->Q (.ref a) H') I
  ⟨ρ,vw,q.bind.imp fun qs _ k1 vs H1 s1 r1=>?_⟩) fun us s1 ⟨vs,H1,I1,r,qs,z,r1,sm,ez,nz,k2⟩=>⟨I1.kIn,?_⟩) he hpl
 ·obtain⟨z,ez,k3⟩:=k1.bind.ofO
  split at k3
  ·rename_i hn
   exact⟨qs,z,r1,s1,ez,hn,fun v H' s' n' r'=>k3 v H' s' n' r'⟩
  ·exact AK k3
 ·have hc:=zzd I1 hfn (C.X.env.scope.names.map (·.1))
  have rr:=zle I1 hfn r1;have hl:=l qs z ez;have hv:vs.length=ps.length:=by rw[← rr.length];exact hl
  have ext:Same H1 (trC H1 (zid C.X s1.heap (C.X.env.scope.names.map (·.1)))):=.of fun b o e=>by rw[za6 (hc.out e)];exact e
  have hu:(us++[]).length=ps.length:=by rw[BY,← r.length];exact hv
  have hb:=d s1 us I1.kIn hu;rw[BY] at hb
  refine wpAny_call (Es (a.run C.X.A C.X.stack s1 _ ⟨us,[]⟩ us vs (fun v H'=>∃a,v=.ref a/\Same (trC H1 (zid C.X s1.heap (C.X.env.scope.names.map (·.1)))) H'/\trC H1 (zid C.X s1.heap (C.X.env.scope.names.map (·.1))) a=none/\zco C.X.K H' a z) E0 hr (env0C I1 hc) hb r
   ⟨hv,ext.tabs (sm.tabs vw.tb),qs,z,rr,ez,fun a H' s' n' r'=>⟨a,rfl,s',n',r'⟩⟩) fun r' s' hq=>?_)
  cases r' with
  | error e=>exact AK hq
  | ok fl=>
   cases fl with
   | ret u=>
    obtain⟨v,H',os,bare,un,hok,rv,a,ea,sm2,na,nw⟩:=hq;subst ea;refine Zfj I1 hc ⟨.ref a,H',os,bare,un,hok,rv,fun un=>k2 a _ (sm.trans (Zgs hc un sm2)) (sm.free (ext.free na)) (zco.pl (fun b u e h=>?_) nz nw)⟩
    rw[zbd (zp9 un e h)];exact e
   | next=>exact AK hq
   | brk=>exact AK hq
   | cont=>exact AK hq
end PU
section
namespace L2
open PySem PySem.Spec PyProof.Rows
theorem ztt{P:Ak}{w:Ar}{K:A0}{mg mb:Str->Option A9}{CX:CXT}{k:Nat}{fa a:Addr}{fd:By}{x:Str}{sp:Sp}{s₁:AD}{vs:List A9}{ns:List Int}
  (KX:K.In s₁.heap) (hns:s₁.heap.Ns mainGlobals mg) (hb:s₁.heap.Ns Ba mb) (hbb:∀x:Str,x≠"__name__"->mb x=CC x) (hlim:s₁.heap.NoLimit) (hg:s₁.gens=#[]) (ts:List Addr) (hts:∀P∈ts,s₁.heap.get? P=some (D5 #[])) (htc:∀P∈ts,∃c,Fh s₁.heap c P) (htk:∀P∈ts,K.lookup P=none)
  (hbn:∃bm o,mg "__builtins__"=some (.ref bm)/\bm≠Ba/\bm≠mainGlobals/\s₁.heap.get? bm=some o/\o.cls=.type "module"/\o.dict=some Ba/\o.data=.plain)
  (ha:s₁.heap.get? a=some { cls:=.type "list",data:=.seq vs.toArray }) (hi:Hg vs ns) (hl:ns.length<=sizeLine) (hr:Room k Ft)
  (F:∀base:Heap,K.In base->base.Ns mainGlobals mg->(∃bm o,mg "__builtins__"=some (.ref bm)/\bm≠Ba/\bm≠mainGlobals/\base.get? bm=some o/\o.cls=.type "module"/\o.dict=some Ba/\o.data=.plain)->FnOk P w K mg base CX k fa fd [x] sp) (hbind:∀(s:AD) (u:A9),GV s fd ⟨[u],[]⟩ [(x,u)])
  (hsp:∀H:Hp,(∀P∈ts,H P=some (.tbl #[]))->PU.SqF K H a (ns.map V.int)->sp [.ref a] H (fun v _=>v=.bl true) fun _ _ _=>False)
  (hCX:∀H e s',CX [] H s₁ (fun _ _ _=>False) e s'->False) :
  D0 (Ap P w) Ft (.call (.ref fa) ⟨[.ref a],[]⟩) (fun r s'=>r=.ok (.ret (.bool true))/\OldK s₁.heap s'.heap/\s'.os=s₁.os/\Ex s'.gens) s₁:=by
 have rv:=znb hi;have lenV:=hi.length
 have core:∀H:Hp,(∀b,H b=none\/(∃ob xs,H b=some (.frz ob (.lst xs)))\/(b∈ts/\H b=some (.tbl #[])))->PU.SqF K H a (ns.map V.int)->HOk P w H s₁.heap->(∀b,H b≠none->b=a\/b∈ts)->(∀P∈ts,H P=some (.tbl #[]))->(H a≠none->K.lookup a=none)->
   D0 (Ap P w) Ft (.call (.ref fa) ⟨[.ref a],[]⟩) (fun r s'=>r=.ok (.ret (.bool true))/\OldK s₁.heap s'.heap/\s'.os=s₁.os/\Ex s'.gens) s₁:=by
  intro H hO hS hok hA hT hK;have base_of:∀{b:Addr}{o:Bi},s₁.heap.get? b=some o->H b=none->(hidT s₁.heap H).get? b=some o:=fun e n=>zxi e n
  have noA:∀{b:Addr}{o:Bi}{es:Array DictEntry}{ep:Nat},s₁.heap.get? b=some o->o.data=.dict es ep->H b=none:=fun {b o es ep} e d=>by
   cases q:H b with
   | none=>rfl
   | some u=>
    rcases hA b (by rw[q];simp) with e' | e'
    ·subst e'
     rw[ha] at e;cases e;have d':Data.seq vs.toArray _=Data.dict es ep:=d;cases d'
    ·rw[hts b e'] at e;cases e
     cases d
  have nsK:∀{b:Addr}{m:Str->Option A9},s₁.heap.Ns b m->(hidT s₁.heap H).Ns b m:=fun {b m} ⟨o,es,ep,e,d,r⟩=>⟨o,es,ep,base_of e (noA e d),d,r⟩
  have hKb:K.In (hidT s₁.heap H):=fun b o e=>base_of (KX b o e) (by
   cases q:H b with
   | none=>rfl
   | some u=>
    rcases hA b (by rw[q];simp) with e' | e'
    ·subst e'
     rw[hK (by rw[q];simp)] at e;cases e
    ·rw[htk b e'] at e;cases e)
  obtain⟨bm,ob,b1,b2,b3,b4,b5,b6,b7⟩:=hbn
  have hbm:H bm=none:=by
   cases q:H bm with
   | none=>rfl
   | some u=>
    rcases hA bm (by rw[q];simp) with e' | e'
    ·rw[e',ha] at b4;cases b4;cases b7
    ·rw[hts bm e'] at b4;cases b4;cases b5
  have hM:Mod K mg (hidT s₁.heap H):=⟨hKb,nsK hns,⟨mb,nsK hb,hbb⟩,let ⟨mc,h1,h2⟩:=hlim;⟨mc,nsK h1,h2⟩⟩
  have e0:Env0 P w K mg (hidT s₁.heap H) Ft [] s₁ H:=⟨rfl,hM,fun b o e=>Zal e,Gs (zuc _ _),trivial,fun b hb=>absurd (show b∈([]:List Addr) from hb) (by simp),hok,.of_eq hg⟩
  refine Es ((F _ hKb (nsK hns) ⟨bm,ob,b1,b2,b3,base_of b4 hbm,b5,b6,b7⟩).run Ft [] s₁ H ⟨[.ref a],[]⟩ [.ref a] [.ref a] _ _ hr e0 (hbind s₁ (.ref a)) (.cons rfl .nil) (hsp H hT hS)) fun r s' h=>?_
  cases r with
  | error e=>exact(hCX H e s' h).elim
  | ok fl=>
   cases fl with
   | next=>exact AK h
   | brk=>exact AK h
   | cont=>exact AK h
   | ret u=>
    obtain⟨v,H',os,bare,un,hok',r',q⟩:=h;have q':v=.bl true:=q;subst q';obtain rfl:u=EK true:=r';refine⟨rfl,⟨fun b o e=>?_,fun b o e=>un.there b o e (by simp)⟩,os,bare⟩
    cases q:H b with
    | none=>exact .inl (un.keep b o e q (by intro z;exact absurd (show b∈([]:List Addr) from z) (by simp)) (by simp))
    | some u=>
     rcases hO b with z | ⟨ob,xs,z⟩|⟨hb,z⟩
     ·rw[q] at z;cases z
     ·have z2:=un.frzs b ob _ z
      obtain⟨e1,_⟩:=hok b _ z;obtain⟨e2,_⟩:=hok' b _ z2;rw[e] at e1;cases e1;exact .inl e2
     ·obtain⟨more,z2⟩:=un.tbls b _ z
      have e2:s'.heap.get? b=some (D5 (#[]++more)):=hok' b _ z2;have e1:=hts b hb;obtain⟨c,hc⟩:=htc b hb;have tc:=(hc.tab e1).isCodeTable;rw[e] at e1;cases e1;exact .inr (.inl ⟨tc,rfl,#[],more,rfl,e2⟩)
 have nta:∀P∈ts,P≠a:=fun P hP z=>by rw[z] at hP;have:=hts a hP;rw[ha] at this;cases this
 cases hk:K.lookup a with
 | some o=>
  have e:=KX a o hk;rw[ha] at e;cases e;refine core (fun b=>if b∈ts then some (.tbl #[]) else none) (fun b=>?_) (.inr ⟨vs,_,hk,by rw[AI];exact hl,rv⟩) (fun b u z=>?_) (fun b z=>?_) (fun P hP=>if_pos hP) fun z=>absurd (if_neg fun h=>nta a h rfl) z
  ·by_cases hb:b∈ts
   ·exact .inr (.inr ⟨hb,if_pos hb⟩)
   ·exact .inl (if_neg hb)
  ·by_cases hb:b∈ts
   ·have z':=(if_pos hb).symm.trans z
    cases z';exact hts b hb
   ·have z':=(if_neg hb).symm.trans z
    cases z'
  ·by_cases hb:b∈ts
   ·exact .inr hb
   ·exact absurd (if_neg hb) z
 | none=>
  refine core (fun b=>if b=a then some (.frz { cls:=.type "list",data:=.seq vs.toArray } (.lst (ns.map V.int))) else if b∈ts then some (.tbl #[]) else none) (fun b=>?_) (.inl ⟨{ cls:=.type "list",data:=.seq vs.toArray },if_pos rfl⟩) (fun b u z=>?_) (fun b z=>?_) (fun P hP=>by
   show (if P=a then _ else if P∈ts then _ else _)=_
   rw[if_neg (nta P hP),if_pos hP]) fun _=>hk
  ·by_cases hb:b=a
   ·exact .inr (.inl ⟨_,_,if_pos hb⟩)
   ·by_cases hb2:b∈ts
    ·exact .inr (.inr ⟨hb2,(if_neg hb).trans (if_pos hb2)⟩)
    ·exact .inl ((if_neg hb).trans (if_neg hb2))
  ·by_cases hb:b=a
   ·have z':=(if_pos hb).symm.trans z
    cases z';subst hb;exact⟨ha,by rw[AI];exact hl,vs,_,rv,ha⟩
   ·by_cases hb2:b∈ts
    ·have z':=((if_neg hb).trans (if_pos hb2)).symm.trans z
     cases z';exact hts b hb2
    ·have z':=((if_neg hb).trans (if_neg hb2)).symm.trans z
     cases z'
  ·by_cases hb:b=a
   ·exact .inl hb
   ·by_cases hb2:b∈ts
    ·exact .inr hb2
    ·exact absurd ((if_neg hb).trans (if_neg hb2)) z
theorem walk_ofT{l:FP}{n k:Nat}{q:Ak}{loose:List Str}{XP:(Str->Option A9)->Heap->Prop}{YP:Ar->Heap->Prop}{d:DefRec}{K:Params->A0}{CX:Ar->CXT}{sp:Ar->Sp}{x:Str}
  (hn:l.most=some n) (hn2:n<=sizeLine) (hdf:d.params.defaults=[]) (hr:Room k Ft) (ts:List Addr)
  (hY:∀(w:Ar)(h:Heap),YP w h->(K w.params).In h) (hT:∀(w:Ar)(h:Heap),YP w h->∀P∈ts,h.get? P=some (D5 #[])) (hC:∀(w:Ar),∀P∈ts,∃c,Dx (K w.params) c P=true) (hL:∀(w:Ar),∀P∈ts,(K w.params).lookup P=none)
  (F:∀(w:Ar)(mg:Str->Option A9)(fa:Addr)(h:Heap),(K w.params).In h->h.Ns mainGlobals mg->mg d.name=some (.ref fa)->
   ∃fd:By,(∀(s:AD)(u:A9),GV s fd ⟨[u],[]⟩ [(x,u)])/\
    ∀base:Heap,(K w.params).In base->base.Ns mainGlobals mg->(∃bm o,mg "__builtins__"=some (.ref bm)/\bm≠Ba/\bm≠mainGlobals/\base.get? bm=some o/\o.cls=.type "module"/\o.dict=some Ba/\o.data=.plain)->
     FnOk l.prog w (K w.params) mg base (CX w) k fa fd [x] (sp w))
  (hsp:∀(w:Ar)(H:Hp)(a:Addr)(ns:List Int),ns.length<=n->(∀P∈ts,H P=some (.tbl #[]))->PU.SqF (K w.params) H a (ns.map V.int)->sp w [.ref a] H (fun v _=>v=.bl true) fun _ _ _=>False)
  (hCX:∀(w:Ar)(H:Hp)(s:AD)(e:A9)(s':AD),CX w [] H s (fun _ _ _=>False) e s'->False) :
  PySem.W.WalkO q loose XP YP l.row.toRowW d [] (fun f vs=>HH f vs):=by
 refine Att.attach_call hn hdf fun w s₀ s₁ mg mb fa o pm cd doc a vs ns G Y ho hd hcd hmg hobj hints hlen hg=>?_
 have KX:=hY w _ Y;obtain⟨fd,hb,hF⟩:=F w mg fa _ KX G.T.g hmg;obtain⟨bm,ob,b1,b2,b3,b4,b5,b6⟩:=G.T.bmain
 have hbG:bm≠mainGlobals:=fun q=>by
  obtain⟨o,es,ep,e,hd,_⟩:=G.T.g;rw[q,e] at b3;cases b3;rw[hd] at b6;cases b6
 exact ztt KX G.T.g G.T.b G.T.builtins G.T.nolimit hg ts (hT w _ Y) (fun P hP=>let ⟨c,hc⟩:=hC w P hP;⟨c,En KX hc⟩) (hL w) ⟨bm,ob,b1,b2,hbG,b3,b4,b5,b6⟩ hobj hints (B9 hlen hn2) hr hF hb (fun H hT hS=>hsp w H a ns hlen hT hS) fun H e s'=>hCX w H s₁ e s'
end L2
namespace PU
theorem tabs0[TW]{H:L2.Hp}{ts:List PySem.Addr}(e:TW.tabs=ts)(h:∀P∈ts,H P=some (.tbl #[])):Tabs H:=fun P hP=>⟨#[],h P (e▸hP),trivial,fun pos v h=>by cases h⟩
end PU
end
namespace PU
section
variable{g g' : PSt → R Fl}{t : PSt → R Bool}{f fk fv : PSt → R PV}{i : Nat}
theorem zli(ρ:PSt)(p:PV):zca ρ≠.ok (.ret p):=fun h=>by cases h
theorem zvj(ρ:PSt)(p:PV):brkF ρ≠.ok (.ret p):=fun h=>by cases h
theorem zf4(h1:∀ρ p,g ρ≠.ok (.ret p))(h2:∀ρ p,g' ρ≠.ok (.ret p))(ρ:PSt)(p:PV):seqF g g' ρ≠.ok (.ret p):=by
 unfold seqF;intro e;cases h:g ρ with
 | ok fl=>
  rw[h,R.ok_bind] at e;cases fl with
  | next ρ2=>exact h2 ρ2 p e
  | brk ρ2=>cases e
  | cont ρ2=>cases e
  | ret q=>exact h1 ρ q h
 | er x=>rw[h] at e;cases e
 | no=>rw[h] at e;cases e
theorem zqn(h1:∀ρ p,g ρ≠.ok (.ret p))(h2:∀ρ p,g' ρ≠.ok (.ret p))(ρ:PSt)(p:PV):ifF t g g' ρ≠.ok (.ret p):=by
 unfold ifF;intro e;cases h:t ρ with
 | ok b=>
  rw[h,R.ok_bind] at e;cases b with
  | true=>rw[if_pos rfl] at e;exact h1 ρ p e
  | false=>rw[if_neg AM] at e;exact h2 ρ p e
 | er x=>rw[h] at e;cases e
 | no=>rw[h] at e;cases e
theorem zvy{n:Nat}(hg:∀ρ p,g ρ≠.ok (.ret p))(ρ:PSt)(p:PV):whS n t g ρ≠.ok (.ret p):=by
 unfold whS
 induction n generalizing ρ with
 | zero=>intro e;cases e
 | succ n ih=>
  intro e;unfold whF at e;cases h:t ρ with
  | ok b=>
   rw[h,R.ok_bind] at e;cases b with
   | true=>
    rw[if_pos rfl] at e;cases h2:g ρ with
    | ok fl=>
     rw[h2,R.ok_bind] at e;cases fl with
     | next ρ2=>exact ih ρ2 e
     | cont ρ2=>exact ih ρ2 e
     | brk ρ2=>cases e
     | ret q=>exact hg ρ q h2
    | er x=>rw[h2] at e;cases e
    | no=>rw[h2] at e;cases e
   | false=>rw[if_neg AM] at e;cases e
  | er x=>rw[h] at e;cases e
  | no=>rw[h] at e;cases e
theorem zvn(i:Nat)(f:PSt->R PV)(ρ:PSt)(p:PV):augF i f ρ≠.ok (.ret p):=by
 unfold augF;intro h;split at h
 ·cases hf:f ρ with
  | ok q=>
   rw[hf,R.ok_bind] at h;split at h <;> cases h
  | er x=>rw[hf] at h;cases h
  | no=>rw[hf] at h;cases h
 ·cases h
theorem zrh(i:Nat)(fk fv:PSt->R PV)(ρ:PSt)(p:PV):zk0 i fk fv ρ≠.ok (.ret p):=by
 unfold zk0;intro h;split at h
 ·cases hf:fv ρ with
  | ok q=>
   rw[hf,R.ok_bind] at h;cases hk:fk ρ with
   | ok kp=>
    rw[hk,R.ok_bind] at h;cases ht:toTK kp with
    | some k=>
     rw[ht,R.ofO_some,R.ok_bind] at h;split at h <;> cases h
    | none=>rw[ht] at h;cases h
   | er x=>rw[hk] at h;cases h
   | no=>rw[hk] at h;cases h
  | er x=>rw[hf] at h;cases h
  | no=>rw[hf] at h;cases h
 ·cases h
end
end PU
namespace PU
open PySem PySem.Spec PyProof.Rows L2 PySem.SeqAt
section
variable{P : Ak}{w : Ar}{K : A0}{mg : Str → Option A9}{base : Heap}
theorem Fun.okC{x qual:Str}{st:Stmt}{f:Addr}{fd:By}{N ps:List Str}{k:Nat}{sp:Sp}(F:Fun K x qual st f fd)(S:FnScope N ps (zad st))(len:∀vs H Q E,sp vs H Q E->vs.length=ps.length)
  (hbody:∀(cdv:A9),cdv=fd.code->∀(A:B0)(outer:List FY)(s:AD)(H:Hp)(vs:List V)(Q:VK)(E:XK),Room k (A.deeper (DY qual (zad st) s.heap.objs.size f cdv))->sp vs H Q E->
   ∃t,PSs (cxOf CX0 P w K mg base N qual (zad st) f cdv A outer s H E).nox (zbr st) t/\t { nx:=fun _ H'=>Q .non H',rt:=Q } (L2.start N vs) H):FnOk P w K mg base CX0 (k+1) f fd ps sp:=by
 obtain⟨oc,od,kV,doc,pm,an,cdv,ct,osl,rfl,lk,hcd⟩:=F.ex;refine Zex lk hcd S len fun A outer s H vs Q E hr hsp=>?_
 obtain⟨t,h,q⟩:=hbody cdv rfl A outer s H vs Q E hr hsp;exact⟨t,h.nox,q⟩
variable[TW]
theorem zww{x qual:Str}{st:Stmt}{f:Addr}{fd:By}{N ps:List Str}{k:Nat}{g:PSt->R Fl}(F:Fun K x qual st f fd)(S:FnScope N ps (zad st))(hm:mg x=some (.ref f))(hb:Binds K fd ps [])
  (hbody:∀(cdv:A9),cdv=fd.code->∀(A:B0)(outer:List FY)(s:AD)(H:Hp)(E:XK),Room k (A.deeper (DY qual (zad st) s.heap.objs.size f cdv))->SVN (cnOf P w K mg base N qual (zad st) f cdv A outer s H E) (zbr st) g)
  (hr:∀ρ,(∃p,g ρ=.ok (.ret p))\/∀fl,g ρ≠.ok fl) :
  PFN P w K mg base (k+1) x (runF ps.length N.length g):=by
 refine⟨f,fd,ps,Fun.okC F S (fun vs H Q E h=>h.1) (fun cdv hcdv A outer s H vs Q E hr' h=>?_),hm,F.kp,hb,fun qs p h=>?_⟩
 ·obtain⟨hl,tb,qs,p,r,e0,k⟩:=h
  refine⟨_,hbody cdv hcdv A outer s H E hr',start N.length qs,(H,H),zje tb r,?_⟩;unfold runF at e0;rw[if_pos (by rw[r.length];exact hl)] at e0
  rcases hr (start N.length qs) with⟨q,hq⟩ | hq
  ·rw[hq] at e0 ⊢
   cases e0;exact fun a H' s' n' w'=>k a H' s' n' w'
  ·cases hg:g (start N.length qs) with
   | ok fl=>exact absurd hg (hq fl)
   | er x=>rw[hg] at e0;cases e0
   | no=>rw[hg] at e0;cases e0
 ·unfold runF at h
  split at h
  ·rename_i hl;exact hl
  ·cases h
end
def lamR(n:Nat)(fe:PSt->R PV)(qs cs:List PV):Option PV:=if qs.length=n then (match fe ((qs++cs).map .val) with
 | .ok p=>some p
 | _=>none) else none
theorem ztw{n:Nat}{fe:PSt->R PV}{qs cs:List PV}{p:PV}(h:lamR n fe qs cs=some p):qs.length=n/\fe ((qs++cs).map .val)=.ok p:=by
 unfold lamR at h;split at h
 ·rename_i hl
  refine⟨hl,?_⟩;split at h
  ·rename_i q hq;cases h;exact hq
  ·cases h
 ·cases h
def Za0(q:Str)(kept:List Str)(sc:Scope):Expr->Lam
 | .Lambda a b s _=>⟨q,a,b,s,kept⟩
 | e=>⟨q,⟨[],[],none,[],[],none,[]⟩,e,sc,kept⟩
def zyf(j:Nat)(e0:Expr):Stmt->Expr
 | .Return (some (.Call _ as _ _)) _=>as.getD j e0
 | _=>e0
def zyw(p:C7):Expr->C7
 | .Lambda _ _ _ p=>p
 | _=>p
theorem LScope.of{ps fr:List Str}{sc:Scope}(kind:sc.kind=.function)(co:sc.isCoroutine=false)(gen:sc.isGenerator=false)(nocell:∀x∈sc.names,x.2≠.cell)(par:∀x∈ps,sc.names.lookup x=some .local)
  (fre:∀y∈sc.names,y.2=.free->y.1∈fr) (frk:∀x∈fr,sc.names.lookup x=some .free) (nd:(ps++fr).Nodup):LScope ps fr sc:=
 ⟨kind,co,gen,nocell,par,fun x h=>fre _ (Ax h) rfl,frk,nd⟩
end PU
namespace PU
open PySem PySem.Spec PyProof.Rows L2 PySem.SeqAt
def zou(i:Nat)(fk fv:PSt->R PV):PSt->R Fl:=fun ρ=>match ρ[i]? with
 | some (.own (.dct ks ps))=>fk ρ >>= fun kp=>fv ρ >>= fun p=>R.ofO (zfe kp) >>= fun k=>if ks.length<16777216 then .ok (.next (if (ks.any fun j=>decide (j=k))=true then ρ else ρ.set i (.own (putP ks ps k p)))) else .no
 | _=>.no
def Zgv:V->List V->Hp->VK->Prop:=fun x vs H Q=>∃a kvs k v,x=.ref a/\vs=[kV k,v]/\H a=some (.dK kvs)/\kvs.length<sizeLine/\
 ((∃w,valV kvs k=some w/\Q w H)\/(valV kvs k=none/\Q v (upd H a (.dK (putK kvs k v)))))
theorem Zau {X:Cx}:MtM X "dict.setdefault" Zgv:=by
 intro pins s σ H x vs v us Q I rx rv h;obtain⟨a,kvs,k,y,rfl,rfl,hH,hl,q⟩:=h;cases rx;obtain⟨u1,u2,rfl,r1,r2⟩:=Vals.two rv;obtain⟨z,hd,ws,rel,dd⟩:=Zbs I.hok hH;have hz:ws.length<=sizeLine:=by rw[← rel.length];exact z
 refine Ha FQ dd.typeIs PySem.F.entry_dict_setdefault (PySem.F.args_dict_setdefault_3 _ _ _) (PySem.kt_meets_setdefault (zao X.prog X.w) a (zk2 r1) hd u2) ⟨ws,dd,hz,fun v' hv'=>?_,fun hn h' dd' hs=>?_⟩
 ·rcases q with⟨w,ew,q⟩|⟨en,_⟩
  ·obtain⟨w',hw',rw'⟩:=RelO.some_of (v:=w) (o:=Bn ws k) (by rw[← ew];exact rel.val k)
   rw[hv'] at hw';cases hw';exact⟨w,H,I.tok _,rw',q⟩
  ·have:Bn ws k=none:=RelO.none_of (by rw[← en];exact rel.val k)
   rw[this] at hv';cases hv'
 ·rcases q with⟨w,ew,_⟩|⟨en,q⟩
  ·obtain⟨w',hw',_⟩:=RelO.some_of (v:=w) (o:=Bn ws k) (by rw[← ew];exact rel.val k)
   rw[hn] at hw';cases hw'
  ·have hl2:(putK kvs k y).length<=sizeLine:=by have:=zec kvs k y;omega
   have he:∃q,h'.get? a=some q:=let ⟨q,_,_,hq,_⟩:=dd';⟨q,hq⟩
   exact⟨y,_,zkn I (by rw[hH];exact CQ) hs he (zu6 hl2 hd (rel.put k r2) dd'),r2,q⟩
variable[TW]
theorem zsm{C:Cn}{pos apos cpos:C7}{ke e:Expr}{fk fv:PSt->R PV}(i:Nat){x:Str}{np:C7}(hk:EV C ke fk)(he:EV C e fv)(hN:C.X.N[i]?=some x:=by rfl)(hv:Vis C.X.env.scope x:=by first | exact Dc rfl | exact DZ (Dc rfl))
  (hs:Ad [ke,e] C.X.env=[(false,BR ke C.X.env),(false,BR e C.X.env)]:=by rfl) (hs2:Ad [e] C.X.env=[(false,BR e C.X.env)]:=by exact zbm rfl)
  (hb:DA (.Name x np) "setdefault" C.X.env (BR (.Name x np) C.X.env)=BR (.Name x np) C.X.env:=by rfl) (hline:(apos.endLine == cpos.line)=true:=by rfl)
  (hd:(x == ("__debug__":Str))=false:=by decide) (hcd:(x == ("__classdict__":Str))=false:=by decide):SV C (.Expr (.Call (.Attribute (.Name x np) "setdefault" apos) [ke,e] [] cpos) pos) (zou i fk fv):=by
 intro pins s σ H D I ⟨ρ,B,S,q⟩;unfold zou at q;split at q
 ·rename_i ks ps e1
  obtain⟨a,e2,kvs,hx,ek,rr⟩:=S.vw i _ e1;refine zoz (zw0 Dy FQ PySem.F.type_dict_setdefault Zau (zeb hN hv hd hcd) (zb0 hk (zb0 he ze7 hs2) (by rw[hs,hs2])) hb (by rw[hs];rfl) hline (by rw[hs,hs2]) (by rw[hs2];rfl)) (by rfl) pins s σ H D I ?_
  refine⟨_,e2,.inr (.inr (.inl ⟨rfl,.inl ⟨kvs,hx⟩⟩)),ρ,S.vw,(RS.bind q S.same).imp fun kp _ q1 y H1 s1 r1=>⟨ρ,S.vw.same s1,(q1.bind (S.same.trans s1)).imp fun p _ q2 v H2 s2 r2=>?_⟩⟩
  obtain⟨k,e3,q3⟩:=RS.ofO q2
  by_cases hl:ks.length<16777216
  ·rw[if_pos hl] at q3
   have hy:=zdo e3 r1.o;subst hy;subst ek;have hx2:H2 a=some (.dK kvs):=s2 _ _ (s1 _ _ hx);refine⟨a,kvs,k,v,rfl,rfl,hx2,by rw[B2];simpa using hl,?_⟩
   have hany:((kvs.map (·.1)).any fun j=>decide (j=k))=(valV kvs k).isSome:=by
    rw[← zho,CN];rfl
   cases ev:valV kvs k with
   | some w=>
    rw[ev] at hany;have hany:((kvs.map (·.1)).any fun j=>decide (j=k))=true:=hany
    rw[if_pos hany] at q3;exact .inl ⟨w,rfl,q3 σ H2 ((S.grow s1).grow s2)⟩
   | none=>
    rw[ev] at hany;have hany:((kvs.map (·.1)).any fun j=>decide (j=k))=false:=hany
    rw[if_neg (by rw[hany];exact AM)] at q3
    refine .inr ⟨rfl,?_⟩;have kp:Kp H2 (upd H2 a (.dK (putK kvs k v))):=Kp.upd hx2 rfl;refine q3 σ _ (((S.grow s1).grow s2).turn e1 e2 (fun b hb=>zal hb) ⟨a,rfl,?_⟩)
    exact zmg (Reps.kp kp _ ((rr.same s1).same s2)) (Rep.kp kp _ r2) zak
  ·rw[if_neg hl] at q3
   exact AK q3
 ·exact AK q
end PU
namespace PU
open PySem PySem.Spec PyProof.Rows L2 PySem.SeqAt
variable[TW]
section
variable{C : Cn}{tg iter : Expr}{scope : Scope}{pos epos : C7}{N' : List Str}{nt : Nat}{idx : List Nat}{h : Tgt}{fi : PSt → R (List PV)}
structure Ls0(H:Hp)(D:Addr)(bs:List Addr):Prop where
 out:H D=some (.lst (bs.map .ref))
 nin:D ∉ bs
 nd:bs.Nodup
theorem zrz{pins:List (Addr×Bi)}{σ:L2.St}{H₂:Hp}{s₂:AD}{J:It}{fp:List Addr}{it:Addr}{tn:Nat->Heap->Prop}{ρ:PSt}{ps:List PV}{RR:A9->Addr->Gn->AD->Prop}{E:A9->AD->Prop}
  (O:CompOk C.X.N C.X.env.scope scope N' nt idx) (hc:C.X.calm=true) (hg:∀cl L s H fp,TCt (zcl C N' scope cl L s H fp) tg h) (hlow:LowT nt h)
  (I:Inv C.X pins σ H₂ s₂) (T:Turn C.X.prog C.X.w C.X.K tg J fp it tn) (st:tn 0 s₂.heap) (hf:∀b∈fp,FpOk C.X pins H₂ b) (vw:View C.X.K H₂ σ ρ) (ip:ItP C.X.K J H₂ ps)
  (hq:∀p∈ps,∃ρ1,h p (zbh nt idx ρ)=some ρ1) (hz:ps.length<=sizeLine)
  (hRR:∀D L σ' H' s' bs,Inv (zbi C.X N' scope (clOf C.X.env.cells scope.names []) L s₂ H₂ fp) [] σ' H' s'->Same H₂ H'->H₂ D=none->Ls0 H' D bs->bs.length=ps.length->(∀b∈bs,H₂ b=none/\H' b=some (.lst []))->s₂.heap.objs.size<=L->RR (.ref D) L (.ok .next) s') :
  Af (Ap C.X.prog C.X.w) C.X.A (GR []) (fun acc s₃=>Af (Ap C.X.prog C.X.w) C.X.A (Gh scope C.X.env.globals (clOf C.X.env.cells scope.names []) [] C.X.env.qual none .none (some C.X.env)) (fun cenv s₄=>
   D0 (Ap C.X.prog C.X.w) C.X.A (.compStart (.ListComp (.List [] epos) [⟨tg,iter,[],0⟩] scope pos) 0 (.ref it) acc { cenv with scope:=HY scope C.X.env }) (RR acc cenv.locals) s₄) E s₃) E s₂:=by
 refine Bt (Dl O.cell (by intro y hy;simp at hy) (fun h₁ hns₁ hsb₁=>?_) O.kind)
 dsimp only at hns₁ hsb₁ ⊢;generalize hG:s₂.heap.push { cls:=.type "list",dict:=none,data:=.seq ([]:List A9).toArray }=G at hns₁ hsb₁ ⊢;have hC:G.objs.size=s₂.heap.objs.size+1:=by rw[← hG,DB]
 have hDL:s₂.heap.objs.size≠G.objs.size:=by rw[hC];exact AZ (EX _)
 have keep:∀b o,s₂.heap.get? b=some o->h₁.get? b=some o:=fun b o e=>
  hsb₁.extBut b o (by rw[hC];exact AZ (C1 (AL e))) (AC _ (hG▸AC _ e))
 have acc:h₁.get? s₂.heap.objs.size=some { cls:=.type "list",data:=.seq ([]:List A9).toArray }:=hsb₁.extBut _ _ hDL (AC _ (hG▸Aa _ rfl));have nD:H₂ s₂.heap.objs.size=none:=I.fresh;have hGe:s₂.heap.objs.size<=G.objs.size:=by rw[hC];exact De _
 obtain⟨σ0,I0,vw0,hl0,fl⟩:=ziy O hc I T st hf vw (L:=G.objs.size) (tk:=s₂.toks+([]:List (Str×A9)).length) rfl hGe hDL (by simpa using hns₁) keep acc
 have fpk:∀{H':Hp}{pins':List (Addr×Bi)},(∀b∈fp,H' b=none)->(∀p∈pins',p.1 ∉ fp)->∀b∈fp,FpOk (zbi C.X N' scope (clOf C.X.env.cells scope.names []) G.objs.size s₂ H₂ fp) pins' H' b:=fun {H' pins'} hn hp b hb=>by
  obtain⟨g1,g2,g3,g4,g5,g6⟩:=hf b hb;refine⟨hn b hb,AZ (AR (fl b hb) hGe),fun z=>?_,.inl hb,fun x c e=>?_,fun p hp' z=>?_⟩
  ·exact(AU.mp (I.stkSub b z)).elim g2 g3
  ·rcases zcc e with z | z
   ·exact g5 x c z
   ·cases z
  ·subst z
   exact hp p ((show p∈([]:List (Addr×Bi))++pins' from hp')) hb
 have loop:D0 (Ap C.X.prog C.X.w) C.X.A (.compLoop (.ListComp (.List [] epos) [⟨tg,iter,[],0⟩] scope pos) 0 (.ref it) (.ref s₂.heap.objs.size) (Em scope (clOf C.X.env.cells scope.names []) G.objs.size C.X.env))
   (RR (.ref s₂.heap.objs.size) G.objs.size) { s₂ with heap:=h₁,toks:=s₂.toks+([]:List (Str×A9)).length }:=by
  refine zgw (fun n s=>∃i σ' H' bs,n=ps.length-i/\i<=ps.length/\Inv (zbi C.X N' scope (clOf C.X.env.cells scope.names []) G.objs.size s₂ H₂ fp) [] σ' H' s/\tn i s.heap/\(∀b∈fp,H' b=none)/\Same H₂ H'/\
   Ls0 H' s₂.heap.objs.size bs/\bs.length=i/\(∀b∈bs,H₂ b=none/\H' b=some (.lst []))/\View C.X.K H' σ' (zbh nt idx ρ)/\(zbh nt idx ρ).length=σ'.length) ?_ ps.length
   ⟨0,σ0,_,[],rfl,B3 _,I0,T.keep _ _ _ st fun b _ o e=>keep b o e,fun b hb=>?_,Same.new nD,⟨zak,by simp,by simp⟩,rfl,by simp,vw0,hl0⟩
  ·rintro n s ⟨i,σ',H',bs,rfl,hi,I',st',fr',sm',ls',bl',bo',vw',hl'⟩
   obtain⟨stp,stepp⟩:=ip i H' (Same.kp sm')
   by_cases hlt:i<ps.length
   ·have ei:ps[i]?=some ps[i]:=by simp[hlt]
    obtain⟨go,yl⟩:=stepp _ ei;obtain⟨ρ1,e1⟩:=hq ps[i] (Bh hlt);obtain⟨l1,low1⟩:=hlow _ _ _ e1;refine thn (T.item (zbi C.X N' scope (clOf C.X.env.cells scope.names []) G.objs.size s₂ H₂ fp) rfl rfl rfl rfl i [] s σ' H' _ I' (fpk fr' (by simp)) st' go) fun r s1 ⟨u,hr,h4⟩=>?_
    subst hr;refine thn h4 fun _ s2 ⟨x,H3,I3,r3,y3,st3,fr3⟩=>?_
    obtain⟨sm3,rp3⟩:=yl x H3 y3;have I3':=I3.pinned (fpk fr3 (by simp)) (T.obj _ _ st3)
    refine thn (hg _ _ _ _ _ _ s2 σ' H3 x u (fun σ4 H4=>H4=H3/\ρ1.length=σ4.length/\View C.X.K H4 σ4 ρ1) I3' r3 ⟨_,_,ρ1,hl',vw'.same sm3,rp3,e1,fun σ4 hl4 vw4=>⟨rfl,hl4,vw4⟩⟩) fun _ s4 ⟨σ4,H4,I4,q4⟩=>?_
    obtain⟨rfl,hl4,vw4⟩:=q4;refine thn (GP (Q:=TP (zbi C.X N' scope (clOf C.X.env.cells scope.names []) G.objs.size s₂ H₂ fp) ([]++zg3 fp s2.heap) σ4 (fun b' H5=>b'=true/\H5=H4)) ⟨H4,I4,rfl,rfl⟩) fun b' s5 ⟨H5,I5,eb,eh⟩=>?_
    subst eb eh
    have fin:∀{H7:Hp}{s7:AD},Inv (zbi C.X N' scope (clOf C.X.env.cells scope.names []) G.objs.size s₂ H₂ fp) ([]++zg3 fp s2.heap) σ4 H7 s7->Inv (zbi C.X N' scope (clOf C.X.env.cells scope.names []) G.objs.size s₂ H₂ fp) [] σ4 H7 s7/\tn (i+1) s7.heap/\∀b∈fp,H7 b=none:=fun {H7 s7} I7=>by
     refine⟨I7.unpinned,T.keep _ _ _ st3 fun b hb o e=>(I7.pin (b,o) (Ab _ (Ab _ (zc1 hb e)))).1,fun b hb=>?_⟩
     obtain⟨o,e,_⟩:=T.obj _ _ st3 b hb;exact(I7.pin (b,o) (Ab _ (Ab _ (zc1 hb e)))).2.1
    have vw5:View C.X.K H5 σ4 (zbh nt idx ρ):=View.weak vw4 low1 fun i l hi e=>zkr hi e
    have hl5:(zbh nt idx ρ).length=σ4.length:=by rw[← l1];exact hl4
    rw[if_pos rfl];have he:EN (zcl C N' scope (clOf C.X.env.cells scope.names []) G.objs.size s₂ H₂ fp) (.List [] epos) (lstF nilA):=zdz zag;refine thn (he _ s5 σ4 H5 (fun v H6=>∃b,v=.ref b/\Same H5 H6/\H5 b=none/\H6 b=some (.lst [])) I5 ⟨ρ1,vw4,fun b H6 sm n ⟨xs,w,r⟩=>⟨b,rfl,sm,n,by cases r;exact w⟩⟩) fun u6 s6 ⟨v,H6,I6,r6,b,ev,sm6,nb,hb6⟩=>?_
    subst ev;have smd:Same H' H6:=sm3.trans sm6;have hD6:H6 s₂.heap.objs.size=some (.lst (bs.map .ref)):=smd _ _ ls'.out
    have bD:b≠s₂.heap.objs.size:=fun z=>by
     subst z;rw[sm3 _ _ ls'.out] at nb;cases nb
    have bN:b ∉ bs:=fun z=>by
     rw[sm3 _ _ (bo' b z).2] at nb;cases nb
    have hx:(bs.map V.ref).length<sizeLine:=by rw[AI];omega
    refine thn (zgj (X:=zbi C.X N' scope (clOf C.X.env.cells scope.names []) G.objs.size s₂ H₂ fp) _ s6 σ4 H6 (.ref s₂.heap.objs.size) [.ref b] (.ref s₂.heap.objs.size) [u6] (fun _ H7=>H7=upd H6 s₂.heap.objs.size (.lst (bs.map .ref++[.ref b]))) I6 rfl (.cons r6 .nil) ⟨_,bs.map .ref,.ref b,rfl,rfl,hD6,hx,rfl⟩) fun _ s7 ⟨_,H7,I7,_,e7⟩=>?_
    subst e7;obtain⟨J7,st7,fr7⟩:=fin I7;have kp7:Kp H6 (upd H6 s₂.heap.objs.size (.lst (bs.map .ref++[.ref b]))):=Kp.upd hD6 rfl;refine⟨ps.length-(i+1),by omega,i+1,σ4,_,bs++[b],rfl,hlt,J7,st7,fr7,((sm'.trans smd)).but nD (fun u h=>by rw[hD6] at h;cases h;rfl) (fun b hb=>zal hb),⟨by rw[AW];exact zak,?_,?_⟩,by simp[bl'],fun c hc'=>?_,?_,hl5⟩
    ·intro z
     rcases Aj.mp z with z | z
     ·exact ls'.nin z
     ·exact bD (AO.mp z).symm
    ·rw[BK]
     refine⟨ls'.nd,by simp,fun c hc1 d hd1 e=>?_⟩
     rw[AO.mp hd1] at e;exact bN (e▸hc1)
    ·rcases Aj.mp hc' with z | z
     ·have hcD:c≠s₂.heap.objs.size:=fun e=>ls'.nin (e▸z)
      exact⟨(bo' c z).1,by rw[zal hcD];exact smd _ _ (bo' c z).2⟩
     ·have:=AO.mp z
      subst this;exact⟨((sm'.trans sm3)).free nb,by rw[zal bD];exact hb6⟩
    ·exact(vw5.same sm6).noOwn (fun i p e=>zkq e) (fun i p a e=>zkp e) kp7 ((vw5.same sm6).tb.but (fun u h=>by rw[hD6] at h;cases h;exact⟨rfl,rfl⟩) (fun b hb=>zal hb))
   ·have e:i=ps.length:=by omega
    subst e;refine thn (T.done (zbi C.X N' scope (clOf C.X.env.cells scope.names []) G.objs.size s₂ H₂ fp) rfl rfl rfl rfl ps.length [] s σ' H' _ I' (fpk fr' (by simp)) st' (stp rfl)) fun r s1 ⟨hr,I1⟩=>?_
    subst hr;exact hRR _ _ σ' H' s1 bs I1 sm' nD ls' bl' bo' hGe
  ·show upd H₂ _ _ b=none
   rw[zal (AZ (fl b hb))];exact(hf b hb).1
 exact Et loop (T.self _ 0 _ _ _ (T.keep _ _ _ st fun b _ o e=>keep b o e) loop)
def zya(C:Cn)(i:Nat)(nt:Nat)(idx:List Nat)(h:Tgt)(fi:PSt->R (List PV)):TS:=fun D σ H=>∃ρ,View C.X.K H σ ρ/\∃ps,fi ρ=.ok ps/\(∀p∈ps,∃ρ1,h p (zbh nt idx ρ)=some ρ1)/\ps.length<=sizeLine/\
 ∀H' a bs,Same H H'->H a=none->Ls0 H' a bs->bs.length=ps.length->(∀b∈bs,H b=none/\H' b=some (.lst []))->D.nx (σ.set i (some (.ref a))) H'
theorem zws(i:Nat){x:Str}{px:C7}{spos:C7}(hN:C.X.N.Nodup)(hi':C.X.N[i]?=some x)(hx:Loc C.X.env.scope x)(O:CompOk C.X.N C.X.env.scope scope N' nt idx)(hc:C.X.calm=true)(hi:EI C tg iter fi)
  (hg:∀cl L s H fp,TCt (zcl C N' scope cl L s H fp) tg h) (hlow:LowT nt h)
  (hsw:Cm (.ListComp (.List [] epos) [⟨tg,iter,[],0⟩] scope pos) (some (.Name x px)) spos.line C.X.env=pure true:=by rfl)
  (hs:∀x,C6 iter C.X.env x=pure x:=by intro _;rfl)
  (hf:C.X.fn x=true\/C.X.env.scope.names.lookup x=some .local:=by first | exact .inl rfl | exact .inr rfl | assumption) :
  PS C.X (.Assign [.Name x px] (.ListComp (.List [] epos) [⟨tg,iter,[],0⟩] scope pos) spos) (zya C i nt idx h fi):=by
 intro pins s σ H D I ⟨ρ,vw,ps,ef,hq,hz,k⟩;rw[F5 _ _ _ _ hsw];refine AB (FX (AB ?_));show Af _ C.X.A (do let _<- HF (.ListComp (.List [] epos) [⟨tg,iter,[],0⟩] scope pos) scope C.X.env _ (GR []) false (BR iter C.X.env) (some (Dr (.Name x px) C.X.env))) _ _ s
 refine AB (C9 (D8 (use:=some (Dr (.Name x px) C.X.env)) (Q:=fun _ s'=>SP C.X pins D .next s') rfl hs (zbv fun y hy hk=>I.ok.has y.1 (O.free y hy hk)) O.kind O.names ?_)
  (fun _ s' hq=>AH (AH hq)) fun _ _ e=>e)
 refine thn (hi pins s σ H (fun J H'=>Same H H'/\ItP C.X.K J H' ps) I ⟨ρ,vw,by rw[ef];exact fun J H' s' ip=>⟨s',ip⟩⟩) fun v s1 h1=>thn h1 fun itv s2 h2=>?_
 obtain⟨it,fp,tn,J,H2,e,I2,T,st2,f2,sm,ip⟩:=h2;subst e;refine zrz O hc hg hlow I2 T st2 f2 (vw.same sm) ip hq hz fun Da L σ' H' s' bs I' sm' nD ls bl bo hL=>?_
 obtain⟨m,⟨o,es,ep,ho,hrest⟩,_⟩:=id I'.loc;have IB:=zia I2 f2 I';have nL:L≠C.X.env.locals:=BS (AR I2.lt hL)
 have nC:∀x c,C.X.env.cells.lookup x=some c->c≠L:=fun x c ec z=>by
  obtain⟨v,qc⟩:=I2.cell x c ec;have z:c=L:=z;exact BE _ (AR (z▸qc.lt) hL)
 have nP:∀p∈C.X.pn++pins,p.1≠L:=fun p hp z=>by
  have z:p.1=L:=z;exact BE _ (AR (z▸AL (I2.pin p hp).1) hL)
 have IP:Inv C.X (pins++[(L,o)]) σ H' s':=IB.pins_of fun p hp=>by
  rcases Aj.mp hp with z | z
  ·exact IB.pin p (Ab _ z)
  ·have:p=(L,o):=by simpa using z
   subst this;exact⟨ho,I'.free,nL,I2.nofs hL,fun v z=>by rw[hrest.1] at z;cases z⟩
 refine thn (zgb hN hi' hx hf (pins++[(L,o)]) s' σ H' (.ref Da) (.ref Da) (fun σ4 H4=>σ4=σ.set i (some (.ref Da))/\H4=H') IP rfl ⟨rfl,rfl⟩) fun _ s4 ⟨σ4,H4,I4,e4,e5⟩=>?_
 have hp:=I4.pin (L,o) (by simp)
 have IU:Inv C.X pins σ4 H4 s4:=I4.unpinned;refine⟨m,⟨o,es,ep,hp.1,hrest⟩,fun h' sb=>⟨σ4,H4,zh9 IU hp.2.1 nL (B9 I2.sz hL) nC nP sb,?_⟩⟩
 subst e4 e5;exact k H4 Da bs (sm.trans sm') (sm.free nD) ls bl fun b hb=>⟨sm.free (bo b hb).1,(bo b hb).2⟩
end
end PU
namespace PU
open PySem PySem.Spec PyProof.Rows L2 PySem.SeqAt
def putB(n:Int)(pss:List (List Int))(j:Int):Option (List (List Int)):=if 0<=j then (match pss[j.toNat]? with
 | some l=>if l.length<16777216 then some (pss.set j.toNat (l++[n])) else none
 | none=>none) else none
def rowB(n:Int):List Int->List (List Int)->Option (List (List Int))
 | [],pss=>some pss
 | j::r,pss=>(putB n pss j).bind (rowB n r)
def allB:Nat->List (List Int)->List (List Int)->Option (List (List Int))
 | _,[],pss=>some pss
 | k,js::r,pss=>(rowB k js pss).bind (allB (k+1) r)
def jssP:List PV->Option (List (List Int))
 | []=>some []
 | .lst ps::r=>(zn1 ps).bind fun js=>(jssP r).map (js::·)
 | _=>none
def pbF:PSt->R Fl:=fun ρ=>match (ρ[(0:Nat)]?:Option Sl) with
 | some (.val (.lst fs))=>(match jssP fs with
  | some jss=>if fs.length<=16777216/\ρ.length=5 then (match allB 0 jss (B4 fs.length []) with
   | some pss=>.ok (.ret (.lst (pss.map fun l=>PV.lst (l.map PV.int))))
   | none=>.no) else .no
  | none=>.no)
 | _=>.no
theorem zqm:∀{ps:List PV}{js:List Int},zn1 ps=some js->ps=js.map PV.int
 | [],_,e=>by cases e;rfl
 | p::ps,js,e=>by
  cases p with
  | int i=>
   obtain⟨r,e1,rfl⟩:=AQ.mp (show (zn1 ps).map (i::·)=some js from e);rw[zqm e1];rfl
  | _=>cases e
theorem zt5:∀{fs:List PV}{jss:List (List Int)},jssP fs=some jss->fs=jss.map fun js=>PV.lst (js.map PV.int)
 | [],_,e=>by cases e;rfl
 | p::fs,jss,e=>by
  cases p with
  | lst ps=>
   obtain⟨js,e1,e⟩:=AV.mp (show (zn1 ps).bind (fun js=>(jssP fs).map (js::·))=some jss from e)
   obtain⟨r,e2,rfl⟩:=AQ.mp e;rw[zqm e1,zt5 e2];rfl
  | _=>cases e
structure PB(H:Hp)(a:Addr)(bs:List Addr)(pss:List (List Int)):Prop where
 ls:Ls0 H a bs
 len:bs.length=pss.length
 at_:∀(i:Nat)(b:Addr)(l:List Int),bs[i]?=some b->pss[i]?=some l->H b=some (.lst (l.map V.int))
variable[TW]
theorem PB.same{H H':Hp}{a:Addr}{bs:List Addr}{pss:List (List Int)}(p:PB H a bs pss)(s:Same H H'):PB H' a bs pss:=
 ⟨⟨s _ _ p.ls.out,p.ls.nin,p.ls.nd⟩,p.len,fun i b l e1 e2=>s _ _ (p.at_ i b l e1 e2)⟩
theorem PB.put{H:Hp}{a b:Addr}{bs:List Addr}{pss:List (List Int)}{j:Nat}{l:List Int}(n:Int)(p:PB H a bs pss)(e1:bs[j]?=some b)(e2:pss[j]?=some l):PB (upd H b (.lst ((l++[n]).map V.int))) a bs (pss.set j (l++[n])):=by
 have hb:a≠b:=fun z=>p.ls.nin (z▸AS e1)
 refine⟨⟨by rw[zal hb];exact p.ls.out,p.ls.nin,p.ls.nd⟩,by simp[p.len],fun i c m f1 f2=>?_⟩
 by_cases hij:j=i
 ·subst hij
  rw[e1] at f1;cases f1;have hl:j<pss.length:=(AA.mp e2).1;rw[Au hl] at f2;cases f2;exact zak
 ·rw[Az hij] at f2
  have hc:c≠b:=fun z=>by
   subst z;obtain⟨h1,g1⟩:=AA.mp e1;obtain⟨h2,g2⟩:=AA.mp f1;exact hij ((EF p.ls.nd).mp (g1.trans g2.symm))
  rw[zal hc];exact p.at_ i c m f1 f2
structure Zb(B1 H0 H:Hp)(a:Addr)(bs:List Addr)(pss:List (List Int)):Prop where
 same:Same B1 H
 kp:Kp H0 H
 tb:Tabs H
 pb:PB H a bs pss
 fr:∀c∈bs,B1 c=none
theorem Zb.grow{B1 H0 H H':Hp}{a:Addr}{bs:List Addr}{pss:List (List Int)}(z:Zb B1 H0 H a bs pss)(s:Same H H'):Zb B1 H0 H' a bs pss:=⟨z.same.trans s,z.kp.trans (Same.kp s),s.tabs z.tb,z.pb.same s,z.fr⟩
theorem Zb.put{B1 H0 H:Hp}{a b:Addr}{bs:List Addr}{pss:List (List Int)}{j:Nat}{l:List Int}(n:Int)(z:Zb B1 H0 H a bs pss)(e1:bs[j]?=some b)(e2:pss[j]?=some l):Zb B1 H0 (upd H b (.lst ((l++[n]).map V.int))) a bs (pss.set j (l++[n])):=by
 have hb:=z.pb.at_ j b l e1 e2;exact⟨z.same.but (z.fr b (AS e1)) (fun u h=>by rw[hb] at h;cases h;rfl) (fun c hc=>zal hc),z.kp.trans (Kp.upd hb rfl),z.tb.but (fun u h=>by rw[hb] at h;cases h;exact⟨rfl,rfl⟩) (fun c hc=>zal hc),z.pb.put n e1 e2,z.fr⟩
theorem Zb.base{B1 H0 H1 H:Hp}{a:Addr}{bs:List Addr}{pss:List (List Int)}(z:Zb B1 H1 H a bs pss)(k:Kp H0 H1):Zb B1 H0 H a bs pss:=⟨z.same,k.trans z.kp,z.tb,z.pb,z.fr⟩
def Fr(σ σ':L2.St)(ks:List Nat):Prop:=σ'.length=σ.length/\∀i,i ∉ ks->σ'[i]?=σ[i]?
section
variable{C : Cn}{xb xp xn xf xs : Str}{p1 p2 p3 p4 p5 p6 p7 p8 p9 p10 apos cpos epos pos tp : C7}{kk : Nat}
theorem Zdd(hp:FJ (Ap C.X.prog C.X.w) C.X.A C.X.env C.X.xe)(hc:C.X.calm=true)(hw:C.X.w=TW.w)(nd:C.X.N.Nodup)(N1:C.X.N[1]?=some xb)(N2:C.X.N[2]?=some xn)(N3:C.X.N[3]?=some xf)(N4:C.X.N[4]?=some xp)
  (v1:Vis C.X.env.scope xb) (v2:Vis C.X.env.scope xn) (v3:Vis C.X.env.scope xf) (v4:Vis C.X.env.scope xp) (l4:Loc C.X.env.scope xp) (f4:C.X.fn xp=true\/C.X.env.scope.names.lookup xp=some .local)
  (d1:(xb == ("__debug__":Str))=false) (d2:(xn == ("__debug__":Str))=false) (d3:(xf == ("__debug__":Str))=false) (d4:(xp == ("__debug__":Str))=false) (c1:(xb == ("__classdict__":Str))=false) (c2:(xn == ("__classdict__":Str))=false) (c3:(xf == ("__classdict__":Str))=false) (c4:(xp == ("__classdict__":Str))=false)
  (hb:DA (.Subscript (.Name xb p3) (.Name xp p4) p5) "append" C.X.env (BR (.Subscript (.Name xb p3) (.Name xp p4) p5) C.X.env)=BR (.Subscript (.Name xb p3) (.Name xp p4) p5) C.X.env) (hline:(apos.endLine == cpos.line)=true)
  (hs:Ad [.Name xn p6] C.X.env=[(false,BR (.Name xn p6) C.X.env)]) (hpl:zps (.Name xp p4)) (hst:∀x,C6 (.Name xf p2) C.X.env x=pure x)
  (hsw:Cm (.Call (.Attribute (.Subscript (.Name xb p3) (.Name xp p4) p5) "append" apos) [.Name xn p6] [] cpos) none epos.line C.X.env=pure false) :
  PS C.X (.For (.Name xp p1) (.Name xf p2) [.Expr (.Call (.Attribute (.Subscript (.Name xb p3) (.Name xp p4) p5) "append" apos) [.Name xn p6] [] cpos) epos] [] pos) (fun D σ H=>∃(B1 H0:Hp) (a:Addr) (bs:List Addr) (k:Int) (js:List Int) (v:V) (pss pss':List (List Int)),σ[1]?=some (some (.ref a))/\σ[2]?=some (some (.int k))/\σ[3]?=some (some v)/\4<σ.length/\Rep C.X.K H (.lst (js.map PV.int)) v/\Zb B1 H0 H a bs pss/\rowB k js pss=some pss'/\
   ∀σ' H',Fr σ σ' [4]->Zb B1 H0 H' a bs pss'->D.nx σ' H'):=by
 intro pins s σ H D I ⟨B1,H0,a,bs,k,js,v,pss,pss',e1,e2,e3,hl,rv,z,er,cont⟩;have body:=zoz (pos:=epos) (zw0 (X:=C.X) G6 EM Fv zgj (Zdo Zem (zeb N1 v1 d1 c1) (zeb N4 v4 d4 c4) hpl) (zb0 (zeb N2 v2 d2 c2) ze7 hs) hb (by rw[hs];rfl) hline hs (by rfl)) hsw
 refine zs2 hp hc (zdh (zux 3 N3 v3 d3 c3) hw) (zgb nd N4 l4 f4) (zfk body zmh) hst pins s σ H D I ?_;refine⟨[.no,.no,.no,.val (.lst (js.map PV.int))],⟨fun i l e=>?_,z.tb⟩,fun J H1 s1 it=>?_⟩
 ·match i,e with
  | 0,e=>cases e;exact trivial
  | 1,e=>cases e;exact trivial
  | 2,e=>cases e;exact trivial
  | 3,e=>cases e;exact⟨v,e3,rv⟩
 ·have z1:Zb B1 H1 H1 a bs pss:=⟨z.same.trans s1,Kp.refl H1,s1.tabs z.tb,z.pb.same s1,z.fr⟩
  refine⟨fun i m σ' H'=>m=js.length-i/\i<=js.length/\Fr σ σ' [4]/\∃q,Zb B1 H1 H' a bs q/\rowB k (js.drop i) q=some pss',⟨js.length,rfl,B3 _,⟨rfl,fun _ _=>rfl⟩,pss,z1,by simpa using er⟩,?_⟩
  rintro i m σ' H' ⟨rfl,hi,fr,q,zq,eq⟩;obtain⟨stp,stepp⟩:=it i H' zq.kp
  by_cases hlt:i<js.length
  ·have ej:js[i]?=some js[i]:=by simp[hlt]
   obtain⟨go,yl⟩:=stepp (.int js[i]) (by rw[AG,ej];rfl)
   rw[zh8 ej] at eq;obtain⟨q1,ep,eq⟩:=AV.mp (show (putB k q js[i]).bind (rowB k (js.drop (i+1)))=some pss' from eq);generalize js[i]=j at *;refine .inr ⟨go,fun σ2 H2=>Fr σ σ2 [4]/\∃q,Zb B1 H1 H2 a bs q/\rowB k (js.drop (i+1)) q=some pss',fun σ2 H2 ⟨f2,q2,z2,r2⟩=>⟨js.length-(i+1),by omega,rfl,hlt,f2,q2,z2,r2⟩,fun x H2 y=>?_⟩
   obtain⟨s2,rp⟩:=yl x H2 y;cases (show x=.int j from rp);have z2:=zq.grow s2;unfold putB at ep;split at ep
   ·rename_i hj
    split at ep
    ·rename_i l el
     split at ep
     ·rename_i hlen
      cases ep;have hjl:=(AA.mp el).1;obtain⟨b,eb⟩:∃b,bs[j.toNat]?=some b:=⟨_,AX (by rw[zq.pb.len];exact hjl)⟩
      have hb2:=z2.pb.at_ _ b l eb el;have f4':(σ'.set 4 (some (.int j))).length=σ.length:=by rw[Cb];exact fr.1
      have g:∀i,i≠4->(σ'.set 4 (some (.int j)))[i]?=σ[i]?:=fun i h4=>by
       rw[Az (Bc h4)];exact fr.2 i (by simp[h4])
      have at_j:atI (bs.map V.ref) j=some (.ref b):=by
       have hjn:j=(j.toNat:Int):=by omega
       have:ixN (bs.map V.ref).length j=some j.toNat:=by
        unfold ixN;rw[if_pos hj,if_pos (by rw[AI,zq.pb.len];omega)]
       unfold atI;rw[this];show (bs.map V.ref)[j.toNat]?=_;rw[AG,eb];rfl
      refine⟨_,(g 1 (by decide)).trans e1,_,Au (by rw[fr.1];exact hl),.inl ⟨a,bs.map .ref,j,.ref b,rfl,rfl,SqL.of z2.pb.ls.out,at_j,.inl ⟨rfl,_,SqL.of hb2⟩,_,(g 2 (by decide)).trans e2,b,_,.int k,rfl,rfl,hb2,by rw[B2,AI];exact hlen,?_⟩⟩
      have zz:=z2.put k eb el;rw[AW] at zz;exact⟨⟨f4',fun i hi4=>g i (by simpa using hi4)⟩,_,zz,eq⟩
     ·cases ep
    ·cases ep
   ·cases ep
  ·have e:i=js.length:=by omega
   subst e;rw[CV] at eq;cases eq;exact .inl ⟨stp (by rw[AI]),cont σ' H' fr (zq.base (z.kp.trans (Same.kp s1)))⟩
end
end PU
namespace PU
open PySem PySem.Spec PyProof.Rows L2 PySem.SeqAt
variable[TW]
theorem zni{K:A0}{H:Hp}:∀l:List Int,Reps K H (l.map PV.int) (l.map V.int)
 | []=>rfl
 | i::l=>⟨.int i,l.map V.int,rfl,rfl,zni l⟩
abbrev jP(js:List Int):PV:=.lst (js.map PV.int)
theorem zsw{K:A0}{H:Hp}:∀(bs:List Addr)(pss:List (List Int)),bs.length=pss.length->(∀(i:Nat)(b:Addr)(l:List Int),bs[i]?=some b->pss[i]?=some l->Rep K H (jP l) (.ref b))->Reps K H (pss.map jP) (bs.map V.ref)
 | [],[],_,_=>rfl
 | [],_::_,h,_=>by simp at h
 | _::_,[],h,_=>by simp at h
 | b::bs,l::pss,h,k=>⟨.ref b,bs.map V.ref,rfl,k 0 b l rfl rfl,zsw bs pss (by simpa using h) fun i c m e1 e2=>k (i+1) c m (by simpa using e1) (by simpa using e2)⟩
theorem zul{X:Cx}{pins:List (Addr×Bi)}{σ:L2.St}{H B1:Hp}{s:AD}{a:Addr}{bs:List Addr}{pss:List (List Int)}(I:L2.Inv X pins σ H s)(p:PB H a bs pss)(sm:Same B1 H)(fr:∀c∈bs,B1 c=none):∀n,n<=bs.length->
  ∃H',L2.Inv X pins σ H' s/\Same B1 H'/\(∀c,c ∉ bs.take n->H' c=H c)/\∀(i:Nat)(b:Addr)(l:List Int),i<n->bs[i]?=some b->pss[i]?=some l->Rep X.K H' (jP l) (.ref b)
 | 0,_=>⟨H,I,sm,fun _ _=>rfl,fun i _ _ h=>absurd h (Fy i)⟩
 | n+1,hn=>by
  obtain⟨H',I',sm',oth,rep⟩:=zul I p sm fr n (by omega)
  obtain⟨b,eb⟩:∃b,bs[n]?=some b:=⟨_,AX (by omega)⟩
  obtain⟨l,el⟩:∃l,pss[n]?=some l:=⟨_,AX (by have:=p.len;omega)⟩
  have bn:b ∉ bs.take n:=fun z=>by
   obtain⟨i,hi,e⟩:=C5 z;have hi':i<n:=by rw[CU] at hi;omega
   rw[List.getElem_take] at e;obtain⟨h2,e2⟩:=AA.mp eb;have:=(EF p.ls.nd).mp (e.trans e2.symm);omega
  have hb:H' b=some (.lst (l.map V.int)):=by rw[oth b bn];exact p.at_ n b l eb el
  obtain⟨H2,I2,rp,oth2⟩:=L2.Inv.frz (a:=b) (p:=jP l) I' ⟨l.map V.int,hb,zni l⟩;have na:∀u,H' b=some u->isFz u=false:=fun u h=>by rw[hb] at h;cases h;rfl
  refine⟨H2,I2,sm'.but (fr b (AS eb)) na oth2,fun c hc=>?_,fun i c m hi e1 e2=>?_⟩
  ·have hcb:c≠b:=fun z=>hc (by
    rw[z,Cf,eb];simp)
   rw[oth2 c hcb];exact oth c fun z=>hc (by rw[Cf];exact BV _ z)
  ·by_cases hin:i=n
   ·subst hin
    rw[eb] at e1;rw[el] at e2;cases e1;cases e2;exact rp
   ·exact Rep.kp (Kp.but na oth2) _ (rep i c m (by omega) e1 e2)
section
variable{C : Cn}{xb xp xn xf x0 : Str}{p1 p2 p3 p4 p5 p6 p7 p8 p9 p10 apos cpos epos pos tp : C7}{kk : Nat}
theorem zz9 (N1:C.X.N[1]?=some xb) (v1:Vis C.X.env.scope xb) (d1:(xb == ("__debug__":Str))=false) (c1:(xb == ("__classdict__":Str))=false) :
  PS C.X (.Return (some (.Name xb p1)) pos) (fun D σ H=>∃(B1 H0:Hp)(a:Addr)(bs:List Addr)(pss:List (List Int)),σ[1]?=some (some (.ref a))/\Zb B1 H0 H a bs pss/\B1 a=none/\∀v H',Same B1 H'->Rep C.X.K H' (.lst (pss.map jP)) v->D.rt v H'):=by
 intro pins s σ H D I ⟨B1,H0,a,bs,pss,e1,z,na,k⟩;refine wpAny_Return_some (thn (zeb N1 v1 d1 c1 pins s σ H (fun v' H'=>v'=.ref a/\H'=H) I ⟨_,e1,rfl,rfl⟩) fun u s1 ⟨v',H1,I1,ru,ev,eh⟩=>?_)
 subst ev eh;cases (show u=B6 a from ru);obtain⟨H2,I2,sm2,oth,rep⟩:=zul I1 z.pb z.same z.fr bs.length (AY _);have ha:H2 a=some (.lst (bs.map .ref)):=by rw[oth a (by rw[Fc];exact z.pb.ls.nin)];exact z.pb.ls.out
 have rr:=zsw (K:=C.X.K) (H:=H2) bs pss z.pb.len fun i b l e1 e2=>rep i b l (AA.mp e1).1 e1 e2
 obtain⟨H3,I3,rp,oth3⟩:=L2.Inv.frz (a:=a) (p:=.lst (pss.map jP)) I2 ⟨bs.map .ref,ha,rr⟩;exact⟨.ref a,σ,H3,I3,rfl,k _ H3 (sm2.but na (fun u h=>by rw[ha] at h;cases h;rfl) oth3) rp⟩
theorem Zdf {inner:Stmt} (hp:FJ (Ap C.X.prog C.X.w) C.X.A C.X.env C.X.xe) (hc:C.X.calm=true) (hg:Gl C.X "enumerate") (hm:C.X.mg "enumerate"=none) (nd:C.X.N.Nodup) (N0:C.X.N[0]?=some x0) (N2:C.X.N[2]?=some xn) (N3:C.X.N[3]?=some xf)
  (v0:Vis C.X.env.scope x0) (l2:Loc C.X.env.scope xn) (l3:Loc C.X.env.scope xf) (f2:C.X.fn xn=true\/C.X.env.scope.names.lookup xn=some .local) (f3:C.X.fn xf=true\/C.X.env.scope.names.lookup xf=some .local)
  (d0:(x0 == ("__debug__":Str))=false) (c0:(x0 == ("__classdict__":Str))=false) (hs:Ad [.Name x0 p4] C.X.env=[(false,BR (.Name x0 p4) C.X.env)]) (hst:∀x,C6 (.Call (.Name "enumerate" p3) [.Name x0 p4] [] p5) C.X.env x=pure x)
  (ha:(Bb [.Name xn p1,.Name xf p2] C.X.env).map (·.2)=Dr (.Name xn p1) C.X.env::(Bb [.Name xf p2] C.X.env).map (·.2)) (ha2:(Bb [.Name xf p2] C.X.env).map (·.2)=Dr (.Name xf p2) C.X.env::(Bb [] C.X.env).map (·.2))
  (hn:(Bb [.Name xn p1,.Name xf p2] C.X.env).length=2) (hst2:(Bb [.Name xn p1,.Name xf p2] C.X.env).findIdx? (·.1)=none)
  (hin:PS C.X inner (fun D σ H=>∃(B1 H0:Hp)(a:Addr)(bs:List Addr)(k:Int)(js:List Int)(v:V)(pss pss':List (List Int)),σ[1]?=some (some (.ref a))/\σ[2]?=some (some (.int k))/\σ[3]?=some (some v)/\4<σ.length/\Rep C.X.K H (.lst (js.map PV.int)) v/\Zb B1 H0 H a bs pss/\rowB k js pss=some pss'/\
   ∀σ' H',Fr σ σ' [4]->Zb B1 H0 H' a bs pss'->D.nx σ' H')) :
  PS C.X (.For (.Tuple [.Name xn p1,.Name xf p2] kk tp) (.Call (.Name "enumerate" p3) [.Name x0 p4] [] p5) [inner] [] pos) (fun D σ H=>∃(B1 H0:Hp) (a:Addr) (bs:List Addr) (jss:List (List Int)) (v:V) (pss pss':List (List Int)),σ[0]?=some (some v)/\σ[1]?=some (some (.ref a))/\4<σ.length/\Rep C.X.K H (.lst (jss.map jP)) v/\Zb B1 H0 H a bs pss/\allB 0 jss pss=some pss'/\
   ∀σ' H',Fr σ σ' [2,3,4]->Zb B1 H0 H' a bs pss'->D.nx σ' H'):=by
 intro pins s σ H D I ⟨B1,H0,a,bs,jss,v,pss,pss',e0,e1,hl,rv,z,er,cont⟩;refine zs2 hp hc (zix hg hm (zux 0 N0 v0 d0 c0) hs) (zs9 hc (zjg (zgb nd N2 l2 f2) (zjg (zgb nd N3 l3 f3) zo0 ha2) ha) hn hst2) (zfk hin zmh) hst pins s σ H D I ?_;refine⟨[.val (.lst (jss.map jP))],⟨fun i l e=>?_,z.tb⟩,fun J H1 s1 it=>?_⟩
 ·match i,e with
  | 0,e=>cases e;exact⟨v,e0,rv⟩
 ·have z1:Zb B1 H1 H1 a bs pss:=⟨z.same.trans s1,Kp.refl H1,s1.tabs z.tb,z.pb.same s1,z.fr⟩
  refine⟨fun i m σ' H'=>m=jss.length-i/\i<=jss.length/\Fr σ σ' [2,3,4]/\∃q,Zb B1 H1 H' a bs q/\allB i (jss.drop i) q=some pss',⟨jss.length,rfl,B3 _,⟨rfl,fun _ _=>rfl⟩,pss,z1,by simpa using er⟩,?_⟩
  rintro i m σ' H' ⟨rfl,hi,fr,q,zq,eq⟩;obtain⟨stp,stepp⟩:=it i H' zq.kp
  by_cases hlt:i<jss.length
  ·have ej:jss[i]?=some jss[i]:=by simp[hlt]
   obtain⟨go,yl⟩:=stepp (.tup [.int i,jP jss[i]]) (by
    rw[AG];unfold numP;rw[zmp,AG,ej];rfl)
   rw[zh8 ej] at eq;obtain⟨q1,ep,eq2⟩:=AV.mp (show (rowB i jss[i] q).bind (allB (i+1) (jss.drop (i+1)))=some pss' from eq);generalize jss[i]=js at *;refine .inr ⟨go,fun σ2 H2=>Fr σ σ2 [2,3,4]/\∃q,Zb B1 H1 H2 a bs q/\allB (i+1) (jss.drop (i+1)) q=some pss',fun σ2 H2 ⟨f2,q2,z2,r2⟩=>⟨jss.length-(i+1),by omega,rfl,hlt,f2,q2,z2,r2⟩,fun x H2 y=>?_⟩
   obtain⟨s2,T,xs,ex,hT,w,r1,exs,rw1,w2,r2,er1,rw2,er2⟩:=yl x H2 y;subst ex exs er1 er2;cases (show w=.int i from rw1);have z2:=zq.grow s2;have hl':σ'.length=σ.length:=fr.1
   have g:∀j,j≠2->j≠3->((σ'.set 2 (some (.int i))).set 3 (some w2))[j]?=σ'[j]?:=fun j h2 h3=>by
    rw[Az (Bc h3),Az (Bc h2)]
   refine⟨T,_,rfl,tq hT,rfl,_,_,rfl,_,_,rfl,rfl,B1,H1,a,bs,i,js,w2,q,q1,?_,?_,?_,by simp[hl'];exact hl,rw2,z2,ep,fun σ3 H3 fr3 z3=>⟨⟨by rw[fr3.1];simp[hl'],fun j hj=>?_⟩,q1,z3,eq2⟩⟩
   ·rw[g 1 (by decide) (by decide),fr.2 1 (by decide)]
    exact e1
   ·rw[Az (by decide),Au (by omega)]
   ·rw[Au (by rw[Cb];omega)]
   ·have hj:j≠2/\j≠3/\j≠4:=by simpa using hj
    rw[fr3.2 j (by simpa using hj.2.2),g j hj.1 hj.2.1]
    exact fr.2 j (by simpa using hj)
  ·have e:i=jss.length:=by omega
   subst e;rw[CV] at eq;cases eq;exact .inl ⟨stp (by rw[AI,zhv,AI]),cont σ' H' fr (zq.base (z.kp.trans (Same.kp s1)))⟩
theorem zq9{a1 a2 a3:Stmt}{nt:Nat}{idx:List Nat}{h:Tgt}(h1:PS C.X a1 (zya C 1 nt idx h (itF (getV 0))))(hh:∀p,∃ρ1,∀ρ:PSt,h p (zbh nt idx ρ)=some ρ1)
  (h2:PS C.X a2 (fun D σ H=>∃(B1 H0:Hp)(a:Addr)(bs:List Addr)(jss:List (List Int))(v:V)(pss pss':List (List Int)),σ[0]?=some (some v)/\σ[1]?=some (some (.ref a))/\4<σ.length/\Rep C.X.K H (.lst (jss.map jP)) v/\Zb B1 H0 H a bs pss/\allB 0 jss pss=some pss'/\
   ∀σ' H',Fr σ σ' [2,3,4]->Zb B1 H0 H' a bs pss'->D.nx σ' H'))
  (h3:PS C.X a3 (fun D σ H=>∃(B1 H0:Hp)(a:Addr)(bs:List Addr)(pss:List (List Int)),σ[1]?=some (some (.ref a))/\Zb B1 H0 H a bs pss/\B1 a=none/\∀v H',Same B1 H'->Rep C.X.K H' (.lst (pss.map jP)) v->D.rt v H')):SVs C [a1,a2,a3] pbF:=by
 intro pins s σ H D I ⟨ρ,B,S,q⟩;unfold pbF at q;split at q
 ·rename_i fs e0
  split at q
  ·rename_i jss ej
   split at q
   ·rename_i hz
    split at q
    ·rename_i pss ea
     have q:∀v H',Same B.1 H'->Rep C.X.K H' (.lst (pss.map jP)) v->D.rt v H':=q;have hf:=zt5 ej;obtain⟨v,ev,rv⟩:=S.vw 0 _ e0;have hl:σ.length=5:=by rw[← S.len];exact hz.2
     refine(zfk h1 (zfk h2 (zfk h3 zmh))) pins s σ H D I ?_;refine⟨[.val (.lst fs)],⟨fun i l e=>?_,S.vw.tb⟩,fs,rfl,fun p _=>?_,by rw[B2];exact hz.1,fun H1 a bs s1 na ls bl bo=>?_⟩
     ·match i,e with
      | 0,e=>cases e;exact⟨v,ev,rv⟩
     ·obtain⟨ρ1,k⟩:=hh p
      exact⟨ρ1,k _⟩
     ·have pb:PB H1 a bs (B4 fs.length []):=⟨ls,by rw[bl,Bv],fun i b l e1 e2=>by
       have:=List.mem_replicate.mp (AS e2);rw[this.2];exact(bo b (AS e1)).2⟩
      refine⟨B.1,H1,a,bs,jss,v,_,pss,?_,?_,by simp[hl],?_,⟨S.same.trans s1,Kp.refl H1,s1.tabs S.vw.tb,pb,fun c hc=>S.same.free (bo c hc).1⟩,ea,fun σ' H' fr z=>?_⟩
      ·rw[Az (by decide)];exact ev
      ·rw[Au (by omega)]
      ·have:=rv.same s1
       rw[hf] at this;exact this
      ·refine⟨B.1,H1,a,bs,pss,?_,z,S.same.free na,q⟩
       rw[fr.2 1 (by decide),Au (by omega)]
    ·exact AK q
   ·exact AK q
  ·exact AK q
 ·exact AK q
end
end PU
namespace PU
open PySem PySem.Spec PyProof.Rows L2 PySem.SeqAt
def zxo:PV->Option (List PV)
 | .lst ps=>some ((numP ps).map .tup)
 | _=>none
def Zbn(f:PSt->R PV):PSt->R (List PV):=fun ρ=>f ρ >>= fun p=>R.ofO (zxo p)
variable[TW]
theorem Zbr {C:Cn} {e:Expr} {elts:List Expr} {kk:Nat} {tp p pos:C7} {f:PSt->R PV} (hg:Gl C.X "enumerate") (hm:C.X.mg "enumerate"=none) (he:EO C e f) (hs:Ad [e] C.X.env=[(false,BR e C.X.env)]:=by exact zbm rfl) :
  EIS C (.Tuple elts kk tp) (.Call (.Name "enumerate" p) [e] [] pos) (Zbn f):=by
 intro pins s σ H Rk I ⟨ρ,vw,q⟩
 refine Call_ (zhz I hg hm zg8 (BM (thn ((zb0 he ze7 hs) pos pins s σ H (fun vs H'=>∃v p ps,vs=[v]/\Same H H'/\RepO C.X.K H' p v/\zxo p=some ps/\∀J H2,Same H' H2->ItS C.X.K J H2 ps->Rk J H2) I ⟨ρ,vw,q.bind.imp fun p _ k v H' s' r=>?_⟩)
  fun us s1 ⟨vs,H1,I1,r1,v,p,ps,ev,sm,rp,ep,k⟩=>?_) hs rfl))
 ·obtain⟨ps,ep,k⟩:=k.ofO
  exact⟨v,p,ps,rfl,s',r,ep,fun J H2 s2 it=>k J H2 (s'.trans s2) it⟩
 ·subst ev
  obtain⟨u,rfl,ru⟩:=vals1 r1;have hne:s1.heap.objs.size+1≠s1.heap.objs.size:=EU _;cases p with
  | lst qs=>
   cases ep;obtain⟨a,xs,rfl,g,rr⟩:=rp;cases ru;obtain⟨its,rv,pl,hz⟩:=I1.list g.l;have ha:a<s1.heap.objs.size:=by obtain⟨o,n,ho,_⟩:=pl;exact AL ho
   refine call_enumerate_list pl.isList fun h' he' hi' hsz hk=>DU he' ?_
   have I2:L2.Inv C.X pins σ H1 { s1 with heap:=h' }:=I1.kept (t':=s1.toks) hk;refine⟨_,_,_,_,H1,rfl,I2,zk9 a s1.heap.objs.size (s1.heap.objs.size+1) xs hne (AZ (C1 ha)) (AZ ha),⟨⟨_,he'⟩,hi'⟩,fun b hb=>?_,k _ H1 (Same.refl H1) fun i H2 k2=>?_⟩
   ·have hb:s1.heap.objs.size<=b:=by
     simp only[AU,B7,or_false] at hb;rcases hb with rfl | rfl
     ·exact De _
     ·exact AY _
    exact I1.fpOk hb (I1.hok.fresh hb)
   ·have gd:SqL C.X.K H2 a xs:=(Same.sqO k2 g).l
    have hl:=rr.length;refine⟨fun h=>⟨by rw[AI,zhv] at h;omega,gd⟩,fun q e=>?_⟩
    rw[AG] at e;obtain⟨qq,hp,rfl⟩:=AQ.mp e
    have hi:i<xs.length:=by
     have:=(AA.mp hp).1;rw[zhv] at this;omega
    refine⟨⟨hi,gd⟩,fun x H3 ⟨T,ys,ex,nT,ey,eH⟩=>?_⟩
    subst ex eH;refine⟨Same.new nT,T,ys,rfl,zak,?_⟩;exact(Reps.kp (Same.kp k2) qq (zmo rr i qq ys hp ey)).same (Same.new nT)
  | _=>cases ep
section
variable{C : Cn}{elt tg iter : Expr}{ifs : List Expr}{scope : Scope}{pos : C7}{N' : List Str}{nt : Nat}{idx : List Nat}{fi : PSt → R (List PV)}{h : Tgt}{t : PSt → R Bool}{fe : PSt → R PV}
theorem zwa(i:Nat){x:Str}{px:C7}{spos:C7}(hN:C.X.N.Nodup)(O:CompOk C.X.N C.X.env.scope scope N' nt idx)(hi:EIS C tg iter fi)
  (hg:∀cl L s H fp,TCt (zcl C N' scope cl L s H fp) tg h) (he:∀cl L s H fp,EV (zcl C N' scope cl L s H fp) elt fe)
  (hsw:Cm (.ListComp elt [⟨tg,iter,ifs,0⟩] scope pos) (some (.Name x px)) spos.line C.X.env=pure true:=by rfl)
  (hs:∀x,C6 iter C.X.env x=pure x:=by intro _;rfl)
  (hf:C.X.fn x=true\/C.X.env.scope.names.lookup x=some .local:=by first | exact .inl rfl | exact .inr rfl | assumption) (hc:C.X.calm=true:=by rfl) (hlow:LowT nt h:=by repeat' (first | exact zo7 | exact zjj (by decide) | apply zo6 | apply zmq)) (ht:∀cl L s H fp,ETs (zcl C N' scope cl L s H fp) ifs t:=by exact fun _ _ _ _ _=>zpl) (hi':C.X.N[i]?=some x:=by rfl) (hx:Loc C.X.env.scope x:=by first | exact .inl rfl | exact .inr rfl) :
  SV C (.Assign [.Name x px] (.ListComp elt [⟨tg,iter,ifs,0⟩] scope pos) spos) (ownF i (zfa fi h t fe nt idx)):=by
 intro pins s σ H D I ⟨ρ,B,S,q⟩;rw[F5 _ _ _ _ hsw];refine AB (FX (AB ?_));show Af _ C.X.A (do let _<- HF (.ListComp elt [⟨tg,iter,ifs,0⟩] scope pos) scope C.X.env _ (GR []) false (BR iter C.X.env) (some (Dr (.Name x px) C.X.env))) _ _ s
 refine AB (C9 (D8 (use:=some (Dr (.Name x px) C.X.env)) (Q:=fun _ s'=>SP C.X pins D .next s') rfl hs (zbv fun y hy hk=>I.ok.has y.1 (O.free y hy hk)) O.kind O.names ?_)
  (fun _ s' hq=>AH (AH hq)) fun _ _ e=>e)
 have q':RS C B D (zfa fi h t fe nt idx ρ >>= fun p=>.ok (.next (ρ.set i (.own p)))):=q
 refine thn (hi pins s σ H (fun J H'=>∃ps qs,Same H H'/\ItS C.X.K J H' ps/\zci h t fe (zbh nt idx ρ) ps=.ok qs/\qs.length<=sizeLine/\∀σ' H'',StOk C.X.K B H'' σ' (ρ.set i (.own (.lst qs)))->D.nx σ' H'') I
  ⟨ρ,S.vw,(RS.bind' (g:=.own) q' S.same).imp fun ps _ k J H' s' ip=>?_⟩) fun v s1 h1=>thn h1 fun itv s2 h2=>?_
 ·obtain⟨qs,e1,z,k⟩:=k
  exact⟨ps,qs,s',ip,e1,z,k⟩
 ·obtain⟨it,fp,tn,J,H2,e,I2,T,st2,f2,ps,qs,sm,ip,e1,hz,k⟩:=h2
  subst e;refine zr0 O hc hg hlow ht he I2 T st2 f2 (S.vw.same sm) ip e1 hz fun Da L σ' H' s' xs I' sm' nD hD rp hL=>?_
  obtain⟨m,⟨o,es,ep,ho,hrest⟩,_⟩:=id I'.loc;have IB:=zia I2 f2 I';have nL:L≠C.X.env.locals:=BS (AR I2.lt hL)
  have nC:∀x c,C.X.env.cells.lookup x=some c->c≠L:=fun x c ec z=>by
   obtain⟨v,qc⟩:=I2.cell x c ec;have z:c=L:=z;exact BE _ (AR (z▸qc.lt) hL)
  have nP:∀p∈C.X.pn++pins,p.1≠L:=fun p hp z=>by
   have z:p.1=L:=z;exact BE _ (AR (z▸AL (I2.pin p hp).1) hL)
  have IP:Inv C.X (pins++[(L,o)]) σ H' s':=IB.pins_of fun p hp=>by
   rcases Aj.mp hp with z | z
   ·exact IB.pin p (Ab _ z)
   ·have:p=(L,o):=by simpa using z
    subst this;exact⟨ho,I'.free,nL,I2.nofs hL,fun v z=>by rw[hrest.1] at z;cases z⟩
  refine thn (zgb hN hi' hx hf (pins++[(L,o)]) s' σ H' (.ref Da) (.ref Da) (fun σ4 H4=>σ4=σ.set i (some (.ref Da))/\H4=H') IP rfl ⟨rfl,rfl⟩) fun _ s4 ⟨σ4,H4,I4,e4,e5⟩=>?_
  have hp:=I4.pin (L,o) (by simp)
  have IU:Inv C.X pins σ4 H4 s4:=I4.unpinned;refine⟨m,⟨o,es,ep,hp.1,hrest⟩,fun h' sb=>⟨σ4,H4,zh9 IU hp.2.1 nL (B9 I2.sz hL) nC nP sb,?_⟩⟩
  subst e4 e5;exact k _ _ (S.setN (sm.trans sm') (sm.free nD) ⟨xs,hD,rp⟩)
end
end PU
namespace PU
open PySem PySem.Spec PyProof.Rows L2 PySem.SeqAt
theorem zvx{M:Model}{A:B0}{E:A9->AD->Prop}{s:AD}{a:Addr}{Q:Option Bi->AD->Prop}(q:Q (s.heap.get? a) s):Af M A (loadIfAlive a) Q E s:=fun Γ p hΓ=>by
 unfold loadIfAlive;rw[Sem.wp_loadIfAlive];exact AH (M:=M) (A:=A) q Γ p hΓ
abbrev ItH(h:Heap)(it d a:Addr)(f:Bool)(i n ep:Nat)(ok ov:A9):Prop:=
 h.get? it=some { cls:=.type "dict_itemiterator",dict:=none,data:=.fields #[Dq a,.bool f,.ref d,.int i 0,.int n 0,.int ep 0,ok,ov],slots:=#[] }
section
variable{prog : Ak}{w : Ar}{K : Type}[DecidableEq K]{knd : KeyKind prog w K}{A : B0}{E : A9 → AD → Prop}{s : AD}
theorem Zam{it d a:Addr}{f:Bool}{i ep:Nat}{kvs:List (K×A9)}{k:K}{v ok ov:A9}{oa:Bi}{Q:Option A9->AD->Prop}(hI:ItH s.heap it d a f i kvs.length ep ok ov)(ha:s.heap.get? a=some oa)(hai:a≠it)
  (hm:s.heap.DictAt knd d kvs ep) (hx:kvs[i]?=some (k,v))
  (hQ:∀key h',knd.is k key=true->ItH h' it d a true (i+1) kvs.length ep ok ov->h'.get? s.heap.objs.size=some { cls:=.type "tuple",data:=.seq #[key,v] }->h'.objs.size=s.heap.objs.size+1->
   (∀b o,b≠it->s.heap.get? b=some o->h'.get? b=some o)->Q (some (.ref s.heap.objs.size)) { s with heap:=h' }) :
  Af (Ap prog w) A (Ec (.ref it)) Q E s:=by
 obtain⟨h0,g,dr,tk,os⟩:=s;obtain⟨od,es,e1,e2,e3,e4,pr,e5⟩:=id hm;have tI:G3 ⟨h0,g,dr,tk,os⟩ (.ref it) "dict_itemiterator":=⟨_,hI,rfl⟩;have ow:EZ "dict_itemiterator"=true:=by decide
 have sz:es.size=kvs.length:=by rw[← pr.length];simp
 have lt1:i<kvs.length:=(AA.mp hx).1;have lt2:i<es.size:=by omega
 obtain⟨kq,vq⟩:=pr.get? (e:=es[i]) (by simp[lt2]) hx
 unfold Ec;refine AB (wpAny_attempt (DK (name:=AN "__next__") tI C3 (Dj C3 tI Ep ?_ (Ei _))));refine AB (AH (AB (AB ?_)))
 first | refine AB (CY tI (AH (AB (FE hI rfl ?_)))) | refine AB (D4 tI (AH (AB (FE hI rfl ?_))))
 simp only[ow,if_true];show Af _ _ (if (B6 d == Bm)=true then _ else _) _ _ _
 rw[if_neg (show ¬ ((B6 d == Bm)=true) from AM)];refine AB (AH (AB (Co e1 e3 ?_)));rw[if_neg (by rw[sz];simp)]
 refine AB (AH (AB (Ez e1 e3 ?_)));rw[if_neg (by simp)]
 refine AH ?_;simp only[show ¬ ((i:Int)<0) from by omega,if_false,DI,Br lt2]
 refine AB ?_
 first | refine AB (CY tI (AH (AB (DV tI ?_)))) | refine AB (D4 tI (AH (AB (DV tI ?_))))
 show Af _ _ (setField (.ref it) 3 (Dq ((i:Int)+1)) >>= _) _ _ ⟨h0,g,dr,tk,os⟩;refine AB (wpAny_setField_rec hI (by simp) fun h1 f1 s1=>?_)
 have s1:DC it h0 h1:=s1
 have f1:ItH h1 it d a f (i+1) kvs.length ep ok ov:=by
  have e:((i+1:Nat):Int)=(i:Int)+1:=by omega
  unfold ItH;rw[e];simpa [Dq] using f1
 have t1:G3 ⟨h1,g,dr,tk,os⟩ (.ref it) "dict_itemiterator":=⟨_,f1,rfl⟩;refine AB (CG (AB (DV t1 (AB (DV t1 ?_)))));show Af _ _ (E3 (.ref it) 6 es[i].key es[i].val) _ _ ⟨h1,g,dr,tk,os⟩;unfold E3;refine AB (wpAny_newTuple ?_);have z1:h1.objs.size=h0.objs.size:=s1.1;have il:it<h0.objs.size:=AL hI;have f2:ItH (h1.push { cls:=.type "tuple",data:=.seq #[es[i].key,es[i].val] }) it d a f (i+1) kvs.length ep ok ov:=AC _ f1;have a2:(h1.push { cls:=.type "tuple",data:=.seq #[es[i].key,es[i].val] }).get? a=some oa:=AC _ (s1.extBut a oa hai ha);have t2:(h1.push { cls:=.type "tuple",data:=.seq #[es[i].key,es[i].val] }).get? h0.objs.size=some { cls:=.type "tuple",data:=.seq #[es[i].key,es[i].val] }:=by rw[← z1];exact Aa _ rfl
 have z2:(h1.push { cls:=.type "tuple",data:=.seq #[es[i].key,es[i].val] }).objs.size=h0.objs.size+1:=by rw[DB,z1]
 have k2:∀b o,b≠it->h0.get? b=some o->(h1.push { cls:=.type "tuple",data:=.seq #[es[i].key,es[i].val] }).get? b=some o:=fun b o hb e=>AC _ (s1.extBut b o hb e)
 rw[z1];show Af _ _ (Du (.ref it) >>= _) _ _ ⟨h1.push { cls:=.type "tuple",data:=.seq #[es[i].key,es[i].val] },g,dr,tk,os⟩;generalize h1.push { cls:=.type "tuple",data:=.seq #[es[i].key,es[i].val] }=h2 at f2 a2 t2 z2 k2 ⊢;refine AB ?_;unfold Du;refine AB (FF f2 rfl (x:=Dq a) rfl ?_);show Af _ _ (loadIfAlive (a:Int).toNat >>= _) _ _ _;rw[DI];refine AB (zvx ?_);show Af _ _ (if (Option.isNone (h2.get? a))=true then _ else _) _ _ _
 rw[a2];rw[if_neg (by simp)]
 refine AB (FF f2 rfl (x:=.bool f) rfl ?_)
 have last:∀h3,ItH h3 it d a true (i+1) kvs.length ep ok ov->DC it h2 h3\/h3=h2->Q (some (.ref h0.objs.size)) ⟨h3,g,dr,tk,os⟩:=fun h3 f3 s3=>by
  have kk:∀b o,b≠it->h2.get? b=some o->h3.get? b=some o:=fun b o hb e=>by
   rcases s3 with s3 | rfl
   ·exact s3.extBut b o hb e
   ·exact e
  refine hQ es[i].key h3 kq f3 ?_ ?_ fun b o hb e=>kk b o hb (k2 b o hb e)
  ·rw[← vq];exact kk _ _ (BS il) t2
  ·show h3.objs.size=h0.objs.size+1
   rcases s3 with s3 | rfl
   ·rw[s3.1,z2]
   ·exact z2
 cases f with
 | true=>
  show Af _ _ (if (EK true != EK true)=true then _ else _) _ _ _
  rw[if_neg (by decide)]
  refine AH ?_;show Af _ _ (if false=true then _ else _) _ _ _
  rw[if_neg AM];exact AH (AH ⟨_,rfl,AH (last h2 f2 (.inr rfl))⟩)
 | false=>
  show Af _ _ (if (EK false != EK true)=true then _ else _) _ _ _
  rw[if_pos (by decide)]
  refine AB (wpAny_setField_rec f2 (by simp) fun h3 f3 s3=>AH ?_)
  show Af _ _ (if false=true then _ else _) _ _ _
  rw[if_neg AM];exact AH (AH ⟨_,rfl,AH (last h3 f3 (.inl s3))⟩)
theorem Zas{it d a:Addr}{f:Bool}{i ep:Nat}{kvs:List (K×A9)}{ok ov:A9}{Q:Option A9->AD->Prop}(hh:A.handled=none)(hI:ItH s.heap it d a f i kvs.length ep ok ov)(hm:s.heap.DictAt knd d kvs ep)(hx:kvs[i]?=none)
  (hQ:∀h',Fj it s.heap h'->Q none { s with heap:=h' }):Af (Ap prog w) A (Ec (.ref it)) Q E s:=by
 obtain⟨od,es,e1,e2,e3,e4,pr,e5⟩:=id hm;have tI:s.TypeIs (.ref it) "dict_itemiterator":=⟨_,hI,rfl⟩;have ow:EZ "dict_itemiterator"=true:=by decide
 have sz:es.size=kvs.length:=by rw[← pr.length];simp
 have ge:es.size<=i:=by rw[sz];simpa using hx
 unfold Ec;refine AB (wpAny_attempt (DK (name:=AN "__next__") tI C3 (Dj C3 tI Ep ?_ (Ei _))));refine AB (AH (AB (AB ?_)))
 first | refine AB (CY tI (AH (AB (FE hI rfl ?_)))) | refine AB (D4 tI (AH (AB (FE hI rfl ?_))))
 simp only[ow,if_true];show Af _ _ (if (B6 d == Bm)=true then _ else _) _ _ _
 rw[if_neg (show ¬ ((B6 d == Bm)=true) from AM)];refine AB (AH (AB (Co e1 e3 ?_)));rw[if_neg (by rw[sz];simp)]
 refine AB (AH (AB (Ez e1 e3 ?_)));rw[if_neg (by simp)]
 refine AH ?_;simp only[show ¬ ((i:Int)<0) from by omega,if_false,DI,Array.getElem?_eq_none ge]
 refine AB ?_
 first | refine AB (CY tI (AH ?_)) | refine AB (D4 tI (AH ?_))
 show Af _ _ (setField (.ref it) 2 .none >>= _) _ _ s;refine AB (wpAny_setField hI rfl (by simp) ?_)
 show Af _ _ (newExc (.type "StopIteration") [] >>= _) _ _ _;refine AB ?_;simp only[newExc,newTuple];refine AB (Bt ?_ (by size_fits))
 refine AB (m:=firstArgMember _ _) (wpAny_of_eq (a:=Bm) (by first | rfl | (simp only[firstArgMember];rfl)) (Bt ?_ (by size_fits)))
 simp only[raiseNew];refine AB (wpAny_handled ?_);rw[show A.in1.handled=none from hh];refine AB (AH (wpAny_throw ?_));refine AB (El (T:="StopIteration") (b:=true) ⟨_,Aa _ rfl,rfl⟩ isSubtype_stop ?_);exact AH (hQ _ (((Heap.SameBut.update ..).extBut.push _).push _))
structure LiT(knd:KeyKind prog w K)(h:Heap)(S it:Addr)(kvs:List (K×A9))(i:Nat)(Ts:List Addr)(c:Nat):Prop where
 len:Ts.length=i
 li:h.get? S=some { cls:=.type "list",data:=.seq (Ts.map B6).toArray c }
 tu:∀(j:Nat) (T:Addr) (k:K) (v:A9),Ts[j]?=some T->kvs[j]?=some (k,v)->∃key,knd.is k key=true/\h.get? T=some { cls:=.type "tuple",data:=.seq #[key,v] }
 nS:∀T∈Ts,T≠S/\T≠it
 lo:∀T∈Ts,S<T
 nd:Ts.Nodup
 al:∀T∈Ts,∃o,h.get? T=some o
theorem Zaw(knd:KeyKind prog w K){S it d:Addr}{kvs:List (K×A9)}{ep:Nat}{R:Gn->AD->Prop}(hSI:S≠it)(hSd:d≠S)(hId:d≠it)(hz:kvs.length<=sizeLine)(hh:A.handled=none)(res:A9)(keep:Heap->Prop)
  (hk:∀h h',keep h->(∀b o,b≠S->b≠it->h.get? b=some o->h'.get? b=some o)->keep h')
  (fin:∀h tk Ts c,keep h->LiT knd h S it kvs kvs.length Ts c->R (.ok (.ret res)) { s with heap:=h,toks:=tk }):∀(m i:Nat)(h:Heap)(tk:Nat)(Ts:List Addr)(c:Nat),kvs.length-i=m->i<=kvs.length->keep h->LiT knd h S it kvs i Ts c->h.DictAt knd d kvs ep->
  ((i=0/\IsItemIter h it d 0 kvs.length ep .none .none)\/∃a f ok ov,a∈Ts/\ItH h it d a f i kvs.length ep ok ov)->
  D0 (Ap prog w) A (.builtin "list.extend.loop" ⟨[.ref S,.ref it,res],[]⟩) R { s with heap:=h,toks:=tk }:=by
 intro m
 induction m with
 | zero=>
  intro i h tk Ts c hm hi kp L di st;have e:i=kvs.length:=by omega
  subst e;refine F4 Fp ?_;rw[GW CD _];show Af _ A.in1 (Ec (.ref it) >>= _) _ _ _;have none_:kvs[kvs.length]?=none:=by simp
  have done:∀h',Fj it h h'->R (.ok (.ret res)) { s with heap:=h',toks:=tk }:=fun h' ex=>by
   refine fin h' tk Ts c (hk h h' kp fun b o _ hb e=>ex b o hb e) ⟨L.len,ex _ _ hSI L.li,fun j T k v e1 e2=>?_,L.nS,L.lo,L.nd,fun T hT=>?_⟩
   ·obtain⟨key,q1,q2⟩:=L.tu j T k v e1 e2
    exact⟨key,q1,ex _ _ (L.nS T (AS e1)).2 q2⟩
   ·obtain⟨o,e⟩:=L.al T hT
    exact⟨o,ex _ _ (L.nS T hT).2 e⟩
  rcases st with⟨h0,st⟩|⟨a,f,ok,ov,_,st⟩
  ·rw[h0] at none_
   exact AB (wpAny_pyNext_items_end (s:={ s with heap:=h,toks:=tk }) (A:=A.in1) hh st di none_ fun h' ex=>AH (done h' ex))
  ·exact AB (Zas (s:={ s with heap:=h,toks:=tk }) (A:=A.in1) hh st di none_ fun h' ex=>AH (done h' ex))
 | succ m ih=>
  intro i h tk Ts c hm hi kp L di st;have hlt:i<kvs.length:=by omega
  obtain⟨k,v,ekv⟩:∃k v,kvs[i]?=some (k,v):=⟨_,_,AX hlt⟩;have hSl:S<h.objs.size:=AL L.li
  have hIl:it<h.objs.size:=by
   rcases st with⟨_,st⟩|⟨a,f,ok,ov,_,st⟩
   ·exact AL st
   ·exact AL st
  have nx:∀(E':A9->AD->Prop) (Q:Option A9->AD->Prop),(∀key h' a f ok ov,knd.is k key=true->a∈Ts++[h.objs.size]->ItH h' it d a f (i+1) kvs.length ep ok ov->h'.get? h.objs.size=some { cls:=.type "tuple",data:=.seq #[key,v] }->(∀b o,b≠it->h.get? b=some o->h'.get? b=some o)->
    Q (some (.ref h.objs.size)) { s with heap:=h',toks:=tk })->Af (Ap prog w) A.in1 (Ec (.ref it)) Q E' { s with heap:=h,toks:=tk }:=fun E' Q hQ=>by
   rcases st with⟨h0,st⟩|⟨a,f,ok,ov,ma,st⟩
   ·subst h0
    exact wpAny_pyNext_items_item (s:={ s with heap:=h,toks:=tk }) st di ekv fun key h' q1 q2 q3 _ q5=>hQ key h' h.objs.size false key v q1 (by simp) q2 q3 q5
   ·obtain⟨oa,ea⟩:=L.al a ma
    exact Zam (s:={ s with heap:=h,toks:=tk }) st ea (L.nS a ma).2 di ekv fun key h' q1 q2 q3 _ q5=>hQ key h' a true ok ov q1 (by simp[ma]) q2 q3 q5
  refine F4 Fp ?_;rw[GW CD _];show Af _ A.in1 (Ec (.ref it) >>= _) _ _ _;refine AB (nx _ _ fun key h' a f ok ov kq ma st' tq kk=>?_)
  have hS':=kk S _ hSI L.li;have nT:h.objs.size≠S/\h.objs.size≠it:=⟨BS hSl,BS hIl⟩;have sz:((Ts.map B6).toArray).size=i:=by simp[L.len]
  show Af _ A.in1 (updateSeq S (·.push (.ref h.objs.size)) >>= _) _ _ _;refine AB ?_;refine Cj hS' rfl (AH ⟨HE CD _,?_⟩) (by rw[sz];omega) (by rw[Array.size_push,sz];omega)
  have up:∀b o,b≠S->h'.get? b=some o->(h'.update S (Av (·.push (.ref h.objs.size)))).get? b=some o:=fun b o hb e=>(BZ _ _ (Bc hb)).trans e
  obtain⟨c',u⟩:∃c',(h'.update S (Av (·.push (.ref h.objs.size)))).get? S=some { cls:=.type "list",data:=.seq ((Ts.map B6).toArray.push (.ref h.objs.size)) c' }:=⟨_,Bu _ hS' rfl⟩;rw[show (Ts.map B6).toArray.push (.ref h.objs.size)=((Ts++[h.objs.size]).map B6).toArray by simp] at u
  have old:∀T∈Ts,∀o,h.get? T=some o->(h'.update S (Av (·.push (.ref h.objs.size)))).get? T=some o:=fun T hT o e=>up T o (L.nS T hT).1 (kk T o (L.nS T hT).2 e)
  refine ih (i+1) _ tk (Ts++[h.objs.size]) c' (by omega) hlt (hk h _ kp fun b o h1 h2 e=>up b o h1 (kk b o h2 e)) ⟨by simp[L.len],u,fun j T k' v' e1 e2=>?_,fun T hT=>?_,fun T hT=>?_,?_,fun T hT=>?_⟩ ?_ (.inr ⟨a,f,ok,ov,ma,up it _ (Bc hSI) st'⟩)
  ·rw[HB] at e1
   split at e1
   ·obtain⟨key',q1,q2⟩:=L.tu j T k' v' e1 e2
    exact⟨key',q1,old T (AS e1) _ q2⟩
   ·have hj:=AO.mp (AS e1)
    have hj2:j-Ts.length=0:=by
     have:=(AA.mp e1).1;simp at this;omega
    have hj3:j=i:=by have:=L.len;omega
    subst hj hj3;rw[ekv] at e2;cases e2;exact⟨key,kq,up _ _ nT.1 tq⟩
  ·rcases Aj.mp hT with z | z
   ·exact L.nS T z
   ·rw[AO.mp z];exact nT
  ·rcases Aj.mp hT with z | z
   ·exact L.lo T z
   ·rw[AO.mp z];exact hSl
  ·rw[BK]
   refine⟨L.nd,by simp,fun T hT T' hT' e=>?_⟩
   obtain⟨o,eo⟩:=L.al T hT;rw[e,AO.mp hT'] at eo;exact absurd (AL eo) (BE _)
  ·rcases Aj.mp hT with z | z
   ·obtain⟨o,e⟩:=L.al T z
    exact⟨o,old T z o e⟩
   ·rw[AO.mp z];exact⟨_,up _ _ nT.1 tq⟩
  ·obtain⟨o,es,ho,r⟩:=di
   exact⟨o,es,up d o hSd (kk d o hId ho),r⟩
end
end PU
namespace PU
open PySem PySem.Spec PyProof.Rows L2 PySem.SeqAt
theorem zky:isSubtype (.type "dict_items") (.type "dict_items")=pure true:=by rw[isSubtype_type];kernel_rfl
section
variable{P : Ak}{w : Ar}{A : B0}{E : A9 → AD → Prop}{s : AD}{d v : Addr}{kvs : List (Key×A9)}{ep : Nat}
theorem zmr{Q:A9->AD->Prop}(hh:A.handled=none)(hv:s.heap.IsItemsView v d)(m:s.heap.DictAt (zao P w) d kvs ep)(hz:kvs.length<=sizeLine)
  (q:∀(h':Heap) (tk:Nat) (it:Addr) (Ts:List Addr) (c:Nat),(∀b o,s.heap.get? b=some o->h'.get? b=some o)->LiT (zao P w) h' s.heap.objs.size it kvs kvs.length Ts c->Q (.ref s.heap.objs.size) { s with heap:=h',toks:=tk }):Af (Ap P w) A (call (.type "list") [.ref v]) Q E s:=by
 have ld:d<s.heap.objs.size:=by obtain⟨o,es,ho,_⟩:=m;exact AL ho
 have lv:v<s.heap.objs.size:=by obtain⟨o,ho,_⟩:=hv;exact AL ho
 refine Gj (Q₁:=fun obj s₁=>obj=.ref s.heap.objs.size/\s₁={ s with heap:=s.heap.push { cls:=.type "list",data:=.seq #[] } }) GU (G4 _) G7 (code_list_new _ ⟨rfl,rfl⟩) fun obj s₁ h₁=>?_
 obtain⟨rfl,rfl⟩:=h₁;have g0:(s.heap.push { cls:=.type "list",data:=.seq #[] }).get? s.heap.objs.size=some { cls:=.type "list",data:=.seq #[] }:=Aa _ rfl;refine⟨⟨_,g0,rfl⟩,Fw _ _,?_⟩;show Af _ _ (do let old<- Ct (.ref s.heap.objs.size);FR (.ref s.heap.objs.size) (fun _=>#[]);letGo old.toList.reverse;Be (.ref s.heap.objs.size) (.ref v) .none) _ _ _
 refine AB ?_;unfold Ct;refine AB (wpAny_seqItems g0 rfl (AH ?_));show Af _ _ (updateSeq s.heap.objs.size (fun _=>#[]) >>= fun _=>letGo (#[]:Array A9).toList.reverse >>= fun _=>Be (.ref s.heap.objs.size) (.ref v) .none) _ _ _
 refine AB (Cj g0 rfl ?_ (B3 _) (B3 _));have g1:=Bu (Av (fun _=>(#[]:Array A9))) g0 rfl
 have k1:∀b o,s.heap.get? b=some o->((s.heap.push { cls:=.type "list",data:=.seq #[] }).update s.heap.objs.size (Av (fun _=>(#[]:Array A9)))).get? b=some o:=
  fun b o e=>(BZ _ _ (BS (AL e))).trans (AC _ e)
 have z1:((s.heap.push { cls:=.type "list",data:=.seq #[] }).update s.heap.objs.size (Av (fun _=>(#[]:Array A9)))).objs.size=s.heap.objs.size+1:=by rw[Heap.size_update,DB]
 refine AB (wpAny_letGo ?_);generalize (s.heap.push { cls:=.type "list",data:=.seq #[] }).update s.heap.objs.size (Av (fun _=>(#[]:Array A9)))=h1 at g1 k1 z1 ⊢
 have m1:h1.DictAt (zao P w) d kvs ep:=by
  obtain⟨o,es,ho,r⟩:=m;exact⟨o,es,k1 _ _ ho,r⟩
 have v1:h1.IsItemsView v d:=by
  obtain⟨o,ho,r⟩:=hv;exact⟨o,k1 _ _ ho,r⟩
 have t1:({ s with heap:=h1 }:AD).TypeIs (.ref v) "dict_items":=v1.typeIs;unfold Be;refine AB (DS (T:="dict_items") t1 ?_)
 have r1:FK (.ref s.heap.objs.size) (.ref v)=false:=by
  show (s.heap.objs.size == v)=false;simpa using BS lv
 have r2:(CP "dict_items" == CP "list")=false:=by decide
 have r3:(CP "dict_items" == CP "tuple")=false:=by decide
 simp only[r1,r2,r3,GM,BW,if_false];refine AB (wpAny_pyIter_items (knd:=zao P w) (s:={ s with heap:=h1 }) v1 m1 ?_);refine AB (CG ?_);obtain⟨itO,eO⟩:∃o:Bi,o={ cls:=.type "dict_itemiterator",data:=.fields #[.none,.bool false,.ref d,.int 0 0,.int kvs.length 0,.int ep 0,.none,.none] }:=⟨_,rfl⟩;rw[← eO]
 have m2:(h1.push itO).DictAt (zao P w) d kvs ep:=by
  obtain⟨o,es,ho,r⟩:=m1;exact⟨o,es,AC _ ho,r⟩
 have v2:(h1.push itO).IsItemsView v d:=by
  obtain⟨o,ho,r⟩:=v1;exact⟨o,AC _ ho,r⟩
 have t2:=(show ({ s with heap:=h1.push itO }:AD).TypeIs (.ref v) "dict_items" from v2.typeIs);unfold F8;refine AB (wpAny_specialOf (T:="dict_items") (v:=.ref v) t2 PySem.F.slot_dict_items_len.lookup ?_)
 wp_delta
 refine AB (El (T:="dict_items") (v:=.ref v) (b:=true) t2 zky ?_);show Af _ _ (typeOf (B6 v) >>= _) _ _ _;refine AB (DS (T:="dict_items") (v:=.ref v) t2 (AH ?_));rw[if_pos (by decide)]
 refine AB (Gf (AB ?_));unfold FZ;have nI:h1.objs.size≠s.heap.objs.size:=by rw[z1];exact EU _
 have gL2:(h1.push itO).get? s.heap.objs.size=some _:=AC _ g1;have gI2:(h1.push itO).get? h1.objs.size=some itO:=Aa _ (by rw[eO];rfl)
 have k2:∀b o,s.heap.get? b=some o->(h1.push itO).get? b=some o:=fun b o e=>AC _ (k1 b o e)
 refine AB (Cj gL2 rfl ?_ (B3 _) (by show 1<=_;rw[B2];decide))
 have g3:=Bu (Av (·.push Bm)) gL2 rfl;refine Cj g3 rfl ?_ (by show 1<=_;rw[B2];decide) (B3 _)
 obtain⟨c4,g4⟩:∃c,(((h1.push itO).update s.heap.objs.size (Av (·.push Bm))).update s.heap.objs.size (Av (·.pop))).get? s.heap.objs.size=some { cls:=.type "list",data:=.seq #[] c }:=⟨_,Bu (Av (·.pop)) g3 rfl⟩
 have k4:∀b ob,b≠s.heap.objs.size->(h1.push itO).get? b=some ob->(((h1.push itO).update s.heap.objs.size (Av (·.push Bm))).update s.heap.objs.size (Av (·.pop))).get? b=some ob:=fun b ob hb e=>
  (BZ _ _ (Bc hb)).trans ((BZ _ _ (Bc hb)).trans e)
 show Af _ _ _ _ _ { s with heap:=(((h1.push itO).update s.heap.objs.size (Av (·.push Bm))).update s.heap.objs.size (Av (·.pop))) };generalize ((h1.push itO).update s.heap.objs.size (Av (·.push Bm))).update s.heap.objs.size (Av (·.pop))=h4 at g4 k4 ⊢;have nd:d≠s.heap.objs.size:=AZ ld;have ndI:d≠h1.objs.size:=by rw[z1];exact AZ (C1 ld)
 have m4:h4.DictAt (zao P w) d kvs ep:=by
  obtain⟨o,es,ho,r⟩:=m2;exact⟨o,es,k4 _ _ nd ho,r⟩
 have i4:IsItemIter h4 h1.objs.size d 0 kvs.length ep .none .none:=by
  have:=k4 _ _ nI gI2;rw[eO] at this;exact this
 refine AH ⟨HE CD _,?_⟩
 refine Zaw (A:=A.in1) (s:=s) (zao P w) (S:=s.heap.objs.size) (it:=h1.objs.size) (d:=d) (kvs:=kvs) (ep:=ep) (Bc nI) nd ndI hz hh .none (fun h=>∀b o,s.heap.get? b=some o->h.get? b=some o)
  (fun h h' kp k b o e=>k b o (AZ (AL e)) (by rw[z1];exact AZ (C1 (AL e))) (kp b o e)) (fun h tk Ts c kp L=>?_) kvs.length 0 h4 s.toks [] c4 rfl (B3 _) (fun b o e=>k4 b o (AZ (AL e)) (k2 b o e)) ⟨rfl,g4,fun j T k v e=>by simp at e,by simp,by simp,by simp,by simp⟩ m4 (.inl ⟨rfl,i4⟩)
 exact⟨rfl,q h tk h1.objs.size Ts c kp L⟩
end
end PU
namespace PU
open PySem PySem.Spec PyProof.Rows L2 PySem.SeqAt
def zmy:PV->Option PV
 | .dct ks ps=>if ks.length<=16777216 then some (.lst ((zi6 ks ps).map .tup)) else none
 | _=>none
theorem zt9{X:Cx}{pins:List (Addr×Bi)}{σ:L2.St}{H H':Hp}{s:AD}{h':Heap}{t':Nat}(I:L2.Inv X pins σ H s)(k:∀b u,s.heap.get? b=some u->h'.get? b=some u)(low:∀b,b<s.heap.objs.size->H' b=H b)
  (new:∀b u,s.heap.objs.size<=b->H' b=some u->zdx X.prog X.w H' h' b u):L2.Inv X pins σ H' { s with heap:=h',toks:=t' }:=by
 have at_:∀b u,H b=some u->H' b=some u:=fun b u e=>by rw[low b (I.hok.lt e)];exact e
 refine I.un ⟨fun b u q _ _ _=>k b u q,fun b u q _ _ _=>⟨u.slots,k b u q⟩,fun b u q n _=>by rw[low b (AL q)];exact n,fun b u q _=>⟨u,k b u q⟩,fun b xs q=>at_ _ _ q,fun b o u q=>at_ _ _ q,fun b ps q=>⟨#[],by rw[at_ _ _ q];simp⟩⟩ fun b u e=>?_
 by_cases hb:b<s.heap.objs.size
 ·rw[low b hb] at e
  exact(I.hok b u e).stay (fun c v _ q=>k c v q) (fun c q=>at_ _ _ q) fun c xs q=>at_ _ _ q
 ·exact new b u (Fm hb) e
def liH(H:Hp)(n0:Addr)(Ts:List Addr)(kvs:List (Key×V)):Hp:=fun b=>if b<n0 then H b else if b=n0 then some (.lst (Ts.map V.ref)) else ((Ts.zip kvs).lookup b).map fun kv=>.tup [kV kv.1,kv.2]
theorem zlj:∀(Ts:List Addr)(kvs:List (Key×V))(b:Addr)(kv:Key×V),(Ts.zip kvs).lookup b=some kv->∃j:Nat,Ts[j]?=some b/\kvs[j]?=some kv
 | [],_,_,_,e=>by simp at e
 | _::_,[],_,_,e=>by simp at e
 | T::Ts,kv0::kvs,b,kv,e=>by
  rw[Dp,Aq] at e
  by_cases h:b=T
  ·subst h
   simp at e;exact⟨0,rfl,by simp[e]⟩
  ·rw[beq_false_of_ne h] at e
   obtain⟨j,h1,h2⟩:=zlj Ts kvs b kv e;exact⟨j+1,h1,h2⟩
theorem zx4:∀(Ts:List Addr)(kvs:List (Key×V))(j:Nat)(b:Addr)(kv:Key×V),Ts.Nodup->Ts[j]?=some b->kvs[j]?=some kv->(Ts.zip kvs).lookup b=some kv
 | [],_,_,_,_,_,e,_=>by simp at e
 | _::_,[],_,_,_,_,_,e=>by simp at e
 | T::Ts,kv0::kvs,0,b,kv,_,e1,e2=>by
  cases e1;cases e2;rw[Dp,Aq];simp
 | T::Ts,kv0::kvs,j+1,b,kv,nd,e1,e2=>by
  rw[Ay] at nd;have e1:Ts[j]?=some b:=e1;have h:b≠T:=fun z=>nd.1 (z▸AS e1)
  rw[Dp,Aq,beq_false_of_ne h];exact zx4 Ts kvs j b kv nd.2 e1 e2
variable[TW]
theorem zsv{K:A0}{H:Hp}:∀(ps:List PV)(xs:List V),ps.length=xs.length->(∀(i:Nat)(p:PV)(x:V),ps[i]?=some p->xs[i]?=some x->Rep K H p x)->Reps K H ps xs
 | [],[],_,_=>rfl
 | [],_::_,h,_=>by simp at h
 | _::_,[],h,_=>by simp at h
 | p::ps,x::xs,h,k=>⟨x,xs,rfl,k 0 p x rfl rfl,zsv ps xs (by simpa using h) fun i q y e1 e2=>k (i+1) q y (by simpa using e1) (by simpa using e2)⟩
theorem zu3 {C:Cn} {o:Expr} {fo:PSt->R PV} {p apos cpos pos:C7} (hg:Gl C.X "list") (hm:C.X.mg "list"=none) (ho:EO C o fo) (hw:C.X.w=TW.w:=by rfl) (hc:C.X.calm=true:=by rfl)
  (hbase:DA o "items" C.X.env (BR o C.X.env)=BR o C.X.env:=by rfl) (hline:(apos.endLine == cpos.line)=true:=by rfl)
  (hs:Ad [.Call (.Attribute o "items" apos) [] [] cpos] C.X.env=[(false,BR (.Call (.Attribute o "items" apos) [] [] cpos) C.X.env)]:=by exact zbm rfl) :
  EN C (.Call (.Name "list" p) [.Call (.Attribute o "items" apos) [] [] cpos] [] pos) (un1 fo zmy):=by
 intro pins s σ H Q I ⟨ρ,vw,q⟩;refine Call_ (zhz I hg hm (u:=.type "list") (by rfl) (BM ?_ hs rfl))
 rw[hs];refine HJ (wpAny_Call_method0_late hbase hline (thn (ho pins s σ H (fun v H1=>∃p,RepO C.X.K H1 p v/\Same H H1/\RQ C H (R.ofO (zmy p)) fun p=>∀a H',Same H H'->H a=none->zco C.X.K H' a p->Q (.ref a) H') I ⟨ρ,vw,q.bind.imp fun p _ k v H1 s1 r1=>⟨p,r1,s1,k⟩⟩) fun u s1 ⟨x,H1,I1,r1,p,ro,sm,k⟩=>?_))
 cases p with
 | dct ks ps=>
  obtain⟨a,kvs,rfl,g,e1,rr⟩:=ro;cases r1;obtain⟨z,ez,k⟩:=k.ofO;have ez:(if ks.length<=16777216 then some (PV.lst ((zi6 ks ps).map .tup)) else none)=some z:=ez
  by_cases hl:ks.length<=16777216
  ·rw[if_pos hl] at ez
   cases ez;obtain⟨hz,hd,vs,rel,od,es,ep,h1,h2,h3,rest⟩:=DkR.at hw I1 g;have dat:s1.heap.DictAt (zao C.X.prog C.X.w) a vs ep:=⟨od,es,h1,h2,h3,rest⟩;have dd:s1.heap.DictOf (zao C.X.prog C.X.w) a vs:=dat.dictOf;have lv:kvs.length=vs.length:=BC rel;refine⟨"dict","dict.items",Dy,G5,PySem.F.type_dict_items,dd.typeIs,dd.mapOf.noDict,ER rfl (PySem.evalArgs_none ?_)⟩;refine Ha G5 dd.typeIs PySem.F.entry_dict_items (PySem.F.args_dict_items_1 _) (meets_dict_items (zao C.X.prog C.X.w) a hd) ⟨⟨vs,dd⟩,?_⟩;refine HN ?_;have I2:L2.Inv C.X pins σ H1 { s1 with heap:=s1.heap.push { cls:=.type "dict_items",data:=.fields #[.ref a] } }:=I1.kept (t':=s1.toks) fun b ob e=>AC _ e
   refine zmr (P:=C.X.prog) (w:=C.X.w) (s:={ s1 with heap:=s1.heap.push { cls:=.type "dict_items",data:=.fields #[.ref a] } }) (I1.ok.hd hc) ⟨_,Aa _ rfl,rfl,rfl⟩ (dat.push _) (by omega) fun h' tk it Ts c keep L=>?_
   generalize hn0:(s1.heap.push { cls:=.type "dict_items",data:=.fields #[.ref a] }).objs.size=n0 at *;have lo:∀b,b<n0->liH H1 n0 Ts kvs b=H1 b:=fun b hb=>if_pos hb
   have at0:liH H1 n0 Ts kvs n0=some (.lst (Ts.map V.ref)):=by
    unfold liH;rw[if_neg (BE _),if_pos rfl]
   have atT:∀(j:Nat)(T:Addr)(kv:Key×V),Ts[j]?=some T->kvs[j]?=some kv->liH H1 n0 Ts kvs T=some (.tup [kV kv.1,kv.2]):=fun j T kv f1 f2=>by
    have hT:=L.lo T (AS f1);unfold liH;rw[if_neg (Ee.mpr (Ef hT)),if_neg (BS hT),zx4 Ts kvs j T kv L.nd f1 f2];rfl
   have sm2:Same H1 (liH H1 n0 Ts kvs):=Same.of fun b ob e=>by
    have:b<n0:=by rw[← hn0];exact I2.hok.lt e
    rw[lo b this];exact e
   have I3:L2.Inv C.X pins σ (liH H1 n0 Ts kvs) { s1 with heap:=h',toks:=tk }:=by
    refine zt9 (s:={ s1 with heap:=s1.heap.push { cls:=.type "dict_items",data:=.fields #[.ref a] } }) I2 keep (fun b hb=>lo b (by rw[← hn0];exact hb)) fun b u hb e=>?_
    by_cases hb0:b=n0
    ·subst hb0
     rw[at0] at e;cases e;refine⟨by rw[AI,L.len];omega,Ts.map B6,c,?_,L.li⟩
     have:∀l:List Addr,Vals (l.map V.ref) (l.map B6):=by
      intro l
      induction l with
      | nil=>exact .nil
      | cons T l ih=>exact .cons rfl ih
     exact this Ts
    ·have hb1:¬ b<n0:=by rw[← hn0];exact Ee.mpr hb
     unfold liH at e;rw[if_neg hb1,if_neg hb0] at e;obtain⟨kv,el,rfl⟩:=AQ.mp e;obtain⟨j,f1,f2⟩:=zlj Ts kvs b kv el;obtain⟨kv2,f3⟩:∃kv2,vs[j]?=some kv2:=⟨_,AX (by have:=(AA.mp f2).1;omega)⟩
     obtain⟨g1,g2⟩:=zlg rel f2 f3;obtain⟨key,q1,q2⟩:=L.tu j b kv2.1 kv2.2 f1 f3;refine⟨by show 2<=sizeLine;rw[B2];decide,[key,kv2.2],.cons (zt0 (by rw[g1];exact q1)) (.cons g2 .nil),_,q2,rfl,⟨_,rfl⟩,fun _=>rfl⟩
   subst e1;have lps:ps.length=kvs.length:=by rw[rr.length,AI]
   have reps:Reps C.X.K (liH H1 n0 Ts kvs) ((zi6 (kvs.map (·.1)) ps).map PV.tup) (Ts.map V.ref):=by
    refine zsv _ _ (by simp[zi6,lps,L.len,lv]) fun j p x f1 f2=>?_
    rw[AG] at f1 f2;obtain⟨qs,g1,rfl⟩:=AQ.mp f1;obtain⟨T,g2,rfl⟩:=AQ.mp f2;obtain⟨kv,g3⟩:∃kv,kvs[j]?=some kv:=⟨_,AX (by have:=(AA.mp g2).1;have:=L.len;omega)⟩
    exact⟨T,_,rfl,atT j T kv g2 g3,zrj (rr.same sm2) j qs [kV kv.1,kv.2] g1 (by unfold ztd;rw[AG,g3];rfl)⟩
   refine⟨.ref n0,_,I3,rfl,k n0 _ (sm.trans sm2) (sm.free (by rw[← hn0];exact I2.hok.fresh (AY _))) ⟨Ts.map V.ref,at0,reps⟩⟩
  ·rw[if_neg hl] at ez
   cases ez
 | _=>exact AK k
end PU
namespace PU
open PySem PySem.Spec PyProof.Rows L2
theorem fsc{N ps:List Str}{sc:Scope}(a:sc.kind=.function:=by rfl)(b:sc.isCoroutine=false:=by rfl)(c:sc.isGenerator=false:=by rfl)(d:N.Nodup:=by decide +kernel)(e:N.take ps.length=ps:=by rfl)
  (f:∀x∈ps,sc.names.lookup x=some .local\/sc.names.lookup x=some .cell:=by decide +kernel) (g:∀y∈sc.names,y.2≠.free:=by decide +kernel):FnScope N ps sc:=⟨a,b,c,d,e,f,g⟩
theorem cok{N ps NX N':List Str}{S scX scope:Scope}{nt:Nat}{idx:List Nat}(_:FnScope N ps S)(e1:NX=N:=by rfl)(e2:scX=S:=by rfl)(a:scope.kind=.function:=by rfl)(b:∀y∈scope.names,y.2≠.cell:=by decide +kernel)
  (c:∀y∈scope.names,y.2=.local->scope.names.lookup y.1=some .local:=by decide +kernel) (d:∀y∈scope.names,y.2=.free->S.names.lookup y.1=some .cell\/S.names.lookup y.1=some .free:=by decide +kernel) (e:N'.length=nt+idx.length:=by rfl)
  (f:(idx.zip (N'.drop nt)).all (fun p=>decide (N[p.1]?=some p.2) && decide (scope.names.lookup p.2=some .free))=true:=by decide +kernel):CompOk NX scX scope N' nt idx:=by
 subst e1 e2;exact⟨a,b,c,d,e,f⟩
def Has(K:A0)(n:Str)(st:Stmt):Prop:=∃(f:Addr)(oc kV dc pm cd ct:A9)(od an:Option Addr)(sl:Array (Option A9)),BP K mainGlobals n=some (some (.ref f))/\
 K.lookup f=some ⟨oc,od,.func (Bj n n (zeh st) (zbr st) (zad st) .none kV dc pm an cd ct),sl⟩/\Cd K cd n=true/\CA K (.ref f)=true
theorem Has.of{K:A0}{n:Str}{st:Stmt}{f:Addr}{oc kV dc pm cd ct:A9}{od an:Option Addr}{sl:Array (Option A9)}(a:BP K mainGlobals n=some (some (.ref f)))
  (l:K.lookup f=some ⟨oc,od,.func (Bj n n (zeh st) (zbr st) (zad st) .none kV dc pm an cd ct),sl⟩) (c:Cd K cd n=true) (k:CA K (.ref f)=true):Has K n st:=⟨_,_,_,_,_,_,_,_,_,_,a,l,c,k⟩
def Hs(K:A0)(mg:Str->Option A9)(n:Str)(st:Stmt):Prop:=∃f fd,Fun K n n st f fd/\mg n=some (.ref f)
theorem Has.fn{K:A0}{n:Str}{st:Stmt}{h:Heap}{mg:Str->Option A9}(x:Has K n st)(X:K.In h)(G:h.Ns mainGlobals mg):Hs K mg n st:=by
 obtain⟨f,_,_,_,_,_,_,_,_,_,a,l,c,k⟩:=x;exact⟨f,_,zuk l c k,Ds X G a⟩
variable[TW]
section
variable{C : Cn}{pos : C7}
theorem eo_w(i:Nat){x:Str}(hN:C.X.N[i]?=some x:=by rfl)(hv:Vis C.X.env.scope x:=by first | exact .inl rfl | exact .inr (.inl rfl) | exact .inr (.inr rfl))
  (hd:(x == ("__debug__":Str))=false:=by decide) (hcd:(x == ("__classdict__":Str))=false:=by decide):EO C (.Name x pos) (getV i):=(ev_v i hN hv hd hcd).o
theorem zae{i j}:EO C (.Constant (.int i) j pos) (kI i):=za1.o
theorem zdg{i j}:EO C (.Constant (.str i) j pos) (kS i):=zay.o
theorem tc_n{C:Cn}{N':List Str}{scope:Scope}{cl}{L}{s}{H}{fp}(i:Nat){x:Str}(hi:N'[i]?=some x:=by rfl)(hx:Loc (zcl C N' scope cl L s H fp).X.env.scope x:=by first | exact .inl rfl | exact .inr rfl)(hN:N'.Nodup:=by decide +kernel)
  (hf:(zcl C N' scope cl L s H fp).X.fn x=true\/(zcl C N' scope cl L s H fp).X.env.scope.names.lookup x=some .local:=by first | exact .inl rfl | exact .inr rfl | assumption):TCt (zcl C N' scope cl L s H fp) (.Name x pos) (zai i):=zsl i hN hi hx hf
end
section
variable{P : Ak}{w : Ar}{K : A0}{mg : Str → Option A9}{base : Heap}{x : Str}{st : Stmt}{N ps : List Str}{k : Nat}{g : PSt → R Fl}
theorem pf_h(h:Hs K mg x st)(S:FnScope N ps (zad st))
  (hbody:∀(f:Addr)(cdv:A9)(A:B0)(outer:List FY)(s:AD)(H:Hp)(E:XK),Room k (A.deeper (DY x (zad st) s.heap.objs.size f cdv))->SVs (cnOf P w K mg base N x (zad st) f cdv A outer s H E) (zbr st) g)
  (hb:∀(kV doc pm:A9)(an:Option Addr)(cdv ct:A9)(us:List A9),us.length=ps.length->Fu (Bj x x (zeh st) (zbr st) (zad st) .none kV doc pm an cdv ct) ⟨us,[]⟩=pure (ps.zip us):=by
   intro _ _ _ _ _ _ us hl;repeat' (first | (exfalso;simp only[CM] at hl;omega) | (rcases us with _ | ⟨_,us⟩) | rfl)) :
  PF P w K mg base (k+1) x (runF ps.length N.length g):=by
 obtain⟨f,fd,F,hm⟩:=h;exact Zgz F S hm (F.binds hb) (hbody f)
theorem Zdg(h:Hs K mg x st)(S:FnScope N ps (zad st))
  (hbody:∀(f:Addr)(cdv:A9)(A:B0)(outer:List FY)(s:AD)(H:Hp)(E:XK),Room k (A.deeper (DY x (zad st) s.heap.objs.size f cdv))->SVN (cnOf P w K mg base N x (zad st) f cdv A outer s H E) (zbr st) g)
  (hb:∀(kV doc pm:A9)(an:Option Addr)(cdv ct:A9)(us:List A9),us.length=ps.length->Fu (Bj x x (zeh st) (zbr st) (zad st) .none kV doc pm an cdv ct) ⟨us,[]⟩=pure (ps.zip us):=by
   intro _ _ _ _ _ _ us hl;repeat' (first | (exfalso;simp only[CM] at hl;omega) | (rcases us with _ | ⟨_,us⟩) | rfl)) :
  PFN P w K mg base (k+1) x (runN ps.length N.length g):=by
 obtain⟨f,fd,F,hm⟩:=h;exact Zad F S hm (F.binds hb) (hbody f)
end
end PU
namespace BF
def zgm:List Nat->List Nat->Bool
 | x::xs,y::ys=>if x=y then zgm xs ys else decide (x<y)
 | _,_=>false
def lt(a b:List Nat):Prop:=a.length<b.length\/(a.length=b.length/\zgm a b=true)
theorem znw:∀{a b c:List Nat},zgm a b=true->zgm b c=true->zgm a c=true
 | [],_,_,h,_=>by simp[zgm] at h
 | x::xs,[],_,h,_=>by simp[zgm] at h
 | x::xs,y::ys,[],_,h=>by simp[zgm] at h
 | x::xs,y::ys,z::zs,h1,h2=>by
  simp only[zgm] at h1 h2 ⊢
  by_cases e1:x=y
  ·subst e1
   rw[if_pos rfl] at h1
   by_cases e2:x=z
   ·subst e2
    rw[if_pos rfl] at h2 ⊢;exact znw h1 h2
   ·rw[if_neg e2] at h2 ⊢
    exact h2
  ·rw[if_neg e1] at h1
   by_cases e2:y=z
   ·subst e2
    rw[if_neg e1];exact h1
   ·rw[if_neg e2] at h2
    simp at h1 h2;rw[if_neg (by omega)]
    simp;omega
theorem lt_trans{a b c:List Nat}(h1:lt a b)(h2:lt b c):lt a c:=by
 unfold lt at *;rcases h1 with h1 | ⟨h1,e1⟩ <;> rcases h2 with h2 | ⟨h2,e2⟩
 ·exact .inl (by omega)
 ·exact .inl (by omega)
 ·exact .inl (by omega)
 ·exact .inr ⟨by omega,znw e1 e2⟩
theorem zqg(i j:Nat)(h:i<j):∀r:List Nat,zgm (r++[i]) (r++[j])=true
 | []=>by simp[zgm,h];omega
 | x::r=>by
  show (if x=x then _ else _)=true
  rw[if_pos rfl];exact zqg i j h r
theorem ztq(r:List Nat)(i j:Nat)(h:i<j):lt (r++[i]) (r++[j]):=.inr ⟨by simp,zqg i j h r⟩
theorem zqf(i j:Nat):∀a b:List Nat,a.length=b.length->zgm a b=true->zgm (a++[i]) (b++[j])=true
 | [],_,_,h=>by simp[zgm] at h
 | x::xs,[],h,_=>by simp at h
 | x::xs,y::ys,hl,h=>by
  simp only[zgm,CB] at h ⊢
  by_cases e:x=y
  ·rw[if_pos e] at h ⊢
   exact zqf i j xs ys (by simpa using hl) h
  ·rw[if_neg e] at h ⊢
   exact h
theorem ztp{a b:List Nat}(i j:Nat)(h:lt a b):lt (a++[i]) (b++[j]):=by
 rcases h with h | ⟨h,e⟩
 ·exact .inl (by simp;omega)
 ·exact .inr ⟨by simp[h],zqf i j a b h e⟩
theorem zto{S:Type}[DecidableEq S]:∀(l U:List S),l.Nodup->(∀x∈l,x∈U)->l.length<=U.length
 | [],_,_,_=>B3 _
 | x::l,U,nd,h=>by
  have nd':=Ay.mp nd;have hx:x∈U:=h x (by simp)
  have:=zto l (U.erase x) nd'.2 fun y hy=>by
   have hne:y≠x:=fun e=>nd'.1 (e▸hy)
   exact(Gz hne).mpr (h y (by simp[hy]))
  rw[GK hx] at this;have:=Ga hx;simp;omega
section
variable{S : Type}[DecidableEq S](lead : S → Nat → S)
abbrev Row(S:Type):=S×List Nat
def inn(near:Row S)(found:List (Row S))(i:Nat):List (Row S):=if lead near.1 i∈found.map (·.1) then found else found++[(lead near.1 i,near.2++[i])]
def sweep(near:Row S)(found:List (Row S)):List (Row S):=(AF 13).foldl (inn lead near) found
def bfs:Nat->Nat->List (Row S)->List (Row S)
 | 0,_,found=>found
 | n+1,d,found=>match found[d]? with
  | some near=>bfs n (d+1) (sweep lead near found)
  | none=>found
def run(s0:S)(row:List Nat):S:=row.foldl lead s0
variable(s0 : S)
structure Inv(found:List (Row S)):Prop where
 h0:∃tl,found=(s0,[])::tl
 nd:(found.map (·.1)).Nodup
 srt:found.Pairwise fun a b=>lt a.2 b.2
 run:∀p∈found,run lead s0 p.2=p.1
 rng:∀p∈found,∀i∈p.2,i<13
 len:∀(j:Nat)(p:Row S),found[j]?=some p->p.2.length<=j
def Cl(found:List (Row S))(p:Row S)(i:Nat):Prop:=∃q∈found,q.1=lead p.1 i/\(q.2=p.2++[i]\/lt q.2 (p.2++[i]))
theorem Zbc(near:Row S)(found:List (Row S))(i:Nat):∃tl,inn lead near found i=found++tl:=by
 unfold inn
 split
 ·exact⟨[],by simp⟩
 ·exact⟨_,rfl⟩
theorem Cl.mono{found tl:List (Row S)}{p:Row S}{i:Nat}(h:Cl lead found p i):Cl lead (found++tl) p i:=by
 obtain⟨q,hq,h1,h2⟩:=h;exact⟨q,by simp[hq],h1,h2⟩
theorem Zer{found:List (Row S)}{d:Nat}{near:Row S}{i:Nat}(hi:i<13)(I:Inv lead s0 found)(hd:found[d]?=some near)(top:∀p∈found,lt p.2 (near.2++[i])) :
  Inv lead s0 (inn lead near found i)/\(inn lead near found i)[d]?=some near/\(∀p∈inn lead near found i,lt p.2 (near.2++[i+1]))/\Cl lead (inn lead near found i) near i:=by
 have hdl:d<found.length:=(AA.mp hd).1;have nm:near∈found:=AS hd;have up:∀p∈found,lt p.2 (near.2++[i+1]):=fun p hp=>lt_trans (top p hp) (ztq near.2 i (i+1) (by omega))
 unfold inn
 split
 ·rename_i hm
  obtain⟨q,hq,e⟩:=AJ.mp hm;exact⟨I,hd,up,q,hq,e,.inr (top q hq)⟩
 ·rename_i hm
  refine⟨⟨?_,?_,?_,?_,?_,?_⟩,?_,?_,?_⟩
  ·obtain⟨tl,e⟩:=I.h0
   exact⟨tl++[(lead near.1 i,near.2++[i])],by rw[e];rfl⟩
  ·rw[AW,BK]
   refine⟨I.nd,by simp,fun a ha b hb e=>?_⟩
   simp at hb;subst hb e;exact hm ha
  ·rw[Gw]
   refine⟨I.srt,by simp,fun a ha b hb=>?_⟩
   rw[AO.mp hb];exact top a ha
  ·intro p hp
   rcases Aj.mp hp with hp | hp
   ·exact I.run p hp
   ·rw[AO.mp hp]
    show BF.run lead s0 (near.2++[i])=lead near.1 i;have:=I.run near nm;unfold BF.run at this ⊢;rw[Cg,this];rfl
  ·intro p hp j hj
   rcases Aj.mp hp with hp | hp
   ·exact I.rng p hp j hj
   ·rw[AO.mp hp] at hj
    rcases Aj.mp hj with hj | hj
    ·exact I.rng near nm j hj
    ·rw[AO.mp hj];exact hi
  ·intro j p hp
   rw[HB] at hp;split at hp
   ·exact I.len j p hp
   ·rename_i hj
    have e:=AO.mp (AS hp);subst e;have:=I.len d near hd;simp;omega
  ·rw[Ae hdl];exact hd
  ·intro p hp
   rcases Aj.mp hp with hp | hp
   ·exact up p hp
   ·rw[AO.mp hp]
    exact ztq near.2 i (i+1) (by omega)
  ·exact⟨(lead near.1 i,near.2++[i]),by simp,rfl,.inl rfl⟩
theorem zly{found:List (Row S)}{d:Nat}{near:Row S}(I:Inv lead s0 found)(hd:found[d]?=some near)(top:∀p∈found,lt p.2 (near.2++[0])):∀n,n<=13->
  ∃tl,(AF n).foldl (inn lead near) found=found++tl/\Inv lead s0 (found++tl)/\(∀p∈found++tl,lt p.2 (near.2++[n]))/\∀i<n,Cl lead (found++tl) near i
 | 0,_=>⟨[],by simp,by simpa using I,by simpa using top,fun i h=>absurd h (by omega)⟩
 | n+1,hn=>by
  obtain⟨tl,e,I1,t1,c1⟩:=zly I hd top n (by omega)
  have hdl:d<found.length:=(AA.mp hd).1;have hd1:(found++tl)[d]?=some near:=by rw[Ae hdl];exact hd
  obtain⟨I2,hd2,t2,c2⟩:=Zer lead s0 (i:=n) (by omega) I1 hd1 t1
  obtain⟨tl2,e2⟩:=Zbc lead near (found++tl) n;refine⟨tl++tl2,?_,?_,?_,?_⟩
  ·rw[Dg,Cg,e]
   show inn lead near (found++tl) n=_;rw[e2,Bd]
  ·rw[← Bd,← e2];exact I2
  ·rw[← Bd,← e2];exact t2
  ·intro i hi
   rw[← Bd];rcases FU i n with h | h
   ·exact(c1 i h).mono lead
   ·have:i=n:=by omega
    subst this;rw[← e2];exact c2
theorem zzg(U:List S)(hU:∀found,Inv lead s0 found->∀p∈found,p.1∈U):∀(n d:Nat)(found:List (Row S)),Inv lead s0 found->U.length<d+n->
  (∀(j:Nat)(p:Row S),j<d->found[j]?=some p->∀i<13,Cl lead found p i)->(∀near,found[d]?=some near->∀p∈found,lt p.2 (near.2++[0]))->
  Inv lead s0 (bfs lead n d found)/\(∃tl,bfs lead n d found=found++tl)/\∀p∈bfs lead n d found,∀i<13,Cl lead (bfs lead n d found) p i
 | 0,d,found,I,hn,c,top=>by
  refine⟨I,⟨[],by simp[bfs]⟩,fun p hp i hi=>?_⟩
  have hp:p∈found:=hp;obtain⟨j,hj⟩:=HA hp;have hj':=(AA.mp hj).1
  have:=zto (found.map (·.1)) U I.nd fun x hx=>by
   obtain⟨q,hq,e⟩:=AJ.mp hx;exact e▸hU found I q hq
  simp at this;exact c j p (by omega) hj i hi
 | n+1,d,found,I,hn,c,top=>by
  unfold bfs
  split
  ·rename_i near hd
   have hdl:d<found.length:=(AA.mp hd).1;obtain⟨tl,e,I1,t1,c1⟩:=zly lead s0 I hd (top near hd) 13 (by omega)
   have e:sweep lead near found=found++tl:=e;rw[e]
   obtain⟨J1,⟨tl2,J2⟩,J3⟩:=zzg U hU n (d+1) (found++tl) I1 (by omega) (fun j p hj hp i hi=>by
    rcases FU j d with h | h
    ·rw[Ae (by omega)] at hp
     exact(c j p h hp i hi).mono lead
    ·have hjd:j=d:=by omega
     subst hjd;rw[Ae hdl,hd] at hp;cases hp;exact c1 i hi) (fun near' hd' p hp=>by
    have h1:lt near.2 near'.2:=by
     have hs:=Dv.mp I1.srt;obtain⟨q1,q2⟩:=AA.mp hd';have hd1:(found++tl)[d]?=some near:=by rw[Ae hdl];exact hd
     obtain⟨q3,q4⟩:=AA.mp hd1;have:=hs d (d+1) q3 q1 (by omega)
     rw[q2,q4] at this;exact this
    have h2:=t1 p hp;exact lt_trans h2 (ztp 13 0 h1))
   exact⟨J1,⟨tl++tl2,by rw[J2,Bd]⟩,J3⟩
  ·rename_i hd
   refine⟨I,⟨[],by simp⟩,fun p hp i hi=>?_⟩
   obtain⟨j,hj⟩:=HA hp;have hj':=(AA.mp hj).1;have:=BL.mp hd;exact c j p (by omega) hj i hi
theorem sweep_keep{found:List (Row S)}{d:Nat}{near:Row S}(I:Inv lead s0 found)(hd:found[d]?=some near)(top:∀p∈found,lt p.2 (near.2++[0])) :
  Inv lead s0 (sweep lead near found)/\(∃tl,sweep lead near found=found++tl)/\∀near',(sweep lead near found)[d+1]?=some near'->∀p∈sweep lead near found,lt p.2 (near'.2++[0]):=by
 have hdl:d<found.length:=(AA.mp hd).1;obtain⟨tl,e,I1,t1,c1⟩:=zly lead s0 I hd top 13 (by omega)
 have e:sweep lead near found=found++tl:=e;rw[e];refine⟨I1,⟨tl,rfl⟩,fun near' hd' p hp=>?_⟩
 have h1:lt near.2 near'.2:=by
  have hs:=Dv.mp I1.srt;obtain⟨q1,q2⟩:=AA.mp hd';have hd1:(found++tl)[d]?=some near:=by rw[Ae hdl];exact hd
  obtain⟨q3,q4⟩:=AA.mp hd1;have:=hs d (d+1) q3 q1 (by omega)
  rw[q2,q4] at this;exact this
 exact lt_trans (t1 p hp) (ztp 13 0 h1)
theorem inv_len(U:List S)(hU:∀found,Inv lead s0 found->∀p∈found,p.1∈U){found:List (Row S)}(I:Inv lead s0 found):found.length<=U.length:=by
 have:=zto (found.map (·.1)) U I.nd fun x hx=>by
  obtain⟨q,hq,e⟩:=AJ.mp hx;exact e▸hU found I q hq
 simpa using this
theorem inv_P(P:S->Prop)(h0:P s0)(hs:∀s,P s->∀i<13,P (lead s i)):∀found,Inv lead s0 found->∀p∈found,P p.1:=by
 have hr:∀(row:List Nat)(s:S),P s->(∀i∈row,i<13)->P (run lead s row):=by
  intro row
  induction row with
  | nil=>intro s h _;exact h
  | cons i row ih=>intro s h hi;exact ih _ (hs s h i (hi i (by simp))) fun j hj=>hi j (by simp[hj])
 intro found I p hp;rw[← I.run p hp];exact hr p.2 s0 h0 (I.rng p hp)
theorem inv_0:Inv lead s0 [(s0,[])]:=by
 refine⟨⟨[],rfl⟩,by simp,by simp,by simp[run],by simp,fun j p h=>?_⟩
 have:=AO.mp (AS h);subst this;simp
theorem top_0(near:Row S)(h:[((s0,[]):Row S)][0]?=some near):∀p∈[((s0,[]):Row S)],lt p.2 (near.2++[0]):=fun p hp=>by
 have e1:=AO.mp (AS h);have e2:=AO.mp hp;subst e1 e2;exact .inl (by simp)
theorem bfs_all(U:List S)(n:Nat)(hn:U.length<n)(hU:∀found,Inv lead s0 found->∀p∈found,p.1∈U) :
  Inv lead s0 (bfs lead n 0 [(s0,[])])/\∀p∈bfs lead n 0 [(s0,[])],∀i<13,Cl lead (bfs lead n 0 [(s0,[])]) p i:=by
 obtain⟨J1,_,J3⟩:=zzg lead s0 U hU n 0 [(s0,[])] (inv_0 lead s0) (by omega) (fun j p h=>absurd h (by omega)) (fun near h=>top_0 s0 near h)
 exact⟨J1,J3⟩
end
end BF
namespace BO
def val(c:List (Option Nat))(k:Nat):Nat:=(c.getD k none).getD 0
theorem val_of{c:List (Option Nat)}{k x:Nat}(h:c[k]?=some (some x)):val c k=x:=by
 unfold val;rw[Ag,h];rfl
theorem zcf{c:List (Option Nat)}{k j:Nat}{v:Option Nat}(h:j≠k):val (c.set k v) j=val c j:=by
 unfold val;rw[Ag,Ag,Az (Bc h)]
theorem zk8{c:List (Option Nat)}{k x:Nat}(h:k<c.length):val (c.set k (some x)) k=x:=val_of (Au h)
abbrev S:=List (Option Nat)×List Nat
def stepB(m:Nat)(s:S)(k:Nat):S:=if s.1[k]?=some none then (s.1.set k (some (val s.1 m+1)),s.2++[k]) else s
def loopB(beh:Nat->List Nat):Nat->Nat->S->S
 | 0,_,s=>s
 | f+1,d,s=>match s.2[d]? with
  | some m=>loopB beh f (d+1) ((beh m).foldl (stepB m) s)
  | none=>s
section
variable(n : Nat)(out : Nat → Bool)(beh : Nat → List Nat)(E : Nat → Nat → Prop)
structure Jb(c:List (Option Nat))(r:List Nat):Prop where
 len:c.length=n
 mem:∀k,k∈r ↔ ∃x,c[k]?=some (some x)
 nd:r.Nodup
 srt:r.Pairwise fun k l=>val c k<=val c l
 out0:∀k,k<n->(out k=true ↔ c[k]?=some (some 0))
structure J(s:S)(d:Nat):Prop where
 b:Jb n out s.1 s.2
 le1:∀m,s.2[d]?=some m->∀k∈s.2,val s.1 k<=val s.1 m+1
 frm:∀k x,s.1[k]?=some (some x)->x≠0->∃m∈s.2.take d,E k m/\x=val s.1 m+1
 dn:∀m∈s.2.take d,∀k,k<n->E k m->k∈s.2/\val s.1 k<=val s.1 m+1
structure Jn(s:S)(d m:Nat)(pre:List Nat):Prop where
 b:Jb n out s.1 s.2
 hm:s.2[d]?=some m
 le1:∀k∈s.2,val s.1 k<=val s.1 m+1
 frm:∀k x,s.1[k]?=some (some x)->x≠0->∃m'∈s.2.take (d+1),E k m'/\x=val s.1 m'+1
 dn:∀m'∈s.2.take d,∀k,k<n->E k m'->k∈s.2/\val s.1 k<=val s.1 m'+1
 pr:∀k∈pre,k∈s.2
variable{n out E}
theorem Jb.lt{c:List (Option Nat)}{r:List Nat}(j:Jb n out c r){k:Nat}(h:k∈r):k<n:=by
 obtain⟨x,e⟩:=(j.mem k).mp h;have:=(AA.mp e).1;rw[j.len] at this;exact this
theorem Jn.step{s:S}{d m:Nat}{pre:List Nat}(j:Jn n out E s d m pre)(k:Nat)(hk:k<n)(hE:E k m):Jn n out E (stepB m s k) d m (pre++[k]):=by
 obtain⟨c,r⟩:=s;have mr:m∈r:=AS j.hm;have hkl:k<c.length:=by rw[j.b.len];exact hk
 unfold stepB
 by_cases hn:c[k]?=some none
 ·rw[if_pos hn]
  have kr:k ∉ r:=fun z=>by
   obtain⟨x,e⟩:=(j.b.mem k).mp z;have e:c[k]?=some (some x):=e;rw[hn] at e;cases e
  have ne:∀l∈r,l≠k:=fun l hl z=>kr (z▸hl)
  have dl:d<r.length:=(AA.mp j.hm).1;have tk:∀e,e<=d+1->(r++[k]).take e=r.take e:=fun e he=>List.take_append_of_le_length (by omega)
  have tm:∀e l,l∈r.take e->l∈r:=fun e l h=>Gx h
  refine⟨⟨by show (c.set k _).length=n;rw[Cb];exact j.b.len,fun l=>?_,?_,?_,fun l hl=>?_⟩,?_,fun l hl=>?_,fun l x e hx=>?_,fun m' hm' l hl he=>?_,fun l hl=>?_⟩
  ·show l∈r++[k] ↔ ∃x,(c.set k (some (val c m+1)))[l]?=some (some x)
   by_cases h:l=k
   ·subst h
    exact⟨fun _=>⟨_,Au hkl⟩,fun _=>by simp⟩
   ·rw[Az (Bc h)]
    have:=j.b.mem l;simp only[Aj,AO,h,or_false];exact this
  ·show (r++[k]).Nodup
   rw[BK];exact⟨j.b.nd,by simp,fun a ha b hb e=>ne a ha (e.trans (AO.mp hb))⟩
  ·show (r++[k]).Pairwise fun a b=>val (c.set k _) a<=val (c.set k _) b
   rw[Gw];refine⟨Ci (fun {a b} ha hb h=>?_) j.b.srt,by simp,fun a ha b hb=>?_⟩
   ·rw[zcf (ne a ha),zcf (ne b hb)]
    exact h
   ·rw[AO.mp hb,zcf (ne a ha),zk8 hkl]
    exact j.le1 a ha
  ·show out l=true ↔ (c.set k (some (val c m+1)))[l]?=some (some 0)
   by_cases h:l=k
   ·subst h
    rw[Au hkl];have:=j.b.out0 l hl;have this:out l=true ↔ c[l]?=some (some 0):=this;rw[hn] at this;simp at this ⊢;exact this
   ·rw[Az (Bc h)]
    exact j.b.out0 l hl
  ·show (r++[k])[d]?=some m
   rw[Ae dl];exact j.hm
  ·show val (c.set k _) l<=val (c.set k _) m+1
   rw[zcf (ne m mr)];rcases Aj.mp hl with hl | hl
   ·rw[zcf (ne l hl)]
    exact j.le1 l hl
   ·rw[AO.mp hl,zk8 hkl]
    exact AY _
  ·have e:(c.set k (some (val c m+1)))[l]?=some (some x):=e
   show ∃m'∈(r++[k]).take (d+1),E l m'/\x=val (c.set k _) m'+1;rw[tk _ (AY _)]
   by_cases h:l=k
   ·subst h
    rw[Au hkl] at e;cases e;refine⟨m,?_,hE,by rw[zcf (ne m mr)]⟩
    rw[Cf,j.hm];simp
   ·rw[Az (Bc h)] at e
    obtain⟨m',h1,h2,h3⟩:=j.frm l x e hx;exact⟨m',h1,h2,by rw[zcf (ne m' (tm _ _ h1))];exact h3⟩
  ·have hm':m'∈(r++[k]).take d:=hm'
   rw[tk _ (De _)] at hm';obtain⟨h1,h2⟩:=j.dn m' hm' l hl he;refine⟨BV _ h1,?_⟩;show val (c.set k _) l<=val (c.set k _) m'+1;rw[zcf (ne l h1),zcf (ne m' (tm _ _ hm'))];exact h2
  ·show l∈r++[k]
   rcases Aj.mp hl with h | h
   ·exact BV _ (j.pr l h)
   ·exact Ab _ h
 ·rw[if_neg hn]
  refine⟨j.b,j.hm,j.le1,j.frm,j.dn,fun l hl=>?_⟩
  rcases Aj.mp hl with h | h
  ·exact j.pr l h
  ·rw[AO.mp h]
   cases e:c[k]? with
   | none=>exact absurd (BL.mp e) (by omega)
   | some o=>
    cases o with
    | none=>exact absurd e hn
    | some x=>exact(j.b.mem k).mpr ⟨x,e⟩
theorem Jn.all{d m:Nat}:∀(l pre:List Nat)(s:S),Jn n out E s d m pre->(∀k∈l,k<n/\E k m)->Jn n out E (l.foldl (stepB m) s) d m (pre++l)
 | [],pre,s,j,_=>by simpa using j
 | k::l,pre,s,j,h=>by
  rw[Bg,show pre++k::l=(pre++[k])++l by simp]
  exact Jn.all l (pre++[k]) _ (j.step k (h k (by simp)).1 (h k (by simp)).2) fun x hx=>h x (by simp[hx])
theorem J.next{s:S}{d m:Nat}(hb:∀m,m<n->∀k,k∈beh m ↔ (k<n/\E k m))(j:J n out E s d)(hm:s.2[d]?=some m):J n out E ((beh m).foldl (stepB m) s) (d+1):=by
 have mn:m<n:=j.b.lt (AS hm)
 have j0:Jn n out E s d m []:=⟨j.b,hm,j.le1 m hm,fun k x e hx=>by
  obtain⟨m',h1,h2⟩:=j.frm k x e hx;exact⟨m',by rw[Cf];exact BV _ h1,h2⟩,j.dn,by simp⟩
 have j1:=Jn.all (beh m) [] s j0 fun k hk=>(hb m mn k).mp hk
 generalize (beh m).foldl (stepB m) s=s' at j1 ⊢;refine⟨j1.b,fun m2 h2 k hk=>?_,j1.frm,fun m' hm' k hk he=>?_⟩
 ·have h1:=j1.le1 k hk
  obtain⟨a1,a2⟩:=AA.mp j1.hm;obtain⟨b1,b2⟩:=AA.mp h2;have:=Dv.mp j1.b.srt d (d+1) a1 b1 (by omega)
  rw[a2,b2] at this;omega
 ·rw[Cf,j1.hm] at hm'
  rcases Aj.mp hm' with h | h
  ·exact j1.dn m' h k hk he
  ·have:m'=m:=by simpa using h
   subst this;have kb:k∈beh m':=(hb m' mn k).mpr ⟨hk,he⟩;have kr:=j1.pr k (by simpa using kb)
   exact⟨kr,j1.le1 k kr⟩
theorem Zhe:∀(l:List Nat)(n:Nat),l.Nodup->(∀x∈l,x<n)->l.length<=n:=by
 intro l n nd h
 have:∀(l U:List Nat),l.Nodup->(∀x∈l,x∈U)->l.length<=U.length:=by
  intro l
  induction l with
  | nil=>intro U _ _;exact B3 _
  | cons x l ih=>
   intro U nd h;have nd':=Ay.mp nd;have hx:x∈U:=h x (by simp)
   have:=ih (U.erase x) nd'.2 fun y hy=>by
    have hne:y≠x:=fun e=>nd'.1 (e▸hy)
    exact(Gz hne).mpr (h y (by simp[hy]))
   rw[GK hx] at this;have:=Ga hx;simp;omega
 simpa using this l (AF n) nd fun x hx=>B5.mpr (h x hx)
theorem Jb.rl{c:List (Option Nat)}{r:List Nat}(j:Jb n out c r):r.length<=n:=Zhe r n j.nd fun x hx=>j.lt hx
structure Fin_(n:Nat)(out:Nat->Bool)(E:Nat->Nat->Prop)(c:List (Option Nat)):Prop where
 len:c.length=n
 out0:∀k,k<n->(out k=true ↔ c[k]?=some (some 0))
 none_:∀k,k<n->out k=false->c[k]?=some none->∀m,m<n->E k m->c[m]?=some none
 some_:∀k x,k<n->out k=false->c[k]?=some (some x)->(∃m,m<n/\E k m/\∃y,c[m]?=some (some y)/\x=y+1)/\∀m y,m<n->E k m->c[m]?=some (some y)->x<=y+1
theorem J.fin{s:S}{d:Nat}(j:J n out E s d)(hd:s.2.length<=d):Fin_ n out E s.1:=by
 have tk:s.2.take d=s.2:=Ea hd;refine⟨j.b.len,j.b.out0,fun k hk ho e m hm he=>?_,fun k x hk ho e=>⟨?_,fun m y hm he ey=>?_⟩⟩
 ·cases em:s.1[m]? with
  | none=>exact absurd (BL.mp em) (by rw[j.b.len];omega)
  | some o=>
   cases o with
   | none=>rfl
   | some y=>
    have:=(j.dn m (by rw[tk];exact(j.b.mem m).mpr ⟨y,em⟩) k hk he).1
    obtain⟨x,ex⟩:=(j.b.mem k).mp this;rw[e] at ex;cases ex
 ·have hx:x≠0:=fun z=>by
   subst z;rw[(j.b.out0 k hk).mpr e] at ho;cases ho
  obtain⟨m,h1,h2,h3⟩:=j.frm k x e hx;have mr:=Gx h1;obtain⟨y,ey⟩:=(j.b.mem m).mp mr;exact⟨m,j.b.lt mr,h2,y,ey,by rw[h3,val_of ey]⟩
 ·have:=(j.dn m (by rw[tk];exact(j.b.mem m).mpr ⟨y,ey⟩) k hk he).2
  rw[val_of e,val_of ey] at this;exact this
theorem loopB_ok(hb:∀m,m<n->∀k,k∈beh m ↔ (k<n/\E k m)):∀(f d:Nat)(s:S),J n out E s d->n<d+f->∃d',J n out E (loopB beh f d s) d'/\(loopB beh f d s).2.length<=d'
 | 0,d,s,j,h=>⟨d,j,by have:=j.b.rl;show s.2.length<=d;omega⟩
 | f+1,d,s,j,h=>by
  unfold loopB;cases e:s.2[d]? with
  | none=>exact⟨d,j,BL.mp e⟩
  | some m=>exact loopB_ok hb f (d+1) _ (j.next beh hb e) (by omega)
theorem J.start(n:Nat)(out:Nat->Bool)(E:Nat->Nat->Prop):J n out E ((AF n).map fun k=>if out k=true then some 0 else none,(AF n).filter out) 0:=by
 have at_:∀k,k<n->((AF n).map fun k=>if out k=true then some 0 else (none:Option Nat))[k]?=some (if out k=true then some 0 else none):=fun k hk=>by
  rw[AG,Bq hk];rfl
 have z:∀k,val ((AF n).map fun k=>if out k=true then some 0 else (none:Option Nat)) k=0:=fun k=>by
  by_cases hk:k<n
  ·unfold val
   rw[Ag,at_ k hk];cases h:out k <;> simp
  ·unfold val
   rw[Ag,Bx (by simpa using hk)]
   rfl
 refine⟨⟨by simp,fun k=>?_,List.filter_sublist.nodup List.nodup_range,?_,fun k hk=>?_⟩,fun m _ k _=>?_,fun k x e hx=>?_,by simp⟩
 ·show k∈(AF n).filter out ↔ ∃x,((AF n).map fun k=>if out k=true then some 0 else (none:Option Nat))[k]?=some (some x)
  constructor
  ·intro h
   obtain⟨h1,h2⟩:=BX.mp h;exact⟨0,by rw[at_ k (B5.mp h1),if_pos h2]⟩
  ·rintro⟨x,e⟩
   have hk:k<n:=by have:=(AA.mp e).1;simpa using this
   rw[at_ k hk] at e
   by_cases h:out k=true
   ·exact BX.mpr ⟨B5.mpr hk,h⟩
   ·rw[if_neg h] at e;cases e
 ·show ((AF n).filter out).Pairwise _
  refine Ci (R:=fun _ _=>True) (fun {a b} _ _ _=>by show val _ a<=val _ b;rw[z a];exact B3 _) ?_
  exact List.pairwise_of_forall fun _ _=>trivial
 ·show out k=true ↔ ((AF n).map fun k=>if out k=true then some 0 else (none:Option Nat))[k]?=some (some 0)
  rw[at_ k hk]
  by_cases h:out k=true
  ·simp[h]
  ·simp[h]
 ·show val _ k<=val _ m+1
  rw[z k];omega
 ·exfalso
  have e:((AF n).map fun k=>if out k=true then some 0 else (none:Option Nat))[k]?=some (some x):=e
  have hk:k<n:=by have:=(AA.mp e).1;simpa using this
  rw[at_ k hk] at e
  by_cases h:out k=true
  ·rw[if_pos h] at e;cases e;exact hx rfl
  ·rw[if_neg h] at e;cases e
end
end BO
section
namespace PU
open PySem L2
theorem zan{m n:Nat}{g:PSt->R Fl}{ps:List PV}{p:PV}(hl:ps.length=m)(h:g (PU.start n ps)=.ok (.ret p)):runF m n g ps=some p:=by
 unfold runF;rw[if_pos hl,h]
theorem zx2{α:Type}{xs:List α}{i:Int}(d:α)(h0:0<=i)(h1:i<xs.length):atI xs i=some (xs.getD i.toNat d):=by
 have h2:i.toNat<xs.length:=by omega
 exact zbc (n:=i.toNat) (by omega) (by simp[h2])
def mkS(l:List Nat):Str:=⟨l.toArray⟩
theorem zj6(a b:List Nat):mkS a++mkS b=mkS (a++b):=by
 show Str.mk (a.toArray++b.toArray)=_;simp[mkS]
@[simp] theorem ze0(a:List Nat):(mkS a).length=a.length:=by simp[mkS,Str.length]
@[simp] theorem zgk(a:List Nat):(mkS a).cps.toList=a:=by simp[mkS]
theorem zo3(c:Nat):(⟨#[c]⟩:Str)=mkS [c]:=rfl
theorem zev:("":Str)=mkS []:=by decide +kernel
theorem zxd(l:List Nat)(z:Int)(h0:0<=z)(h1:z<l.length)(hl:l.length<=16777216):gIx (.str (mkS l)) (.int z)=some (.str ⟨#[l.getD z.toNat 0]⟩):=
 zv2 (by simpa using hl) (by rw[zgk];exact zx2 0 h0 h1)
theorem zg2(x:List Nat)(c:Nat)(hx:x.length<=1000):gAdd (.str (mkS x)) (.str ⟨#[c]⟩)=some (.str (mkS (x++[c]))):=by
 rw[zo3,zjs (by simp;omega),zj6]
theorem zr1(xs:List Str):zja (xs.map .str)=some xs:=by
 induction xs with
 | nil=>rfl
 | cons x r ih=>simp[zja,ih]
theorem Zcq{s:Str}{xs:List Str}(h:(xs.map (·.length)).sum+xs.length * s.length<=16777216):zuj (.str s) (.lst (xs.map .str))=some (.str (Eu s xs)):=by
 show (zja (xs.map PV.str)).bind (fun ys=>if (ys.map (·.length)).sum+ys.length * s.length<=16777216 then some (PV.str (Txt.join s ys)) else none)=_
 rw[zr1,FL,if_pos h,zxc]
end PU
namespace MT
open PySem L2 PU
inductive Room where
 | menu (text:Str) (keys:List (Str×Str)) (wrong waits:Int×Str)
 | names (text:Str) (words:List (Str×Str)) (wrong waits:Int×Str)
 | hours (spans:List (Int×Int×Str)) (last:Str)
 | hand (text:Str)
 | fin (text:Str)
structure House where
 first:Str
 letters:List (Str×Str)
 rooms:List (Str×Room)
def pv2(p:Str×Str):PV:=.tup [.str p.1,.str p.2]
def pvI(p:Int×Str):PV:=.tup [.int p.1,.str p.2]
def pv3(p:Int×Int×Str):PV:=.tup [.int p.1,.int p.2.1,.str p.2.2]
def Room.pv:Room->PV
 | .menu t ks wr wa=>.tup [.str "menu",.str t,.tup (ks.map pv2),pvI wr,pvI wa]
 | .names t ks wr wa=>.tup [.str "names",.str t,.tup (ks.map pv2),pvI wr,pvI wa]
 | .hours sp l=>.tup [.str "hours",.tup (sp.map pv3),.str l]
 | .hand t=>.tup [.str "hand",.str t]
 | .fin t=>.tup [.str "end",.str t]
def zam(rs:List (Str×Room)):PV:=.dct (rs.map fun r=>.inr r.1) (rs.map fun r=>r.2.pv)
def House.pv (h:House):PV:=.dct [.inr "first",.inr "letters",.inr "rooms"] [.str h.first,.lst (h.letters.map pv2),zam h.rooms]
def num(i:Int):Str:=toString i
abbrev sp:Str:=" "
def zyv(kind name:Str)(wr wa:Int×Str)(t:Str):Str:=kind++(sp++(name++(sp++(num wr.1++(sp++(wr.2++(sp++(num wa.1++(sp++(wa.2++(sp++t)))))))))))
def row3(a b c:Str):Str:=a++(sp++(b++(sp++c)))
def row4(a b c d:Str):Str:=a++(sp++(b++(sp++(c++(sp++d)))))
def zwh(name:Str):Room->List Str
 | .menu t ks wr wa=>zyv "menu" name wr wa t::ks.map fun k=>row3 "key" k.1 k.2
 | .names t ks wr wa=>zyv "names" name wr wa t::ks.map fun k=>row3 "name" k.1 k.2
 | .hours sp l=>row3 "hours" name l::sp.map fun s=>row4 "from" (num s.1) (num s.2.1) s.2.2
 | .hand t=>[row3 "hand" name t]
 | .fin t=>[row3 "end" name t]
def House.rows (h:House):List Str:=("first"++(sp++h.first):Str)::(h.letters.map (fun l=>row3 "letters" l.1 l.2)++h.rooms.flatMap fun r=>zwh r.1 r.2)
def House.text (h:House):Str:=Eu "\n" h.rows
end MT
end
namespace PU
open PySem L2
def chZ(fc:PSt->R PV)(g':PV->PV->Option PV)(ρ:PSt)(q:PV):PV->R PV
 | .bl true=>bndK (opP g' q) (fc ρ)
 | .bl false=>.ok (.bl false)
 | _=>.no
def chQ(fc:PSt->R PV)(g g':PV->PV->Option PV)(ρ:PSt)(p q:PV):R PV:=bndK (chZ fc g' ρ q) (R.ofO (g p q))
@[simp] theorem Zhp(fc:PSt->R PV)(g':PV->PV->Option PV)(ρ:PSt)(q:PV):chZ fc g' ρ q (.bl true)=bndK (opP g' q) (fc ρ):=by unfold chZ;exact Ao _
@[simp] theorem Zjh(fc:PSt->R PV)(g':PV->PV->Option PV)(ρ:PSt)(q:PV):chZ fc g' ρ q (.bl false)=.ok (.bl false):=by unfold chZ;exact Ao _
@[simp] theorem Zhq(fc:PSt->R PV)(g g':PV->PV->Option PV)(ρ:PSt)(p q:PV):chQ fc g g' ρ p q=bndK (chZ fc g' ρ q) (R.ofO (g p q)):=by unfold chQ;exact Ao _
@[simp] theorem Zfr{fa fb fc:PSt->R PV}{g g':PV->PV->Option PV}{ρ:PSt}:chain2 fa fb fc g g' ρ=twoK (chQ fc g g' ρ) (fa ρ) (fb ρ):=by
 unfold chain2;cases fa ρ with
 | ok p=>
  cases fb ρ with
  | ok q=>
   simp only[R.ok_bind,zt3,Zhq];cases g p q with
   | none=>rfl
   | some z=>
    simp only[R.ofO_some,R.ok_bind,zj9];cases z with
    | bl b=>
     cases b with
     | true=>
      rw[Zhp];cases fc ρ <;> rfl
     | false=>rfl
    | _=>rfl
  | _=>rfl
 | _=>cases fb ρ <;> rfl
theorem zew{α:Type}{enc:α->PV}{h:Tgt}{t:PSt->R Bool}{fe:PSt->R PV}{ρ:PSt}(P:α->Bool)(F:α->PV):∀(xs:List α),
  (∀x∈xs,∃ρ1,h (enc x) ρ=some ρ1/\t ρ1=.ok (P x)/\(P x=true->fe ρ1=.ok (F x)))->zci h t fe ρ (xs.map enc)=.ok ((xs.filter P).map F)
 | [],_=>rfl
 | x::xs,hs=>by
  obtain⟨ρ1,e1,e2,e3⟩:=hs x (Ai ..);have ih:=zew P F xs fun y hy=>hs y (Ah _ hy)
  rw[AE];unfold zci;rw[e1];simp only[R.ofO_some,R.ok_bind,e2];cases hp:P x with
  | true=>
   rw[if_pos rfl,e3 hp,EG hp,AE];simp only[R.ok_bind,ih]
  | false=>
   rw[if_neg AM,EH (by rw[hp];exact AM)]
   exact ih
theorem zh3{α:Type}{enc:α->PV}{h:Tgt}{g:PSt->R Fl}(P:α->Bool)(F:α->PV)(I:PSt->Prop)
  (hs:∀(x:α)(ρ:PSt),I ρ->∃ρ1,h (enc x) ρ=some ρ1/\(P x=true->g ρ1=.ok (.ret (F x)))/\(P x=false->∃ρ2,g ρ1=.ok (.next ρ2)/\I ρ2)) :
  ∀(xs:List α)(ρ:PSt),I ρ->(∀x,xs.find? P=some x->forF h g (xs.map enc) ρ=.ok (.ret (F x)))/\(xs.find? P=none->∃ρ',forF h g (xs.map enc) ρ=.ok (.next ρ')/\I ρ')
 | [],ρ,h0=>⟨fun x e=>(by cases e),fun _=>⟨ρ,rfl,h0⟩⟩
 | x::xs,ρ,h0=>by
  obtain⟨ρ1,e1,e2,e3⟩:=hs x ρ h0;cases hp:P x with
  | true=>
   rw[Gb hp];refine⟨fun y e=>?_,fun e=>by cases e⟩
   cases e;rw[AE];unfold forF;rw[e1];simp only[R.ofO_some,R.ok_bind,e2 hp]
  | false=>
   obtain⟨ρ2,e4,i2⟩:=e3 hp;obtain⟨k1,k2⟩:=zh3 P F I hs xs ρ2 i2;rw[DE (by rw[hp];exact AM)]
   have e5:forF h g ((x::xs).map enc) ρ=forF h g (xs.map enc) ρ2:=by
    rw[AE]
    conv=>lhs;unfold forF
    rw[e1];simp only[R.ofO_some,R.ok_bind,e4]
   rw[e5];exact⟨k1,k2⟩
@[simp] theorem Zf5{n:Nat}{t:PSt->R Bool}{g:PSt->R Fl}{ρ:PSt}:whS n t g ρ=whF t g n ρ:=by unfold whS;exact Ao _
end PU
namespace WO
open PySem L2 PU MT
def sg(c:Nat):PV:=.str ⟨#[c]⟩
theorem zwd(l:List Nat):zf3 (mkS l)=l.map sg:=by unfold zf3 sg;rw[zgk]
theorem it_mk(l:List Nat):zem (.str (mkS l))=some (l.map sg):=by rw[← zwd];unfold zem;exact Ao _
theorem in_one(c:Nat)(l:List Nat):gIn (sg c) (.str (mkS l))=some (.bl (decide (c∈l))):=by
 show some (PV.bl (inS ⟨#[c]⟩ (mkS l)))=_;have e:=PySem.StrLaws.found_one (mkS l) c;rw[zgk] at e;unfold inS;rw[e]
def keyPv(o:Option Nat):PV:=match o with
 | some k=>sg k
 | none=>.non
def codePv(o:Option (List Nat)):PV:=match o with
 | some c=>.str (mkS c)
 | none=>.non
abbrev Lts:=List (Nat×List Nat)
def ltPv(ls:Lts):PV:=.lst (ls.map fun l=>.tup [sg l.1,.str (mkS l.2)])
def keyL(ls:Lts)(c:Nat):Option Nat:=(ls.find? fun l=>decide (c∈l.2)).map (·.1)
def codeL(ls:Lts)(x:List Nat):Option (List Nat):=if x.all (fun c=>(keyL ls c).isSome)=true then some (x.map fun c=>(keyL ls c).getD 0) else none
theorem zt6:∀l:List Nat,Eu "" (l.map fun c=>(⟨#[c]⟩:Str))=mkS l
 | []=>by rw[← zev];rfl
 | [a]=>rfl
 | a::b::r=>by
  have ih:=zt6 (b::r);have e:Eu "" (((a::b::r:List Nat)).map fun c=>(⟨#[c]⟩:Str))=(⟨#[a]⟩:Str)++""++Eu "" ((b::r).map fun c=>(⟨#[c]⟩:Str)):=rfl
  rw[e,ih,zo3,zev,zj6,zj6];rfl
theorem joinV (l:List Nat) (h:l.length<=1000):zuj (.str "") (.lst (l.map sg))=some (.str (mkS l)):=by
 have e:l.map sg=(l.map fun c=>(⟨#[c]⟩:Str)).map PV.str:=by rw[Am];rfl
 rw[e,Zcq,zt6];rw[Am];have:(H8 ((fun x=>x.length) ∘ fun c=>({ cps:=#[c] }:Str)) l)=l.map fun _=>1:=rfl
 rw[this];have:("":Str).length=0:=by decide +kernel
 have h2:∀l:List Nat,(l.map fun _=>1).sum=l.length:=fun l=>by
  induction l with
  | nil=>rfl
  | cons a r ih=>simp only[AE,List.sum_cons,ih,An];omega
 rw[h2,this];omega
theorem zkw(ls:Lts)(x:List Nat):(x.map fun c=>keyPv (keyL ls c)).all isSc=true:=by
 rw[Cr];intro p hp;obtain⟨c,_,rfl⟩:=AJ.mp hp;cases keyL ls c <;> rfl
theorem none_in(ls:Lts)(x:List Nat):gIn .non (.lst (x.map fun c=>keyPv (keyL ls c)))=some (.bl (!x.all fun c=>(keyL ls c).isSome)):=by
 have e:gIn .non (.lst (x.map fun c=>keyPv (keyL ls c)))=if isSc .non=true/\(x.map fun c=>keyPv (keyL ls c)).all isSc=true then some (.bl (inV (scV .non) ((x.map fun c=>keyPv (keyL ls c)).map scV))) else none:=rfl
 rw[e,if_pos ⟨rfl,zkw ls x⟩]
 congr 2
 clear e
 induction x with
 | nil=>rfl
 | cons c r ih=>
  simp only[AE,Cz,Bool.not_and,inV,Bf];rw[← ih];unfold inV;cases keyL ls c <;> simp[keyPv,sg,scV,eqV]
theorem in_list_comp{α:Type}{enc:α->PV}{h:Tgt}{fe:PSt->R PV}{ρ:PSt}(F:α->PV)(xs:List α)
  (hs:∀x∈xs,∃ρ1,h (enc x) ρ=some ρ1/\fe ρ1=.ok (F x)):zci h yesB fe ρ (xs.map enc)=.ok (xs.map F):=by
 have e:=zew (t:=yesB) (fun _=>true) F xs fun x hx=>by
  obtain⟨ρ1,a,b⟩:=hs x hx;exact⟨ρ1,a,zx5,fun _=>b⟩
 rw[List.filter_eq_self.mpr (fun _ _=>rfl)] at e
 exact e
end WO
section
namespace PU
open PySem
theorem zus{α β:Type}{f:α->List β}{b:Nat}:∀{l:List α},(∀x∈l,(f x).length<=b)->(l.flatMap f).length<=l.length * b
 | [],_=>by simp
 | a::l,h=>by
  have:=zus (l:=l) fun x hx=>h x (Ah _ hx)
  have h1:=h a (Ai ..);simp only[FN,Aw,An,Nat.succ_mul];omega
end PU
namespace FA
open PySem L2 PU MT
@[simp] theorem zwk:(AN "menu"=AN "names")=False:=by decide +kernel
@[simp] theorem zwl:(AN "menu"=AN "hours")=False:=by decide +kernel
@[simp] theorem zyh:(AN "menu"=AN "hand")=False:=by decide +kernel
@[simp] theorem zz2:(AN "menu"=AN "end")=False:=by decide +kernel
@[simp] theorem zwi:(AN "names"=AN "menu")=False:=by decide +kernel
@[simp] theorem zvt:(AN "names"=AN "hours")=False:=by decide +kernel
@[simp] theorem zwj:(AN "names"=AN "hand")=False:=by decide +kernel
@[simp] theorem zyg:(AN "names"=AN "end")=False:=by decide +kernel
@[simp] theorem zwm:(AN "hours"=AN "menu")=False:=by decide +kernel
@[simp] theorem zvu:(AN "hours"=AN "names")=False:=by decide +kernel
@[simp] theorem zyi:(AN "hand"=AN "menu")=False:=by decide +kernel
@[simp] theorem zwn:(AN "hand"=AN "names")=False:=by decide +kernel
@[simp] theorem zwo:(AN "hand"=AN "hours")=False:=by decide +kernel
@[simp] theorem zz3:(AN "hand"=AN "end")=False:=by decide +kernel
@[simp] theorem zz4:(AN "end"=AN "menu")=False:=by decide +kernel
@[simp] theorem zyj:(AN "end"=AN "names")=False:=by decide +kernel
@[simp] theorem zyk:(AN "end"=AN "hours")=False:=by decide +kernel
@[simp] theorem zz5:(AN "end"=AN "hand")=False:=by decide +kernel
@[simp] theorem zr4:(AN "first"=AN "letters")=False:=by decide +kernel
@[simp] theorem zvv:(AN "first"=AN "rooms")=False:=by decide +kernel
@[simp] theorem zr3:(AN "letters"=AN "rooms")=False:=by decide +kernel
def holds(hour:Int)(s:Int×Int×Str):Bool:=decide (s.1<=hour) && decide (hour<s.2.1)
def handOf(spans:List (Int×Int×Str))(last:Str)(hour:Int):Str:=match spans.find? (holds hour) with
 | some s=>s.2.2
 | none=>last
abbrev Rooms:=List (Str×Room)
def lookR(rs:Rooms)(n:Str):Option Room:=(rs.find? fun r=>decide (r.1=n)).map (·.2)
def names(rs:Rooms):List Str:=rs.map (·.1)
theorem zlk(n:Str):∀rs:Rooms,zb3 (rs.map fun r=>.inr r.1) (rs.map fun r=>r.2.pv) (.inr n)=(lookR rs n).map Room.pv
 | []=>rfl
 | r::rs=>by
  have ih:=zlk n rs;unfold lookR at ih ⊢
  by_cases h:r.1=n
  ·simp[h]
  ·simp only[AE,zjq]
   rw[if_neg (by simpa using h),DE (by simpa using h)]
   exact ih
theorem ix_rooms(rs:Rooms)(n:Str):gIx (zam rs) (.str n)=(lookR rs n).map Room.pv:=zlk n rs
theorem look_some(rs:Rooms)(n:Str)(h:n∈names rs):∃r,lookR rs n=some r:=by
 unfold lookR;cases e:rs.find? fun r=>decide (r.1=n) with
 | some r=>exact⟨_,rfl⟩
 | none=>
  obtain⟨r,hr,e2⟩:=AJ.mp h;exact absurd (HR.mp e r hr) (by simpa using e2)
theorem keys_rooms(rs:Rooms):zem (zam rs)=some ((names rs).map .str):=by
 have e:zem (zam rs)=some ((rs.map fun r=>(C8 r.1:Key)).map keyP):=rfl
 rw[e,Am];unfold names;rw[Am];rfl
end FA
end
namespace FA
open PySem L2 PU MT
theorem cut_from{α:Type}(xs:List α)(i:Nat)(h:i<xs.length):cutP xs (some ((i:Int)+1)) none=xs.drop (i+1):=by
 unfold cutP HT.sIx;simp;have e1:¬ ((i:Int)+1<0):=by omega
 have e2:((i:Int)+1).toNat=i+1:=by omega
 try simp[e1,e2]
 try rw[Nat.min_eq_left (by omega)]
 try exact Ea (by simp)
end FA
namespace MT
open PySem L2 PU
mutual
def flat:PV->Bool
 | .tup ps=>flats ps
 | .lst ps=>flats ps
 | .dct _ _=>false
 | .dtt _ _=>false
 | .fn _ _=>false
 | _=>true
def flats:List PV->Bool
 | []=>true
 | p::ps=>flat p && flats ps
end
mutual
theorem zml:∀(p:PV),flat p=true->peqO p p=some true
 | .non,_=>by simp[peqO]
 | .bl _,_=>by simp[peqO]
 | .int _,_=>by simp[peqO]
 | .str _,_=>by simp[peqO]
 | .tup ps,h=>by
  simp only[peqO];exact zgf ps (by simpa [flat] using h)
 | .lst ps,h=>by
  simp only[peqO];exact zgf ps (by simpa [flat] using h)
 | .dct _ _,h=>by simp[flat] at h
 | .dtt _ _,h=>by simp[flat] at h
 | .fn _ _,h=>by simp[flat] at h
theorem zgf:∀(ps:List PV),flats ps=true->zdw ps ps=some true
 | [],_=>by simp[zdw]
 | p::ps,h=>by
  simp only[flats,BJ] at h;simp only[zdw,zml p h.1,zgf ps h.2,FL,GO]
end
theorem zh4{α:Type}(f:α->PV)(h:∀x,flat (f x)=true):∀(xs:List α),flats (xs.map f)=true
 | []=>rfl
 | x::xs=>by
  rw[AE];simp only[flats,h x,zh4 f h xs,GO]
theorem zqt(p:Str×Str):flat (pv2 p)=true:=by simp[pv2,flat,flats]
theorem zxm(p:Int×Int×Str):flat (pv3 p)=true:=by simp[pv3,flat,flats]
theorem zur(r:Room):flat r.pv=true:=by
 cases r <;> simp[Room.pv,flat,flats,pvI,zh4 pv2 zqt,zh4 pv3 zxm]
theorem zgg{α:Type}(f:α->PV)(n:Nat)(h:∀x,pdep (f x)<=n):∀(xs:List α),pdeps (xs.map f)<=n
 | []=>by simp[pdeps]
 | x::xs=>by
  rw[AE];simp only[pdeps];have:=h x;have:=zgg f n h xs;omega
theorem zp7(p:Str×Str):pdep (pv2 p)<=1:=by simp[pv2,pdep,pdeps]
theorem zw1(p:Int×Int×Str):pdep (pv3 p)<=1:=by simp[pv3,pdep,pdeps]
theorem ztc(r:Room):pdep r.pv<=3:=by
 have h2:=fun ks=>zgg pv2 1 zp7 ks
 have h3:=fun ks=>zgg pv3 1 zw1 ks
 cases r with
 | menu t ks wr wa=>have:=h2 ks;simp[Room.pv,pdep,pdeps,pvI];omega
 | names t ks wr wa=>have:=h2 ks;simp[Room.pv,pdep,pdeps,pvI];omega
 | hours spans l=>have:=h3 spans;simp[Room.pv,pdep,pdeps];omega
 | hand t=>simp[Room.pv,pdep,pdeps]
 | fin t=>simp[Room.pv,pdep,pdeps]
theorem zqd{k:Key}{r:PV}:∀(ks:List Key)(ps:List PV),ks.length=ps.length->k ∉ ks->∀(ls:List Key)(qs:List PV),zb3 (ks++k::ls) (ps++r::qs) k=some r
 | [],[],_,_,ls,qs=>by simp
 | j::ks,p::ps,hl,hn,ls,qs=>by
  simp only[CB,zjq];rw[if_neg (fun e=>hn (by rw[e];exact Ai))]
  exact zqd ks ps (by simpa using hl) (fun h=>hn (Ah _ h)) ls qs
 | [],_::_,h,_,_,_=>by simp at h
 | _::_,[],h,_,_,_=>by simp at h
theorem zkc(e:PV->PV->Option Bool):∀(ks₀ ks:List Key)(ps₀ ps:List PV),ks₀.length=ps₀.length->ks.length=ps.length->(ks₀++ks).Nodup->(∀p∈ps,e p p=some true)->zh1 e ks ps (ks₀++ks) (ps₀++ps)=some true
 | _,[],_,[],_,_,_,_=>by simp[zh1]
 | ks₀,k::ks,ps₀,p::ps,h0,hl,hn,he=>by
  have hk:k ∉ ks₀:=fun h=>by
   rw[BK] at hn;exact hn.2.2 k h k Ai rfl
  have:=zkc e (ks₀++[k]) ks (ps₀++[p]) ps (by simp[h0]) (by simpa using hl) (by simpa using hn) fun q hq=>he q (Ah _ hq)
  simp only[Bd,CB,Dh] at this;unfold zh1;rw[zqd ks₀ ps₀ h0 hk ks ps];simp only[he p Ai,FL,this,GO]
 | _,[],_,_::_,_,h,_,_=>by simp at h
 | _,_::_,_,[],_,h,_,_=>by simp at h
theorem zrn{rs:List (Str×Room)}(h:(rs.map (·.1)).Nodup):(rs.map fun r=>(C8 r.1:Key)).Nodup:=by
 have:(rs.map fun r=>(C8 r.1:Key))=(rs.map (·.1)).map C8:=by simp
 rw[this];exact GA _ (fun a b hab e=>hab (CT e)) h
theorem zre(rs:List (Str×Room))(h:(rs.map (·.1)).Nodup):peqN 2 (zam rs) (zam rs)=some true:=by
 unfold zam peqN;rw[if_pos rfl];refine zkc (peqN 1) [] _ [] _ rfl (by simp) (zrn h) fun p hp=>?_
 obtain⟨r,_,rfl⟩:=AJ.mp hp;have h1:=zur r.2;cases e:r.2.pv with
 | dct ks ps=>rw[e] at h1;simp[flat] at h1
 | _=>rw[← e];rw[show peqN 1 r.2.pv r.2.pv=peqO r.2.pv r.2.pv by rw[e];rfl];exact zml _ h1
theorem zrs(h:House)(nd:(h.rooms.map (·.1)).Nodup):gEq h.pv h.pv=some (.bl true):=by
 have hd:pdeps [.str h.first,.lst (h.letters.map pv2),zam h.rooms]<=60:=by
  have:=zgg pv2 1 zp7 h.letters;have:=zgg (fun r:Str×Room=>r.2.pv) 3 (fun r=>ztc r.2) h.rooms
  simp only[pdeps,pdep,zam];omega
 show (if pdeps [.str h.first,.lst (h.letters.map pv2),zam h.rooms]<=60 then (peqN 3 h.pv h.pv).map PV.bl else none)=_
 rw[if_pos hd]
 have:peqN 3 h.pv h.pv=some true:=by
  unfold House.pv peqN;rw[if_pos rfl];refine zkc (peqN 2) [] _ [] _ rfl rfl (by simp) fun p hp=>?_
  simp only[AU,B7,or_false] at hp;rcases hp with rfl | rfl | rfl
  ·show peqO _ _=_
   simp[peqO]
  ·show peqO _ _=_
   exact zml _ (by simp[flat,zh4 pv2 zqt])
  ·exact zre _ nd
 rw[this];rfl
def putR(rs:List (Str×Room))(k:Str)(r:Room):List (Str×Room):=if k∈rs.map (·.1) then rs.map (fun x=>if x.1=k then (x.1,r) else x) else rs++[(k,r)]
theorem zga(rs:List (Str×Room))(k:Str)(r:Room):putP (rs.map fun r=>.inr r.1) (rs.map fun r=>r.2.pv) (.inr k) r.pv=zam (putR rs k r):=by
 unfold putP putR
 by_cases h:k∈rs.map (·.1)
 ·rw[if_pos h,if_pos (by
   obtain⟨x,hx,e⟩:=AJ.mp h;rw[EJ];exact⟨.inr x.1,AJ.mpr ⟨x,hx,rfl⟩,by simp[e]⟩)]
  have e1:(rs.map fun x=>if x.1=k then (x.1,r) else x).map (fun r=>(C8 r.1:Key))=rs.map fun r=>.inr r.1:=by
   rw[Am];apply C4;intro x _;simp only[CW]
   split <;> rfl
  have e2:zjc (rs.map fun r=>.inr r.1) (rs.map fun r=>r.2.pv) (.inr k) r.pv=(rs.map fun x=>if x.1=k then (x.1,r) else x).map fun r=>r.2.pv:=by
   unfold zjc;clear h e1
   induction rs with
   | nil=>rfl
   | cons x rs ih=>
    simp only[AE,Bp,ih,Sum.inr.injEq]
    congr 1
    split <;> rfl
  unfold zam;rw[e1,e2]
 ·rw[if_neg h,if_neg (by
   rw[EJ];rintro⟨j,hj,e⟩;obtain⟨x,hx,rfl⟩:=AJ.mp hj;exact h (AJ.mpr ⟨x,hx,by simpa using e⟩))]
  unfold zam;simp
theorem zz7{rs:List (Str×Room)}{k:Str}{r:Room}(P:Str×Room->Prop)(h:∀x∈rs,P x)(hk:∀x:Str×Room,x.1=k->x.2=r->P x)(nd:(rs.map (·.1)).Nodup) :
  (∀x∈putR rs k r,P x)/\((putR rs k r).map (·.1)).Nodup/\(putR rs k r).length<=rs.length+1:=by
 unfold putR
 by_cases hm:k∈rs.map (·.1)
 ·rw[if_pos hm]
  refine⟨fun x hx=>?_,?_,by simp⟩
  ·obtain⟨y,hy,e⟩:=AJ.mp hx
   by_cases hyk:y.1=k
   ·rw[if_pos hyk] at e
    subst e;exact hk _ hyk rfl
   ·rw[if_neg hyk] at e
    subst e;exact h _ hy
  ·rw[Am]
   have:(rs.map ((fun x=>x.1) ∘ fun x=>if x.1=k then (x.1,r) else x))=rs.map (·.1):=by
    apply C4;intro x _;simp only[CW]
    split <;> rfl
   rw[this];exact nd
 ·rw[if_neg hm]
  refine⟨fun x hx=>?_,?_,by simp⟩
  ·rcases Aj.mp hx with hx | hx
   ·exact h x hx
   ·have:x=(k,r):=by simpa using hx
    subst this;exact hk _ rfl rfl
  ·rw[AW,BK]
   refine⟨nd,by simp,fun a ha b hb e=>?_⟩
   have:b=k:=by simpa using hb
   subst this;subst e;exact hm ha
end MT
namespace NM
open PySem L2 PU MT
def c24:List Nat:=[97,99,100,101,102,103,104,105,106,108,109,110,111,112,113,114,115,116,117,118,119,120,121,122]
def Zdz(n:Int):Nat:=(1+n % 8).toNat
def nmAt(n:Int):Int:=n / 8 % (1+n % 8)
def Zd0(n:Int)(t k:Nat):Nat:=c24.getD ((n / ((k:Int)+2)+(t:Int) * (if (k:Int)=nmAt n then 1 else 0)) % 24).toNat 0
def Zao(n:Int)(t i:Nat):List Nat:=(AF i).map (Zd0 n t)
def nm(n:Int)(t:Nat):Str:=mkS (Zao n t (Zdz n))
theorem Zfh(nms:List Str)(z:Int)(h:0<nms.length):∃x∈nms,atI (nms.map PV.str) (z % (nms.length:Int))=some (.str x):=by
 have h0:0<=z % (nms.length:Int):=G0 _ (by omega)
 have h1:z % (nms.length:Int)<nms.length:=FH _ (by omega)
 have h2:(z % (nms.length:Int)).toNat<nms.length:=by omega
 refine⟨nms[(z % (nms.length:Int)).toNat],Bh h2,zbc (n:=(z % (nms.length:Int)).toNat) (by omega) ?_⟩
 rw[AG,AX h2];rfl
theorem at_i(ss:List Str)(i:Nat)(hi:i<ss.length):atI (ss.map PV.str) (i:Int)=some (.str ss[i]):=zbc rfl (by
 rw[AG,AX hi];rfl)
theorem zqr{ps:List PV}(h:∀p∈ps,flat p=true):flats ps=true:=by
 induction ps with
 | nil=>rfl
 | cons a r ih=>simp[flats,h a (Ai ..),ih fun p hp=>h p (Ah _ hp)]
theorem zp6{ps:List PV}{n:Nat}(h:∀p∈ps,pdep p<=n):pdeps ps<=n:=by
 induction ps with
 | nil=>simp[pdeps]
 | cons a r ih=>
  have h1:=h a (Ai ..);have h2:=ih fun p hp=>h p (Ah _ hp)
  simp only[pdeps];omega
theorem ztn{ps:List PV}(h:∀p∈ps,flat p=true/\pdep p<=3):gNe (.lst ps) (.lst ps)=some (.bl false):=by
 have e:gNe (.lst ps) (.lst ps)=if pdeps ps<=60 then (zdw ps ps).map fun b=>.bl (!b) else none:=rfl
 rw[e,if_pos (B9 (zp6 fun p hp=>(h p hp).2) (by decide)),zgf _ (zqr fun p hp=>(h p hp).1)]
 rfl
theorem zgl(rs:FA.Rooms)(k:Str)(r:Room)(x:Str):x∈FA.names (putR rs k r) ↔ x∈FA.names rs\/x=k:=by
 unfold FA.names putR
 by_cases h:k∈rs.map (·.1)
 ·rw[if_pos h,Am]
  have:(rs.map ((fun x=>x.1) ∘ fun x=>if x.1=k then (x.1,r) else x))=rs.map (·.1):=by
   apply C4;intro x _;simp only[CW]
   split <;> rfl
  rw[this];exact⟨.inl,fun z=>z.elim id fun e=>e▸h⟩
 ·rw[if_neg h]
  simp
theorem Zbl{ps:List PV}(h:∀p∈ps,flat p=true/\pdep p<=3):gEq (.lst ps) (.lst ps)=some (.bl true):=by
 have e:gEq (.lst ps) (.lst ps)=if pdeps ps<=60 then (zdw ps ps).map .bl else none:=rfl
 rw[e,if_pos (B9 (zp6 fun p hp=>(h p hp).2) (by decide)),zgf _ (zqr fun p hp=>(h p hp).1)]
 rfl
def comeGo(rs:FA.Rooms)(hour:Int):Nat->Str->Option Str
 | 0,_=>none
 | n+1,x=>match FA.lookR rs x with
  | some (.hours sp l)=>comeGo rs hour n (FA.handOf sp l hour)
  | some _=>some x
  | none=>none
theorem ztr(rs:FA.Rooms)(n:Str)(r:Room)(h:FA.lookR rs n=some r):(n,r)∈rs:=by
 unfold FA.lookR at h;cases e:rs.find? fun r=>decide (r.1=n) with
 | none=>rw[e] at h;cases h
 | some q=>
  rw[e] at h;cases h;have h1:=Fq e;have h1:q.1=n:=by simpa using h1
  subst h1;exact CK e
end NM
section
namespace PU
open PySem L2
def slQA(p:PV)(lh:Option Int×Option Int):R PV:=R.ofO (gSlA p lh.1 lh.2)
@[simp] theorem Zjc(p:PV)(a b:Option Int):slQA p (a,b)=R.ofO (gSlA p a b):=by unfold slQA;exact Ao _
@[simp] theorem Zfl{f:PSt->R PV}{l h:PSt->R (Option Int)}{ρ:PSt}:zi2 f l h ρ=twoK slQA (f ρ) (twoK zw2 (l ρ) (h ρ)):=by unfold zi2;cases f ρ <;> cases l ρ <;> cases h ρ <;> rfl
theorem zzm{x:Str}(lo hi:Option Int)(h:x.length<=16777216):gSlA (.str x) lo hi=some (.str (Bk x lo hi)):=if_pos h
@[simp] theorem Zck(ps:List PV)(lo hi:Option Int):gSlA (.lst ps) lo hi=some (.lst (cutP ps lo hi)):=rfl
end PU
namespace NM
open PySem L2 PU MT
theorem zce(ls:List Int)(k:Nat)(hk:k<ls.length):atI (ls.map PV.int) (k:Int)=some (.int ls[k]):=zbc rfl (by rw[AG,AX hk];rfl)
theorem cut_1{α:Type}(xs:List α)(h:0<xs.length):cutP xs (some 1) none=xs.drop 1:=FA.cut_from xs 0 h
end NM
end
section
namespace PU
open PySem L2 MT
def zipQ:PV->PV->R (List PV)
 | .lst ps,.lst qs=>if (ps.all zhi || qs.all zhi)=true then .ok ((zipP ps qs).map .tup) else .no
 | _,_=>.no
@[simp] theorem zy0(ps qs:List PV)(h:(ps.all zhi || qs.all zhi)=true):zipQ (.lst ps) (.lst qs)=.ok ((zipP ps qs).map .tup):=by unfold zipQ;exact if_pos h
@[simp] theorem zn8{α:Type}(f:α->Str)(l:List α):(l.map fun x=>PV.str (f x)).all zhi=true:=by induction l <;> simp_all [zhi]
@[simp] theorem Zh8{f g:PSt->R PV}{ρ:PSt}:zipF f g ρ=twoK zipQ (f ρ) (g ρ):=by
 unfold zipF;cases f ρ with
 | ok p=>
  cases g ρ with
  | ok q=>rw[R.ok_bind,R.ok_bind,zt3];cases p <;> cases q <;> rfl
  | er x=>rfl
  | no=>rfl
 | er x=>rfl
 | no=>rfl
def md2K(fe fd:PSt->R PV)(g:PV->PV->PV->Option PV)(ρ:PSt)(p:PV):R PV:=if Za9 p=true then twoK (fun q y=>R.ofO (g p q y)) (fe ρ) (fd ρ) else .no
@[simp] theorem Ziw(fe fd:PSt->R PV)(g:PV->PV->PV->Option PV)(ρ:PSt)(ks:List Key)(ps:List PV):md2K fe fd g ρ (.dct ks ps)=twoK (fun q y=>R.ofO (g (.dct ks ps) q y)) (fe ρ) (fd ρ):=by unfold md2K;exact if_pos rfl
@[simp] theorem Zfo{fo fe fd:PSt->R PV}{g:PV->PV->PV->Option PV}{ρ:PSt}:zqb fo fe fd g ρ=bndK (md2K fe fd g ρ) (fo ρ):=by
 unfold zqb;cases fo ρ with
 | ok p=>
  rw[R.ok_bind,zj9];unfold md2K
  split
  ·cases fe ρ with
   | ok q=>cases fd ρ <;> rfl
   | er x=>rfl
   | no=>rfl
  ·rfl
 | er x=>rfl
 | no=>rfl
theorem zl2(l:List Nat)(n:Nat):Bk (mkS l) none (some (n:Int))=mkS (l.take n):=by
 have main:∀m:Nat,m<=l.length->Bk (mkS l) none (some (m:Int))=mkS (l.take m):=fun m hm=>by
  have e:=PySem.StrLaws.sliceText_to (x:=mkS l) (j:=m) ⟨by omega,by rw[zgk];omega⟩
  have e2:Bk (mkS l) none (some (m:Int))=PySem.StrLaws.sliceText (mkS l) none (some (m:Int)):=rfl;rw[e2,e,zgk];have:((m:Int)-0).toNat=m:=by omega
  rw[this];rfl
 by_cases h:n<=l.length
 ·exact main n h
 ·have e:Bk (mkS l) none (some (n:Int))=Bk (mkS l) none (some (l.length:Int)):=by
   have e1:DN none (some (n:Int)) 1 (mkS l).length=DN none (some (l.length:Int)) 1 (mkS l).length:=by
    rw[ze0];unfold DN;have a:¬ ((n:Int)<0):=by omega
    have b:¬ ((l.length:Int)<0):=by omega
    have c:max (0:Int) (min (n:Int) (l.length:Int))=max 0 (min (l.length:Int) (l.length:Int)):=by omega
    simp only[a,b,if_false,c,show (1:Int) > 0 from by decide,if_true]
   unfold Bk;rw[e1]
  rw[e,main l.length (AY _),Fc,Ea (by omega)]
end PU
namespace BG
open PySem L2 PU MT
abbrev W:=List Nat
def pre(p c:W):Bool:=p.isPrefixOf c
theorem zim{p c:W}:pre p c=true ↔ p <+: c:=List.isPrefixOf_iff_prefix
def many(cs:List W)(p:W):Nat:=(cs.filter (pre p)).length
def own(cs:List W)(c:W):W:=match (AF (c.length-1)).find? (fun i=>decide (many cs (c.take (i+1))=1)) with
 | some i=>c.take (i+1)
 | none=>c
def Code(c:W):Prop:=∃x:W,c=x++[35]/\35 ∉ x
theorem zxw{c d:W}(hc:Code c)(hd:Code d)(h:c <+: d):c=d:=by
 obtain⟨x,rfl,hx⟩:=hc;obtain⟨y,rfl,hy⟩:=hd;obtain⟨t,e⟩:=h;cases ht:t.reverse with
 | nil=>
  have:t=[]:=by simpa using ht
  rw[this,BY] at e;exact e
 | cons a r=>
  exfalso
  have e1:t=r.reverse++[a]:=by
   have:=congrArg List.reverse ht;simpa using this
  rw[e1,← Bd] at e;have e2:=List.append_inj' e rfl;exact hy (by rw[← e2.1];simp)
theorem zmn(cs:List W)(c:W):own cs c <+: c:=by
 unfold own
 split
 ·exact Cp _ _
 ·exact EB _
theorem zyo(cs:List W)(c:W)(h:c≠[]):own cs c≠[]:=by
 unfold own
 split
 ·intro e
  cases c with
  | nil=>exact h rfl
  | cons a r=>simp at e
 ·exact h
theorem zte{cs:List W}(hcs:∀c∈cs,Code c){c d:W}(hc:c∈cs)(hd:d∈cs)(h:own cs c <+: d):c=d:=by
 unfold own at h;split at h
 ·rename_i i e
  have h1:many cs (c.take (i+1))=1:=by simpa using Fq e
  unfold many at h1;have m1:c∈cs.filter (pre (c.take (i+1))):=BX.mpr ⟨hc,zim.mpr (Cp _ _)⟩;have m2:d∈cs.filter (pre (c.take (i+1))):=BX.mpr ⟨hd,zim.mpr h⟩;generalize cs.filter (pre (c.take (i+1)))=l at h1 m1 m2
  match l,h1,m1,m2 with
  | [a],_,m1,m2=>rw[AO.mp m1,AO.mp m2]
 ·exact zxw (hcs c hc) (hcs d hd) h
theorem Zaa{p q r:W}(hp:p <+: r)(hq:q <+: r):p <+: q\/q <+: p:=by
 rcases Nat.le_total p.length q.length with h | h
 ·exact .inl (FV hp hq h)
 ·exact .inr (FV hq hp h)
theorem ztf{cs:List W}(hcs:∀c∈cs,Code c){c d r:W}(hc:c∈cs)(hd:d∈cs)(h1:own cs c <+: r)(h2:own cs d <+: r):c=d:=by
 rcases Zaa h1 h2 with h | h
 ·exact zte hcs hc hd (E9 h (zmn cs d))
 ·exact(zte hcs hd hc (E9 h (zmn cs c))).symm
def pres(c:W):List W:=(AF c.length).map fun i=>c.take (i+1)
theorem zvd{l:List W}{p:W}(nd:l.Nodup)(h:p∈l):l.count p=1:=by
 induction l with
 | nil=>cases h
 | cons a r ih=>
  rw[Ay] at nd
  by_cases e:a=p
  ·subst e
   rw[List.count_cons_self,FD.mpr nd.1]
  ·rw[List.count_cons_of_ne e]
   exact ih nd.2 ((AU.mp h).resolve_left fun z=>e z.symm)
theorem zrx(c p:W):(pres c).count p=if p≠[]/\p <+: c then 1 else 0:=by
 have nd:(pres c).Nodup:=by
  unfold pres HS;rw[Hh];refine Ci (R:=fun a b=>a<b) (fun {a b} ha hb hab e=>?_) GZ
  rw[B5] at ha hb;have:=congrArg CM e;rw[CU,CU] at this;omega
 by_cases h:p≠[]/\p <+: c
 ·rw[if_pos h]
  refine zvd nd ?_;unfold pres;refine AJ.mpr ⟨p.length-1,B5.mpr ?_,?_⟩
  ·have:=h.2.length_le
   have:p.length≠0:=fun e=>h.1 (EC.mp e)
   omega
  ·have:p.length≠0:=fun e=>h.1 (EC.mp e)
   rw[show p.length-1+1=p.length by omega]
   exact(D7.mp h.2).symm
 ·rw[if_neg h]
  refine FD.mpr fun hm=>h ?_
  unfold pres at hm;obtain⟨i,hi,rfl⟩:=AJ.mp hm;rw[B5] at hi;refine⟨fun e=>?_,Cp _ _⟩
  have:=congrArg CM e;rw[CU,Cc] at this;omega
theorem zve(cs:List W)(p:W)(hp:p≠[]):(cs.flatMap pres).count p=many cs p:=by
 induction cs with
 | nil=>rfl
 | cons c r ih=>
  rw[FN,Hi,ih,zrx];unfold many
  by_cases h:p <+: c
  ·rw[if_pos ⟨hp,h⟩,EG (zim.mpr h),An]
   omega
  ·rw[if_neg fun z=>h z.2,EH fun z=>h (zim.mp z)]
   omega
structure Cnt(L:List W)(ks:List Key)(ps:List PV):Prop where
 len:ks.length=ps.length
 le:ks.length<=L.length
 at_:∀p:W,zb3 ks ps (.inr (mkS p))=if L.count p=0 then none else some (.int (L.count p))
theorem mkS_inj{a b:W}(h:mkS a=mkS b):a=b:=by
 have:=congrArg (fun s:Str=>s.cps.toList) h
 simpa using this
theorem look_put(ks:List Key)(ps:List PV)(k:Key)(v:PV)(hl:ks.length=ps.length):∃ks' ps',putP ks ps k v=.dct ks' ps'/\ks'.length=ps'.length/\ks'.length<=ks.length+1/\∀j,zb3 ks' ps' j=if k=j then some v else zb3 ks ps j:=by
 unfold putP
 by_cases hk:(ks.any fun j=>decide (j=k))=true
 ·rw[if_pos hk]
  refine⟨ks,zjc ks ps k v,rfl,by simp[zjc,hl],by omega,fun j=>?_⟩
  induction ks generalizing ps with
  | nil=>simp at hk
  | cons a ks ih=>
   cases ps with
   | nil=>simp at hl
   | cons b ps=>
    have hl':ks.length=ps.length:=by simpa using hl
    have e:zjc (a::ks) (b::ps) k v=(if a=k then v else b)::zjc ks ps k v:=rfl
    rw[e];simp only[zjq]
    by_cases haj:a=j
    ·rw[if_pos haj,if_pos haj]
     by_cases hkj:k=j
     ·rw[if_pos (haj.trans hkj.symm),if_pos hkj]
     ·rw[if_neg fun z=>hkj (z.symm.trans haj),if_neg hkj]
    ·rw[if_neg haj,if_neg haj]
     by_cases hk2:(ks.any fun j=>decide (j=k))=true
     ·exact ih ps hl' hk2
     ·have hak:a=k:=by
       rw[Bf] at hk;simp only[Eh,decide_eq_true_eq] at hk;exact hk.resolve_right hk2
      have hkj:¬ k=j:=fun z=>haj (hak.trans z)
      rw[if_neg hkj]
      have:zjc ks ps k v=ps:=by
       clear ih hk e hl
       induction ks generalizing ps with
       | nil=>cases ps with
        | nil=>rfl
        | cons=>simp at hl'
       | cons c ks ih=>
        cases ps with
        | nil=>simp at hl'
        | cons d ps=>
         have e:zjc (c::ks) (d::ps) k v=(if c=k then v else d)::zjc ks ps k v:=rfl
         rw[Bf] at hk2;simp only[Eh,decide_eq_true_eq,not_or] at hk2;rw[e,if_neg hk2.1,ih ps (by simpa using hl') hk2.2]
      rw[this]
 ·rw[if_neg hk]
  refine⟨ks++[k],ps++[v],rfl,by simp[hl],by simp,fun j=>?_⟩
  induction ks generalizing ps with
  | nil=>
   cases ps with
   | nil=>simp[zb3]
   | cons=>simp at hl
  | cons a ks ih=>
   cases ps with
   | nil=>simp at hl
   | cons b ps=>
    rw[Bf] at hk;simp only[Eh,decide_eq_true_eq,not_or] at hk;simp only[CB,zjq]
    by_cases haj:a=j
    ·rw[if_pos haj,if_pos haj,if_neg fun z=>hk.1 (haj.trans z.symm)]
    ·rw[if_neg haj,if_neg haj]
     exact ih ps (by simpa using hl) hk.2
theorem Zb0{L:List W}{ks:List Key}{ps:List PV}(c:Cnt L ks ps)(p:W):∃ks' ps',putP ks ps (.inr (mkS p)) (.int ((L.count p:Int)+1))=.dct ks' ps'/\Cnt (L++[p]) ks' ps':=by
 obtain⟨ks',ps',e,h1,h2,h3⟩:=look_put ks ps (.inr (mkS p)) (.int ((L.count p:Int)+1)) c.len;refine⟨ks',ps',e,h1,by rw[Aw,Ej];have:=c.le;omega,fun q=>?_⟩
 rw[h3,Hi]
 by_cases hq:p=q
 ·subst hq
  rw[if_pos rfl,List.count_singleton_self,if_neg (by omega)]
  congr 2
 ·rw[if_neg fun z=>hq (mkS_inj (CT z)),c.at_ q]
  have:List.count q [p]=0:=FD.mpr (by simp;exact fun z=>hq z.symm)
  rw[this,Nat.add_zero]
theorem Zb1{L:List W}{ks:List Key}{ps:List PV}(c:Cnt L ks ps)(p:W):zru (.dct ks ps) (.str (mkS p)) (.int 0)=some (.int (L.count p)):=by
 show some ((zb3 ks ps (.inr (mkS p))).getD (.int 0))=_;rw[c.at_ p]
 split
 ·rename_i h
  rw[h];rfl
 ·rfl
end BG
end
namespace NW
open PySem L2 PU MT BG
def wstep(p:W)(o:Option PV)(x:W×Str):Option PV:=if x.1=p then some (.str x.2) else if p≠[]/\p <+: x.1 then some .non else o
def Ways(bs:List (W×Str))(p:W):Option PV:=bs.foldl (wstep p) none
def hitB(p:W)(x:W×Str):Bool:=decide (p≠[]) && pre p x.1
theorem zgx{p:W}{x:W×Str}:hitB p x=true ↔ p≠[]/\p <+: x.1:=by simp[hitB,zim]
theorem zhm(p:W)(hp:p≠[]):∀(bs:List (W×Str))(o:Option PV),bs.foldl (wstep p) o=match (bs.filter (hitB p)).getLast? with
  | none=>o
  | some x=>if x.1=p then some (.str x.2) else some .non
 | [],o=>rfl
 | x::bs,o=>by
  rw[Bg,zhm p hp bs]
  by_cases h:hitB p x=true
  ·rw[EG h]
   have h':=(zgx.mp h)
   have e:wstep p o x=if x.1=p then some (.str x.2) else some .non:=by
    unfold wstep;rw[if_pos h']
   cases hl:bs.filter (hitB p) with
   | nil=>simp only[List.getLast?_nil,List.getLast?_singleton];exact e
   | cons a r=>
    rw[List.getLast?_cons_cons];cases hg:(a::r).getLast? with
    | none=>simp at hg
    | some y=>rfl
  ·rw[EH h]
   have h':¬ (p≠[]/\p <+: x.1):=fun z=>h (zgx.mpr z)
   have e:wstep p o x=o:=by
    unfold wstep;rw[if_neg h',if_neg fun e=>h' ⟨hp,by rw[e];exact EB _⟩]
   rw[e]
section
variable{bs : List (W×Str)}(hne : ∀x ∈ bs, x.1 ≠ [])(hpf : ∀x ∈ bs, ∀y ∈ bs, x.1 <+: y.1 → x = y)
include hne hpf
theorem zv0{x:W×Str}(hx:x∈bs):Ways bs x.1=some (.str x.2):=by
 unfold Ways;rw[zhm x.1 (hne x hx)];have m:x∈bs.filter (hitB x.1):=BX.mpr ⟨hx,zgx.mpr ⟨hne x hx,EB _⟩⟩;cases e:(bs.filter (hitB x.1)).getLast? with
 | none=>rw[GF.mp e] at m;cases m
 | some y=>
  have my:=BX.mp (Gy e);have:=hpf x hx y my.1 (zgx.mp my.2).2;subst this;simp
theorem zvz{x:W×Str}(hx:x∈bs){p:W}(hp:p≠[])(h1:p <+: x.1)(h2:p≠x.1):Ways bs p=some .non:=by
 unfold Ways;rw[zhm p hp];have m:x∈bs.filter (hitB p):=BX.mpr ⟨hx,zgx.mpr ⟨hp,h1⟩⟩;cases e:(bs.filter (hitB p)).getLast? with
 | none=>rw[GF.mp e] at m;cases m
 | some y=>
  have my:=BX.mp (Gy e)
  have h3:¬ y.1=p:=fun z=>by
   have:y=x:=hpf y my.1 x hx (by rw[z];exact h1)
   exact h2 (by rw[← z,this])
  simp only[if_neg h3]
omit hpf in
theorem zsa{p:W}(h:∀x∈bs,p≠[]->¬ p <+: x.1):Ways bs p=none:=by
 unfold Ways
 by_cases hp:p=[]
 ·subst hp
  have:∀(l:List (W×Str)),(∀x∈l,x.1≠[])->l.foldl (wstep []) none=none:=by
   intro l
   induction l with
   | nil=>intro _;rfl
   | cons x l ih=>
    intro hl;rw[Bg]
    have e:wstep [] none x=none:=by
     unfold wstep;rw[if_neg (hl x Ai),if_neg (by simp)]
    rw[e];exact ih fun y hy=>hl y (Ah _ hy)
  exact this bs hne
 ·rw[zhm p hp]
  have:bs.filter (hitB p)=[]:=List.filter_eq_nil_iff.mpr fun x hx z=>h x hx hp (zgx.mp z).2
  rw[this];rfl
end
structure Tells(ks:List Key)(ps:List PV)(F:W->Option PV):Prop where
 len:ks.length=ps.length
 at_:∀p,zb3 ks ps (.inr (mkS p))=F p
 nf:∀x∈ps,noFn x=true
theorem zgh:∀ps:List PV,zbp ps=true ↔ ∀p∈ps,noFn p=true
 | []=>by simp[zbp]
 | p::ps=>by
  have e:zbp (p::ps)=(noFn p && zbp ps):=by simp[zbp]
  rw[e,BJ,zgh ps];constructor
  ·rintro⟨h1,h2⟩ q hq
   rcases AU.mp hq with rfl | hq
   ·exact h1
   ·exact h2 q hq
  ·intro h
   exact⟨h p (by simp),fun q hq=>h q (by simp[hq])⟩
theorem zr5{k:Key}{v x:PV}:∀(ks:List Key)(ps:List PV),x∈ks.zipWith (fun j q=>if j=k then v else q) ps->x∈ps\/x=v
 | [],_,h=>by simp at h
 | _::_,[],h=>by simp at h
 | j::ks,p::ps,h=>by
  rw[Bp] at h;rcases AU.mp h with h | h
  ·by_cases e:j=k
   ·rw[if_pos e] at h;exact .inr h
   ·rw[if_neg e] at h;exact .inl (by simp[h])
  ·rcases zr5 ks ps h with h | h
   ·exact .inl (by simp[h])
   ·exact .inr h
theorem zsz{ks ks':List Key}{ps ps':List PV}{k:Key}{v:PV}(e:putP ks ps k v=.dct ks' ps'){x:PV}(hx:x∈ps'):x∈ps\/x=v:=by
 unfold putP at e;split at e
 ·injection e with e1 e2
  subst e2;exact zr5 ks ps hx
 ·injection e with e1 e2
  subst e2;simpa using hx
theorem Tells.put{ks:List Key}{ps:List PV}{F:W->Option PV}(h:Tells ks ps F)(p0:W)(v:PV)(hv:noFn v=true):∃ks' ps',putP ks ps (.inr (mkS p0)) v=.dct ks' ps'/\ks'.length<=ks.length+1/\Tells ks' ps' (fun p=>if p0=p then some v else F p):=by
 obtain⟨ks',ps',e,h1,h2,h3⟩:=look_put ks ps (.inr (mkS p0)) v h.len;refine⟨ks',ps',e,h2,h1,fun p=>?_,fun x hx=>(zsz e hx).elim (h.nf x) fun z=>z▸hv⟩
 rw[h3,h.at_]
 by_cases hp:p0=p
 ·rw[if_pos hp,if_pos (by rw[hp])]
 ·rw[if_neg hp,if_neg fun z=>hp (mkS_inj (CT z))]
theorem zqe{k:Key}:∀(ks:List Key)(ps:List PV),ks.length=ps.length->(ks.any fun j=>decide (j=k))=(zb3 ks ps k).isSome
 | [],[],_=>rfl
 | [],_::_,h=>by simp at h
 | _::_,[],h=>by simp at h
 | j::ks,p::ps,h=>by
  rw[zjq,Bf]
  by_cases e:j=k
  ·simp[e]
  ·rw[if_neg e,zqe ks ps (by simpa using h)]
   simp[e]
theorem Tells.notIn{ks:List Key}{ps:List PV}{F:W->Option PV}(h:Tells ks ps F)(p:W):zg6 (.str (mkS p)) (.dct ks ps)=some (.bl (!(F p).isSome)):=by
 have e:zg6 (.str (mkS p)) (.dct ks ps)=some (.bl (!(ks.any fun j=>decide (j=.inr (mkS p))))):=rfl
 rw[e,zqe ks ps h.len,h.at_]
theorem Tells.ix{ks:List Key}{ps:List PV}{F:W->Option PV}(h:Tells ks ps F)(p:W):gIx (.dct ks ps) (.str (mkS p))=F p:=h.at_ p
def wtPv(wt:List (W×Str)):PV:=.tup (wt.map fun p=>.tup [.str (mkS p.1),.str p.2])
def wtD(wt:List (W×Str)):PV:=.dct (wt.map fun p=>.inr (mkS p.1)) (wt.map fun p=>.str p.2)
theorem znm:∀wt:List (W×Str),zi7 (wt.map fun p=>PV.tup [.str (mkS p.1),.str p.2])=some (wt.map fun p=>(.inr (mkS p.1),.str p.2))
 | []=>rfl
 | p::wt=>by
  rw[AE,AE];unfold zi7;rw[znm wt];rfl
theorem zmg{ks:List Key}{ps:List PV}{k:Key}{v:PV}(h:k ∉ ks):putP ks ps k v=.dct (ks++[k]) (ps++[v]):=by
 unfold putP;rw[if_neg]
 ·simpa using h
theorem zuq:∀(wt:List (W×Str))(ks:List Key)(ps:List PV),((wt.map (·.1)).Nodup)->(∀p∈wt,(.inr (mkS p.1):Key) ∉ ks)->(wt.map fun p=>((.inr (mkS p.1):Key),PV.str p.2)).foldl addP (.dct ks ps)=.dct (ks++wt.map fun p=>.inr (mkS p.1)) (ps++wt.map fun p=>.str p.2)
 | [],ks,ps,_,_=>by simp
 | p::wt,ks,ps,nd,hk=>by
  rw[AE,Bg];have e:addP (.dct ks ps) (.inr (mkS p.1),.str p.2)=.dct (ks++[.inr (mkS p.1)]) (ps++[.str p.2]):=zmg (hk p Ai);rw[e,zuq wt _ _ (Ay.mp nd).2]
  ·simp
  ·intro q hq z
   rcases Aj.mp z with z | z
   ·exact hk q (Ah _ hq) z
   ·have z:=CT (AO.mp z)
    have z:=mkS_inj z;exact(Ay.mp nd).1 (AJ.mpr ⟨q,hq,z⟩)
theorem zu7(wt:List (W×Str))(hl:wt.length<=1000)(nd:(wt.map (·.1)).Nodup):zn5 (wtPv wt)=some (wtD wt):=by
 have e:zn5 (wtPv wt)=if (wt.map fun p=>PV.tup [.str (mkS p.1),.str p.2]).length<=1000 then (zi7 (wt.map fun p=>PV.tup [.str (mkS p.1),.str p.2])).map zf0 else none:=rfl
 rw[e,if_pos (by simpa using hl),znm]
 show some (zf0 _)=_;have m:∀l,zf0 l=l.foldl addP (.dct [] []):=fun l=>rfl
 rw[m,zuq wt [] [] nd (by simp)]
 simp[wtD]
theorem Zav(wt:List (W×Str)):zui (wtD wt)=some (.lst (wt.map fun p=>.str (mkS p.1))):=by
 show some (PV.lst ((wt.map fun p=>(.inr (mkS p.1):Key)).map keyP))=_
 rw[Am];rfl
theorem zv8(wt:List (W×Str))(nd:(wt.map (·.1)).Nodup){p:W×Str}(hp:p∈wt):zb3 (wt.map fun p=>.inr (mkS p.1)) (wt.map fun p=>.str p.2) (.inr (mkS p.1))=some (.str p.2):=by
 induction wt with
 | nil=>cases hp
 | cons q wt ih=>
  rw[AE,AE,zjq];rcases AU.mp hp with rfl | h
  ·rw[if_pos rfl]
  ·have nd':=Ay.mp nd
   rw[if_neg fun z=>nd'.1 (AJ.mpr ⟨p,h,(mkS_inj (CT z)).symm⟩)]
   exact ih nd'.2 h
theorem zn2{α β:Type}(f:α->β):∀(l:List α),(l.map f).Nodup->∀x∈l,∀y∈l,f x=f y->x=y
 | [],_,x,hx,_,_,_=>by cases hx
 | a::l,nd,x,hx,y,hy,e=>by
  rw[AE,Ay] at nd;rcases AU.mp hx with h1 | h1
  ·rcases AU.mp hy with h2 | h2
   ·rw[h1,h2]
   ·exact absurd (AJ.mpr ⟨y,h2,by rw[← e,h1]⟩) nd.1
  ·rcases AU.mp hy with h2 | h2
   ·exact absurd (AJ.mpr ⟨x,h1,by rw[e,h2]⟩) nd.1
   ·exact zn2 f l nd.2 x h1 y h2 e
end NW
namespace PU
open PySem L2
theorem zwf{m n:Nat}{g:PSt->R Fl}{ps:List PV}{p:PV}(hl:ps.length=m)(h:g (PU.start n ps)=.ok (.ret p)):runN m n g ps=some p:=by
 unfold runN;rw[if_pos hl,h]
@[simp] theorem Zf7(p:PV)(ρ:PSt):retO 0 (.own p::ρ)=.ok (.ret p):=by unfold retO;exact Ao _
@[simp] theorem Zf6(i:Nat)(l:Sl)(ρ:PSt):retO (i+1) (l::ρ)=retO i ρ:=by unfold retO;rw[BI]
end PU
namespace K32
open PySem L2 PU
noncomputable section
abbrev PT:Addr:=146
abbrev tw (w:Ar):TW:={ w:=w,tabs:=[PT],qual:=fun _ _=>"places.<locals>.<lambda>" }
def c_CODE_END:PV:=(.str "#")
def c_HEARD:PV:=(.dct [(.inr "menu"),(.inr "names"),(.inr "hand"),(.inr "end")] [(.str "asked"),(.str "asked"),(.str "hand"),(.str "end")])
def c_SIGNS:PV:=(.str "0123456789*#w")
def c_WAIT:PV:=(.str "w")
def zel:PSt->R Fl:=(seqF (appF 2 (bin2 (getV 3) (kI 5040) gMod)) (setF 3 (bin2 (getV 3) (kI 5040) gDiv)))
def zek:PSt->R Fl:=(seqF (setF 3 (bin2 (bin2 (bin2 (bin2 (getV 3) (getV 4) gAdd) (kI 1) gAdd) (kI 48271) gMul) (kI 2147483647) gMod)) (appF 2 (bin2 (bin2 (getV 3) (kI 69621) gMul) (kI 2147483629) gMod)))
def zd1:PSt->R Fl:=(seqF (ownF 2 (lstF nilA)) (seqF (setF 3 (bin2 (getV 0) (kI 2) gDiv)) (seqF (ifF (truF (bin2 (bin2 (getV 0) (kI 2) gMod) (kI 1) gEq)) (seqF (forS (rng1 (getV 1)) (zai 4) zel) (frzS 2 (retF (getV 2)))) zca) (seqF (setF 3 (bin2 (getV 3) (kI 2147483647) gMod)) (seqF (forS (rng1 (bin2 (getV 1) (kI 1) gAdd)) (zai 4) zek) (retF (zlc (getO 2) (zkx (kI 1)) zgi)))))))
def zaw:List PV->Option PV:=runF 2 5 zd1
def zd6:PSt->R Fl:=(setF 7 (bin2 (getV 7) (bin2 (getV 1) (bin2 (bin2 (bin2 (getV 2) (getV 8) gIx) (bin2 (bin2 (kI 3) (getV 6) gMul) (un1 (bin2 (getV 8) (getV 4) gEq) gInt) gMul) gAdd) (kI 20) gMod) gIx) gAdd))
def zd5:PSt->R Fl:=(seqF (setF 7 (kS "")) (seqF (forS (rng1 (getV 3)) (zai 8) zd6) (appF 5 (getV 7))))
def zhf:PSt->R Fl:=(seqF (setF 1 (kS "bcdfghjlmnpqrstvwxyz")) (seqF (setF 2 (zaz (zac (getV 0) (zac (kI 10) nilA)) zaw)) (seqF (setF 3 (bin2 (kI 1) (bin2 (bin2 (getV 2) (kI 8) gIx) (kI 8) gMod) gAdd)) (seqF (setF 4 (bin2 (bin2 (getV 2) (kI 9) gIx) (getV 3) gMod)) (seqF (ownF 5 (lstF nilA)) (seqF (forS (rng1 (kI 7)) (zai 6) zd5) (frzS 5 (retF (getV 5)))))))))
def zft:List PV->Option PV:=runF 1 9 zhf
def zba:PSt->R Fl:=(ifF (andB (truF (bin2 (bin2 (bin2 (getV 3) (getV 5) gIx) (kI 2) gMod) (kI 1) gEq)) (truF (bin2 (un1 (getO 4) gLen) (kI 2) gLt))) (appF 4 (tupF (zac (getV 6) (zac (bin2 (getV 0) (bin2 (bin2 (bin2 (getV 3) (getV 5) gIx) (kI 2) gDiv) (getV 2) gMod) gIx) nilA)))) zca)
def zb1:PSt->R Fl:=(seqF (setF 3 (zaz (zac (getV 1) (zac (kI 14) nilA)) zaw)) (seqF (ownF 4 (lstF nilA)) (seqF (forS (zoe (lstF (zac (kS "ann") (zac (kS "anna") (zac (kS "bo") (zac (kS "bob") (zac (kS "lee") (zac (kS "roe") nilA)))))))) (tupT 2 (zat (zai 5) (zat (zai 6) nilT))) zba) (seqF (ifF (truF (bin2 (un1 (getO 4) gLen) (kI 0) gEq)) (appF 4 (tupF (zac (kS "lee") (zac (bin2 (getV 0) (kI 0) gIx) nilA)))) zca) (seqF (setF 7 (tupF (zac (kI 1) (zac (bin2 (getV 0) (bin2 (bin2 (getV 3) (kI 10) gIx) (getV 2) gMod) gIx) nilA)))) (retF (tupF (zac (kS "names") (zac (kS "Spell") (zac (un1 (getO 4) zn4) (zac (getV 7) (zac (tupF (zac (kI 1) (zac (bin2 (getV 0) (bin2 (bin2 (getV 3) (kI 12) gIx) (getV 2) gMod) gIx) nilA))) nilA))))))))))))
def zb2:List PV->Option PV:=runF 3 8 zb1
def zd2:PSt->R Fl:=(seqF (ifF (truF (bin2 (getV 1) (un1 (getV 0) gLen) gLt)) (retF (bin2 (getV 0) (getV 1) gIx)) zca) (retF (kI 0)))
def zar:List PV->Option PV:=runF 2 2 zd2
def zex:PSt->R Fl:=(ifF (truF (bin2 (bin2 (bin2 (getV 4) (getV 6) gIx) (kI 3) gMod) (kI 0) gEq)) (appF 5 (tupF (zac (getV 7) (zac (bin2 (bin2 (zlc (getV 0) zgi (zkx (getV 3))) (lstF (zac (kS "back") nilA)) gAdd) (bin2 (bin2 (getV 4) (bin2 (getV 6) (kI 12) gAdd) gIx) (bin2 (getV 3) (kI 1) gAdd) gMod) gIx) nilA)))) zca)
def zit:PSt->R Fl:=(seqF (setF 4 (zaz (zac (getV 2) (zac (kI 30) nilA)) zaw)) (seqF (ownF 5 (lstF nilA)) (seqF (forS (zoe (kS "0123456789*#")) (tupT 2 (zat (zai 6) (zat (zai 7) nilT))) zex) (seqF (setF 8 (tupF (zac (bin2 (kI 1) (bin2 (bin2 (getV 4) (kI 24) gIx) (kI 2) gMod) gAdd) (zac (bin2 (getV 0) (bin2 (bin2 (getV 4) (kI 25) gIx) (getV 3) gMod) gIx) nilA)))) (retF (tupF (zac (kS "menu") (zac (getV 1) (zac (un1 (getO 5) zn4) (zac (getV 8) (zac (tupF (zac (bin2 (kI 1) (bin2 (bin2 (getV 4) (kI 26) gIx) (kI 2) gMod) gAdd) (zac (bin2 (getV 0) (bin2 (bin2 (getV 4) (kI 27) gIx) (getV 3) gMod) gIx) nilA))) nilA)))))))))))
def zgy:List PV->Option PV:=runF 4 9 zit
def zd7:PSt->R Fl:=(putF 3 (bin2 (getV 1) (getV 4) gIx) (zaz (zac (getV 1) (zac (bin2 (lstF (zac (kS "Hello") (zac (kS "Again") nilA))) (getV 4) gIx) (zac (bin2 (zaz (zac (getV 0) (zac (bin2 (kI 2) (getV 4) gAdd) nilA)) zar) (bin2 (kI 7919) (getV 4) gMul) gAdd) (zac (getV 2) nilA)))) zgy))
def zhh:PSt->R Fl:=(seqF (setF 1 (zaz (zac (zaz (zac (getV 0) (zac (kI 0) nilA)) zar) nilA) zft)) (seqF (setF 2 (bin2 (lstF (zac (kI 6) (zac (kI 4) (zac (kI 5) nilA)))) (bin2 (zaz (zac (getV 0) (zac (kI 1) nilA)) zar) (kI 3) gMod) gIx)) (seqF (ownF 3 newD) (seqF (forS (rng1 (kI 2)) (zai 4) zd7) (seqF (putF 3 (bin2 (getV 1) (kI 2) gIx) (zaz (zac (getV 1) (zac (zaz (zac (getV 0) (zac (kI 4) nilA)) zar) (zac (getV 2) nilA))) zb2)) (seqF (setF 5 (zaz (zac (zaz (zac (getV 0) (zac (kI 5) nilA)) zar) (zac (kI 5) nilA)) zaw)) (seqF (setF 6 (tupF (zac (bin2 (bin2 (getV 5) (kI 0) gIx) (kI 12) gMod) (zac (bin2 (kI 12) (bin2 (bin2 (getV 5) (kI 1) gIx) (kI 13) gMod) gAdd) (zac (bin2 (getV 1) (bin2 (lstF (zac (kI 0) (zac (kI 1) (zac (kI 2) (zac (kI 4) nilA))))) (bin2 (bin2 (getV 5) (kI 2) gIx) (kI 4) gMod) gIx) gIx) nilA))))) (seqF (putF 3 (bin2 (getV 1) (kI 3) gIx) (tupF (zac (kS "hours") (zac (tupF (zac (getV 6) nilA)) (zac (bin2 (getV 1) (bin2 (lstF (zac (kI 0) (zac (kI 1) (zac (kI 2) (zac (kI 5) nilA))))) (bin2 (bin2 (getV 5) (kI 3) gIx) (kI 4) gMod) gIx) gIx) nilA))))) (seqF (ifF (truF (bin2 (getV 2) (kI 4) gEq)) (putF 3 (bin2 (getV 1) (kI 3) gIx) (tupF (zac (kS "hours") (zac (tupF nilA) (zac (bin2 (getV 1) (bin2 (bin2 (getV 5) (kI 3) gIx) (kI 3) gMod) gIx) nilA))))) zca) (seqF (putF 3 (bin2 (getV 1) (kI 4) gIx) (tupF (zac (kS "hand") (zac (kS "Ann") nilA)))) (seqF (putF 3 (bin2 (getV 1) (kI 5) gIx) (tupF (zac (kS "end") (zac (kS "Bye") nilA)))) (seqF (putF 3 (bin2 (getV 1) (kI 6) gIx) (tupF (zac (kS "hand") (zac (bin2 (lstF (zac (kS "Ann") (zac (kS "Bo") nilA))) (bin2 (bin2 (zaz (zac (getV 0) (zac (kI 1) nilA)) zar) (kI 3) gDiv) (kI 2) gMod) gIx) nilA)))) (seqF (ifF (truF (bin2 (getV 2) (kI 6) gEq)) (putF 3 (bin2 (getV 1) (kI 3) gIx) (tupF (zac (kS "hours") (zac (tupF (zac (bin2 (zlc (getV 6) zgi (zkx (kI 2))) (tupF (zac (bin2 (getV 1) (kI 6) gIx) nilA)) gAdd) nilA)) (zac (bin2 (getV 1) (bin2 (bin2 (getV 5) (kI 3) gIx) (kI 3) gMod) gIx) nilA))))) zca) (seqF (setF 7 (lstF (zac (tupF (zac (kS "2") (zac (kS "abc") nilA))) (zac (tupF (zac (kS "3") (zac (kS "def") nilA))) (zac (tupF (zac (kS "5") (zac (kS "jkl") nilA))) (zac (tupF (zac (kS "6") (zac (kS "mno") nilA))) (zac (tupF (zac (kS "7") (zac (kS "pqrs") nilA))) nilA))))))) (frzS 3 (retF (zxu (zry (kS "first") (bin2 (getV 1) (bin2 (bin2 (getV 5) (kI 4) gIx) (getV 2) gMod) gIx) (zry (kS "letters") (getV 7) (zry (kS "rooms") (getV 3) nilD))))))))))))))))))))
def zef:List PV->Option PV:=runF 1 8 zhh
def zfc:PSt->R Fl:=(ifF (truF (chain2 (getV 2) (getV 1) (getV 3) gLe gLt)) (retF (getV 4)) zca)
def zjm:PSt->R Fl:=(seqF (forS (itF (bin2 (getV 0) (kI 1) gIx)) (tupT 3 (zat (zai 2) (zat (zai 3) (zat (zai 4) nilT)))) zfc) (retF (bin2 (getV 0) (kI 2) gIx)))
def zjo:List PV->Option PV:=runF 2 5 zjm
def zfw:PSt->R Fl:=(setF 3 (zaz (zac (bin2 (bin2 (getV 0) (kS "rooms") gIx) (getV 3) gIx) (zac (getV 1) nilA)) zjo))
def zkf:PSt->R Fl:=(seqF (setF 3 (getV 2)) (seqF (whS 300 (truF (bin2 (bin2 (bin2 (bin2 (getV 0) (kS "rooms") gIx) (getV 3) gIx) (kI 0) gIx) (kS "hours") gEq)) zfw) (retF (getV 3))))
def zh5:List PV->Option PV:=runF 3 4 zkf
def zkh:PSt->R Fl:=(retF (tupF (zac (zaz (zac (getV 0) (zac (getV 1) (zac (getV 2) nilA))) zh5) (zac (getV 3) (zac (kI 0) (zac (kI 0) (zac (kS "") nilA)))))))
def zb4:List PV->Option PV:=runF 4 4 zkh
def zpg:PSt->R Fl:=(retF (zaz (zac (getV 0) (zac (getV 1) (zac (bin2 (getV 0) (kS "first") gIx) (zac (kS "") nilA)))) zb4))
def zfu:List PV->Option PV:=runF 2 2 zpg
def zdn:PSt->R Fl:=(seqF (setF 3 (bin2 (bin2 (bin2 (getV 0) (kS "rooms") gIx) (bin2 (getV 2) (kI 0) gIx) gIx) (kI 3) gIx)) (seqF (setF 4 (bin2 (bin2 (getV 2) (kI 2) gIx) (kI 1) gAdd)) (seqF (ifF (truF (bin2 (getV 4) (bin2 (getV 3) (kI 0) gIx) gEq)) (retF (zaz (zac (getV 0) (zac (getV 1) (zac (bin2 (getV 3) (kI 1) gIx) (zac (bin2 (getV 2) (kI 0) gIx) nilA)))) zb4)) zca) (retF (tupF (zac (bin2 (getV 2) (kI 0) gIx) (zac (bin2 (getV 2) (kI 1) gIx) (zac (getV 4) (zac (bin2 (getV 2) (kI 3) gIx) (zac (kS "") nilA))))))))))
def zbq:List PV->Option PV:=runF 3 5 zdn
def zfs:PSt->R Fl:=(seqF (setF 5 (bin2 (bin2 (getV 3) (kI 4) gIx) (getV 4) gAdd)) (seqF (ifF (truF (bin2 (getV 5) (getV 2) zg6)) (retF (zaz (zac (getV 0) (zac (getV 1) (zac (getV 3) nilA))) zbq)) zca) (seqF (setF 6 (ifV (truF (bin2 (bin2 (getV 2) (getV 5) gIx) (kS "back") gEq)) (bin2 (getV 3) (kI 1) gIx) (bin2 (getV 2) (getV 5) gIx))) (seqF (ifF (truF (bin2 (getV 6) kN gIsN)) (retF (tupF (zac (bin2 (getV 3) (kI 0) gIx) (zac (bin2 (getV 3) (kI 1) gIx) (zac (bin2 (getV 3) (kI 2) gIx) (zac (bin2 (getV 3) (kI 3) gIx) (zac (getV 5) nilA))))))) zca) (seqF (ifF (truF (bin2 (getV 6) (kS "") gEq)) (retF (zaz (zac (getV 0) (zac (getV 1) (zac (getV 3) nilA))) zbq)) zca) (retF (zaz (zac (getV 0) (zac (getV 1) (zac (getV 6) (zac (bin2 (getV 3) (kI 0) gIx) nilA)))) zb4)))))))
def zd4:List PV->Option PV:=runF 5 7 zfs
def zh2:PSt->R Fl:=(seqF (setF 3 (bin2 (bin2 (bin2 (getV 0) (kS "rooms") gIx) (bin2 (getV 2) (kI 0) gIx) gIx) (kI 4) gIx)) (seqF (setF 4 (bin2 (bin2 (getV 2) (kI 3) gIx) (kI 1) gAdd)) (seqF (ifF (truF (bin2 (getV 4) (bin2 (getV 3) (kI 0) gIx) gEq)) (retF (zaz (zac (getV 0) (zac (getV 1) (zac (bin2 (getV 3) (kI 1) gIx) (zac (bin2 (getV 2) (kI 0) gIx) nilA)))) zb4)) zca) (retF (tupF (zac (bin2 (getV 2) (kI 0) gIx) (zac (bin2 (getV 2) (kI 1) gIx) (zac (bin2 (getV 2) (kI 2) gIx) (zac (getV 4) (zac (kS "") nilA))))))))))
def zh6:List PV->Option PV:=runF 3 5 zh2
def zes:PSt->R Fl:=(seqF (setF 5 (bin2 (bin2 (bin2 (getV 0) (kS "rooms") gIx) (bin2 (getV 3) (kI 0) gIx) gIx) (kI 0) gIx)) (seqF (ifF (orB (truF (bin2 (getV 5) (kS "hand") gEq)) (truF (bin2 (getV 5) (kS "end") gEq))) (retF (getV 3)) zca) (seqF (ifF (truF (bin2 (getV 4) (kP c_WAIT) gEq)) (retF (zaz (zac (getV 0) (zac (getV 1) (zac (getV 3) nilA))) zh6)) zca) (retF (zaz (zac (getV 0) (zac (getV 1) (zac (getV 2) (zac (getV 3) (zac (getV 4) nilA))))) zd4)))))
def zb7:List PV->Option PV:=runF 5 6 zes
def zk6:Expr:=zyf 1 (.Constant .none 0 ⟨0,0,0,0⟩) ((zbr (BB.main.body.getD 27 (.Pass ⟨0,0,0,0⟩))).getD 1 (.Pass ⟨0,0,0,0⟩))
def zbw:Lam:=Za0 "places.<locals>.<lambda>" ["ways","hour","H"] (zad (BB.main.body.getD 27 (.Pass ⟨0,0,0,0⟩))) zk6
def zg0:PSt->R PV:=(zaz (zac (getV 4) (zac (getV 3) (zac (bin2 (getV 2) (bin2 (getV 0) (kI 0) gIx) gIx) (zac (getV 0) (zac (getV 1) nilA))))) zb7)
def zk5:Expr:=zyf 2 (.Constant .none 0 ⟨0,0,0,0⟩) ((zbr (BB.main.body.getD 27 (.Pass ⟨0,0,0,0⟩))).getD 1 (.Pass ⟨0,0,0,0⟩))
def zbl:Lam:=Za0 "places.<locals>.<lambda>" [] (zad (BB.main.body.getD 27 (.Pass ⟨0,0,0,0⟩))) zk5
def zlt:PSt->R PV:=(kB false)
open Classical in
noncomputable def appL(L:Lam)(qs cs:List PV):Option PV:=if L=zbw then lamR 2 zg0 qs cs else if L=zbl then lamR 1 zlt qs cs else none
def zbu:PSt->R Fl:=(putF 1 (zi2 (getV 2) zgi (zkx (getV 3))) (bin2 (zqb (getO 1) (zi2 (getV 2) zgi (zkx (getV 3))) (kI 0) zru) (kI 1) gAdd))
def zbt:PSt->R Fl:=(forS (rng2 (kI 1) (bin2 (un1 (getV 2) gLen) (kI 1) gAdd)) (zai 3) zbu)
def zde:PSt->R Fl:=(seqF (ownF 1 newD) (seqF (forS (itF (getV 0)) (zai 2) zbt) (frzS 1 (retF (getV 1)))))
def zbo:List PV->Option PV:=runF 1 4 zde
def zg1:PSt->R Fl:=(ifF (truF (bin2 (getV 1) (getV 3) gIn)) (retF (getV 2)) zca)
def zjl:PSt->R Fl:=(seqF (forS (itF (getV 0)) (tupT 2 (zat (zai 2) (zat (zai 3) nilT))) zg1) (retF kN))
def zjn:List PV->Option PV:=runF 2 4 zjl
def zhk:PSt->R PV:=(zaz (zac (getV 1) (zac (getV 0) nilA)) zjn)
def zkg:PSt->R Fl:=(seqF (setF 2 (zfa (itF (getV 1)) (zai 0) yesB zhk 1 [0])) (retF (ifV (truF (bin2 kN (getV 2) gIn)) kN (meth1 (kS "") (getV 2) zuj))))
def zgt:List PV->Option PV:=runF 2 3 zkg
def zcj:PSt->R Fl:=(ifF (truF (bin2 (bin2 (getV 1) (zi2 (getV 0) zgi (zkx (getV 2))) gIx) (kI 1) gEq)) (retF (zi2 (getV 0) zgi (zkx (getV 2)))) zca)
def zdd:PSt->R Fl:=(seqF (forS (rng2 (kI 1) (un1 (getV 0) gLen)) (zai 2) zcj) (retF (getV 0)))
def zdf:List PV->Option PV:=runF 2 3 zdd
def ze3:PSt->R PV:=(bin2 (zaz (zac (getV 1) (zac (getV 0) nilA)) zgt) (kP c_CODE_END) gAdd)
def ze2:PSt->R PV:=(tupF (zac (getV 0) (zac (zaz (zac (getV 1) (zac (getV 2) nilA)) zdf) nilA)))
def zgr:PSt->R Fl:=(seqF (setF 2 (zfa (itF (getV 1)) (zai 0) yesB ze3 1 [0])) (seqF (setF 3 (zaz (zac (getV 2) nilA) zbo)) (retF (zfa (zipF (getV 1) (getV 2)) (tupT 2 (zat (zai 0) (zat (zai 1) nilT))) yesB ze2 2 [3]))))
def zdr:List PV->Option PV:=runF 2 4 zgr
def zcu:PSt->R Fl:=(putF 2 (zi2 (getV 4) zgi (zkx (getV 5))) kN)
def zct:PSt->R Fl:=(seqF (forS (rng2 (kI 1) (un1 (getV 4) gLen)) (zai 5) zcu) (putF 2 (getV 4) (bin2 (getV 1) (getV 3) gIx)))
def zgo:PSt->R Fl:=(seqF (ownF 2 newD) (seqF (forS (itF (zaz (zac (getV 0) (zac (un1 (getV 1) zui) nilA)) zdr)) (tupT 2 (zat (zai 3) (zat (zai 4) nilT))) zct) (frzS 2 (retF (getV 2)))))
def zet:List PV->Option PV:=runF 2 6 zgo
def zdm:PSt->R Fl:=(seqF (setF 2 (bin2 (bin2 (getV 0) (kS "rooms") gIx) (getV 1) gIx)) (seqF (ifF (truF (bin2 (bin2 (getV 2) (kI 0) gIx) (kS "menu") gEq)) (retF (un1 (bin2 (getV 2) (kI 2) gIx) zn5)) zca) (seqF (ifF (truF (bin2 (bin2 (getV 2) (kI 0) gIx) (kS "names") gEq)) (retF (zaz (zac (bin2 (getV 0) (kS "letters") gIx) (zac (un1 (bin2 (getV 2) (kI 2) gIx) zn5) nilA)) zet)) zca) (retF newD))))
def zas:List PV->Option PV:=runF 2 3 zdm
def ze4:PSt->R Fl:=(putF 1 (getV 2) (zaz (zac (getV 0) (zac (getV 2) nilA)) zas))
def zgp:PSt->R Fl:=(seqF (ownF 1 newD) (seqF (forS (itF (bin2 (getV 0) (kS "rooms") gIx)) (zai 2) ze4) (frzS 1 (retF (getV 1)))))
def zby:List PV->Option PV:=runF 1 3 zgp
def zbs:PSt->R Fl:=(seqF (setF 8 (zkt 1 (zac (bin2 (getV 6) (kI 0) gIx) (zac (getV 7) nilA)) appL)) (ifF (truF (bin2 (getV 8) (getO 3) ziv)) (seqF (zk0 3 (getV 8) (kB true)) (seqF (appF 4 (tupF (zac (getV 8) (zac (bin2 (bin2 (getV 6) (kI 1) gIx) (getV 7) gAdd) nilA)))) (ifF (truF (zkt 2 (zac (getV 8) nilA) appL)) brkF zca))) zca))
def zcv:PSt->R Fl:=(seqF (setF 6 (bin2 (getO 4) (getV 5) gIx)) (seqF (augF 5 (kI 1)) (forS (itF (kP c_SIGNS)) (zai 7) zbs)))
def zgq:PSt->R Fl:=(seqF (ownF 3 (zxt (getV 0) (kB true))) (seqF (ownF 4 (lstF (zac (tupF (zac (getV 0) (zac (kS "") nilA))) nilA))) (seqF (setF 5 (kI 0)) (seqF (whS 20000 (andB (truF (bin2 (getV 5) (un1 (getO 4) gLen) gLt)) (notB (truF (zkt 2 (zac (bin2 (bin2 (getO 4) (un1 (kI 1) gNeg) gIx) (kI 0) gIx) nilA) appL)))) zcv) (retO 4)))))
def zdq:List PV->Option PV:=runN 3 9 zgq
def zmv:PSt->R Fl:=(seqF (setF 2 (zaz (zac (getV 0) nilA) zby)) (retF (zq3 (valA (zaz (zac (getV 0) (zac (getV 1) nilA)) zfu) (lamA zbw [2,1,0] (lamA zbl [] nilA))) zdq)))
def zcx:List PV->Option PV:=runF 2 3 zmv
def zgn:PSt->R Fl:=pbF
def zcb:List PV->Option PV:=runF 1 5 zgn
def zdj:PSt->R Fl:=(zk0 4 (bin2 (getV 6) (kI 0) gIx) (getV 5))
def zdi:PSt->R PV:=(bin2 (getV 1) (zaz (zac (getV 2) (zac (getV 3) (zac (bin2 (getV 5) (bin2 (getV 4) (kI 0) gIx) gIx) (zac (getV 4) (zac (getV 0) nilA))))) zb7) gIxT)
def zcd:PSt->R Fl:=(frzS 4 (appF 7 (zfa (itF (kP c_SIGNS)) (zai 0) yesB zdi 1 [4,0,1,8,3])))
def zfr:PSt->R Fl:=(seqF (setF 3 (zaz (zac (getV 0) nilA) zby)) (seqF (ownF 4 newT) (seqF (forS (zoe (getV 2)) (tupT 2 (zat (zai 5) (zat (zai 6) nilT))) zdj) (seqF (ownF 7 (lstF nilA)) (seqF (forS (itF (getV 2)) (tupT 2 (zat (zai 8) (zat (zai 9) nilT))) zcd) (frzS 7 (retF (getV 7))))))))
def zd3:List PV->Option PV:=runF 3 10 zfr
def ziu:PSt->R Fl:=(seqF (setF 2 (bin2 (bin2 (getV 0) (kS "rooms") gIx) (bin2 (getV 1) (kI 0) gIx) gIx)) (retF (tupF (zac (bin2 (kP c_HEARD) (bin2 (getV 2) (kI 0) gIx) gIx) (zac (bin2 (getV 2) (kI 1) gIx) nilA)))))
def zgs:List PV->Option PV:=runF 2 3 ziu
def zmw:PSt->R Fl:=(retF (bin2 (bin2 (zaz (zac (getV 0) (zac (getV 1) nilA)) zgs) (kI 0) gIx) (kS "asked") gNe))
def zgz:List PV->Option PV:=runF 2 2 zmw
def zfv:PSt->R PV:=(ifV (truF (zaz (zac (getV 2) (zac (getV 0) nilA)) zgz)) (kI 0) kN)
def zkl:PSt->R PV:=(getV 0)
def zff:PSt->R Bool:=(truF (bin2 (getV 1) (kI 0) gEq))
def zej:PSt->R Fl:=(ifF (truF (bin2 (bin2 (getO 3) (getV 8) gIx) kN gIsN)) (seqF (zo5 3 (getV 8) (bin2 (bin2 (getO 3) (getV 7) gIx) (kI 1) gAdd)) (appF 5 (getV 8))) zca)
def zei:PSt->R Fl:=(seqF (setF 7 (bin2 (getO 5) (getV 6) gIx)) (seqF (augF 6 (kI 1)) (forS (itF (bin2 (getV 4) (getV 7) gIx)) (zai 8) zej)))
def zke:PSt->R Fl:=(seqF (ownF 3 (zfa (itF (getV 2)) (tupT 2 (zat (zai 0) (zat (zai 1) nilT))) yesB zfv 2 [0])) (seqF (setF 4 (zaz (zac (zaz (zac (getV 0) (zac (getV 1) (zac (getV 2) nilA))) zd3) nilA) zcb)) (seqF (ownF 5 (zfa (Zbn (getO 3)) (tupT 2 (zat (zai 0) (zat (zai 1) nilT))) zff zkl 2 [])) (seqF (setF 6 (kI 0)) (seqF (whS 20000 (truF (bin2 (getV 6) (un1 (getO 5) gLen) gLt)) zei) (frzS 3 (retF (getV 3))))))))
def zed:List PV->Option PV:=runF 3 9 zke
def zug:PSt->R Fl:=(retF (zaz (zac (getV 0) (zac (getV 1) (zac (zaz (zac (getV 0) (zac (getV 1) nilA)) zcx) nilA))) zed))
def zoa:List PV->Option PV:=runF 2 2 zug
def zck:PSt->R Fl:=(ifF (andB (truF (bin2 (getV 2) kN zmx)) (orB (truF (bin2 (getV 1) kN gIsN)) (truF (bin2 (getV 2) (getV 1) gLt)))) (setF 1 (getV 2)) zca)
def zhg:PSt->R Fl:=(seqF (setF 1 kN) (seqF (forS (itF (getV 0)) (zai 2) zck) (retF (getV 1))))
def zee:List PV->Option PV:=runF 1 3 zhg
def zof:PSt->R PV:=(getV 0)
def zhp:PSt->R Bool:=(truF (bin2 (getV 1) kN gIsN))
def zpf:PSt->R Fl:=(seqF (setF 2 (zaz (zac (getV 0) (zac (getV 1) nilA)) zcx)) (retF (zfa (zipF (getV 2) (zaz (zac (getV 0) (zac (getV 1) (zac (getV 2) nilA))) zed)) (tupT 2 (zat (zai 0) (zat (zai 1) nilT))) zhp zof 2 [])))
def zmz:List PV->Option PV:=runF 2 3 zpf
def zm8:PSt->R Fl:=(ifF (truF (zaz (zac (getV 0) (zac (getV 3) nilA)) zgz)) (zou 2 (bin2 (getV 3) (kI 0) gIx) (getV 4)) zca)
def zuh:PSt->R Fl:=(seqF (ownF 2 newD) (seqF (forS (itF (zaz (zac (getV 0) (zac (getV 1) nilA)) zcx)) (tupT 2 (zat (zai 3) (zat (zai 4) nilT))) zm8) (retF (un1 (getO 2) zmy))))
def zqu:List PV->Option PV:=runF 2 5 zuh
def zer:PSt->R Fl:=(retF (orV (bin2 (getV 0) kN gIsN) (andV (un1 (getV 0) (gIsi "int")) (notV (un1 (getV 0) (gIsi "bool"))))))
def zeu:List PV->Option PV:=runF 1 1 zer
def zuf:PSt->R Fl:=(retF (zaz (zac (getV 0) (zac (getV 1) (zac (zaz (zac (getV 0) (zac (bin2 (getV 2) (kI 0) gIx) nilA)) zas) (zac (getV 2) (zac (getV 3) nilA))))) zb7))
def zn9:List PV->Option PV:=runF 4 4 zuf
def zpo:PSt->R PV:=(zaz (zac (getV 0) nilA) zeu)
def zm7:PSt->R Fl:=(zk0 5 (getV 7) (bin2 (getV 4) (getV 6) gIx))
def zm3:PSt->R PV:=(bin2 (getV 1) (zaz (zac (getV 2) (zac (getV 3) (zac (getV 4) (zac (getV 0) nilA)))) zn9) gIxT)
def zku:PSt->R Fl:=(seqF (ifF (truF (bin2 (bin2 (zaz (zac (getV 1) (zac (getV 7) nilA)) zgs) (kI 0) gIx) (kS "asked") gNe)) (seqF (zou 10 (bin2 (getV 7) (kI 0) gIx) (getV 8)) (setF 11 (kI 0))) (seqF (frzS 5 (setF 12 (zaz (zac (zfa (itF (kS "0123456789*#w")) (zai 0) yesB zm3 1 [5,1,2,7]) nilA) zee))) (seqF (setF 11 kN) (ifF (truF (bin2 (getV 12) kN zmx)) (setF 11 (bin2 (getV 12) (kI 1) gAdd)) zca)))) (seqF (ifF (truF (bin2 (bin2 (getV 4) (getV 6) gIx) (getV 11) gNe)) (retF (kB false)) zca) (ifF (truF (bin2 (getV 11) kN gIsN)) (appF 9 (tupF (zac (getV 7) (zac (getV 8) nilA)))) zca)))
def zpn:PSt->R PV:=(tupF (zac (getV 0) (zac (bin2 (getV 1) (getV 0) gIx) nilA)))
def zxj:PSt->R Fl:=(seqF (setF 1 (zaz (zac (getV 0) nilA) zef)) (seqF (setF 2 (bin2 (zaz (zac (getV 0) (zac (kI 6) nilA)) zar) (kI 24) gMod)) (seqF (setF 3 (zaz (zac (getV 1) (zac (getV 2) nilA)) zcx)) (seqF (setF 4 (zaz (zac (getV 1) (zac (getV 2) nilA)) zoa)) (seqF (ifF (orB (notB (truF (un1 (getV 4) (gIsi "list")))) (orB (truF (bin2 (un1 (getV 4) gLen) (un1 (getV 3) gLen) gNe)) (truF (bin2 (kB false) (zfa (itF (getV 4)) (zai 0) yesB zpo 1 []) gIn)))) (retF (kB false)) zca) (seqF (ownF 5 newT) (seqF (forS (zoe (getV 3)) (tupT 2 (zat (zai 6) (zat (tupT 2 (zat (zai 7) (zat (zai 8) nilT))) nilT))) zm7) (seqF (ownF 9 (lstF nilA)) (seqF (ownF 10 newD) (seqF (forS (zoe (getV 3)) (tupT 2 (zat (zai 6) (zat (tupT 2 (zat (zai 7) (zat (zai 8) nilT))) nilT))) zku) (seqF (frzS 10 (ifF (orB (truF (bin2 (zaz (zac (getV 1) (zac (getV 2) nilA)) zmz) (getO 9) gNe)) (truF (bin2 (zaz (zac (getV 1) (zac (getV 2) nilA)) zqu) (zfa (itF (getV 10)) (zai 0) yesB zpn 1 [10]) gNe))) (retF (kB false)) zca)) (retF (andV (bin2 (getV 1) (zaz (zac (getV 0) nilA) zef) gEq) (bin2 (zaz (zac (getV 1) (zac (getV 2) nilA)) zoa) (getV 4) gEq))))))))))))))
def zuu:List PV->Option PV:=runF 1 13 zxj
end
end K32
namespace K32
open PySem L2 PU MT
theorem Zcc(ls:WO.Lts)(c:Nat):zjn [WO.ltPv ls,WO.sg c]=some (WO.keyPv (WO.keyL ls c)):=by
 refine zan rfl ?_
 obtain⟨k1,k2⟩:=zh3 (enc:=fun l:Nat×List Nat=>PV.tup [WO.sg l.1,.str (mkS l.2)]) (h:=tupT 2 (zat (zai 2) (zat (zai 3) nilT))) (g:=zg1) (fun l=>decide (c∈l.2)) (fun l=>WO.sg l.1)
  (I:=fun ρ=>∃a b,ρ=[.val (WO.ltPv ls),.val (WO.sg c),a,b]) (by
   rintro l ρ ⟨a,b,rfl⟩;have e:=WO.in_one c l.2;refine⟨_,rfl,fun hp=>?_,fun hp=>⟨_,?_,.val (WO.sg l.1),.val (.str (mkS l.2)),rfl⟩⟩
   ·rw[hp] at e
    simp[zg1,e]
   ·rw[hp] at e
    simp[zg1,e]) ls [.val (WO.ltPv ls),.val (WO.sg c),.no,.no] ⟨_,_,rfl⟩
 have ei:zem (WO.ltPv ls)=some (ls.map fun l=>PV.tup [WO.sg l.1,.str (mkS l.2)]):=rfl
 cases e:ls.find? (fun l=>decide (c∈l.2)) with
 | some l=>
  have k:=k1 l e;simp[zjl,PU.start,ei];rw[k];simp[WO.keyPv,WO.keyL,e]
 | none=>
  obtain⟨ρ',k,a,b,rfl⟩:=k2 e;simp[zjl,PU.start,ei];rw[k];simp[WO.keyPv,WO.keyL,e]
theorem zzk(ls:WO.Lts)(x:List Nat)(hx:x.length<=1000):zgt [WO.ltPv ls,.str (mkS x)]=some (WO.codePv (WO.codeL ls x)):=by
 refine zan rfl ?_
 have c1:zci (zai 0) yesB zhk [.no,.val (WO.ltPv ls)] (x.map WO.sg)=.ok (x.map fun c=>WO.keyPv (WO.keyL ls c)):=
  WO.in_list_comp (fun c=>WO.keyPv (WO.keyL ls c)) x fun c _=>⟨_,zon _,by simp[zhk,Zcc]⟩
 have c2:=WO.none_in ls x;have hl:x.length<=16777216:=by omega
 simp[zkg,PU.start,WO.it_mk,zr9,B4,c1,hl,c2];cases h:x.all fun c=>(WO.keyL ls c).isSome with
 | false=>simp[WO.codeL,h,WO.codePv]
 | true=>
  have e:(x.map fun c=>WO.keyPv (WO.keyL ls c))=(x.map fun c=>(WO.keyL ls c).getD 0).map WO.sg:=by
   rw[Am];apply C4;intro c hc;have:=Cr.mp h c hc;cases h2:WO.keyL ls c with
   | none=>rw[h2] at this;cases this
   | some k=>simp[WO.keyPv,h2]
  have j:=WO.joinV (x.map fun c=>(WO.keyL ls c).getD 0) (by simpa using hx)
  rw[e];simp[-Am,j,WO.codeL,h,WO.codePv]
open BG
abbrev bst(codes:PV)(ks:List Key)(ps:List PV)(a b:Sl):PSt:=[.val codes,.own (.dct ks ps),a,b]
theorem Zh7(codes:PV)(L:List W)(ks:List Key)(ps:List PV)(h:Cnt L ks ps)(c:W)(n:Nat)(hc:c.length<=100)(hL:L.length<=10000):∃ks' ps',Cnt (L++[c.take n]) ks' ps'/\
  zbu (bst codes ks ps (.val (.str (mkS c))) (.val (.int n)))=.ok (.next (bst codes ks' ps' (.val (.str (mkS c))) (.val (.int n)))):=by
 obtain⟨ks',ps',e,h'⟩:=Zb0 h (c.take n);have e1:=zzm (x:=mkS c) none (some (n:Int)) (by rw[ze0];omega)
 rw[zl2] at e1;have e2:=Zb1 h (c.take n);have z:ks.length<16777216:=by have:=h.le;omega
 refine⟨ks',ps',h',?_⟩;simp[zbu,bst,e1,e2,z,e]
theorem Zh6(codes:PV)(L:List W)(ks:List Key)(ps:List PV)(h:Cnt L ks ps)(c:W)(b:Sl)(hc:c.length<=100)(hL:L.length<=9000):∃ks' ps' b',Cnt (L++pres c) ks' ps'/\
  zbt (bst codes ks ps (.val (.str (mkS c))) b)=.ok (.next (bst codes ks' ps' (.val (.str (mkS c))) b')):=by
 obtain⟨ρ',f1,ks',ps',b',rfl,h'⟩:=forR (n:=c.length) (lo:=1) (h:=zai 3) (g:=zbu) (ρ:=bst codes ks ps (.val (.str (mkS c))) b)
  (I:=fun i ρ=>∃ks ps b,ρ=bst codes ks ps (.val (.str (mkS c))) b/\Cnt (L++(AF i).map fun j=>c.take (j+1)) ks ps) ⟨ks,ps,b,rfl,by simpa using h⟩ (by
   rintro i ρ hi ⟨ks,ps,b,rfl,h⟩;obtain⟨ks',ps',h',e⟩:=Zh7 codes _ ks ps h c (i+1) hc (by simp;omega)
   have ei:(1:Int)+(i:Int)=((i+1:Nat):Int):=by omega
   rw[ei];refine⟨_,_,rfl,.inl e,ks',ps',_,rfl,?_⟩;rw[Dg,AW,← Bd];exact h')
 refine⟨ks',ps',b',h',?_⟩;have e1:gLen (.str (mkS c))=some (.int c.length):=by rw[zjr (by rw[ze0];omega),ze0]
 have e2:rngQ (.int 1) (.int ((c.length:Int)+1))=.ok (zb9 1 c.length):=by rw[zsc (by omega) (by omega) (by omega) (by omega)];congr 2;omega
 simp[zbt,e1,e2];exact f1
theorem zvm(cs:List W)(hn:cs.length<=12)(hc:∀c∈cs,c.length<=20):∃ks ps,Cnt (cs.flatMap pres) ks ps/\zbo [.lst (cs.map fun c=>.str (mkS c))]=some (.dct ks ps):=by
 obtain⟨ρ',f1,ks,ps,a,b,rfl,h⟩:=forM (enc:=fun c:W=>PV.str (mkS c)) (xs:=cs) (h:=zai 2) (g:=zbt) (ρ:=bst (.lst (cs.map fun c=>.str (mkS c))) [] [] .no .no)
  (I:=fun pre ρ=>∃ks ps a b,ρ=bst (.lst (cs.map fun c=>.str (mkS c))) ks ps a b/\Cnt (pre.flatMap pres) ks ps) ⟨[],[],_,_,rfl,⟨rfl,by simp,fun p=>by simp[zb3]⟩⟩ (by
   rintro pre c post ρ hx ⟨ks,ps,a,b,rfl,h⟩;have hcm:c∈cs:=by rw[hx];simp
   have hpl:pre.length<=12:=by
    have:=congrArg CM hx;rw[Aw] at this;omega
   have hfl:=zus (l:=pre) (f:=pres) (b:=20) fun x hxm=>by
    unfold pres;rw[AI,E1];exact hc x (by rw[hx];exact BV _ hxm)
   obtain⟨ks',ps',b',h',e⟩:=Zh6 (.lst (cs.map fun c=>.str (mkS c))) _ ks ps h c b (by have:=hc c hcm;omega) (by omega)
   refine⟨_,_,rfl,.inl e,ks',ps',_,_,rfl,?_⟩;rw[List.flatMap_append];simpa using h')
 refine⟨ks,ps,h,zan rfl ?_⟩;simp[zde,PU.start];rw[f1];simp
theorem Zfg(cs:List W)(ks:List Key)(ps:List PV)(h:Cnt (cs.flatMap pres) ks ps)(c:W)(hc:c∈cs)(hne:c≠[])(hl:c.length<=100):zdf [.str (mkS c),.dct ks ps]=some (.str (mkS (own cs c))):=by
 refine zan rfl ?_
 have key:∀i:Nat,gIx (.dct ks ps) (.str (mkS (c.take (i+1))))=some (.int (many cs (c.take (i+1)))):=fun i=>by
  have hp:c.take (i+1)≠[]:=fun e=>by
   cases c with
   | nil=>exact hne rfl
   | cons a r=>simp at e
  show zb3 ks ps (.inr (mkS (c.take (i+1))))=_;rw[h.at_,zve cs _ hp,if_neg];intro e;unfold many at e;have:c∈cs.filter (pre (c.take (i+1))):=BX.mpr ⟨hc,zim.mpr (Cp _ _)⟩;rw[EC.mp e] at this;cases this
 obtain⟨k1,k2⟩:=zh3 (enc:=fun i:Nat=>PV.int (1+(i:Nat))) (h:=zai 2) (g:=zcj) (fun i=>decide (many cs (c.take (i+1))=1)) (fun i=>PV.str (mkS (c.take (i+1))))
  (I:=fun ρ=>∃a,ρ=[.val (.str (mkS c)),.val (.dct ks ps),a]) (by
   rintro i ρ ⟨a,rfl⟩;have e1:=zzm (x:=mkS c) none (some ((i+1:Nat):Int)) (by rw[ze0];omega)
   rw[zl2] at e1;have ei:(1:Int)+(i:Int)=((i+1:Nat):Int):=by omega
   have e2:=key i;have e2:((zfe (.str (mkS (c.take (i+1))))).bind fun k=>zb3 ks ps k)=some (.int (many cs (c.take (i+1)))):=e2
   rw[ei];refine⟨_,rfl,fun hp=>?_,fun hp=>⟨_,?_,.val (.int ((i+1:Nat):Int)),rfl⟩⟩
   ·have hp:many cs (c.take (i+1))=1:=by simpa using hp
    rw[hp] at e2;have e2:zb3 ks ps (.inr (mkS (c.take (i+1))))=some (.int 1):=e2;have e1:gSlA (.str (mkS c)) none (some ((i:Int)+1))=some (.str (mkS (c.take (i+1)))):=e1;simp[zcj,e1,e2]
   ·have hp:¬ many cs (c.take (i+1))=1:=by simpa using hp
    have hp2:¬ ((many cs (c.take (i+1)):Nat):Int)=1:=by omega
    have e2:zb3 ks ps (.inr (mkS (c.take (i+1))))=some (.int (many cs (c.take (i+1)))):=e2;have e1:gSlA (.str (mkS c)) none (some ((i:Int)+1))=some (.str (mkS (c.take (i+1)))):=e1;simp[zcj,e1,e2,hp2]) (AF (c.length-1)) [.val (.str (mkS c)),.val (.dct ks ps),.no] ⟨_,rfl⟩
 have e1:gLen (.str (mkS c))=some (.int c.length):=by rw[zjr (by rw[ze0];omega),ze0]
 have e2:rngQ (.int 1) (.int (c.length:Int))=.ok ((AF (c.length-1)).map fun i:Nat=>PV.int (1+(i:Nat))):=by rw[zsc (by omega) (by omega) (by omega) (by omega),show ((c.length:Int)-1).toNat=c.length-1 by omega];rfl
 unfold own;cases e:(AF (c.length-1)).find? (fun i=>decide (many cs (c.take (i+1))=1)) with
 | some i=>
  have k:=k1 i e;simp only[zdd,PU.start,AE,CL,An,Cc,B4,CB,Dh,zr8,zx8,zx6,x_kI,Zca,zoo,zj9,Zee,e1,R.ofO_some,zt3,e2,Zeh,k,zt4]
 | none=>
  obtain⟨ρ',k,a,rfl⟩:=k2 e;simp only[zdd,PU.start,AE,CL,An,Cc,B4,CB,Dh,zr8,zx8,zx6,x_kI,Zca,zoo,zj9,Zee,e1,R.ofO_some,zt3,e2,Zeh,k,zlq,zx7,Zef]
def cdW(ls:WO.Lts)(w:W):W:=w.map (fun c=>(WO.keyL ls c).getD 0)
def cdH(ls:WO.Lts)(w:W):W:=cdW ls w++[35]
def told(ls:WO.Lts)(ws:List W)(w:W):PV:=.tup [.str (mkS w),.str (mkS (own (ws.map (cdH ls)) (cdH ls w)))]
theorem zx1(ls:WO.Lts)(ws:List W)(hn:ws.length<=12)(hw:∀w∈ws,w.length<=12/\∀c∈w,(WO.keyL ls c).isSome=true):zdr [WO.ltPv ls,.lst (ws.map fun w=>.str (mkS w))]=some (.lst (ws.map (told ls ws))):=by
 refine zan rfl ?_;have hash:("#":Str)=mkS [35]:=by decide +kernel
 have c1:zci (zai 0) yesB ze3 [.no,.val (WO.ltPv ls)] (ws.map fun w=>.str (mkS w))=.ok (ws.map fun w=>.str (mkS (cdH ls w))):=
  WO.in_list_comp (enc:=fun w:W=>PV.str (mkS w)) (fun w=>.str (mkS (cdH ls w))) ws fun w hwm=>by
   have h:=hw w hwm;have e:=zzk ls w (by omega)
   have e2:WO.codeL ls w=some (cdW ls w):=by
    unfold WO.codeL;rw[if_pos (Cr.mpr fun c hc=>h.2 c hc)]
    rfl
   rw[e2] at e;have e:zgt [WO.ltPv ls,.str (mkS w)]=some (.str (mkS (cdW ls w))):=e
   have e3:gAdd (.str (mkS (cdW ls w))) c_CODE_END=some (.str (mkS (cdH ls w))):=by
    show gAdd (.str (mkS (cdW ls w))) (.str "#")=_;rw[hash,zjs (by simp[cdW];omega),zj6]
    rfl
   exact⟨_,zon _,by simp[ze3,e,e3]⟩
 obtain⟨ks,ps,h,e2⟩:=zvm (ws.map (cdH ls)) (by simpa using hn) (fun c hc=>by
  obtain⟨w,hwm,rfl⟩:=AJ.mp hc;have:=(hw w hwm).1;simp[cdH,cdW];omega)
 have e2:zbo [.lst (ws.map fun w=>.str (mkS (cdH ls w)))]=some (.dct ks ps):=by rw[← e2,Am];rfl
 have ez:∀l:List W,(zipP (l.map fun w=>PV.str (mkS w)) (l.map fun w=>PV.str (mkS (cdH ls w)))).map PV.tup=l.map fun w=>PV.tup [.str (mkS w),.str (mkS (cdH ls w))]:=by
  intro l;unfold zipP
  induction l with
  | nil=>rfl
  | cons a r ih=>simp only[AE,Bp];rw[ih]
 have c2:zci (tupT 2 (zat (zai 0) (zat (zai 1) nilT))) yesB ze2 [.no,.no,.val (.dct ks ps)] (ws.map fun w=>PV.tup [.str (mkS w),.str (mkS (cdH ls w))])=.ok (ws.map (told ls ws)):=
  WO.in_list_comp (enc:=fun w:W=>PV.tup [.str (mkS w),.str (mkS (cdH ls w))]) (told ls ws) ws fun w hwm=>by
   have:=(hw w hwm).1;have e:=Zfg (ws.map (cdH ls)) ks ps h (cdH ls w) (AJ.mpr ⟨w,hwm,rfl⟩) (by simp[cdH]) (by simp[cdH,cdW];omega)
   exact⟨[.val (.str (mkS w)),.val (.str (mkS (cdH ls w))),.val (.dct ks ps)],rfl,by simp[ze2,e,told]⟩
 have z:ws.length<=16777216:=by omega
 have ei:zem (.lst (ws.map fun w=>PV.str (mkS w)))=some (ws.map fun w=>PV.str (mkS w)):=rfl
 have zq:=zy0 (ws.map fun w=>PV.str (mkS w)) (ws.map fun w=>PV.str (mkS (cdH ls w))) (by rw[zn8];rfl)
 simp[zgr,PU.start,zr9,B4,c1,z,e2,zq];rw[ez,c2];simp[z]
open NW
abbrev nwst(L D:PV)(ks:List Key)(ps:List PV)(a b c:Sl):PSt:=[.val L,.val D,.own (.dct ks ps),a,b,c]
theorem Zhc(L D:PV)(ks:List Key)(ps:List PV)(F:W->Option PV)(h:Tells ks ps F)(a:Sl)(b:W)(n:Nat)(hb:b.length<=100)(hk:ks.length<=100000):∃ks' ps',Tells ks' ps' (fun p=>if b.take n=p then some .non else F p)/\ks'.length<=ks.length+1/\
  zcu (nwst L D ks ps a (.val (.str (mkS b))) (.val (.int n)))=.ok (.next (nwst L D ks' ps' a (.val (.str (mkS b))) (.val (.int n)))):=by
 obtain⟨ks',ps',e,h1,h2⟩:=h.put (b.take n) .non (by simp[noFn])
 have e1:=zzm (x:=mkS b) none (some (n:Int)) (by rw[ze0];omega)
 rw[zl2] at e1;have z:ks.length<16777216:=by omega
 refine⟨ks',ps',h2,h1,?_⟩;simp[zcu,nwst,e1,z,e]
theorem Zhb(L D:PV)(ks:List Key)(ps:List PV)(F:W->Option PV)(h:Tells ks ps F)(w b:W)(t:Str)(hne:b≠[])(hD:gIx D (.str (mkS w))=some (.str t))(x:Sl)(hb:b.length<=100)(hk:ks.length<=10000):∃ks' ps' x',Tells ks' ps' (fun p=>wstep p (F p) (b,t))/\ks'.length<=ks.length+100/\
  zct (nwst L D ks ps (.val (.str (mkS w))) (.val (.str (mkS b))) x)=.ok (.next (nwst L D ks' ps' (.val (.str (mkS w))) (.val (.str (mkS b))) x')):=by
 have hbl:1<=b.length:=by cases b with | nil=>exact absurd rfl hne | cons _ _=>simp
 obtain⟨ρ',f1,ks1,ps1,x1,rfl,h1,l1⟩:=forR (n:=b.length-1) (lo:=1) (h:=zai 5) (g:=zcu) (ρ:=nwst L D ks ps (.val (.str (mkS w))) (.val (.str (mkS b))) x)
  (I:=fun i ρ=>∃ks1 ps1 x1,ρ=nwst L D ks1 ps1 (.val (.str (mkS w))) (.val (.str (mkS b))) x1/\Tells ks1 ps1 (fun p=>if p∈(AF i).map (fun j=>b.take (j+1)) then some .non else F p)/\ks1.length<=ks.length+i)
  ⟨ks,ps,x,rfl,⟨h.len,fun p=>by rw[h.at_,if_neg (by simp)],h.nf⟩,by omega⟩ (by
   rintro i ρ hi ⟨ks1,ps1,x1,rfl,h1,l1⟩;obtain⟨ks2,ps2,h2,l2,e⟩:=Zhc L D ks1 ps1 _ h1 (.val (.str (mkS w))) b (i+1) hb (by omega)
   have ei:(1:Int)+(i:Int)=((i+1:Nat):Int):=by omega
   rw[ei];refine⟨_,_,rfl,.inl e,ks2,ps2,_,rfl,⟨h2.len,fun p=>?_,h2.nf⟩,by omega⟩
   rw[h2.at_,Dg,AW]
   by_cases hp:b.take (i+1)=p
   ·rw[if_pos hp,if_pos (Ab _ (by simp[hp]))]
   ·rw[if_neg hp]
    by_cases hq:p∈(AF i).map (fun j=>b.take (j+1))
    ·rw[if_pos hq,if_pos (BV _ hq)]
    ·rw[if_neg hq,if_neg]
     intro z;rcases Aj.mp z with z | z
     ·exact hq z
     ·rw[FB,AO] at z
      exact hp z.symm)
 obtain⟨ks2,ps2,e2,l2,h2⟩:=h1.put b (.str t) (by simp[noFn])
 refine⟨ks2,ps2,x1,⟨h2.len,fun p=>?_,h2.nf⟩,by omega,?_⟩
 ·rw[h2.at_]
  unfold wstep
  by_cases hp:b=p
  ·simp only[if_pos hp]
  ·simp only[if_neg hp]
   by_cases hq:p≠[]/\p <+: b
   ·rw[if_pos hq,if_pos]
    have hl:=CJ hq.2
    have h0:1<=p.length:=by
     cases p with
     | nil=>exact absurd rfl hq.1
     | cons _ _=>simp
    have ht:=D7.mp hq.2;have hlt:p.length≠b.length:=fun z=>hp (by rw[z,Fc] at ht;exact ht.symm)
    exact AJ.mpr ⟨p.length-1,B5.mpr (by omega),by rw[show p.length-1+1=p.length by omega];exact ht.symm⟩
   ·rw[if_neg hq,if_neg]
    intro z;obtain⟨j,q2,rfl⟩:=AJ.mp z;have q2:=B5.mp q2;refine hq ⟨fun z=>?_,Cp _ _⟩
    cases b with
    | nil=>exact hne rfl
    | cons a r=>simp at z
 ·have e1:gLen (.str (mkS b))=some (.int b.length):=by rw[zjr (by rw[ze0];omega),ze0]
  have e3:rngQ (.int 1) (.int (b.length:Int))=.ok (zb9 1 (b.length-1)):=by rw[zsc (by omega) (by omega) (by omega) (by omega)];congr 2;omega
  have z:ks1.length<16777216:=by omega
  have f1:forF (zai 5) zcu (zb9 1 (b.length-1)) [.val L,.val D,.own (.dct ks ps),.val (.str (mkS w)),.val (.str (mkS b)),x]=.ok (.next [.val L,.val D,.own (.dct ks1 ps1),.val (.str (mkS w)),.val (.str (mkS b)),x1]):=f1;simp only[nwst];simp[zct,e1,e3,f1,hD,z,e2]
def bsOf(ls:WO.Lts)(wt:List (W×Str)):List (W×Str):=wt.map fun p=>(own ((wt.map (·.1)).map (cdH ls)) (cdH ls p.1),p.2)
theorem zw5(ls:WO.Lts)(wt:List (W×Str))(hn:wt.length<=12)(hw:∀p∈wt,p.1.length<=12/\∀c∈p.1,(WO.keyL ls c).isSome=true)(nd:(wt.map (·.1)).Nodup):∃ks ps,Tells ks ps (Ways (bsOf ls wt))/\zet [WO.ltPv ls,wtD wt]=some (.dct ks ps):=by
 have eb:=zx1 ls (wt.map (·.1)) (by simpa using hn) (fun w hwm=>by obtain⟨p,hp,rfl⟩:=AJ.mp hwm;exact hw p hp)
 have el:=Zav wt;rw[Am] at eb;have eb:zdr [WO.ltPv ls,.lst (wt.map fun p=>.str (mkS p.1))]=some (.lst ((wt.map (·.1)).map (told ls (wt.map (·.1))))):=eb
 rw[Am] at eb
 let B:W×Str->W:=fun p=>own ((wt.map (·.1)).map (cdH ls)) (cdH ls p.1)
 have hB:∀p∈wt,B p≠[]/\(B p).length<=100:=fun p hp=>⟨zyo _ _ (by simp[cdH]),by
  have h1:=CJ (zmn ((wt.map (·.1)).map (cdH ls)) (cdH ls p.1));have h2:=(hw p hp).1;have h3:(cdH ls p.1).length=p.1.length+1:=by simp[cdH,cdW]
  show (own _ _).length<=100;omega⟩
 obtain⟨ρ',f1,ks,ps,a,b,c,rfl,h,l⟩:=forM (enc:=fun p:W×Str=>PV.tup [.str (mkS p.1),.str (mkS (B p))]) (xs:=wt) (h:=tupT 2 (zat (zai 3) (zat (zai 4) nilT))) (g:=zct) (ρ:=nwst (WO.ltPv ls) (wtD wt) [] [] .no .no .no)
  (I:=fun pre ρ=>∃ks ps a b c,ρ=nwst (WO.ltPv ls) (wtD wt) ks ps a b c/\Tells ks ps (fun p=>(pre.map fun q=>(B q,q.2)).foldl (wstep p) none)/\ks.length<=pre.length * 100) ⟨[],[],.no,.no,.no,rfl,⟨rfl,fun p=>rfl,by simp⟩,by simp⟩ (by
   rintro pre p post ρ hx ⟨ks,ps,a,b,c,rfl,h,l⟩;have hp:p∈wt:=by rw[hx];simp
   have hpl:pre.length<=12:=by
    have:=congrArg CM hx;rw[Aw] at this;omega
   have hD:gIx (wtD wt) (.str (mkS p.1))=some (.str p.2):=zv8 wt nd hp;obtain⟨ks',ps',x',h',l',e⟩:=Zhb (WO.ltPv ls) (wtD wt) ks ps _ h p.1 (B p) p.2 (hB p hp).1 hD c (hB p hp).2 (by omega)
   refine⟨_,_,rfl,.inl e,ks',ps',_,_,_,rfl,⟨h'.len,fun q=>?_,h'.nf⟩,by simp;omega⟩
   rw[h'.at_,AW,Cg];rfl)
 refine⟨ks,ps,h,zan rfl ?_⟩;have ei:zem (.lst (wt.map (told ls (wt.map (·.1)) ∘ fun x=>x.1)))=some (wt.map fun p:W×Str=>PV.tup [.str (mkS p.1),.str (mkS (B p))]):=rfl
 have f1:forF (tupT 2 (zat (zai 3) (zat (zai 4) nilT))) zct (wt.map fun p:W×Str=>PV.tup [.str (mkS p.1),.str (mkS (B p))]) [.val (WO.ltPv ls),.val (wtD wt),.own (.dct [] []),.no,.no,.no]=.ok (.next [.val (WO.ltPv ls),.val (wtD wt),.own (.dct ks ps),a,b,c]):=f1
 generalize (wt.map fun p:W×Str=>PV.tup [.str (mkS p.1),.str (mkS (B p))])=TL at *
 generalize PV.lst (wt.map (told ls (wt.map (·.1)) ∘ fun x=>x.1))=TQ at *
 generalize PV.lst (wt.map fun p=>.str (mkS p.1))=WL at *
 generalize wtD wt=DD at *;generalize WO.ltPv ls=LL at *;simp[zgo,PU.start,el,eb,ei,f1]
theorem Za3{ls:WO.Lts}{c:Nat}(h:(WO.keyL ls c).isSome=true):∃l∈ls,(WO.keyL ls c).getD 0=l.1:=by
 unfold WO.keyL at h ⊢;cases e:ls.find? fun l=>decide (c∈l.2) with
 | none=>rw[e] at h;cases h
 | some l=>exact⟨l,CK e,rfl⟩
theorem Zfb{ls:WO.Lts}(hk:∀l∈ls,l.1≠35){w:W}(hw:∀c∈w,(WO.keyL ls c).isSome=true):Code (cdH ls w):=by
 refine⟨cdW ls w,rfl,fun z=>?_⟩
 obtain⟨c,hc,e⟩:=AJ.mp z;obtain⟨l,hl,e2⟩:=Za3 (hw c hc);exact hk l hl (by rw[← e2,e])
section
variable{ls : WO.Lts}{wt : List (W×Str)}(hk : ∀l ∈ ls, l.1 ≠ 35)(hw : ∀p ∈ wt, ∀c ∈ p.1, (WO.keyL ls c).isSome = true)(nc : (wt.map fun p => cdH ls p.1).Nodup)
omit hk hw nc in
theorem Zh5:∀x∈bsOf ls wt,x.1≠[]:=fun x hx=>by
 obtain⟨p,_,rfl⟩:=AJ.mp hx;exact zyo _ _ (by simp[cdH])
include hk hw nc
theorem Zbv:∀c∈(wt.map (·.1)).map (cdH ls),Code c:=fun c hc=>by
 obtain⟨w,hwm,rfl⟩:=AJ.mp hc;obtain⟨p,hp,rfl⟩:=AJ.mp hwm;exact Zfb hk (hw p hp)
omit hk hw in
theorem Zfc{p q:W×Str}(hp:p∈wt)(hq:q∈wt)(e:cdH ls p.1=cdH ls q.1):p=q:=
 zn2 (fun p:W×Str=>cdH ls p.1) wt nc p hp q hq e
theorem Zh4:∀x∈bsOf ls wt,∀y∈bsOf ls wt,x.1 <+: y.1->x=y:=fun x hx y hy h=>by
 obtain⟨p,hp,rfl⟩:=AJ.mp hx;obtain⟨q,hq,rfl⟩:=AJ.mp hy;have m:∀{p:W×Str},p∈wt->cdH ls p.1∈(wt.map (·.1)).map (cdH ls):=fun hp=>AJ.mpr ⟨_,AJ.mpr ⟨_,hp,rfl⟩,rfl⟩
 have:=ztf (Zbv hk hw nc) (m hp) (m hq) h (EB _);rw[Zfc nc hp hq this]
end
theorem Zbf (H:PV) (rs:FA.Rooms) (hR:gIx H (.str "rooms")=some (zam rs)) (hl:rs.length<=1000) (Dn:Str->PV) (hD:∀n∈FA.names rs,zas [H,.str n]=some (Dn n)) (hF:∀n∈FA.names rs,noFn (Dn n)=true):∃ks ps,zby [H]=some (.dct ks ps)/\(∀n∈FA.names rs,gIx (.dct ks ps) (.str n)=some (Dn n))/\noFn (.dct ks ps)=true:=by
 have hnl:(FA.names rs).length=rs.length:=by simp[FA.names]
 obtain⟨ρ',f1,ks,ps,a,rfl,h1,h2,h3,h4⟩:=forM (enc:=PV.str) (xs:=FA.names rs) (h:=zai 2) (g:=ze4) (ρ:=[.val H,.own (.dct [] []),.no])
  (I:=fun pre ρ=>∃ks ps a,ρ=[.val H,.own (.dct ks ps),a]/\ks.length=ps.length/\ks.length<=pre.length/\(∀n∈pre,zb3 ks ps (.inr n)=some (Dn n))/\∀x∈ps,noFn x=true) ⟨[],[],.no,rfl,rfl,by simp,by simp,by simp⟩ (by
   rintro pre n post ρ hx ⟨ks,ps,a,rfl,h1,h2,h3,h4⟩;have hn:n∈FA.names rs:=by rw[hx];simp
   have hpl:pre.length<=1000:=by
    have:=congrArg CM hx;rw[Aw] at this;omega
   obtain⟨ks',ps',e,g1,g2,g3⟩:=BG.look_put ks ps (.inr n) (Dn n) h1;have z:ks.length<16777216:=by omega
   have ed:=hD n hn;refine⟨_,[.val H,.own (.dct ks' ps'),.val (.str n)],zon _,.inl ?_,ks',ps',_,rfl,g1,by simp;omega,fun m hm=>?_,fun x hx=>(zsz e hx).elim (h4 x) fun z=>z▸hF n hn⟩
   ·simp[ze4,ed,z,e]
   ·rw[g3]
    by_cases hmn:n=m
    ·rw[if_pos (by rw[hmn]),hmn]
    ·rw[if_neg fun z=>hmn (CT z)]
     rcases Aj.mp hm with hm | hm
     ·exact h3 m hm
     ·exact absurd (AO.mp hm).symm hmn)
 refine⟨ks,ps,zan rfl ?_,h3,by have:=(zgh ps).mpr h4;simpa [noFn] using this⟩
 have ei:=FA.keys_rooms rs;generalize (FA.names rs).map PV.str=NL at *;generalize zam rs=RM at *;simp[zgp,PU.start,hR,ei,f1]
theorem zut(spans:List (Int×Int×Str))(last:Str)(hour:Int):zjo [(Room.hours spans last).pv,.int hour]=some (.str (FA.handOf spans last hour)):=by
 refine zan rfl ?_
 obtain⟨k1,k2⟩:=zh3 (enc:=pv3) (h:=tupT 3 (zat (zai 2) (zat (zai 3) (zat (zai 4) nilT)))) (g:=zfc) (FA.holds hour) (fun s=>PV.str s.2.2)
  (I:=fun ρ=>∃a b c,ρ=[.val (Room.hours spans last).pv,.val (.int hour),a,b,c]) (by
   rintro s ρ ⟨a,b,c,rfl⟩;refine⟨_,rfl,fun hp=>?_,fun hp=>⟨_,?_,.val (.int s.1),.val (.int s.2.1),.val (.str s.2.2),rfl⟩⟩
   ·unfold FA.holds at hp
    simp only[BJ,decide_eq_true_eq] at hp;simp[zfc,hp.1,hp.2]
   ·unfold FA.holds at hp
    by_cases h1:s.1<=hour
    ·have h2:¬ hour<s.2.1:=by simpa [h1] using hp
     simp[zfc,h1,h2]
    ·simp[zfc,h1]) spans [.val (Room.hours spans last).pv,.val (.int hour),.no,.no,.no] ⟨_,_,_,rfl⟩
 unfold FA.handOf;cases e:spans.find? (FA.holds hour) with
 | some s=>
  have k:=k1 s e;simp only[Room.pv] at k ⊢;simp[zjm,PU.start];rw[k];rfl
 | none=>
  obtain⟨ρ',k,a,b,c,rfl⟩:=k2 e;simp only[Room.pv] at k ⊢;simp[zjm,PU.start];rw[k];simp
theorem zvg (H:PV) (rs:FA.Rooms) (hR:gIx H (.str "rooms")=some (zam rs)) (hour:Int) (a:Sl):∀(n N:Nat) (x y:Str),n<=N->NM.comeGo rs hour n x=some y->
  whF (truF (bin2 (bin2 (bin2 (bin2 (getV 0) (kS "rooms") gIx) (getV 3) gIx) (kI 0) gIx) (kS "hours") gEq)) zfw N [.val H,.val (.int hour),a,.val (.str x)]=.ok (.next [.val H,.val (.int hour),a,.val (.str y)])
 | 0,N,x,y,h,e=>by cases e
 | n+1,0,x,y,h,e=>by omega
 | n+1,N+1,x,y,h,e=>by
  have n2:=FA.ix_rooms rs x;unfold NM.comeGo at e;unfold whF;cases hr:FA.lookR rs x with
  | none=>rw[hr] at e;cases e
  | some r=>
   rw[hr] at e n2;have n2:gIx (zam rs) (.str x)=some r.pv:=n2;cases r with
   | hours sp l=>
    have n3:gIx (Room.hours sp l).pv (.int 0)=some (.str "hours"):=rfl;have n4:=zut sp l hour;have ih:=zvg H rs hR hour a n N (FA.handOf sp l hour) y (by omega) e
    have t:truF (bin2 (bin2 (bin2 (bin2 (getV 0) (kS "rooms") gIx) (getV 3) gIx) (kI 0) gIx) (kS "hours") gEq) [.val H,.val (.int hour),a,.val (.str x)]=.ok true:=by simp[hR,n2,n3]
    have b:zfw [.val H,.val (.int hour),a,.val (.str x)]=.ok (.next [.val H,.val (.int hour),a,.val (.str (FA.handOf sp l hour))]):=by simp[zfw,hR,n2,n4]
    simp only[t,R.ok_bind,if_true,b];exact ih
   | menu t ks wr wa=>
    have n3:gIx (Room.menu t ks wr wa).pv (.int 0)=some (.str "menu"):=rfl;have t:truF (bin2 (bin2 (bin2 (bin2 (getV 0) (kS "rooms") gIx) (getV 3) gIx) (kI 0) gIx) (kS "hours") gEq) [.val H,.val (.int hour),a,.val (.str x)]=.ok false:=by simp[hR,n2,n3]
    cases e;simp only[t,R.ok_bind,BW,if_false]
   | names t ks wr wa=>
    have n3:gIx (Room.names t ks wr wa).pv (.int 0)=some (.str "names"):=rfl;have t:truF (bin2 (bin2 (bin2 (bin2 (getV 0) (kS "rooms") gIx) (getV 3) gIx) (kI 0) gIx) (kS "hours") gEq) [.val H,.val (.int hour),a,.val (.str x)]=.ok false:=by simp[hR,n2,n3]
    cases e;simp only[t,R.ok_bind,BW,if_false]
   | hand t=>
    have n3:gIx (Room.hand t).pv (.int 0)=some (.str "hand"):=rfl;have t:truF (bin2 (bin2 (bin2 (bin2 (getV 0) (kS "rooms") gIx) (getV 3) gIx) (kI 0) gIx) (kS "hours") gEq) [.val H,.val (.int hour),a,.val (.str x)]=.ok false:=by simp[hR,n2,n3]
    cases e;simp only[t,R.ok_bind,BW,if_false]
   | fin t=>
    have n3:gIx (Room.fin t).pv (.int 0)=some (.str "end"):=rfl;have t:truF (bin2 (bin2 (bin2 (bin2 (getV 0) (kS "rooms") gIx) (getV 3) gIx) (kI 0) gIx) (kS "hours") gEq) [.val H,.val (.int hour),a,.val (.str x)]=.ok false:=by simp[hR,n2,n3]
    cases e;simp only[t,R.ok_bind,BW,if_false]
theorem Zbz (H:PV) (rs:FA.Rooms) (hR:gIx H (.str "rooms")=some (zam rs)) (hour:Int) (n:Nat) (x y:Str) (hn:n<=300) (e:NM.comeGo rs hour n x=some y):zh5 [H,.int hour,.str x]=some (.str y):=by
 refine zan rfl ?_;have k:=zvg H rs hR hour (.val (.str x)) n 300 x y hn e;simp only[zkf,PU.start,AE,CL,An,Cc,B4,CB,Dh,zr8,Zcb,zzj,zoo,Zef,Zhj,zlq,List.set_cons_succ,List.set_cons_zero,Zf5,k,zx7]
theorem ziz(ns:List Int)(k:Nat):zar [.lst (ns.map .int),.int k]=some (.int (ns.getD k 0)):=by
 refine zan rfl ?_
 by_cases hk:k<ns.length
 ·have h2:(k:Int)<ns.length:=by omega
  have h3:atI (ns.map PV.int) (k:Int)=some (.int ns[k]):=zbc rfl (by simp[hk])
  simp[zd2,PU.start,h2,h3,hk]
 ·have h2:¬ (k:Int)<ns.length:=by omega
  simp[zd2,PU.start,h2,hk]
theorem numbers(cell:Int)(many:Nat)(hm:many<=100):∃ls:List Int,ls.length=many/\(∀x∈ls,0<=x)/\zaw [.int cell,.int many]=some (.lst (ls.map .int)):=by
 by_cases h2:cell % 2=1
 ·obtain⟨ρ',f1,ls,n,a,rfl,h1,h3⟩:=forR (n:=many) (lo:=0) (h:=zai 4) (g:=zel) (ρ:=[.val (.int cell),.val (.int many),.own (.lst []),.val (.int (cell / 2)),.no])
   (I:=fun i ρ=>∃(ls:List Int)(n:Int)(a:Sl),ρ=[.val (.int cell),.val (.int many),.own (.lst (ls.map .int)),.val (.int n),a]/\ls.length=i/\∀x∈ls,0<=x) ⟨[],_,_,rfl,rfl,by simp⟩ (by
    rintro i ρ hi ⟨ls,n,a,rfl,h1,h3⟩;have hq:ls.length<16777216:=by omega
    refine⟨_,[.val (.int cell),.val (.int many),.own (.lst ((ls++[n % 5040]).map .int)),.val (.int (n / 5040)),.val (.int (0+(i:Int)))],rfl,.inl ?_,ls++[n % 5040],n / 5040,_,rfl,by simp[h1],fun x hx=>?_⟩
    ·simp (disch:=omega) [zel,zds,zsf,hq]
    ·rcases Aj.mp hx with hx | hx
     ·exact h3 x hx
     ·rw[AO.mp hx];omega)
  refine⟨ls,h1,h3,zan rfl ?_⟩;simp (disch:=omega) [zd1,PU.start,zds,zsf,h2,zsd];rw[f1];simp
 ·obtain⟨ρ',f1,ls,n,a,rfl,h1,h3⟩:=forR (n:=many+1) (lo:=0) (h:=zai 4) (g:=zek) (ρ:=[.val (.int cell),.val (.int many),.own (.lst []),.val (.int (cell / 2 % 2147483647)),.no])
   (I:=fun i ρ=>∃(ls:List Int)(n:Int)(a:Sl),ρ=[.val (.int cell),.val (.int many),.own (.lst (ls.map .int)),.val (.int n),a]/\ls.length=i/\∀x∈ls,0<=x) ⟨[],_,_,rfl,rfl,by simp⟩ (by
    rintro i ρ hi ⟨ls,n,a,rfl,h1,h3⟩;have hq:ls.length<16777216:=by omega
    rw[FW];have m1:gMul (.int (n+(i:Int)+1)) (.int 48271)=some (.int ((n+(i:Int)+1) * 48271)):=zse (.inr (by decide))
    have m2:∀z:Int,gMul (.int z) (.int 69621)=some (.int (z * 69621)):=fun z=>zse (.inr (by decide))
    refine⟨_,[.val (.int cell),.val (.int many),.own (.lst ((ls++[(n+(i:Int)+1) * 48271 % 2147483647 * 69621 % 2147483629]).map .int)),.val (.int ((n+(i:Int)+1) * 48271 % 2147483647)),.val (.int (i:Int))],rfl,.inl ?_,_,_,_,rfl,by simp[h1],fun x hx=>?_⟩
    ·simp (disch:=omega) [zek,zds,m1,m2,hq]
    ·rcases Aj.mp hx with hx | hx
     ·exact h3 x hx
     ·rw[AO.mp hx];omega)
  refine⟨ls.drop 1,by simp[h1],fun x hx=>h3 x (List.mem_of_mem_drop hx),zan rfl ?_⟩
  have e1:(((many:Int)+1)).toNat=many+1:=by omega
  have e2:=NM.cut_1 (ls.map PV.int) (by rw[AI];omega)
  simp (disch:=omega) [zd1,PU.start,zds,zsf,h2,zsd,e1];rw[f1];simp[e2]
end K32
namespace K32
open PySem L2 PU MT NM BG NW
def c20:List Nat:=[98,99,100,102,103,104,106,108,109,110,112,113,114,115,116,118,119,120,121,122]
theorem Zff:("bcdfghjlmnpqrstvwxyz":Str)=mkS c20:=by decide +kernel
theorem zxy:∀i:Fin 20,∀j:Fin 20,c20.getD i.1 0=c20.getD j.1 0->i.1=j.1:=by decide +kernel
theorem Zb4(i j:Nat)(hi:i<20)(hj:j<20)(e:c20.getD i 0=c20.getD j 0):i=j:=zxy ⟨i,hi⟩ ⟨j,hj⟩ e
def sgn(ls:List Int)(at_:Int)(t k:Nat):Nat:=c20.getD ((ls.getD k 0+3 * (t:Int) * (if (k:Int)=at_ then 1 else 0)) % 20).toNat 0
def cds(ls:List Int)(at_:Int)(t i:Nat):List Nat:=(AF i).map (sgn ls at_ t)
abbrev nst(c:Int)(ls:List Int)(size at_:Int)(done:List PV)(a b d:Sl):PSt:=
 [.val (.int c),.val (.str (mkS c20)),.val (.lst (ls.map .int)),.val (.int size),.val (.int at_),.own (.lst done),a,b,d]
theorem zw8(c:Int)(ls:List Int)(size at_:Int)(done:List PV)(t k:Nat)(x:List Nat)(hl:ls.length=10)(hk:k<8)(hx:x.length<=100) :
  zd6 (nst c ls size at_ done (.val (.int t)) (.val (.str (mkS x))) (.val (.int k)))=.ok (.next (nst c ls size at_ done (.val (.int t)) (.val (.str (mkS (x++[sgn ls at_ t k])))) (.val (.int k)))):=by
 have i1:atI (ls.map PV.int) (k:Int)=some (.int (ls.getD k 0)):=by
  rw[zce ls k (by omega),Ag,AX (by omega)]
  rfl
 have m1:gMul (.int 3) (.int t)=some (.int (3 * t)):=zse (.inl (by decide))
 have hq:(if (k:Int)=at_ then (1:Int) else 0).natAbs<18446744073709551616:=by split <;> decide
 have m2:gMul (.int (3 * (t:Int))) (.int (if (k:Int)=at_ then 1 else 0))=some (.int (3 * (t:Int) * (if (k:Int)=at_ then 1 else 0))):=zse (.inr hq)
 have h3:∀z:Int,gIx (.str (mkS c20)) (.int (z % 20))=some (.str ⟨#[c20.getD (z % 20).toNat 0]⟩):=fun z=>zxd c20 (z % 20) (by omega) (by show _<(20:Int);omega) (by decide)
 have h4:=zg2 x (sgn ls at_ t k) (by omega)
 unfold sgn at h4 ⊢;simp (disch:=omega) [-Ag,zd6,nst,i1,m1,m2,zds,h3,h4]
theorem zw7(c:Int)(ls:List Int)(size:Nat)(at_:Int)(done:List PV)(t:Nat)(b d:Sl)(hl:ls.length=10)(hs:size<=8)(hd:done.length<=100):∃d',
  zd5 (nst c ls size at_ done (.val (.int t)) b d)=.ok (.next (nst c ls size at_ (done++[.str (mkS (cds ls at_ t size))]) (.val (.int t)) (.val (.str (mkS (cds ls at_ t size)))) d')):=by
 obtain⟨ρ',f1,d',rfl⟩:=forR (n:=size) (lo:=0) (h:=zai 8) (g:=zd6) (ρ:=nst c ls size at_ done (.val (.int t)) (.val (.str (mkS []))) d)
  (I:=fun i ρ=>∃d,ρ=nst c ls size at_ done (.val (.int t)) (.val (.str (mkS (cds ls at_ t i)))) d) ⟨d,rfl⟩ (by
   rintro i ρ hi ⟨d,rfl⟩;have e:=zw8 c ls size at_ done t i (cds ls at_ t i) hl (by omega) (by simp[cds];omega)
   have:cds ls at_ t (i+1)=cds ls at_ t i++[sgn ls at_ t i]:=by simp[cds,Dg]
   rw[FW,this];exact⟨_,_,rfl,.inl e,_,rfl⟩)
 refine⟨d',?_⟩;have hq:done.length<16777216:=by omega
 simp (disch:=omega) [zd5,zev,zsd];rw[f1];simp[hq]
theorem names (c:Int):∃nms:List Str,nms.length=7/\nms.Nodup/\(∀x∈nms,x≠"back"/\x≠"")/\zft [.int c]=some (.lst (nms.map .str)):=by
 obtain⟨ls,l1,l2,el⟩:=numbers c 10 (by omega)
 have el:zaw [.int c,.int 10]=some (.lst (ls.map .int)):=el;have i8:atI (ls.map PV.int) 8=some (.int ls[8]):=zce ls 8 (by omega)
 have i9:atI (ls.map PV.int) 9=some (.int ls[9]):=zce ls 9 (by omega)
 generalize ls[8]=z8 at i8;generalize ls[9]=z9 at i9;obtain⟨size,hsz,h1,h8⟩:∃size:Nat,(1+z8 % 8)=(size:Int)/\1<=size/\size<=8:=⟨(1+z8 % 8).toNat,by omega,by omega,by omega⟩
 obtain⟨at_,hat,ha0,ha1⟩:∃at_:Int,z9 % (size:Int)=at_/\0<=at_/\at_<size:=⟨z9 % (size:Int),rfl,G0 _ (by omega),FH _ (by omega)⟩
 obtain⟨ρ',f1,a,b,d,rfl⟩:=forR (n:=7) (lo:=0) (h:=zai 6) (g:=zd5) (ρ:=nst c ls size at_ [] .no .no .no)
  (I:=fun i ρ=>∃a b d,ρ=nst c ls size at_ ((AF i).map fun t=>.str (mkS (cds ls at_ t size))) a b d) ⟨_,_,_,rfl⟩ (by
   rintro i ρ hi ⟨a,b,d,rfl⟩;obtain⟨d',e⟩:=zw7 c ls size at_ ((AF i).map fun t=>.str (mkS (cds ls at_ t size))) i b d l1 h8 (by simp;omega)
   rw[FW,Dg,AW];exact⟨_,_,rfl,.inl e,_,_,_,rfl⟩)
 refine⟨(AF 7).map fun t=>mkS (cds ls at_ t size),by simp,?_,?_,zan rfl ?_⟩
 ·unfold HS
  rw[Hh];refine Ci (R:=fun a b=>a<b) (fun {i j} hi hj hij e=>?_) GZ
  rw[B5] at hi hj;have e:=BG.mkS_inj e;have hs:at_.toNat<size:=by omega
  have e2:=congrArg (fun l:List Nat=>l[at_.toNat]?) e
  simp only[cds,AG,Bq hs,ES] at e2;have e3:sgn ls at_ i at_.toNat=sgn ls at_ j at_.toNat:=BD e2;unfold sgn at e3;rw[if_pos (by omega)] at e3
  have e4:=Zb4 _ _ (by omega) (by omega) e3
  omega
 ·intro x hx
  obtain⟨t,_,rfl⟩:=AJ.mp hx;have hb:("back":Str)=mkS [98,97,99,107]:=by decide +kernel
  refine⟨fun e=>?_,fun e=>?_⟩
  ·rw[hb] at e
   have e:=BG.mkS_inj e;have m:97∈cds ls at_ t size:=by rw[e];simp
   obtain⟨k,_,ek⟩:=AJ.mp m;have:∀z:Nat,z<20->c20.getD z 0≠97:=by decide +kernel
   exact this _ (by omega) ek
  ·rw[zev] at e
   have e:=BG.mkS_inj e;have:=congrArg CM e;simp[cds] at this;omega
 ·simp only[nst] at f1
  have hsz0:(0:Int)<size:=by omega
  simp (disch:=omega) [-Am,zhf,PU.start,Zff,el,i8,i9,zds,hsz,hat,zsd];rw[f1];simp
def enc(w:W):PV:=.str (mkS w)
def W8:List W:=[[97,110,110],[97,110,110,97],[98,111],[98,111,98],[108,101,101],[114,111,101]]
def LS5:WO.Lts:=[(50,[97,98,99]),(51,[100,101,102]),(53,[106,107,108]),(54,[109,110,111]),(55,[112,113,114,115])]
theorem Zd5:∀w∈W8,∀c∈w,(WO.keyL LS5 c).isSome=true:=by decide +kernel
theorem Zhh:(W8.map (cdH LS5)).Nodup:=by decide +kernel
theorem Zhg:∀l∈LS5,l.1≠35:=by decide +kernel
theorem Zgi:W8.Nodup:=by decide +kernel
theorem zx9:∀w∈W8,w.length<=4:=by decide +kernel
theorem lp5:PV.lst [.tup [.str "2",.str "abc"],.tup [.str "3",.str "def"],.tup [.str "5",.str "jkl"],.tup [.str "6",.str "mno"],.tup [.str "7",.str "pqrs"]]=WO.ltPv LS5:=by kernel_rfl
def E8:List (Nat×W):=[(0,[97,110,110]),(1,[97,110,110,97]),(2,[98,111]),(3,[98,111,98]),(4,[108,101,101]),(5,[114,111,101])]
def e8(p:Nat×W):PV:=.tup [.int p.1,.str (mkS p.2)]
theorem Zh1:zod (.lst [.str "ann",.str "anna",.str "bo",.str "bob",.str "lee",.str "roe"])=some (E8.map e8):=by kernel_rfl
theorem e8_w:E8.map (·.2)=W8:=by decide +kernel
theorem Zh0:∀p∈E8,p.1<6:=by decide +kernel
def K12:List Nat:=[48,49,50,51,52,53,54,55,56,57,42,35]
def E12:List (Nat×Nat):=[(0,48),(1,49),(2,50),(3,51),(4,52),(5,53),(6,54),(7,55),(8,56),(9,57),(10,42),(11,35)]
def e12(p:Nat×Nat):PV:=.tup [.int p.1,WO.sg p.2]
theorem Ze7:zod (.str "0123456789*#")=some (E12.map e12):=by kernel_rfl
theorem Zh2:E12.map (·.2)=K12:=by decide
theorem Ze6:∀p∈E12,p.1<12:=by decide
theorem Zel:K12.Nodup:=by decide
def pvk(p:Nat×Str):PV:=.tup [WO.sg p.1,.str p.2]
def mk2(p:Nat×Str):Str×Str:=(⟨#[p.1]⟩,p.2)
theorem zyt(ks:List (Nat×Str)):(ks.map mk2).map pv2=ks.map pvk:=by rw[Am];rfl
def mw2(p:W×Str):Str×Str:=(mkS p.1,p.2)
theorem zys(wt:List (W×Str)):PV.tup ((wt.map mw2).map pv2)=wtPv wt:=by rw[Am];rfl
def RW(nms:List Str):Room->Prop
 | .menu _ ks wr wa=>(∃kt:List (Nat×Str),ks=kt.map mk2/\Cs (kt.map (·.1)) K12/\∀k∈kt,k.2="back"\/k.2∈nms)/\wr.2∈nms/\wa.2∈nms/\(1<=wr.1/\wr.1<=2)/\(1<=wa.1/\wa.1<=2)
 | .names _ ws wr wa=>(∃wt:List (W×Str),ws=wt.map mw2/\Cs (wt.map (·.1)) W8/\wt≠[]/\∀p∈wt,p.2∈nms)/\wr.2∈nms/\wa.2∈nms/\(1<=wr.1/\wr.1<=2)/\(1<=wa.1/\wa.1<=2)
 | _=>True
structure Low(nms:List Str)(low:Nat)(lw:List Str):Prop where
 cut:cutP (nms.map PV.str) none (some (low:Int))=lw.map PV.str
 ln:lw.length=low
 sub:∀x∈lw,x∈nms
 le:low<=nms.length
 pos:0<low
 sm:low<=100
theorem Low.at_{nms lw:List Str}{low:Nat}(L:Low nms low lw)(z:Int):∃x∈nms,atI (nms.map PV.str) (z % (low:Int))=some (.str x):=by
 have:=L.pos;have h0:=G0 z (b:=(low:Int)) (by omega)
 have h1:=FH z (b:=(low:Int)) (by omega)
 obtain⟨k,hk⟩:∃k:Nat,z % (low:Int)=(k:Int):=⟨(z % (low:Int)).toNat,by omega⟩
 have hl:=L.le;rw[hk];exact⟨_,Bh (by omega),at_i nms k (by omega)⟩
theorem Low.bk {nms lw:List Str} {low:Nat} (L:Low nms low lw) (z:Int):∃x:Str,(x="back"\/x∈nms)/\atI (lw.map PV.str++[.str "back"]) (z % ((low:Int)+1))=some (.str x):=by
 have hl:(lw++[AN "back"]).length=low+1:=by simp[L.ln]
 obtain⟨x,hx,e⟩:=Zfh (lw++[AN "back"]) z (by omega)
 rw[hl,AW] at e;refine⟨x,?_,e⟩;rcases Aj.mp hx with h | h
 ·exact .inr (L.sub x h)
 ·simp only[AU,B7,or_false] at h
  exact .inl h
abbrev mst(nms:List Str)(t:Str)(cell:Int)(low:Nat)(ls:List Int)(kt:List PV)(a b:Sl):PSt:=[.val (.lst (nms.map .str)),.val (.str t),.val (.int cell),.val (.int low),.val (.lst (ls.map .int)),.own (.lst kt),a,b,.no]
abbrev nrst(nms:List Str)(cell:Int)(low:Nat)(ls:List Int)(wt:List PV)(a b:Sl):PSt:=[.val (.lst (nms.map .str)),.val (.int cell),.val (.int low),.val (.lst (ls.map .int)),.own (.lst wt),a,b,.no]
abbrev w2(p:W×Str):PV:=.tup [.str (mkS p.1),.str p.2]
section
variable{nms lw : List Str}{low : Nat}(L : Low nms low lw)
include L
theorem menu(t:Str)(cell:Int):∃(ks:List (Str×Str))(wr wa:Int×Str),RW nms (.menu t ks wr wa)/\zgy [.lst (nms.map .str),.str t,.int cell,.int low]=some (Room.menu t ks wr wa).pv:=by
 obtain⟨ls,l1,l2,el⟩:=numbers cell 30 (by omega)
 have el:zaw [.int cell,.int 30]=some (.lst (ls.map .int)):=el;have hlow:=L.pos;have hsm:=L.sm;have cu:=L.cut;have ad:gAdd (.lst (lw.map .str)) (.lst [.str "back"])=some (.lst (lw.map .str++[.str "back"])):=zsg (by simp[L.ln];omega)
 obtain⟨ρ',f1,kt,a,b,rfl,h1,h2⟩:=forM (enc:=e12) (xs:=E12) (h:=tupT 2 (zat (zai 6) (zat (zai 7) nilT))) (g:=zex) (ρ:=[.val (.lst (nms.map .str)),.val (.str t),.val (.int cell),.val (.int low),.val (.lst (ls.map .int)),.own (.lst []),.no,.no,.no])
  (I:=fun pre ρ=>∃(kt:List (Nat×Str)) (a b:Sl),ρ=mst nms t cell low ls (kt.map pvk) a b/\Cs (kt.map (·.1)) (pre.map (·.2))/\∀k∈kt,k.2="back"\/k.2∈nms) ⟨[],.no,.no,rfl,Df _,by simp⟩ (by
   rintro pre p post ρ hx ⟨kt,a,b,rfl,h1,h2⟩;have hp:p.1<12:=Ze6 p (by rw[hx];simp)
   have hE:E12.length=12:=rfl
   have hkl:kt.length<=12:=by
    have e1:=h1.length_le;have e2:=congrArg CM hx;rw[Aw] at e2;simp at e1;omega
   have i1:=zce ls p.1 (by omega)
   have i2:=zce ls (p.1+12) (by omega)
   have n2:((p.1+12:Nat):Int)=(p.1:Int)+12:=by omega
   rw[n2] at i2;generalize ls[p.1]=x at i1;generalize ls[p.1+12]=y at i2;obtain⟨tg,ht,et⟩:=L.bk y;have m3:gMod (.int x) (.int 3)=some (.int (x % 3)):=zds (by decide)
   have m11:gMod (.int y) (.int ((low:Int)+1))=some (.int (y % ((low:Int)+1))):=zds (by omega)
   have z:(kt.map pvk).length<16777216:=by simp;omega
   by_cases g1:x % 3=0
   ·refine⟨mst nms t cell low ls (kt.map pvk) (.val (.int p.1)) (.val (WO.sg p.2)),mst nms t cell low ls ((kt++[(p.2,tg)]).map pvk) (.val (.int p.1)) (.val (WO.sg p.2)),rfl,.inl ?_,kt++[(p.2,tg)],_,_,rfl,?_,?_⟩
    ·rw[AW]
     simp only[mst];generalize kt.map pvk=KT at *;generalize nms.map PV.str=NN at *;generalize lw.map PV.str=LW at *;simp[zex,mst,i1,i2,m3,m11,g1,cu,ad,et,z,pvk]
    ·rw[AW,AW]
     exact Fz h1 (Df _)
    ·intro k hk
     rcases Aj.mp hk with hk | hk
     ·exact h2 k hk
     ·rw[AO.mp hk];exact ht
   ·refine⟨mst nms t cell low ls (kt.map pvk) (.val (.int p.1)) (.val (WO.sg p.2)),mst nms t cell low ls (kt.map pvk) (.val (.int p.1)) (.val (WO.sg p.2)),rfl,.inl ?_,kt,_,_,rfl,?_,h2⟩
    ·simp[zex,mst,i1,m3,g1]
    ·rw[AW]
     exact Eb h1 (E4 _ _))
 rw[Zh2] at h1;simp only[mst] at f1;have i24:atI (ls.map PV.int) 24=some (.int ls[24]):=zce ls 24 (by omega)
 have i25:atI (ls.map PV.int) 25=some (.int ls[25]):=zce ls 25 (by omega)
 have i26:atI (ls.map PV.int) 26=some (.int ls[26]):=zce ls 26 (by omega)
 have i27:atI (ls.map PV.int) 27=some (.int ls[27]):=zce ls 27 (by omega)
 generalize ls[24]=y1 at i24;generalize ls[25]=y2 at i25;generalize ls[26]=y3 at i26;generalize ls[27]=y4 at i27;obtain⟨x1,hx1,e1⟩:=L.at_ y2;obtain⟨x2,hx2,e2⟩:=L.at_ y4;have q1:gMod (.int y2) (.int low)=some (.int (y2 % low)):=zds (by omega)
 have q2:gMod (.int y4) (.int low)=some (.int (y4 % low)):=zds (by omega)
 have q3:gMod (.int y1) (.int 2)=some (.int (y1 % 2)):=zds (by decide)
 have q4:gMod (.int y3) (.int 2)=some (.int (y3 % 2)):=zds (by decide)
 refine⟨kt.map mk2,(1+y1 % 2,x1),(1+y3 % 2,x2),⟨⟨kt,rfl,h1,h2⟩,hx1,hx2,⟨by show 1<=1+y1 % 2;omega,by show 1+y1 % 2<=2;omega⟩,⟨by show 1<=1+y3 % 2;omega,by show 1+y3 % 2<=2;omega⟩⟩,zan rfl ?_⟩
 have pv:(Room.menu t (kt.map mk2) (1+y1 % 2,x1) (1+y3 % 2,x2)).pv=.tup [.str "menu",.str t,.tup (kt.map pvk),.tup [.int (1+y1 % 2),.str x1],.tup [.int (1+y3 % 2),.str x2]]:=by rw[← zyt];rfl
 rw[pv];have ee:=Ze7;generalize E12.map e12=EE at *;generalize nms.map PV.str=NN at *;generalize ls.map PV.int=LN at *;generalize kt.map pvk=KT at *;simp[zit,PU.start,el,ee,f1,i24,i25,q1,e1,i26,i27,q2,e2,q3,q4]
theorem nroom (cell:Int):∃(ws:List (Str×Str)) (wr wa:Int×Str),RW nms (.names "Spell" ws wr wa)/\zb2 [.lst (nms.map .str),.int cell,.int low]=some (Room.names "Spell" ws wr wa).pv:=by
 obtain⟨ls,l1,l2,el⟩:=numbers cell 14 (by omega)
 have el:zaw [.int cell,.int 14]=some (.lst (ls.map .int)):=el;have hlow:=L.pos
 obtain⟨ρ',f1,wt,a,b,rfl,h1,h2,h3⟩:=forM (enc:=e8) (xs:=E8) (h:=tupT 2 (zat (zai 5) (zat (zai 6) nilT))) (g:=zba) (ρ:=[.val (.lst (nms.map .str)),.val (.int cell),.val (.int low),.val (.lst (ls.map .int)),.own (.lst []),.no,.no,.no])
  (I:=fun pre ρ=>∃(wt:List (W×Str))(a b:Sl),ρ=nrst nms cell low ls (wt.map w2) a b/\Cs (wt.map (·.1)) (pre.map (·.2))/\(∀p∈wt,p.2∈nms)/\wt.length<=2) ⟨[],.no,.no,rfl,Df _,by simp,by simp⟩ (by
   rintro pre p post ρ hx ⟨wt,a,b,rfl,h1,h2,h3⟩;have hp:p.1<6:=Zh0 p (by rw[hx];simp)
   have i1:=zce ls p.1 (by omega)
   generalize ls[p.1]=x at i1;have d2:gDiv (.int x) (.int 2)=some (.int (x / 2)):=zsf ⟨by decide,by decide⟩
   obtain⟨tg,ht,et⟩:=L.at_ (x / 2);have m2:gMod (.int x) (.int 2)=some (.int (x % 2)):=zds (by decide)
   have m9:gMod (.int (x / 2)) (.int low)=some (.int (x / 2 % low)):=zds (by omega)
   have z:(wt.map w2).length<16777216:=by simp;omega
   have gl:gLen (.lst (wt.map w2))=some (.int wt.length):=by simp
   have ap:(wt++[(p.2,tg)]).map w2=wt.map w2++[.tup [.str (mkS p.2),.str tg]]:=by simp
   by_cases g1:x % 2=1
   ·by_cases g2:(wt.length:Int)<2
    ·refine⟨nrst nms cell low ls (wt.map w2) (.val (.int p.1)) (.val (.str (mkS p.2))),nrst nms cell low ls ((wt++[(p.2,tg)]).map w2) (.val (.int p.1)) (.val (.str (mkS p.2))),rfl,.inl ?_,wt++[(p.2,tg)],_,_,rfl,?_,?_,by simp;omega⟩
     ·rw[ap]
      simp only[nrst];generalize (wt.map w2)=WT at *;generalize nms.map PV.str=NN at *;simp[zba,nrst,i1,m2,g1,gl,g2,d2,m9,et,z]
     ·rw[AW,AW]
      exact Fz h1 (Df _)
     ·intro k hk
      rcases Aj.mp hk with hk | hk
      ·exact h2 k hk
      ·rw[AO.mp hk];exact ht
    ·refine⟨nrst nms cell low ls (wt.map w2) (.val (.int p.1)) (.val (.str (mkS p.2))),nrst nms cell low ls (wt.map w2) (.val (.int p.1)) (.val (.str (mkS p.2))),rfl,.inl ?_,wt,_,_,rfl,?_,h2,h3⟩
     ·simp only[nrst]
      generalize (wt.map w2)=WT at *;simp[zba,nrst,i1,m2,g1,gl,g2]
     ·rw[AW]
      exact Eb h1 (E4 _ _)
   ·refine⟨nrst nms cell low ls (wt.map w2) (.val (.int p.1)) (.val (.str (mkS p.2))),nrst nms cell low ls (wt.map w2) (.val (.int p.1)) (.val (.str (mkS p.2))),rfl,.inl ?_,wt,_,_,rfl,?_,h2,h3⟩
    ·simp only[nrst]
     generalize (wt.map w2)=WT at *;simp[zba,nrst,i1,m2,g1]
    ·rw[AW]
     exact Eb h1 (E4 _ _))
 rw[e8_w] at h1;simp only[nrst] at f1;have i10:atI (ls.map PV.int) 10=some (.int ls[10]):=zce ls 10 (by omega)
 have i12:atI (ls.map PV.int) 12=some (.int ls[12]):=zce ls 12 (by omega)
 generalize ls[10]=y2 at i10;generalize ls[12]=y4 at i12;obtain⟨x1,hx1,e1⟩:=L.at_ y2;obtain⟨x2,hx2,e2⟩:=L.at_ y4;have q1:gMod (.int y2) (.int low)=some (.int (y2 % low)):=zds (by omega)
 have q2:gMod (.int y4) (.int low)=some (.int (y4 % low)):=zds (by omega)
 have hnl:0<nms.length:=by have:=L.le;omega
 have a6:atI (nms.map PV.str) 0=some (.str nms[0]):=at_i nms 0 hnl;have ee:=Zh1
 have fin:∀(wt':List (W×Str)),Cs (wt'.map (·.1)) W8->wt'≠[]->(∀p∈wt',p.2∈nms)->(∃(ws:List (Str×Str)) (wr wa:Int×Str),RW nms (.names "Spell" ws wr wa)/\(Room.names "Spell" ws wr wa).pv=.tup [.str "names",.str "Spell",.tup (wt'.map w2),.tup [.int 1,.str x1],.tup [.int 1,.str x2]]):=fun wt' g1 g2 g3=>
  ⟨wt'.map mw2,(1,x1),(1,x2),⟨⟨wt',rfl,g1,g2,g3⟩,hx1,hx2,⟨Fs 1,show (1:Int)<=2 by decide⟩,⟨Fs 1,show (1:Int)<=2 by decide⟩⟩,by
   have:=zys wt';show PV.tup [.str "names",.str "Spell",.tup ((wt'.map mw2).map pv2),_,_]=_;rw[this];rfl⟩
 cases wt with
 | nil=>
  obtain⟨ws,wr,wa,g1,g2⟩:=fin [([108,101,101],nms[0])] (by show Cs [[108,101,101]] W8;decide +kernel) (by simp) (by
   intro p hp;rw[AO.mp hp];exact Bh _)
  refine⟨ws,wr,wa,g1,zan rfl ?_⟩;rw[g2];simp only[AE,CL,w2] at f1 ⊢;have le:(PV.str "lee")=.str (mkS [108,101,101]):=by kernel_rfl
  generalize E8.map e8=EE at *;generalize nms.map PV.str=NN at *;generalize ls.map PV.int=LN at *;simp[zb1,PU.start,el,ee,f1,a6,i10,q1,e1,i12,q2,e2];exact PV.str.inj le
 | cons p wt=>
  obtain⟨ws,wr,wa,g1,g2⟩:=fin (p::wt) h1 (by simp) h2
  refine⟨ws,wr,wa,g1,zan rfl ?_⟩;rw[g2];have gl:gLen (.lst ((p::wt).map w2))=some (.int (wt.length+1)):=by simp
  have hl:¬ ((wt.length:Int)+1=0):=by omega
  generalize ((p::wt).map w2)=WT at *;generalize E8.map e8=EE at *;generalize nms.map PV.str=NN at *;generalize ls.map PV.int=LN at *;simp[zb1,PU.start,el,ee,f1,gl,hl,i10,q1,e1,i12,q2,e2]
end
def Fit(nms ord:List Str)(r:Str×Room):Prop:=∃(k:Nat)(hk:k<ord.length),ord[k]=r.1/\(∀sp l,r.2=.hours sp l->l∈ord.drop (k+1)/\∀s∈sp,s.2.2∈ord.drop (k+1))/\RW nms r.2
structure Good(nms ord:List Str)(rs:FA.Rooms):Prop where
 ok:∀r∈rs,Fit nms ord r
 nd:(rs.map (·.1)).Nodup
theorem zi5(nms:List Str)(rs:FA.Rooms)(k:Str)(r:Room)(ord:List Str)(g:Good nms ord rs)(hr:Fit nms ord (k,r)):Good nms ord (putR rs k r)/\(putR rs k r).length<=rs.length+1:=by
 obtain⟨a,b,c⟩:=zz7 (rs:=rs) (k:=k) (r:=r) (Fit nms ord) g.ok (fun x e1 e2=>by have:x=(k,r):=G8 e1 e2;rw[this];exact hr) g.nd
 exact⟨⟨a,b⟩,c⟩
theorem zc4(rs:FA.Rooms):zam rs=.dct (rs.map fun r=>.inr r.1) (rs.map fun r=>r.2.pv):=rfl
theorem zvf(nms ord:List Str)(rs:FA.Rooms)(nd:ord.Nodup)(g:Good nms ord rs)(hall:∀x∈ord,x∈FA.names rs)(hour:Int):∀(n k:Nat)(hk:k<ord.length),ord.length-k<=n->∃y r,comeGo rs hour n ord[k]=some y/\FA.lookR rs y=some r/\y∈ord/\∀sp l,r≠.hours sp l
 | 0,k,hk,h=>by omega
 | n+1,k,hk,h=>by
  obtain⟨r,hr⟩:=FA.look_some rs ord[k] (hall _ (Bh hk));obtain⟨k',hk',e,ht,_⟩:=g.ok _ (ztr rs _ r hr);have ek:k'=k:=(EF nd).mp e;subst ek;unfold comeGo;rw[hr]
  by_cases hh:∃sp l,r=.hours sp l
  ·obtain⟨sp,l,rfl⟩:=hh
   obtain⟨h1,h2⟩:=ht sp l rfl
   have hin:FA.handOf sp l hour∈ord.drop (k'+1):=by
    unfold FA.handOf;cases e:sp.find? (FA.holds hour) with
    | none=>exact h1
    | some s=>exact h2 s (CK e)
   obtain⟨j,hj,e2⟩:=C5 hin;rw[Ff] at hj;rw[List.getElem_drop] at e2;dsimp only;rw[← e2];exact zvf nms ord rs nd g hall hour n (k'+1+j) (by omega) (by omega)
  ·refine⟨ord[k'],r,?_,hr,Bh _,fun sp l e=>hh ⟨sp,l,e⟩⟩
   cases r with
   | hours sp l=>exact absurd ⟨sp,l,rfl⟩ hh
   | _=>rfl
structure HG(h:House)(nms ord:List Str):Prop where
 nd:ord.Nodup
 ol:ord.length<=20
 g:Good nms ord h.rooms
 all:∀x∈ord,x∈FA.names h.rooms
 nm:∀x∈nms,x∈ord
 mn:∀x∈ord,x∈nms
 nb:∀x∈nms,x≠"back"/\x≠""
 fst:h.first∈nms
 lets:gIx h.pv (.str "letters")=some (WO.ltPv LS5)
 rl:h.rooms.length<=20
 nl:nms.length<=7
def ltS(ls:WO.Lts):List (Str×Str):=ls.map fun l=>(⟨#[l.1]⟩,mkS l.2)
theorem Zd4(ls:WO.Lts):PV.lst ((ltS ls).map pv2)=WO.ltPv ls:=by
 unfold ltS WO.ltPv;rw[Am];rfl
theorem Zd6(n0 n1 n2 n3 n4 n5 n6:Str)(z:Int):∃(low:Nat)(lw:List Str),Low [n0,n1,n2,n3,n4,n5,n6] low lw/\(low=6\/low=4\/low=5)/\atI [PV.int 6,.int 4,.int 5] (z % 3)=some (.int low):=by
 have l6:Low [n0,n1,n2,n3,n4,n5,n6] 6 [n0,n1,n2,n3,n4,n5]:=⟨rfl,rfl,fun x h=>by simp only[AU,B7,or_false] at h ⊢;rcases h with h | h | h | h | h | h <;> simp[h],by simp,by omega,by omega⟩
 have l5:Low [n0,n1,n2,n3,n4,n5,n6] 5 [n0,n1,n2,n3,n4]:=⟨rfl,rfl,fun x h=>by simp only[AU,B7,or_false] at h ⊢;rcases h with h | h | h | h | h <;> simp[h],by simp,by omega,by omega⟩
 have l4:Low [n0,n1,n2,n3,n4,n5,n6] 4 [n0,n1,n2,n3]:=⟨rfl,rfl,fun x h=>by simp only[AU,B7,or_false] at h ⊢;rcases h with h | h | h | h <;> simp[h],by simp,by omega,by omega⟩
 obtain⟨k,hk,hk9⟩:∃k:Nat,z % 3=(k:Int)/\k<3:=⟨(z % 3).toNat,by omega,by omega⟩
 rw[hk]
 match k,hk9 with
 | 0,_=>exact⟨6,_,l6,.inl rfl,zbc (n:=0) rfl rfl⟩
 | 1,_=>exact⟨4,_,l4,.inr (.inl rfl),zbc (n:=1) rfl rfl⟩
 | 2,_=>exact⟨5,_,l5,.inr (.inr rfl),zbc (n:=2) rfl rfl⟩
theorem at4(nms:List Str)(a b c d:Nat)(z:Int)(ha:a<nms.length)(hb:b<nms.length)(hc:c<nms.length)(hd:d<nms.length):∃(k:Nat)(hk:k<nms.length),(k=a\/k=b\/k=c\/k=d)/\atI [PV.int a,.int b,.int c,.int d] (z % 4)=some (.int k)/\atI (nms.map PV.str) (k:Int)=some (.str nms[k]):=by
 obtain⟨i,hi,hi4⟩:∃i:Nat,z % 4=(i:Int)/\i<4:=⟨(z % 4).toNat,by omega,by omega⟩
 rw[hi]
 match i,hi4 with
 | 0,_=>exact⟨a,ha,.inl rfl,zbc (n:=0) rfl rfl,at_i nms a ha⟩
 | 1,_=>exact⟨b,hb,.inr (.inl rfl),zbc (n:=1) rfl rfl,at_i nms b hb⟩
 | 2,_=>exact⟨c,hc,.inr (.inr (.inl rfl)),zbc (n:=2) rfl rfl,at_i nms c hc⟩
 | 3,_=>exact⟨d,hd,.inr (.inr (.inr rfl)),zbc (n:=3) rfl rfl,at_i nms d hd⟩
theorem house(ns:List Int):∃(h:House)(nms ord:List Str),HG h nms ord/\zef [.lst (ns.map .int)]=some h.pv:=by
 have c0:zar [PV.lst (ns.map PV.int),PV.int 0]=some (PV.int (ns.getD 0 0)):=ziz ns 0;have c1:zar [PV.lst (ns.map PV.int),PV.int 1]=some (PV.int (ns.getD 1 0)):=ziz ns 1;have c4:zar [PV.lst (ns.map PV.int),PV.int 4]=some (PV.int (ns.getD 4 0)):=ziz ns 4;have c5:zar [PV.lst (ns.map PV.int),PV.int 5]=some (PV.int (ns.getD 5 0)):=ziz ns 5;have cc:∀i:Nat,zar [PV.lst (ns.map PV.int),PV.int i]=some (PV.int (ns.getD i 0)):=ziz ns;generalize ns.getD 0 0=z0 at c0;generalize ns.getD 1 0=z1 at c1;generalize ns.getD 4 0=z4 at c4;generalize ns.getD 5 0=z5 at c5;obtain⟨nms,hnl,hnd,hnb,en⟩:=names z0
 obtain⟨n0,n1,n2,n3,n4,n5,n6,rfl⟩:∃n0 n1 n2 n3 n4 n5 n6,nms=[n0,n1,n2,n3,n4,n5,n6]:=by
  match nms,hnl with
  | [a,b,c,d,e,f,g],_=>exact⟨a,b,c,d,e,f,g,rfl⟩
 obtain⟨low,lw,L,hlow,elow⟩:=Zd6 n0 n1 n2 n3 n4 n5 n6 z1;obtain⟨ws2,wr2,wa2,rw2,er2⟩:=nroom L z4;have hmenu:=fun (t:Str) (cell:Int)=>menu L t cell
 obtain⟨ls,l1,l2,el⟩:=numbers z5 5 (by omega)
 have el:zaw [.int z5,.int 5]=some (.lst (ls.map .int)):=el;have j0:atI (ls.map PV.int) 0=some (.int ls[0]):=zce ls 0 (by omega)
 have j1:atI (ls.map PV.int) 1=some (.int ls[1]):=zce ls 1 (by omega)
 have j2:atI (ls.map PV.int) 2=some (.int ls[2]):=zce ls 2 (by omega)
 have j3:atI (ls.map PV.int) 3=some (.int ls[3]):=zce ls 3 (by omega)
 have j4:atI (ls.map PV.int) 4=some (.int ls[4]):=zce ls 4 (by omega)
 generalize ls[0]=y0 at j0;generalize ls[1]=y1 at j1;generalize ls[2]=y2 at j2;generalize ls[3]=y3 at j3;generalize ls[4]=y4 at j4;obtain⟨ord,hord⟩:∃ord,ord=[n3,n0,n1,n2,n4,n5,n6]:=⟨_,rfl⟩
 have hperm:∀x,x∈[n0,n1,n2,n3,n4,n5,n6] ↔ x∈ord:=fun x=>by
  rw[hord];simp only[AU,B7,or_false];constructor
  ·rintro (h | h | h | h | h | h | h) <;> simp[h]
  ·rintro (h | h | h | h | h | h | h) <;> simp[h]
 have hond:ord.Nodup:=by
  rw[hord]
  have pm:List.Perm [n0,n1,n2,n3,n4,n5,n6] [n3,n0,n1,n2,n4,n5,n6]:=by
   show List.Perm ([n0,n1,n2]++([n3]++[n4,n5,n6])) ([n3]++([n0,n1,n2]++[n4,n5,n6]));rw[← Bd,← Bd];exact List.Perm.append_right _ List.perm_append_comm
  exact pm.nodup_iff.mp hnd
 obtain⟨nms,hnms⟩:∃nms,nms=[n0,n1,n2,n3,n4,n5,n6]:=⟨_,rfl⟩
 have plain:∀(x:Str)(r:Room),x∈ord->(∀sp l,r≠.hours sp l)->RW nms r->Fit nms ord (x,r):=fun x r hx hr hw=>by
  obtain⟨k,hk,e⟩:=C5 hx;exact⟨k,hk,e,fun sp l e=>absurd e (hr sp l),hw⟩
 have om:∀x∈[n0,n1,n2,n3,n4,n5,n6],x∈ord:=fun x hx=>(hperm x).mp hx
 have menus:∃(rs:FA.Rooms)(a:Sl),Good nms ord rs/\rs.length<=2/\(n0∈FA.names rs/\n1∈FA.names rs)/\forF (zai 4) zd7 (zb9 0 2) [.val (.lst (ns.map .int)),.val (.lst ([n0,n1,n2,n3,n4,n5,n6].map .str)),.val (.int low),.own (.dct [] []),.no,.no,.no,.no]=.ok (.next [.val (.lst (ns.map .int)),.val (.lst ([n0,n1,n2,n3,n4,n5,n6].map .str)),.val (.int low),.own (zam rs),a,.no,.no,.no]):=by
  obtain⟨ρ',f1,rs,a,rfl,g,hl,hm⟩:=forR (n:=2) (lo:=0) (h:=zai 4) (g:=zd7) (ρ:=[.val (.lst (ns.map .int)),.val (.lst ([n0,n1,n2,n3,n4,n5,n6].map .str)),.val (.int low),.own (.dct [] []),.no,.no,.no,.no])
   (I:=fun i ρ=>∃rs a,ρ=[.val (.lst (ns.map .int)),.val (.lst ([n0,n1,n2,n3,n4,n5,n6].map .str)),.val (.int low),.own (zam rs),a,.no,.no,.no]/\Good nms ord rs/\rs.length<=i/\∀j,j<i->∀hj:j<7,[n0,n1,n2,n3,n4,n5,n6][j]∈FA.names rs) ⟨[],.no,rfl,⟨by simp,by simp⟩,by simp,fun j hj=>by omega⟩ (by
    rintro i ρ hi ⟨rs,a,rfl,g,hl,hm⟩;have e3:=at_i [n0,n1,n2,n3,n4,n5,n6] i (by simp;omega)
    have hx:[n0,n1,n2,n3,n4,n5,n6][i]'(by simp;omega)∈[n0,n1,n2,n3,n4,n5,n6]:=Bh _
    obtain⟨t,et⟩:∃t:Str,atI [PV.str "Hello",PV.str "Again"] (i:Int)=some (.str t):=by
     match i,hi with
     | 0,_=>exact⟨_,by simp;rfl⟩
     | 1,_=>exact⟨_,by simp;rfl⟩
    have ci:=cc (2+i);have n1':((2+i:Nat):Int)=2+(i:Int):=by omega
    rw[n1'] at ci;generalize ns.getD (2+i) 0=u at ci;have mu:gMul (.int 7919) (.int i)=some (.int (7919 * (i:Int))):=zse (.inl (by decide))
    obtain⟨ks,wr,wa,rw1,em⟩:=hmenu t (u+7919 * (i:Int));rw[← hnms] at rw1;obtain⟨g',l'⟩:=zi5 nms rs _ (.menu t ks wr wa) ord g (plain _ _ (om _ hx) (fun _ _ e=>by cases e) rw1)
    have p:=zga rs ([n0,n1,n2,n3,n4,n5,n6][i]'(by simp;omega)) (.menu t ks wr wa)
    have z1:rs.length<16777216:=by omega
    rw[FW];refine⟨_,[.val (.lst (ns.map .int)),.val (.lst ([n0,n1,n2,n3,n4,n5,n6].map .str)),.val (.int low),.own (zam (putR rs ([n0,n1,n2,n3,n4,n5,n6][i]'(by simp;omega)) (.menu t ks wr wa))),.val (.int i),.no,.no,.no],rfl,.inl ?_,_,_,rfl,g',by omega,fun j hj hj8=>?_⟩
    ·generalize (Room.menu t ks wr wa).pv=RP at *
     generalize ([n0,n1,n2,n3,n4,n5,n6][i]'(by simp;omega))=nk at *
     generalize ([n0,n1,n2,n3,n4,n5,n6].map PV.str)=N at *;simp[zd7,e3,et,ci,mu,em,zc4 rs,z1,p]
    ·rw[zgl]
     by_cases hji:j=i
     ·subst hji;exact .inr rfl
     ·exact .inl (hm j (by omega) hj8))
  exact⟨rs,a,g,hl,⟨hm 0 (by omega) (by omega),hm 1 (by omega) (by omega)⟩,f1⟩
 obtain⟨rs,a,g,hl,⟨hm0,hm1⟩,f1⟩:=menus
 have dr:∀x∈[n0,n1,n2,n4,n5,n6],x∈ord.drop 1:=fun x hx=>by
  rw[hord];simpa using hx
 have hlt:∀k:Nat,k<7->k<[n0,n1,n2,n3,n4,n5,n6].length:=fun k h=>by simpa using h
 obtain⟨k2,hk2,o2,et2,ea2⟩:=at4 [n0,n1,n2,n3,n4,n5,n6] 0 1 2 4 y2 (hlt _ (by omega)) (hlt _ (by omega)) (hlt _ (by omega)) (hlt _ (by omega))
 obtain⟨k3,hk3,o3,et3,ea3⟩:=at4 [n0,n1,n2,n3,n4,n5,n6] 0 1 2 5 y3 (hlt _ (by omega)) (hlt _ (by omega)) (hlt _ (by omega)) (hlt _ (by omega))
 have et2:atI [PV.int 0,.int 1,.int 2,.int 4] (y2 % 4)=some (.int k2):=et2;have et3:atI [PV.int 0,.int 1,.int 2,.int 5] (y3 % 4)=some (.int k3):=et3
 have tg2:[n0,n1,n2,n3,n4,n5,n6][k2]∈ord.drop 1:=by
  rcases o2 with rfl | rfl | rfl | rfl <;> exact dr _ (by simp)
 have tg3:[n0,n1,n2,n3,n4,n5,n6][k3]∈ord.drop 1:=by
  rcases o3 with rfl | rfl | rfl | rfl <;> exact dr _ (by simp)
 generalize [n0,n1,n2,n3,n4,n5,n6][k2]=t2 at ea2 tg2;generalize [n0,n1,n2,n3,n4,n5,n6][k3]=t3 at ea3 tg3
 obtain⟨t6,tg6,ea6⟩:∃t6,t6∈ord.drop 1/\atI ([n0,n1,n2,n3,n4,n5,n6].map PV.str) (y3 % 3)=some (.str t6):=by
  obtain⟨k,hk,hk9⟩:∃k:Nat,y3 % 3=(k:Int)/\k<3:=⟨(y3 % 3).toNat,by omega,by omega⟩
  rw[hk]
  match k,hk9 with
  | 0,_=>exact⟨n0,dr _ (by simp),zbc (n:=0) rfl rfl⟩
  | 1,_=>exact⟨n1,dr _ (by simp),zbc (n:=1) rfl rfl⟩
  | 2,_=>exact⟨n2,dr _ (by simp),zbc (n:=2) rfl rfl⟩
 obtain⟨fst,hfst,ef⟩:=L.at_ y4;have ol:ord.length=7:=by rw[hord];rfl
 have fit3:∀(sp:List (Int×Int×Str))(l:Str),(∀s∈sp,s.2.2∈ord.drop 1)->l∈ord.drop 1->Fit nms ord (n3,.hours sp l):=fun sp l hs hl=>⟨0,by omega,by simp[hord],fun sp l e=>by cases e;exact⟨hl,hs⟩,trivial⟩
 rw[← hnms] at rw2;obtain⟨g2,l2'⟩:=zi5 nms rs n2 (.names "Spell" ws2 wr2 wa2) ord g (plain _ _ (om _ (by simp)) (fun _ _ e=>by cases e) rw2)
 have p2:=zga rs n2 (.names "Spell" ws2 wr2 wa2);obtain⟨r2,hr2⟩:∃r2,r2=putR rs n2 (.names "Spell" ws2 wr2 wa2):=⟨_,rfl⟩;have q2:∀x,(x∈FA.names rs\/x=n2)->x∈FA.names r2:=fun x h=>by rw[hr2,zgl];exact h
 rw[← hr2] at g2 l2' p2;obtain⟨r3,hr3⟩:∃r3,r3=r2:=⟨_,rfl⟩;have q3:∀x,x∈FA.names r2->x∈FA.names r3:=fun x h=>by rw[hr3];exact h
 have g3:Good nms ord r3:=by rw[hr3];exact g2
 have l3:r3.length<=r2.length+1:=by rw[hr3];omega
 obtain⟨g4,l4⟩:=zi5 nms r3 n3 (.hours [(y0 % 12,12+y1 % 13,t2)] t3) ord g3 (fit3 _ _ (by simpa using tg2) tg3)
 have p4:=zga r3 n3 (.hours [(y0 % 12,12+y1 % 13,t2)] t3);obtain⟨r4,hr4⟩:∃r4,r4=putR r3 n3 (.hours [(y0 % 12,12+y1 % 13,t2)] t3):=⟨_,rfl⟩;have q4:∀x,(x∈FA.names r3\/x=n3)->x∈FA.names r4:=fun x h=>by rw[hr4,zgl];exact h
 rw[← hr4] at g4 l4 p4
 obtain⟨r5,g5,l5,q5,a5⟩:∃r5,Good nms ord r5/\r5.length<=r4.length+1/\(∀x,x∈FA.names r4->x∈FA.names r5)/\(((low:Int)=4/\putP (r4.map fun r=>.inr r.1) (r4.map fun r=>r.2.pv) (.inr n3) (.tup [.str "hours",.tup [],.str t6])=zam r5)\/(¬ (low:Int)=4/\r5=r4)):=by
  by_cases c:(low:Int)=4
  ·obtain⟨g5,l5⟩:=zi5 nms r4 n3 (.hours [] t6) ord g4 (fit3 _ _ (by simp) tg6)
   exact⟨_,g5,l5,fun x h=>by rw[zgl];exact .inl h,.inl ⟨c,zga r4 n3 (.hours [] t6)⟩⟩
  ·exact⟨r4,g4,by omega,fun x h=>h,.inr ⟨c,rfl⟩⟩
 obtain⟨g6,l6⟩:=zi5 nms r5 n4 (.hand "Ann") ord g5 (plain _ _ (om _ (by simp)) (fun _ _ e=>by cases e) trivial)
 have p6:=zga r5 n4 (.hand "Ann");obtain⟨r6,hr6⟩:∃r6,r6=putR r5 n4 (.hand "Ann"):=⟨_,rfl⟩;have q6:∀x,(x∈FA.names r5\/x=n4)->x∈FA.names r6:=fun x h=>by rw[hr6,zgl];exact h
 rw[← hr6] at g6 l6 p6;obtain⟨g7,l7⟩:=zi5 nms r6 n5 (.fin "Bye") ord g6 (plain _ _ (om _ (by simp)) (fun _ _ e=>by cases e) trivial)
 have p7:=zga r6 n5 (.fin "Bye");obtain⟨r7,hr7⟩:∃r7,r7=putR r6 n5 (.fin "Bye"):=⟨_,rfl⟩;have q7:∀x,(x∈FA.names r6\/x=n5)->x∈FA.names r7:=fun x h=>by rw[hr7,zgl];exact h
 rw[← hr7] at g7 l7 p7
 obtain⟨tx,etx⟩:∃tx:Str,atI [PV.str "Ann",PV.str "Bo"] (z1 / 3 % 2)=some (.str tx):=by
  obtain⟨k,hk,hk9⟩:∃k:Nat,z1 / 3 % 2=(k:Int)/\k<2:=⟨(z1 / 3 % 2).toNat,by omega,by omega⟩
  rw[hk]
  match k,hk9 with
  | 0,_=>exact⟨_,zbc (n:=0) rfl rfl⟩
  | 1,_=>exact⟨_,zbc (n:=1) rfl rfl⟩
 obtain⟨g8,l8⟩:=zi5 nms r7 n6 (.hand tx) ord g7 (plain _ _ (om _ (by simp)) (fun _ _ e=>by cases e) trivial)
 have p8:=zga r7 n6 (.hand tx);obtain⟨r8,hr8⟩:∃r8,r8=putR r7 n6 (.hand tx):=⟨_,rfl⟩;have q8:∀x,(x∈FA.names r7\/x=n6)->x∈FA.names r8:=fun x h=>by rw[hr8,zgl];exact h
 rw[← hr8] at g8 l8 p8
 obtain⟨r9,g9,l9,q9,a9⟩:∃r9,Good nms ord r9/\r9.length<=r8.length+1/\(∀x,x∈FA.names r8->x∈FA.names r9)/\(((low:Int)=6/\putP (r8.map fun r=>.inr r.1) (r8.map fun r=>r.2.pv) (.inr n3) (.tup [.str "hours",.tup [.tup [.int (y0 % 12),.int (12+y1 % 13),.str n6]],.str t6])=zam r9)\/(¬ (low:Int)=6/\r9=r8)):=by
  by_cases c:(low:Int)=6
  ·obtain⟨g9,l9⟩:=zi5 nms r8 n3 (.hours [(y0 % 12,12+y1 % 13,n6)] t6) ord g8 (fit3 _ _ (by simpa using dr n6 (by simp)) tg6)
   exact⟨_,g9,l9,fun x h=>by rw[zgl];exact .inl h,.inl ⟨c,zga r8 n3 (.hours [(y0 % 12,12+y1 % 13,n6)] t6)⟩⟩
  ·exact⟨r8,g8,by omega,fun x h=>h,.inr ⟨c,rfl⟩⟩
 have hall:∀x∈ord,x∈FA.names r9:=fun x hx=>by
  have u7:x∈FA.names r7->x∈FA.names r9:=fun h=>q9 x (q8 x (.inl h))
  have up:x∈FA.names r2->x∈FA.names r9:=fun h=>u7 (q7 x (.inl (q6 x (.inl (q5 x (q4 x (.inl (q3 x h))))))))
  rw[hord] at hx;simp only[AU,B7,or_false] at hx;rcases hx with rfl | rfl | rfl | rfl | rfl | rfl | rfl
  ·exact u7 (q7 _ (.inl (q6 _ (.inl (q5 _ (q4 _ (.inr rfl)))))))
  ·exact up (q2 _ (.inl hm0))
  ·exact up (q2 _ (.inl hm1))
  ·exact up (q2 _ (.inr rfl))
  ·exact u7 (q7 _ (.inl (q6 _ (.inr rfl))))
  ·exact u7 (q7 _ (.inr rfl))
  ·exact q9 _ (q8 _ (.inr rfl))
 have uH:House.pv ⟨fst,ltS LS5,r9⟩=.dct [.inr "first",.inr "letters",.inr "rooms"] [.str fst,WO.ltPv LS5,zam r9]:=by rw[← Zd4];rfl
 refine⟨⟨fst,ltS LS5,r9⟩,nms,ord,⟨hond,by omega,g9,hall,fun x hx=>om x (by rw[← hnms];exact hx),fun x hx=>by rw[hnms];exact(hperm x).mpr hx,by rw[hnms];exact hnb,by rw[hnms];exact hfst,by rw[uH];simp,by show r9.length<=20;omega,by rw[hnms];simp⟩,zan rfl ?_⟩
 rw[uH];have k6:(Room.hand "Ann").pv=.tup [.str "hand",.str "Ann"]:=rfl;have k7:(Room.fin "Bye").pv=.tup [.str "end",.str "Bye"]:=rfl;have k4:(Room.hours [(y0 % 12,12+y1 % 13,t2)] t3).pv=.tup [.str "hours",.tup [.tup [.int (y0 % 12),.int (12+y1 % 13),.str t2]],.str t3]:=rfl;rw[k6] at p6;rw[k7] at p7;have k8:(Room.hand tx).pv=.tup [.str "hand",.str tx]:=rfl;rw[k8] at p8;rw[k4] at p4;rw[← lp5];generalize hH2:(Room.names "Spell" ws2 wr2 wa2).pv=H2 at *;have u2:rs.length<16777216:=by omega
 have u3:r2.length<16777216:=by omega
 have u4:r3.length<16777216:=by omega
 have u5:r4.length<16777216:=by omega
 have u6:r5.length<16777216:=by omega
 have u7:r6.length<16777216:=by omega
 have u8:r7.length<16777216:=by omega
 have u9:r8.length<16777216:=by omega
 have b6:atI ([n0,n1,n2,n3,n4,n5,n6].map PV.str) 6=some (.str n6):=zbc (n:=6) rfl rfl;have b1:atI ([n0,n1,n2,n3,n4,n5,n6].map PV.str) 1=some (.str n1):=zbc (n:=1) rfl rfl;have b2:atI ([n0,n1,n2,n3,n4,n5,n6].map PV.str) 2=some (.str n2):=zbc (n:=2) rfl rfl;have b3:atI ([n0,n1,n2,n3,n4,n5,n6].map PV.str) 3=some (.str n3):=zbc (n:=3) rfl rfl;have b4:atI ([n0,n1,n2,n3,n4,n5,n6].map PV.str) 4=some (.str n4):=zbc (n:=4) rfl rfl;have b5:atI ([n0,n1,n2,n3,n4,n5,n6].map PV.str) 5=some (.str n5):=zbc (n:=5) rfl rfl;have m13:gMod (.int z1) (.int 3)=some (.int (z1 % 3)):=zds (by decide)
 have d13:gDiv (.int z1) (.int 3)=some (.int (z1 / 3)):=zsf ⟨by decide,by decide⟩
 have m132:gMod (.int (z1 / 3)) (.int 2)=some (.int (z1 / 3 % 2)):=zds (by decide)
 have my0:gMod (.int y0) (.int 12)=some (.int (y0 % 12)):=zds (by decide)
 have my1:gMod (.int y1) (.int 13)=some (.int (y1 % 13)):=zds (by decide)
 have my2:gMod (.int y2) (.int 4)=some (.int (y2 % 4)):=zds (by decide)
 have my3:gMod (.int y3) (.int 4)=some (.int (y3 % 4)):=zds (by decide)
 have my6:gMod (.int y3) (.int 3)=some (.int (y3 % 3)):=zds (by decide)
 have my4:gMod (.int y4) (.int low)=some (.int (y4 % low)):=zds (by have:=L.pos;omega)
 clear uH hall hmenu plain om hperm hnb hnd fit3 dr hlt cc;generalize ([n0,n1,n2,n3,n4,n5,n6].map PV.str)=N at *;generalize ls.map PV.int=LN at *;have v_r:rngP (.int 2)=.ok (zb9 0 2):=zsd (by decide) (by decide)
 have low4:∀c:Bool,decide ((low:Int)=4)=c->decide ((low:Int)=4)=c:=fun c h=>h
 have sl:gSl (.tup [.int (y0 % 12),.int (12+y1 % 13),.str t2]) none (some 2)=some (.tup [.int (y0 % 12),.int (12+y1 % 13)]):=rfl;simp[zhh,PU.start,c0,c1,m13,elow,en,v_r];rw[f1];simp[b2,c4,er2,zc4 rs,u2,p2];rw[← hr3];simp[c5,el,j0,my0,j1,my1,j2,my2,et2,ea2];simp[zc4 r3,u4,b3,j3,my3,et3,ea3,p4];rcases a5 with⟨h5,p5⟩|⟨h5,rfl⟩
 ·rcases a9 with⟨h9,p9⟩|⟨h9,rfl⟩
  ·exfalso;omega
  ·rw[h5] at my4 ef
   simp[zc4 r4,u5,h5,b3,j3,my6,ea6,p5];simp[zc4 r5,u6,b4,p6];simp[zc4 r6,u7,b5,p7];simp[zc4 r7,u8,b6,c1,d13,m132,etx,p8];simp[j4,my4,ef,zf0,putP]
 ·rcases a9 with⟨h9,p9⟩|⟨h9,rfl⟩
  ·rw[h9] at my4 ef
   simp[zc4 r5,u6,h9,b4,p6];simp[zc4 r6,u7,b5,p7];simp[zc4 r7,u8,b6,c1,d13,m132,etx,p8];simp[zc4 r8,u9,sl,b6,b3,j3,my6,ea6,p9];simp[j4,my4,ef,zf0,putP]
  ·simp[zc4 r5,u6,h5,b4,p6]
   simp[zc4 r6,u7,b5,p7];simp[zc4 r7,u8,b6,c1,d13,m132,etx,p8,h9];simp[j4,my4,ef,zf0,putP]
def sT(r b:Str)(w v:Int)(t:W):PV:=.tup [.str r,.str b,.int w,.int v,.str (mkS t)]
def beg(wt:List (W×Str))(w:W):W:=own ((wt.map (·.1)).map (cdH LS5)) (cdH LS5 w)
def TY:Room->W->Prop
 | .menu ..,t=>t=[]
 | .names _ ws _ _,t=>∀wt:List (W×Str),ws=wt.map mw2->(t=[]\/∃p∈wt,t <+: beg wt p.1/\t≠beg wt p.1)
 | _,t=>t=[]
theorem zsh(r:Room):TY r []:=by
 cases r with
 | names=>exact fun _ _=>.inl rfl
 | _=>exact rfl
def wrB:Room->Int
 | .menu _ _ wr _=>wr.1
 | .names _ _ wr _=>wr.1
 | _=>2
def waB:Room->Int
 | .menu _ _ _ wa=>wa.1
 | .names _ _ _ wa=>wa.1
 | _=>2
theorem RW.b{nms:List Str}{room:Room}(h:RW nms room):(1<=wrB room/\wrB room<=2)/\1<=waB room/\waB room<=2:=by
 cases room with
 | menu t ks wr wa=>exact⟨h.2.2.2.1,h.2.2.2.2⟩
 | names t ks wr wa=>exact⟨h.2.2.2.1,h.2.2.2.2⟩
 | _=>exact⟨⟨show (1:Int)<=2 by decide,Fs 2⟩,show (1:Int)<=2 by decide,Fs 2⟩
structure OK(h:House)(nms:List Str)(r b:Str)(room:Room)(w v:Int)(t:W):Prop where
 lk:FA.lookR h.rooms r=some room
 nh:∀sp l,room≠.hours sp l
 rn:r∈nms
 bn:b=""\/b∈nms
 tl:t.length<=50
 ty:TY room t
 hw:0<=w/\w<wrB room
 hv:0<=v/\v<waB room
section
variable{h : House}{nms ord : List Str}(hg : HG h nms ord)(hour : Int)
include hg
theorem hRo:gIx h.pv (.str "rooms")=some (zam h.rooms):=by simp[House.pv]
theorem zrp(r:Str)(room:Room)(lk:FA.lookR h.rooms r=some room):RW nms room:=by
 obtain⟨_,_,_,_,hw⟩:=hg.g.ok _ (ztr h.rooms r room lk);exact hw
theorem cm (x:Str) (hx:x∈nms):∃y room,comeGo h.rooms hour 20 x=some y/\∀b:Str,(b=""\/b∈nms)->OK h nms y b room 0 0 []:=by
 obtain⟨k,hk,ek⟩:=C5 (hg.nm x hx);obtain⟨y,r,ey,hr,hy,hh⟩:=zvf nms ord h.rooms hg.nd hg.g hg.all hour 20 k hk (by have:=hg.ol;omega)
 rw[ek] at ey;have bb:=(zrp hg y r hr).b;exact⟨y,r,ey,fun b hb=>⟨hr,hh,hg.mn y hy,hb,by simp,zsh r,⟨by omega,by omega⟩,⟨by omega,by omega⟩⟩⟩
theorem arr (x:Str) (hx:x∈nms) (b:Str) (hb:b=""\/b∈nms):∃y room,OK h nms y b room 0 0 []/\zb4 [h.pv,.int hour,.str x,.str b]=some (sT y b 0 0 []):=by
 obtain⟨y,room,e,ok⟩:=cm hg hour x hx;refine⟨y,room,ok b hb,?_⟩;have k:=Zbz h.pv h.rooms (hRo hg) hour 20 x y (by omega) e
 refine zan rfl ?_;have em:=zev;have u:sT y b 0 0 []=.tup [.str y,.str b,.int 0,.int 0,.str ""]:=by unfold sT;rw[← em]
 rw[u];simp[zkh,PU.start,k]
theorem wrong(r b:Str)(w v:Int)(t:W)(room:Room)(ok:OK h nms r b room w v t)(m:Int)(x:Str)(h3:gIx room.pv (.int 3)=some (.tup [.int m,.str x]))(hm:wrB room=m)(hx:x∈nms) :
  ∃r' b' w' v' room',OK h nms r' b' room' w' v' []/\zbq [h.pv,.int hour,sT r b w v t]=some (sT r' b' w' v' []):=by
 have n2:=FA.ix_rooms h.rooms r;rw[ok.lk] at n2;have n2:gIx (zam h.rooms) (.str r)=some room.pv:=n2;have hR:=hRo hg;have em:=zev;have u:∀r b w v,sT r b w v []=.tup [.str r,.str b,.int w,.int v,.str ""]:=fun r b w v=>by unfold sT;rw[← em]
 by_cases hw:w+1=m
 ·obtain⟨y,room',ok',e1⟩:=arr hg hour x hx r (.inr ok.rn)
  refine⟨y,r,0,0,room',ok',zan rfl ?_⟩;unfold sT at e1 ⊢;generalize mkS t=T at *;generalize room.pv=RP at *;generalize zam h.rooms=RM at *;generalize h.pv=H at *;simp[zdn,PU.start,hR,n2,h3,hw,e1]
 ·have hw1:=ok.hw
  refine⟨r,b,w+1,v,room,⟨ok.lk,ok.nh,ok.rn,ok.bn,by simp,zsh room,⟨by omega,by omega⟩,ok.hv⟩,zan rfl ?_⟩
  rw[u];unfold sT;generalize mkS t=T at *;generalize room.pv=RP at *;generalize zam h.rooms=RM at *;generalize h.pv=H at *;simp[zdn,PU.start,hR,n2,h3,hw]
theorem wait(r b:Str)(w v:Int)(t:W)(room:Room)(ok:OK h nms r b room w v t)(m:Int)(x:Str)(h3:gIx room.pv (.int 4)=some (.tup [.int m,.str x]))(hm:waB room=m)(hx:x∈nms) :
  ∃r' b' w' v' room',OK h nms r' b' room' w' v' []/\zh6 [h.pv,.int hour,sT r b w v t]=some (sT r' b' w' v' []):=by
 have n2:=FA.ix_rooms h.rooms r;rw[ok.lk] at n2;have n2:gIx (zam h.rooms) (.str r)=some room.pv:=n2;have hR:=hRo hg;have em:=zev;have u:∀r b w v,sT r b w v []=.tup [.str r,.str b,.int w,.int v,.str ""]:=fun r b w v=>by unfold sT;rw[← em]
 by_cases hw:v+1=m
 ·obtain⟨y,room',ok',e1⟩:=arr hg hour x hx r (.inr ok.rn)
  refine⟨y,r,0,0,room',ok',zan rfl ?_⟩;unfold sT at e1 ⊢;generalize mkS t=T at *;generalize room.pv=RP at *;generalize zam h.rooms=RM at *;generalize h.pv=H at *;simp[zh2,PU.start,hR,n2,h3,hw,e1]
 ·have hw1:=ok.hv
  refine⟨r,b,w,v+1,room,⟨ok.lk,ok.nh,ok.rn,ok.bn,by simp,zsh room,ok.hw,⟨by omega,by omega⟩⟩,zan rfl ?_⟩
  rw[u];unfold sT;generalize mkS t=T at *;generalize room.pv=RP at *;generalize zam h.rooms=RM at *;generalize h.pv=H at *;simp[zh2,PU.start,hR,n2,h3,hw]
end
theorem Zgr(a b:Nat):gEq (WO.sg a) (WO.sg b)=some (.bl (decide (a=b))):=by
 unfold WO.sg;rw[zv3]
 congr 2
 exact decide_eq_decide.mpr ⟨fun e=>by injection e with e;injection e with e;injection e,fun e=>by rw[e]⟩
theorem w_sg:PV.str "w"=WO.sg 119:=by kernel_rfl
theorem sg_w (c:Nat):gEq (WO.sg c) (.str "w")=some (.bl (decide (c=119))):=by rw[w_sg,Zgr]
section
variable{h : House}{nms ord : List Str}(hg : HG h nms ord)(hour : Int)
theorem zzt(r b:Str)(w v:Int)(t:W)(S D X:PV)(h1:zas [h.pv,.str r]=some D)(h2:zb7 [h.pv,.int hour,D,sT r b w v t,S]=some X):zn9 [h.pv,.int hour,sT r b w v t,S]=some X:=by
 have s0:gIx (sT r b w v t) (.int 0)=some (.str r):=rfl;generalize sT r b w v t=S at *;refine zan rfl ?_;simp[zuf,PU.start,s0,h1,h2]
include hg
structure Goes(h:House)(nms:List Str)(hour:Int)(D:PV)(st:PV)(c:Nat)(r' b':Str)(w' v':Int)(t':W)(room':Room):Prop where
 ok:OK h nms r' b' room' w' v' t'
 fo:zb7 [h.pv,.int hour,D,st,WO.sg c]=some (sT r' b' w' v' t')
theorem zqo (r b:Str) (w v:Int) (t:W) (room:Room) (ok:OK h nms r b room w v t) (c:Nat) (k:Str) (h0:gIx room.pv (.int 0)=some (.str k)) (hk:k="hand"\/k="end") (D:PV):Goes h nms hour D (sT r b w v t) c r b w v t room:=by
 have n2:=FA.ix_rooms h.rooms r;rw[ok.lk] at n2;have n2:gIx (zam h.rooms) (.str r)=some room.pv:=n2;have hR:=hRo hg;have s0:gIx (sT r b w v t) (.int 0)=some (.str r):=rfl;refine⟨ok,zan rfl ?_⟩;generalize sT r b w v t=S at *;generalize room.pv=RP at *;generalize zam h.rooms=RM at *;generalize h.pv=H at *;rcases hk with rfl | rfl
 ·simp[zes,PU.start,s0,hR,n2,h0]
 ·simp[zes,PU.start,s0,hR,n2,h0]
theorem zy5 (r b:Str) (w v:Int) (t:W) (room:Room) (ok:OK h nms r b room w v t) (k:Str) (h0:gIx room.pv (.int 0)=some (.str k)) (hk:k="menu"\/k="names") (m:Int) (x:Str) (h4:gIx room.pv (.int 4)=some (.tup [.int m,.str x])) (hm:waB room=m) (hx:x∈nms) (D:PV):∃r' b' w' v' t' room',Goes h nms hour D (sT r b w v t) 119 r' b' w' v' t' room':=by
 obtain⟨r',b',w',v',room',ok',e1⟩:=wait hg hour r b w v t room ok m x h4 hm hx;have n2:=FA.ix_rooms h.rooms r;rw[ok.lk] at n2;have n2:gIx (zam h.rooms) (.str r)=some room.pv:=n2;have hR:=hRo hg;have s0:gIx (sT r b w v t) (.int 0)=some (.str r):=rfl;have q:=sg_w 119;have cw:c_WAIT=.str "w":=rfl;refine⟨r',b',w',v',[],room',ok',zan rfl ?_⟩;generalize sT r b w v t=S at *;generalize sT r' b' w' v' []=S' at *;generalize room.pv=RP at *;generalize zam h.rooms=RM at *;generalize h.pv=H at *;generalize WO.sg 119=G at *;rcases hk with rfl | rfl
 ·simp[zes,PU.start,s0,hR,n2,h0,cw,q,e1]
 ·simp[zes,PU.start,s0,hR,n2,h0,cw,q,e1]
theorem zki (r b:Str) (w v:Int) (t:W) (room:Room) (ok:OK h nms r b room w v t) (k:Str) (h0:gIx room.pv (.int 0)=some (.str k)) (hk:k="menu"\/k="names") (D X:PV) (c:Nat) (hc:c≠119) (e:zd4 [h.pv,.int hour,D,sT r b w v t,WO.sg c]=some X):zb7 [h.pv,.int hour,D,sT r b w v t,WO.sg c]=some X:=by
 have n2:=FA.ix_rooms h.rooms r;rw[ok.lk] at n2;have n2:gIx (zam h.rooms) (.str r)=some room.pv:=n2;have hR:=hRo hg;have s0:gIx (sT r b w v t) (.int 0)=some (.str r):=rfl;have q:=sg_w c;rw[decide_eq_false hc] at q;have cw:c_WAIT=.str "w":=rfl;generalize sT r b w v t=S at *;generalize room.pv=RP at *;generalize zam h.rooms=RM at *;generalize h.pv=H at *;generalize WO.sg c=G at *;refine zan rfl ?_;rcases hk with rfl | rfl
 ·simp[zes,PU.start,s0,hR,n2,h0,cw,q,e]
 ·simp[zes,PU.start,s0,hR,n2,h0,cw,q,e]
end
section
variable{h : House}{nms ord : List Str}(hg : HG h nms ord)(hour : Int)
theorem zyy(r b:Str)(w v:Int)(t:W)(c:Nat)(ht:t.length<=100)(ks:List Key)(ps:List PV)(F:W->Option PV)(T:Tells ks ps F)(hF:F (t++[c])=none)(X:PV)(e:zbq [h.pv,.int hour,sT r b w v t]=some X):zd4 [h.pv,.int hour,.dct ks ps,sT r b w v t,WO.sg c]=some X:=by
 have ad:gAdd (.str (mkS t)) (WO.sg c)=some (.str (mkS (t++[c]))):=zg2 t c (by omega)
 have ni:=T.notIn (t++[c]);rw[hF] at ni;have ni:zg6 (.str (mkS (t++[c]))) (.dct ks ps)=some (.bl true):=ni;have s4:gIx (sT r b w v t) (.int 4)=some (.str (mkS t)):=rfl;generalize sT r b w v t=S at *;generalize PV.dct ks ps=D at *;generalize WO.sg c=G at *;generalize mkS (t++[c])=TT at *;generalize h.pv=H at *;refine zan rfl ?_;simp[zfs,PU.start,s4,ad,ni,e]
theorem Za2(r b:Str)(w v:Int)(t:W)(c:Nat)(ht:t.length<=100)(ks:List Key)(ps:List PV)(F:W->Option PV)(T:Tells ks ps F)(hF:F (t++[c])=some .non):zd4 [h.pv,.int hour,.dct ks ps,sT r b w v t,WO.sg c]=some (sT r b w v (t++[c])):=by
 have ad:gAdd (.str (mkS t)) (WO.sg c)=some (.str (mkS (t++[c]))):=zg2 t c (by omega)
 have ni:=T.notIn (t++[c]);have ix:=T.ix (t++[c]);rw[hF] at ni ix;have ni:zg6 (.str (mkS (t++[c]))) (.dct ks ps)=some (.bl false):=ni;have s0:gIx (sT r b w v t) (.int 0)=some (.str r):=rfl;have s1:gIx (sT r b w v t) (.int 1)=some (.str b):=rfl;have s2:gIx (sT r b w v t) (.int 2)=some (.int w):=rfl;have s3:gIx (sT r b w v t) (.int 3)=some (.int v):=rfl;have s4:gIx (sT r b w v t) (.int 4)=some (.str (mkS t)):=rfl;have q:gEq .non (.str "back")=some (.bl false):=rfl;have n:gIsN .non .non=some (.bl true):=rfl;generalize sT r b w v t=S at *;generalize PV.dct ks ps=D at *;generalize WO.sg c=G at *;unfold sT;generalize mkS (t++[c])=TT at *;generalize h.pv=H at *;refine zan rfl ?_;simp[zfs,PU.start,s0,s1,s2,s3,s4,ad,ni,ix,q,n]
theorem zyz (r b:Str) (w v:Int) (t:W) (c:Nat) (ht:t.length<=100) (ks:List Key) (ps:List PV) (F:W->Option PV) (T:Tells ks ps F) (x:Str) (hF:F (t++[c])=some (.str x)) (h1:x≠"back") (h2:x≠"") (X:PV) (e:zb4 [h.pv,.int hour,.str x,.str r]=some X):zd4 [h.pv,.int hour,.dct ks ps,sT r b w v t,WO.sg c]=some X:=by
 have ad:gAdd (.str (mkS t)) (WO.sg c)=some (.str (mkS (t++[c]))):=zg2 t c (by omega)
 have ni:=T.notIn (t++[c]);have ix:=T.ix (t++[c]);rw[hF] at ni ix;have ni:zg6 (.str (mkS (t++[c]))) (.dct ks ps)=some (.bl false):=ni;have s0:gIx (sT r b w v t) (.int 0)=some (.str r):=rfl;have s1:gIx (sT r b w v t) (.int 1)=some (.str b):=rfl;have s4:gIx (sT r b w v t) (.int 4)=some (.str (mkS t)):=rfl;have n:gIsN (.str x) .non=some (.bl false):=rfl;generalize sT r b w v t=S at *;generalize PV.dct ks ps=D at *;generalize WO.sg c=G at *;generalize mkS (t++[c])=TT at *;generalize h.pv=H at *;refine zan rfl ?_;simp[zfs,PU.start,s0,s1,s4,ad,ni,ix,h1,h2,n,e]
theorem zxb (r b:Str) (w v:Int) (t:W) (c:Nat) (ht:t.length<=100) (ks:List Key) (ps:List PV) (F:W->Option PV) (T:Tells ks ps F) (hF:F (t++[c])=some (.str "back")) (h2:b≠"") (X:PV) (e:zb4 [h.pv,.int hour,.str b,.str r]=some X):zd4 [h.pv,.int hour,.dct ks ps,sT r b w v t,WO.sg c]=some X:=by
 have ad:gAdd (.str (mkS t)) (WO.sg c)=some (.str (mkS (t++[c]))):=zg2 t c (by omega)
 have ni:=T.notIn (t++[c]);have ix:=T.ix (t++[c]);rw[hF] at ni ix;have ni:zg6 (.str (mkS (t++[c]))) (.dct ks ps)=some (.bl false):=ni;have s0:gIx (sT r b w v t) (.int 0)=some (.str r):=rfl;have s1:gIx (sT r b w v t) (.int 1)=some (.str b):=rfl;have s4:gIx (sT r b w v t) (.int 4)=some (.str (mkS t)):=rfl;have n:gIsN (.str b) .non=some (.bl false):=rfl;generalize sT r b w v t=S at *;generalize PV.dct ks ps=D at *;generalize WO.sg c=G at *;generalize mkS (t++[c])=TT at *;generalize h.pv=H at *;refine zan rfl ?_;simp[zfs,PU.start,s0,s1,s4,ad,ni,ix,h2,n,e]
theorem zpa (r:Str) (w v:Int) (t:W) (c:Nat) (ht:t.length<=100) (ks:List Key) (ps:List PV) (F:W->Option PV) (T:Tells ks ps F) (hF:F (t++[c])=some (.str "back")) (X:PV) (e:zbq [h.pv,.int hour,sT r "" w v t]=some X):zd4 [h.pv,.int hour,.dct ks ps,sT r "" w v t,WO.sg c]=some X:=by
 have ad:gAdd (.str (mkS t)) (WO.sg c)=some (.str (mkS (t++[c]))):=zg2 t c (by omega)
 have ni:=T.notIn (t++[c]);have ix:=T.ix (t++[c]);rw[hF] at ni ix;have ni:zg6 (.str (mkS (t++[c]))) (.dct ks ps)=some (.bl false):=ni;have s0:gIx (sT r "" w v t) (.int 0)=some (.str r):=rfl;have s1:gIx (sT r "" w v t) (.int 1)=some (.str ""):=rfl;have s4:gIx (sT r "" w v t) (.int 4)=some (.str (mkS t)):=rfl;have n:gIsN (.str "") .non=some (.bl false):=rfl;generalize sT r "" w v t=S at *;generalize PV.dct ks ps=D at *;generalize WO.sg c=G at *;generalize mkS (t++[c])=TT at *;generalize h.pv=H at *;refine zan rfl ?_;simp[zfs,PU.start,s0,s1,s4,ad,ni,ix,n,e]
def kw(kt:List (Nat×Str)):List (W×Str):=kt.map fun p=>([p.1],p.2)
def kF(kt:List (Nat×Str))(p:W):Option PV:=((kw kt).find? fun q=>decide (q.1=p)).map fun q=>.str q.2
theorem zih:∀(wt:List (W×Str)),Tells (wt.map fun p=>.inr (mkS p.1)) (wt.map fun p=>.str p.2) fun p=>(wt.find? fun q=>decide (q.1=p)).map fun q=>.str q.2
 | []=>⟨rfl,fun p=>rfl,by simp⟩
 | q::wt=>⟨by simp,fun p=>by
   rw[AE,AE,zjq]
   by_cases h:q.1=p
   ·rw[if_pos (by rw[h]),Gb (by simpa using h)]
    rfl
   ·rw[if_neg fun z=>h (mkS_inj (CT z)),DE (by simpa using h)]
    exact(zih wt).at_ p,fun x hx=>by
   obtain⟨p,_,rfl⟩:=AJ.mp hx;simp[noFn]⟩
theorem Za1(kt:List (Nat×Str))(c:Nat):kF kt [c]=(kt.find? fun q=>decide (q.1=c)).map fun q=>.str q.2:=by
 unfold kF kw;rw[List.find?_map,Option.map_map]
 have:((fun q:W×Str=>decide (q.1=[c])) ∘ fun p:Nat×Str=>([p.1],p.2))=fun q:Nat×Str=>decide (q.1=c):=by
  funext q
  simp
 rw[this];rfl
include hg in
theorem zj8(r:Str)(room:Room)(lk:FA.lookR h.rooms r=some room)(t:Str)(kt:List (Nat×Str))(wr wa:Int×Str)(hr:room=.menu t (kt.map mk2) wr wa)(hs:Cs (kt.map (·.1)) K12):zas [h.pv,.str r]=some (wtD (kw kt)):=by
 have n2:=FA.ix_rooms h.rooms r;rw[lk,hr] at n2;have n2:gIx (zam h.rooms) (.str r)=some (.tup [.str "menu",.str t,.tup ((kt.map mk2).map pv2),.tup [.int wr.1,.str wr.2],.tup [.int wa.1,.str wa.2]]):=n2;have hR:=hRo hg
 have e:PV.tup ((kt.map mk2).map pv2)=wtPv (kw kt):=by
  rw[zyt];unfold wtPv kw;rw[Am];rfl
 have kl:kt.length<=12:=by
  have h1:=hs.length_le;have h2:K12.length=12:=rfl;rw[AI] at h1;omega
 have d:=zu7 (kw kt) (by simp[kw];omega) (by
  unfold kw;rw[Am];have nd:=hs.nodup Zel;have:(H8 ((fun x:W×Str=>x.1) ∘ fun p:Nat×Str=>([p.1],p.2)) kt)=(kt.map (·.1)).map (fun c=>[c]):=by rw[Am];rfl
  rw[this]
  have inj:∀l:List Nat,l.Nodup->(l.map fun c=>[c]).Nodup:=by
   intro l
   induction l with
   | nil=>intro _;simp
   | cons a l ih=>
    intro h1;rw[Ay] at h1;rw[AE,Ay];refine⟨fun z=>?_,ih h1.2⟩
    obtain⟨b,hb,e⟩:=AJ.mp z;have:b=a:=by simpa using e
    subst this;exact h1.1 hb
  exact inj _ nd)
 rw[e] at n2;generalize wtPv (kw kt)=KP at *;generalize wtD (kw kt)=KD at *;generalize zam h.rooms=RM at *;generalize h.pv=H at *;refine zan rfl ?_;simp[zdm,PU.start,hR,n2,d]
include hg in
theorem zud(r b:Str)(w v:Int)(room:Room)(tt:W)(ok:OK h nms r b room w v tt)(t:Str)(ks:List (Str×Str))(wr wa:Int×Str)(hr:room=.menu t ks wr wa)(c:Nat)(hc:c≠119):∃D r' b' w' v' t' room',zas [h.pv,.str r]=some D/\Goes h nms hour D (sT r b w v tt) c r' b' w' v' t' room':=by
 have hw:=zrp hg r room ok.lk;rw[hr] at hw;obtain⟨⟨kt,rfl,hs,ht⟩,hwr,hwa,_,_⟩:=hw;have tt0:tt=[]:=by have:=ok.ty;rw[hr] at this;exact this
 subst tt0;have ew:=zj8 hg r room ok.lk t kt wr wa hr hs;have TL:=zih (kw kt);have TLf:∀c,((kw kt).find? fun q=>decide (q.1=[c])).map (fun q=>PV.str q.2)=(kt.find? fun q=>decide (q.1=c)).map fun q=>.str q.2:=Za1 kt
 have h0:gIx room.pv (.int 0)=some (.str "menu"):=by rw[hr];rfl
 have h3:gIx room.pv (.int 3)=some (.tup [.int wr.1,.str wr.2]):=by rw[hr];rfl
 obtain⟨r1,b1,w1,v1,room1,ok1,e1⟩:=wrong hg hour r b w v [] room ok wr.1 wr.2 h3 (by rw[hr];rfl) hwr
 cases hf:kt.find? fun q=>decide (q.1=c) with
 | none=>
  refine⟨_,r1,b1,w1,v1,[],room1,ew,ok1,zki hg hour r b w v [] room ok "menu" h0 (.inl rfl) _ _ c hc ?_⟩;exact zyy hour r b w v [] c (by simp) _ _ _ TL (by show ((kw kt).find? fun q=>decide (q.1=[c])).map (fun q=>PV.str q.2)=none;rw[TLf,hf];rfl) _ e1
 | some p=>
  have pm:=CK hf
  have hF:((kw kt).find? fun q=>decide (q.1=[]++[c])).map (fun q=>PV.str q.2)=some (.str p.2):=by
   show ((kw kt).find? fun q=>decide (q.1=[c])).map (fun q=>PV.str q.2)=_
   rw[TLf,hf];rfl
  by_cases hb:p.2=AN "back"
  ·by_cases hbb:b=AN ""
   ·subst hbb
    rw[hb] at hF;refine⟨_,r1,b1,w1,v1,[],room1,ew,ok1,zki hg hour r "" w v [] room ok "menu" h0 (.inl rfl) _ _ c hc ?_⟩;exact zpa hour r w v [] c (by simp) _ _ _ TL hF _ e1
   ·have hbn:b∈nms:=ok.bn.resolve_left hbb
    obtain⟨y,room2,ok2,a1⟩:=arr hg hour b hbn r (.inr ok.rn);rw[hb] at hF;refine⟨_,y,r,0,0,[],room2,ew,ok2,zki hg hour r b w v [] room ok "menu" h0 (.inl rfl) _ _ c hc ?_⟩;exact zxb hour r b w v [] c (by simp) _ _ _ TL hF hbb _ a1
  ·have hpn:p.2∈nms:=(ht p pm).resolve_left hb
   obtain⟨y,room2,ok2,a1⟩:=arr hg hour p.2 hpn r (.inr ok.rn);refine⟨_,y,r,0,0,[],room2,ew,ok2,zki hg hour r b w v [] room ok "menu" h0 (.inl rfl) _ _ c hc ?_⟩;exact zyz hour r b w v [] c (by simp) _ _ _ TL p.2 hF hb (hg.nb p.2 hpn).2 _ a1
end
theorem Zb2{a:W}(ha:a∈W8):(cdH LS5 a).length<=5/\1<=(cdH LS5 a).length:=by
 have:=zx9 a ha;simp[cdH,cdW];omega
structure WT(wt:List (W×Str))(nms:List Str):Prop where
 sb:Cs (wt.map (·.1)) W8
 ne:wt≠[]
 tn:∀p∈wt,p.2∈nms
section
variable{wt : List (W×Str)}{nms : List Str}(k : WT wt nms)
include k
theorem WT.w8:∀p∈wt,p.1∈W8:=fun p hp=>k.sb.subset (AJ.mpr ⟨p,hp,rfl⟩)
theorem WT.nd:(wt.map (·.1)).Nodup:=k.sb.nodup Zgi
theorem WT.len:wt.length<=8:=by
 have h1:=k.sb.length_le;have h2:W8.length<=8:=by decide
 rw[AI] at h1;omega
theorem WT.ok:∀p∈wt,p.1.length<=12/\∀c∈p.1,(WO.keyL LS5 c).isSome=true:=fun p hp=>⟨by have:=zx9 p.1 (k.w8 p hp);omega,Zd5 p.1 (k.w8 p hp)⟩
theorem WT.nc:(wt.map fun p=>cdH LS5 p.1).Nodup:=by
 have:((wt.map (·.1)).map (cdH LS5)).Nodup:=(k.sb.map (cdH LS5)).nodup Zhh;rw[Am] at this;exact this
theorem WT.bs:(∀x∈bsOf LS5 wt,x.1≠[])/\∀x∈bsOf LS5 wt,∀y∈bsOf LS5 wt,x.1 <+: y.1->x=y:=⟨Zh5,Zh4 Zhg (fun p hp=>(k.ok p hp).2) k.nc⟩
theorem WT.mem{p:W×Str}(hp:p∈wt):(beg wt p.1,p.2)∈bsOf LS5 wt:=AJ.mpr ⟨p,hp,rfl⟩
theorem WT.inv{x:W×Str}(hx:x∈bsOf LS5 wt):∃p∈wt,x=(beg wt p.1,p.2):=by
 obtain⟨p,hp,rfl⟩:=AJ.mp hx;exact⟨p,hp,rfl⟩
theorem WT.pre{p:W×Str}(hp:p∈wt):beg wt p.1 <+: cdH LS5 p.1:=by unfold beg;exact zmn _ _
theorem WT.bl{p:W×Str}(hp:p∈wt):(beg wt p.1).length<=5:=by
 have h1:=CJ (k.pre hp);have h2:=(Zb2 (k.w8 p hp)).1;omega
end
theorem zpv(b ty:W):b.take ty.length=ty ↔ ty <+: b:=⟨fun e=>by rw[← e];exact Cp _ _,fun e=>(D7.mp e).symm⟩
def fits(wt:List (W×Str))(ty:W)(q:W×Str):Bool:=decide ((beg wt q.1).take ty.length=ty)
theorem Zat:∀(a b:List (W×Str)),a.map mw2=b.map mw2->a=b:=by
 intro a
 induction a with
 | nil=>intro b e;cases b with | nil=>rfl | cons _ _=>cases e
 | cons x a ih=>
  intro b e;cases b with
  | nil=>cases e
  | cons y b=>
   rw[AE,AE] at e;injection e with e1 e2;have e3:x.1=y.1:=mkS_inj (show (mw2 x).1=(mw2 y).1 by rw[e1])
   have e4:x.2=y.2:=(show (mw2 x).2=(mw2 y).2 by rw[e1])
   rw[ih b e2,G8 e3 e4]
section
variable{h : House}{nms ord : List Str}(hg : HG h nms ord)(hour : Int)
include hg
theorem Zc8 (r:Str) (room:Room) (lk:FA.lookR h.rooms r=some room) (t:Str) (wt:List (W×Str)) (wr wa:Int×Str) (hr:room=.names t (wt.map mw2) wr wa):gIx (zam h.rooms) (.str r)=some (.tup [.str "names",.str t,wtPv wt,.tup [.int wr.1,.str wr.2],.tup [.int wa.1,.str wa.2]]):=by
 have n2:=FA.ix_rooms h.rooms r;rw[lk,hr] at n2;rw[← zys];exact n2
theorem zji(r:Str)(room:Room)(lk:FA.lookR h.rooms r=some room)(t:Str)(ks:List (Str×Str))(wr wa:Int×Str)(hr:room=.names t ks wr wa):∃wt,ks=wt.map mw2/\WT wt nms/\wr.2∈nms/\wa.2∈nms:=by
 have hw:=zrp hg r room lk;rw[hr] at hw;obtain⟨⟨wt,e,hs,hne,ht⟩,hwr,hwa,_,_⟩:=hw;exact⟨wt,e,⟨hs,hne,ht⟩,hwr,hwa⟩
theorem zfp(r:Str)(room:Room)(lk:FA.lookR h.rooms r=some room)(t:Str)(wt:List (W×Str))(wr wa:Int×Str)(hr:room=.names t (wt.map mw2) wr wa)(k:WT wt nms):∃ks ps,Tells ks ps (Ways (bsOf LS5 wt))/\zas [h.pv,.str r]=some (.dct ks ps):=by
 obtain⟨ks,ps,tl,e⟩:=zw5 LS5 wt (by have:=k.len;omega) k.ok k.nd
 have d:=zu7 wt (by have:=k.len;omega) k.nd
 have n2:=Zc8 hg r room lk t wt wr wa hr;have hR:=hRo hg;have hL:=hg.lets;refine⟨ks,ps,tl,zan rfl ?_⟩;generalize wtPv wt=WP at *;generalize wtD wt=WD at *;generalize WO.ltPv LS5=LL at *;generalize zam h.rooms=RM at *;generalize h.pv=H at *;simp[zdm,PU.start,hR,n2,hL,d,e]
theorem zrt(r b:Str)(w v:Int)(room:Room)(tt:W)(ok:OK h nms r b room w v tt)(t:Str)(ks:List (Str×Str))(wr wa:Int×Str)(hr:room=.names t ks wr wa)(c:Nat)(hc:c≠119):∃D r' b' w' v' t' room',zas [h.pv,.str r]=some D/\Goes h nms hour D (sT r b w v tt) c r' b' w' v' t' room':=by
 obtain⟨wt,rfl,k,hwr,hwa⟩:=zji hg r room ok.lk t ks wr wa hr;obtain⟨dk,dp,TL,ew⟩:=zfp hg r room ok.lk t wt wr wa hr k;have h0:gIx room.pv (.int 0)=some (.str "names"):=by rw[hr];rfl
 have h3:gIx room.pv (.int 3)=some (.tup [.int wr.1,.str wr.2]):=by rw[hr];rfl
 have tl:=ok.tl;obtain⟨b1,b2⟩:=k.bs;cases hf:wt.find? (fits wt (tt++[c])) with
 | none=>
  obtain⟨r1,bb1,w1,v1,room1,ok1,e1⟩:=wrong hg hour r b w v tt room ok wr.1 wr.2 h3 (by rw[hr];rfl) hwr
  refine⟨_,r1,bb1,w1,v1,[],room1,ew,ok1,zki hg hour r b w v tt room ok "names" h0 (.inr rfl) _ _ c hc ?_⟩;refine zyy hour r b w v tt c (by omega) _ _ _ TL ?_ _ e1
  refine zsa b1 fun x hx _ hp=>?_
  obtain⟨p,hp2,rfl⟩:=k.inv hx;have:=HR.mp hf p hp2;exact this (decide_eq_true ((zpv _ _).mpr hp))
 | some p=>
  have pm:=CK hf;have pf:fits wt (tt++[c]) p=true:=Fq hf;have pp:(tt++[c]) <+: beg wt p.1:=(zpv _ _).mp (of_decide_eq_true pf)
  by_cases hb:beg wt p.1=tt++[c]
  ·have hpn:=k.tn p pm
   obtain⟨y,room2,ok2,a1⟩:=arr hg hour p.2 hpn r (.inr ok.rn);refine⟨_,y,r,0,0,[],room2,ew,ok2,zki hg hour r b w v tt room ok "names" h0 (.inr rfl) _ _ c hc ?_⟩;refine zyz hour r b w v tt c (by omega) _ _ _ TL p.2 ?_ (hg.nb p.2 hpn).1 (hg.nb p.2 hpn).2 _ a1
   rw[← hb];exact zv0 b1 b2 (k.mem pm)
  ·have bl:=k.bl pm
   have ttl:=CJ pp;refine⟨_,r,b,w,v,tt++[c],room,ew,⟨ok.lk,ok.nh,ok.rn,ok.bn,by omega,?_,ok.hw,ok.hv⟩,zki hg hour r b w v tt room ok "names" h0 (.inr rfl) _ _ c hc ?_⟩
   ·rw[hr]
    intro wt' e';have:=Zat wt wt' e';subst this;exact .inr ⟨p,pm,pp,fun z=>hb z.symm⟩
   ·refine Za2 hour r b w v tt c (by omega) _ _ _ TL ?_
    exact zvz b1 b2 (k.mem pm) (by simp) pp (fun z=>hb z.symm)
theorem goes(r b:Str)(w v:Int)(room:Room)(tt:W)(ok:OK h nms r b room w v tt)(c:Nat):∃D r' b' w' v' t' room',zas [h.pv,.str r]=some D/\Goes h nms hour D (sT r b w v tt) c r' b' w' v' t' room':=by
 have n2:=FA.ix_rooms h.rooms r;rw[ok.lk] at n2;have n2:gIx (zam h.rooms) (.str r)=some room.pv:=n2;have hR:=hRo hg
 have plain:∀k:Str,gIx room.pv (.int 0)=some (.str k)->¬ k="menu"->¬ k="names"->zas [h.pv,.str r]=some (.dct [] []):=fun k h0 h1 h2=>by
  refine zan rfl ?_;generalize room.pv=RP at *;generalize zam h.rooms=RM at *;generalize h.pv=H at *;simp[zdm,PU.start,hR,n2,h0,h1,h2]
 cases hroom:room with
 | hours sp l=>exact absurd hroom (ok.nh sp l)
 | menu t ks wr wa=>
  by_cases hc:c=119
  ·subst hc
   have hw:=zrp hg r room ok.lk;rw[hroom] at hw;obtain⟨⟨kt,rfl,hs,ht⟩,hwr,hwa,_,_⟩:=hw;have ew:=zj8 hg r room ok.lk t kt wr wa hroom hs;obtain⟨r',b',w',v',t',room',B⟩:=zy5 hg hour r b w v tt room ok "menu" (by rw[hroom];rfl) (.inl rfl) wa.1 wa.2 (by rw[hroom];rfl) (by rw[hroom];rfl) hwa (wtD (kw kt))
   exact⟨_,r',b',w',v',t',room',ew,B⟩
  ·exact zud hg hour r b w v room tt ok t ks wr wa hroom c hc
 | names t ks wr wa=>
  by_cases hc:c=119
  ·subst hc
   obtain⟨wt,rfl,k,hwr,hwa⟩:=zji hg r room ok.lk t ks wr wa hroom;obtain⟨dk,dp,TL,ew⟩:=zfp hg r room ok.lk t wt wr wa hroom k;obtain⟨r',b',w',v',t',room',B⟩:=zy5 hg hour r b w v tt room ok "names" (by rw[hroom];rfl) (.inr rfl) wa.1 wa.2 (by rw[hroom];rfl) (by rw[hroom];rfl) hwa (.dct dk dp)
   exact⟨_,r',b',w',v',t',room',ew,B⟩
  ·exact zrt hg hour r b w v room tt ok t ks wr wa hroom c hc
 | hand t=>exact⟨_,r,b,w,v,tt,room,plain "hand" (by rw[hroom];rfl) (by simp) (by simp),zqo hg hour r b w v tt room ok c "hand" (by rw[hroom];rfl) (.inl rfl) _⟩
 | fin t=>exact⟨_,r,b,w,v,tt,room,plain "end" (by rw[hroom];rfl) (by simp) (by simp),zqo hg hour r b w v tt room ok c "end" (by rw[hroom];rfl) (.inr rfl) _⟩
theorem zzz(n:Str)(room:Room)(lk:FA.lookR h.rooms n=some room):∃D,zas [h.pv,.str n]=some D/\noFn D=true:=by
 have n2:=FA.ix_rooms h.rooms n;rw[lk] at n2;have n2:gIx (zam h.rooms) (.str n)=some room.pv:=n2;have hR:=hRo hg
 have plain:∀k:Str,gIx room.pv (.int 0)=some (.str k)->¬ k="menu"->¬ k="names"->zas [h.pv,.str n]=some (.dct [] []):=fun k h0 h1 h2=>by
  refine zan rfl ?_;generalize room.pv=RP at *;generalize zam h.rooms=RM at *;generalize h.pv=H at *;simp[zdm,PU.start,hR,n2,h0,h1,h2]
 have z:noFn (.dct [] [])=true:=by simp[noFn,zbp]
 cases hroom:room with
 | hours sp l=>exact⟨_,plain "hours" (by rw[hroom];rfl) (by simp) (by simp),z⟩
 | hand t=>exact⟨_,plain "hand" (by rw[hroom];rfl) (by simp) (by simp),z⟩
 | fin t=>exact⟨_,plain "end" (by rw[hroom];rfl) (by simp) (by simp),z⟩
 | menu t ks wr wa=>
  have hw:=zrp hg n room lk;rw[hroom] at hw;obtain⟨⟨kt,rfl,hs,ht⟩,hwr,hwa,_,_⟩:=hw;refine⟨_,zj8 hg n room lk t kt wr wa hroom hs,?_⟩;have:=(zgh _).mpr (zih (kw kt)).nf;simpa [wtD,noFn] using this
 | names t ks wr wa=>
  obtain⟨wt,rfl,k,hwr,hwa⟩:=zji hg n room lk t ks wr wa hroom;obtain⟨dk,dp,TL,ew⟩:=zfp hg n room lk t wt wr wa hroom k;refine⟨_,ew,?_⟩;have:=(zgh _).mpr TL.nf;simpa [noFn] using this
theorem zzl:∃WD,zby [h.pv]=some WD/\noFn WD=true/\∀r b room w v tt,OK h nms r b room w v tt->∀D,zas [h.pv,.str r]=some D->gIx WD (.str r)=some D:=by
 have rx:∀n∈FA.names h.rooms,∃D,zas [h.pv,.str n]=some D/\noFn D=true:=fun n hn=>by
  obtain⟨room,hr⟩:=FA.look_some h.rooms n hn;exact zzz hg n room hr
 obtain⟨ks,ps,e,g,nf⟩:=Zbf h.pv h.rooms (hRo hg) (by have:=hg.rl;omega) (fun n=>(zas [h.pv,.str n]).getD .non) (fun n hn=>by
  obtain⟨D,e,_⟩:=rx n hn;rw[e];rfl) (fun n hn=>by
  obtain⟨D,e,f⟩:=rx n hn;rw[e];exact f)
 refine⟨_,e,nf,fun r b room w v tt ok D hD=>?_⟩
 rw[g r (hg.all r (hg.nm r ok.rn)),hD];rfl
theorem zx0:∃y room,OK h nms y "" room 0 0 []/\zfu [h.pv,.int hour]=some (sT y "" 0 0 []):=by
 obtain⟨y,room,ok,e1⟩:=arr hg hour h.first hg.fst "" (.inl rfl);refine⟨y,room,ok,zan rfl ?_⟩;have hF:gIx h.pv (.str "first")=some (.str h.first):=by simp[House.pv]
 generalize h.pv=H at *;simp[zpg,PU.start,hF,e1]
end
structure St where
 r:Str
 b:Str
 w:Int
 v:Int
 t:W
deriving DecidableEq
def St.pv(s:St):PV:=sT s.r s.b s.w s.v s.t
def St.key(s:St):List Key:=[.inr s.r,.inr s.b,.inl s.w,.inl s.v,.inr (mkS s.t)]
theorem St.tk(s:St):toTK s.pv=some s.key:=rfl
theorem St.kinj{a b:St}(e:a.key=b.key):a=b:=by
 cases a;cases b;simp only[St.key,Cq,Sum.inr.injEq,Sum.inl.injEq,and_true] at e;obtain⟨h1,h2,h3,h4,h5⟩:=e;have h5:=mkS_inj h5;subst h1 h2 h3 h4 h5;rfl
theorem St.nf(s:St):noFn s.pv=true:=by simp[St.pv,sT,noFn,zbp]
def Ok(h:House)(nms:List Str)(s:St):Prop:=∃room,OK h nms s.r s.b room s.w s.v s.t
def S13:List Nat:=[48,49,50,51,52,53,54,55,56,57,42,35,119]
def cd(i:Nat):Nat:=S13.getD i 0
theorem zsu:zem (.str "0123456789*#w")=some ((AF 13).map fun i=>WO.sg (cd i)):=by kernel_rfl
def Nx(h:House)(nms:List Str)(hour:Int)(s:St)(i:Nat)(s':St):Prop:=Ok h nms s'/\∃D,zas [h.pv,.str s.r]=some D/\zb7 [h.pv,.int hour,D,s.pv,WO.sg (cd i)]=some s'.pv
open Classical in
noncomputable def lead(h:House)(nms:List Str)(hour:Int)(s:St)(i:Nat):St:=if e:∃s',Nx h nms hour s i s' then e.choose else s
def TL:List W:=W8.flatMap fun w=>(AF 6).map fun n=>(cdH LS5 w).take n
def univ (nms:List Str):List St:=nms.flatMap fun r=>(AN ""::nms).flatMap fun b=>[(0:Int),1].flatMap fun w=>[(0:Int),1].flatMap fun v=>TL.map fun t=>⟨r,b,w,v,t⟩
theorem znx{α β:Type}(f:α->List β)(n:Nat):∀l:List α,(∀x∈l,(f x).length=n)->(l.flatMap f).length=l.length * n
 | [],_=>by simp
 | x::l,h=>by
  rw[FN,Aw,h x (by simp),znx f n l fun y hy=>h y (by simp[hy]),An,Nat.add_mul]
  omega
theorem zv5(nms:List Str)(h:nms.length<=7):(univ nms).length<=19999:=by
 have hT:TL.length=36:=by decide +kernel
 have e:(univ nms).length=nms.length * ((nms.length+1) * (2 * (2 * 36))):=by
  unfold univ;refine znx _ _ _ fun r _=>?_
  refine(znx _ (2 * (2 * 36)) _ fun b _=>?_)
  refine(znx _ (2 * 36) _ fun w _=>?_)
  refine(znx _ 36 _ fun v _=>?_)
  rw[AI,hT]
 rw[e];have h2:nms.length * ((nms.length+1) * (2 * (2 * 36)))<=7 * ((7+1) * (2 * (2 * 36))):=Nat.mul_le_mul h (Nat.mul_le_mul (by omega) (AY _))
 omega
section
variable{h : House}{nms ord : List Str}(hg : HG h nms ord)(hour : Int)
include hg
theorem zv4(s:St)(hs:Ok h nms s):s∈univ nms:=by
 obtain⟨room,ok⟩:=hs;have bb:=(zrp hg s.r room ok.lk).b;have h1:=ok.hw;have h2:=ok.hv
 have ht:s.t∈TL:=by
  have z:([]:W)∈TL:=by decide +kernel
  have ty:=ok.ty;cases hroom:room with
  | names t ks wr wa=>
   obtain⟨wt,rfl,k,_,_⟩:=zji hg s.r room ok.lk t ks wr wa hroom;rw[hroom] at ty;rcases ty wt rfl with e | ⟨p,hp,h1,h2⟩
   ·rw[e];exact z
   ·have pre:=E9 h1 (k.pre hp)
    have l1:=CJ h1;have l2:=k.bl hp;refine DP.mpr ⟨p.1,k.w8 p hp,AJ.mpr ⟨s.t.length,B5.mpr (by omega),?_⟩⟩
    exact(D7.mp pre).symm
  | _=>
   rw[hroom] at ty;have ty:s.t=[]:=ty;rw[ty];exact z
 have hw:s.w=0\/s.w=1:=by omega
 have hv:s.v=0\/s.v=1:=by omega
 refine DP.mpr ⟨s.r,ok.rn,DP.mpr ⟨s.b,?_,DP.mpr ⟨s.w,?_,DP.mpr ⟨s.v,?_,AJ.mpr ⟨s.t,ht,rfl⟩⟩⟩⟩⟩
 ·rcases ok.bn with e | e
  ·rw[e];exact Ai
  ·exact Ah _ e
 ·rcases hw with e | e <;> simp[e]
 ·rcases hv with e | e <;> simp[e]
theorem zo8(s:St)(hs:Ok h nms s)(i:Nat):Nx h nms hour s i (lead h nms hour s i):=by
 have ex:∃s',Nx h nms hour s i s':=by
  obtain⟨room,ok⟩:=hs;obtain⟨D,r',b',w',v',t',room',e,g⟩:=goes hg hour s.r s.b s.w s.v room s.t ok (cd i);exact⟨⟨r',b',w',v',t'⟩,⟨room',g.ok⟩,D,e,g.fo⟩
 unfold lead;rw[dif_pos ex];exact ex.choose_spec
theorem zso(s:St)(hs:Ok h nms s)(i:Nat):zn9 [h.pv,.int hour,s.pv,WO.sg (cd i)]=some (lead h nms hour s i).pv:=by
 obtain⟨_,D,e1,e2⟩:=zo8 hg hour s hs i;exact zzt hour s.r s.b s.w s.v s.t _ D _ e1 e2
end
theorem Zb5(L:List PV)(st:PV):gIx (.lst (L++[st])) (.int (-1))=some st:=by
 show atI (L++[st]) (-1)=some st
 have e:ixN (L++[st]).length (-1)=some L.length:=by
  rw[Aw,Ej];unfold ixN;rw[if_neg (by omega)]
  first
   | (rw[if_pos (by omega)];congr 1;omega)
   | (simp;omega)
   | simp
 unfold atI;rw[e];simp
structure WD(h:House)(nms:List Str)(D:PV):Prop where
 eq:zby [h.pv]=some D
 nf:noFn D=true
 ix:∀s:St,Ok h nms s->∀X,zas [h.pv,.str s.r]=some X->gIx D (.str s.r)=some X
theorem Zcd{h:House}{nms ord:List Str}(hg:HG h nms ord):∃D,WD h nms D:=by
 obtain⟨D,h1,h2,h3⟩:=zzl hg;exact⟨D,h1,h2,fun s ⟨room,ok⟩ X hX=>h3 s.r s.b room s.w s.v s.t ok X hX⟩
section
variable{h : House}{nms ord : List Str}(hg : HG h nms ord)(hour : Int){D : PV}(hD : WD h nms D)
include hg hD
theorem foll(s:St)(hs:Ok h nms s)(i:Nat):∃X,gIx D (.str s.r)=some X/\zb7 [h.pv,.int hour,X,s.pv,WO.sg (cd i)]=some (lead h nms hour s i).pv:=by
 obtain⟨_,X,e1,e2⟩:=zo8 hg hour s hs i;exact⟨X,hD.ix s hs X e1,e2⟩
end
theorem ztx{n:Nat}{fe:PSt->R PV}{qs cs:List PV}{p:PV}(hl:qs.length=n)(h:fe ((qs++cs).map .val)=.ok p):lamR n fe qs cs=some p:=by
 unfold lamR;rw[if_pos hl,h]
theorem zqi(q:Str)(k:List Str)(sc:Scope)(e:Expr):(Za0 q k sc e).kept=k:=by
 cases e <;> rfl
theorem zoq{i:Nat}{fs:PSt->R (List PV)}{app:Lam->List PV->List PV->Option PV}{ρ:PSt}{L:Lam}{cs qs:List PV}{p:PV}(h:ρ[i]?=some (.val (.fn L cs)))(hq:fs ρ=.ok qs)(n1:zbp qs=true)(n2:zbp cs=true)(e:app L qs cs=some p):zkt i fs app ρ=.ok p:=by
 unfold zkt;rw[h];show (fs ρ >>= fun qs=>if zbp qs=true/\zbp cs=true then R.ofO (app L qs cs) else .no)=_
 rw[hq];show (if zbp qs=true/\zbp cs=true then R.ofO (app L qs cs) else .no)=_
 rw[if_pos ⟨n1,n2⟩,e];rfl
theorem app1(S G W_ T X:PV)(hour:Int)(H:PV)(r:Str)(h0:gIx S (.int 0)=some (.str r))(h1:gIx W_ (.str r)=some X)(h2:zb7 [H,.int hour,X,S,G]=some T):appL zbw [S,G] [W_,.int hour,H]=some T:=by
 unfold appL;rw[if_pos rfl];refine ztx rfl ?_;show zg0 [.val S,.val G,.val W_,.val (.int hour),.val H]=_;simp[zg0,h0,h1,h2]
theorem app2(S:PV):appL zbl [S] []=some (.bl false):=by
 unfold appL;rw[if_neg,if_pos rfl]
 ·exact ztx rfl rfl
 ·intro e
  have:=congrArg Lam.kept e;unfold zbw zbl at this;rw[zqi,zqi] at this;cases this
theorem ze8{α:Type}(f:α->PV)(l:List α)(h:∀x∈l,noFn (f x)=true):zbp (l.map f)=true:=(zgh _).mpr fun p hp=>by
 obtain⟨x,hx,rfl⟩:=AJ.mp hp;exact h x hx
theorem ztm(p:Str×Str):noFn (pv2 p)=true:=by simp[pv2,noFn,zbp]
theorem Zd1(p:Int×Int×Str):noFn (pv3 p)=true:=by simp[pv3,noFn,zbp]
theorem Zap(r:Room):noFn r.pv=true:=by
 cases r with
 | menu t ks wr wa=>simp[Room.pv,pvI,noFn,zbp,ze8 pv2 ks fun x _=>ztm x]
 | names t ks wr wa=>simp[Room.pv,pvI,noFn,zbp,ze8 pv2 ks fun x _=>ztm x]
 | hours sp l=>simp[Room.pv,noFn,zbp,ze8 pv3 sp fun x _=>Zd1 x]
 | hand t=>simp[Room.pv,noFn,zbp]
 | fin t=>simp[Room.pv,noFn,zbp]
theorem zw6(h:House):noFn h.pv=true:=by
 have h1:=ze8 pv2 h.letters fun x _=>ztm x
 have h2:=ze8 (fun r:Str×Room=>r.2.pv) h.rooms fun x _=>Zap x.2
 simp[House.pv,zam,noFn,zbp,h1,h2]
theorem zmf{ks:List (List Key)}{ps:List PV}{k:List Key}{v:PV}(h:(ks.any fun j=>decide (j=k))=false):putT ks ps k v=.dtt (ks++[k]) (ps++[v]):=by
 unfold putT;rw[h];rfl
theorem zop{i:Nat}{fk fv:PSt->R PV}{ρ:PSt}{ks:List (List Key)}{ps:List PV}{p kp:PV}{k:List Key}(h:ρ[i]?=some (.own (.dtt ks ps)))(hv:fv ρ=.ok p)(hk:fk ρ=.ok kp)(ht:toTK kp=some k)(hl:ks.length<16777216):zk0 i fk fv ρ=.ok (.next (ρ.set i (.own (putT ks ps k p)))):=by
 unfold zk0;rw[h];show (fv ρ >>= fun p=>fk ρ >>= fun kp=>R.ofO (toTK kp) >>= fun k=>if ks.length<16777216 then R.ok (Fl.next (ρ.set i (.own (putT ks ps k p)))) else R.no)=_
 rw[hv];show (fk ρ >>= fun kp=>R.ofO (toTK kp) >>= fun k=>if ks.length<16777216 then R.ok (Fl.next (ρ.set i (.own (putT ks ps k p)))) else R.no)=_
 rw[hk];show (R.ofO (toTK kp) >>= fun k=>if ks.length<16777216 then R.ok (Fl.next (ρ.set i (.own (putT ks ps k p)))) else R.no)=_
 rw[ht];exact if_pos hl
theorem Zhw(S0 F1 F2:PV)(KS:List (List Key))(PS FS:List PV)(d:Int)(NP SG T:PV)(c:Sl)(x x':Str)(k:List Key)
  (h1:zkt 1 (zac (bin2 (getV 6) (kI 0) gIx) (zac (getV 7) nilA)) appL [.val S0,.val F1,.val F2,.own (.dtt KS PS),.own (.lst FS),.val (.int d),.val NP,.val SG,c]=.ok T)
  (h2:∀KS PS FS,zkt 2 (zac (getV 8) nilA) appL [.val S0,.val F1,.val F2,.own (.dtt KS PS),.own (.lst FS),.val (.int d),.val NP,.val SG,.val T]=.ok (.bl false))
  (hk:toTK T=some k) (hx:gIx NP (.int 1)=some (.str x)) (ha:gAdd (.str x) SG=some (.str x')) (hl:KS.length<16777216) (hf:FS.length<16777216) :
  zbs [.val S0,.val F1,.val F2,.own (.dtt KS PS),.own (.lst FS),.val (.int d),.val NP,.val SG,c]=.ok (.next (if (KS.any fun j=>decide (j=k))=true then [.val S0,.val F1,.val F2,.own (.dtt KS PS),.own (.lst FS),.val (.int d),.val NP,.val SG,.val T] else [.val S0,.val F1,.val F2,.own (.dtt (KS++[k]) (PS++[.bl true])),.own (.lst (FS++[.tup [T,.str x']])),.val (.int d),.val NP,.val SG,.val T])):=by
 have ni:ziv T (.dtt KS PS)=some (.bl (!(KS.any fun j=>decide (j=k)))):=by
  show (toTK T).map _=_;rw[hk];rfl
 by_cases hh:(KS.any fun j=>decide (j=k))=true
 ·rw[if_pos hh]
  rw[hh] at ni;simp[zbs,h1,ni]
 ·have hh':(KS.any fun j=>decide (j=k))=false:=(DR _).mp hh
  rw[if_neg hh];rw[hh'] at ni
  have pt:zk0 3 (getV 8) (kB true) [.val S0,.val F1,.val F2,.own (.dtt KS PS),.own (.lst FS),.val (.int d),.val NP,.val SG,.val T]=.ok (.next [.val S0,.val F1,.val F2,.own (.dtt (KS++[k]) (PS++[.bl true])),.own (.lst FS),.val (.int d),.val NP,.val SG,.val T]):=by
   rw[zop (ks:=KS) (ps:=PS) (p:=.bl true) (kp:=T) (k:=k) rfl rfl rfl hk hl,zmf hh'];rfl
  have h3:=h2 (KS++[k]) (PS++[.bl true]) (FS++[.tup [T,.str x']]);simp[zbs,h1,ni,pt,hx,ha,hf,h3]
theorem zvr(x:List Nat)(c:Nat)(hx:x.length<=1000000):gAdd (.str (mkS x)) (.str ⟨#[c]⟩)=some (.str (mkS (x++[c]))):=by
 rw[zo3,zjs (by simp;omega),zj6]
def rowS(l:List Nat):Str:=mkS (l.map cd)
def zap(p:BF.Row St):PV:=.tup [p.1.pv,.str (rowS p.2)]
theorem zzy(r:List Nat)(i:Nat)(h:r.length<=100000):gAdd (.str (rowS r)) (WO.sg (cd i))=some (.str (rowS (r++[i]))):=by
 unfold rowS;rw[AW];exact zvr (r.map cd) (cd i) (by simp;omega)
def kL(found:List (BF.Row St)):List (List Key):=found.map fun p=>p.1.key
def tL(found:List (BF.Row St)):List PV:=found.map fun _=>PV.bl true
theorem zpr(found:List (BF.Row St))(s:St):((kL found).any fun j=>decide (j=s.key))=decide (s∈found.map (·.1)):=by
 rw[Di];simp only[kL,CN,EJ,CW,decide_eq_true_eq,AJ];constructor
 ·rintro⟨p,hp,e⟩
  exact⟨p,hp,St.kinj e⟩
 ·rintro⟨p,hp,e⟩
  exact⟨p,hp,by rw[e]⟩
abbrev frst(S0 F1 F2:PV)(found:List (BF.Row St))(d:Nat)(a b c:Sl):PSt:=[.val S0,.val F1,.val F2,.own (.dtt (kL found) (tL found)),.own (.lst (found.map zap)),.val (.int d),a,b,c]
abbrev F1(h:House)(hour:Int)(D:PV):PV:=.fn zbw [D,.int hour,h.pv]
abbrev F2:PV:=.fn zbl []
section
variable{h : House}{nms ord : List Str}(hg : HG h nms ord)(hour : Int){D : PV}(hD : WD h nms D)(S0 : PV)
include hg hD
theorem Zew(found:List (BF.Row St))(near:BF.Row St)(hn:Ok h nms near.1)(i d:Nat)(c:Sl)(hl:found.length<1000000)(hr:near.2.length<=100000) :
  zbs (frst S0 (F1 h hour D) F2 found d (.val (zap near)) (.val (WO.sg (cd i))) c)=.ok (.next (frst S0 (F1 h hour D) F2 (BF.inn (lead h nms hour) near found i) d (.val (zap near)) (.val (WO.sg (cd i))) (.val (lead h nms hour near.1 i).pv))):=by
 obtain⟨X,e1,e2⟩:=foll hg hour hD near.1 hn i;have n1:zbp [near.1.pv,WO.sg (cd i)]=true:=by simp[zbp,St.nf,WO.sg,noFn]
 have n2:zbp [D,.int hour,h.pv]=true:=by simp[zbp,hD.nf,zw6,noFn]
 have n3:zbp [(lead h nms hour near.1 i).pv]=true:=by simp[zbp,St.nf]
 have B:=Zhw S0 (F1 h hour D) F2 (kL found) (tL found) (found.map zap) d (zap near) (WO.sg (cd i)) (lead h nms hour near.1 i).pv c (rowS near.2) (rowS (near.2++[i])) (lead h nms hour near.1 i).key
  (zoq (L:=zbw) (cs:=[D,.int hour,h.pv]) (qs:=[near.1.pv,WO.sg (cd i)]) rfl rfl n1 n2 (app1 near.1.pv (WO.sg (cd i)) D _ X hour h.pv near.1.r rfl e1 e2))
  (fun KS PS FS=>zoq (L:=zbl) (cs:=[]) (qs:=[(lead h nms hour near.1 i).pv]) rfl rfl n3 rfl (app2 _))
  (St.tk _) rfl (zzy near.2 i hr) (by simp[kL];omega) (by simp;omega)
 rw[zpr] at B;unfold BF.inn
 by_cases hm:lead h nms hour near.1 i∈found.map (·.1)
 ·rw[if_pos hm]
  rw[if_pos (decide_eq_true hm)] at B;exact B
 ·rw[if_neg hm]
  rw[if_neg (by simpa using hm)] at B
  rw[B];simp only[frst,kL,tL,AW];rfl
theorem Zbd(lead:St->Nat->St)(near:BF.Row St)(found:List (BF.Row St))(i:Nat):(BF.inn lead near found i).length<=found.length+1:=by
 unfold BF.inn
 split
 ·omega
 ·simp
theorem zqq(near:BF.Row St)(hn:Ok h nms near.1)(d:Nat)(hr:near.2.length<=100000):∀(l:List Nat)(found:List (BF.Row St))(b c:Sl),found.length+l.length<1000000->∃b' c',
  forF (zai 7) zbs (l.map fun i=>WO.sg (cd i)) (frst S0 (F1 h hour D) F2 found d (.val (zap near)) b c)=.ok (.next (frst S0 (F1 h hour D) F2 (l.foldl (BF.inn (lead h nms hour) near) found) d (.val (zap near)) b' c'))
 | [],found,b,c,_=>⟨b,c,rfl⟩
 | i::l,found,b,c,hl=>by
  rw[An] at hl;have e1:=Zew hg hour hD S0 found near hn i d c (by omega) hr
  have il:=Zbd hg hD (lead h nms hour) near found i;obtain⟨b',c',e2⟩:=zqq near hn d hr l (BF.inn (lead h nms hour) near found i) (.val (WO.sg (cd i))) (.val (lead h nms hour near.1 i).pv) (by omega)
  refine⟨b',c',?_⟩;have e0:zai 7 (WO.sg (cd i)) (frst S0 (F1 h hour D) F2 found d (.val (zap near)) b c)=some (frst S0 (F1 h hour D) F2 found d (.val (zap near)) (.val (WO.sg (cd i))) c):=rfl;rw[AE,Bg];unfold forF;rw[e0];simp only[R.ofO_some,R.ok_bind,e1];exact e2
theorem Zhv(found:List (BF.Row St))(near:BF.Row St)(d:Nat)(hd:found[d]?=some near)(hn:Ok h nms near.1)(hr:near.2.length<=100000)(a b c:Sl)(hl:found.length<100000):∃b' c',
  zcv (frst S0 (F1 h hour D) F2 found d a b c)=.ok (.next (frst S0 (F1 h hour D) F2 (BF.sweep (lead h nms hour) near found) (d+1) (.val (zap near)) b' c')):=by
 obtain⟨b',c',e⟩:=zqq hg hour hD S0 near hn (d+1) hr (AF 13) found b c (by simp;omega)
 refine⟨b',c',?_⟩;have i0:atI (found.map zap) (d:Int)=some (zap near):=zbc rfl (by rw[AG,hd];rfl)
 have es:c_SIGNS=.str "0123456789*#w":=rfl;have it:=zsu;have ag:∀(A1 A2 A3 A4 A5 A6 A7 A8:Sl),augF 5 (kI 1) [A1,A2,A3,A4,A5,.val (.int d),A6,A7,A8]=.ok (.next [A1,A2,A3,A4,A5,.val (.int ((d+1:Nat):Int)),A6,A7,A8]):=fun _ _ _ _ _ _ _ _=>rfl
 have e:forF (zai 7) zbs ((AF 13).map fun i=>WO.sg (cd i)) [.val S0,.val (F1 h hour D),.val F2,.own (.dtt (kL found) (tL found)),.own (.lst (found.map zap)),.val (.int ((d+1:Nat):Int)),.val (zap near),b,c]=_:=e
 show _=R.ok (Fl.next (frst S0 (F1 h hour D) F2 ((AF 13).foldl (BF.inn (lead h nms hour) near) found) (d+1) (.val (zap near)) b' c'));rw[← e];simp only[frst];generalize F1 h hour D=G1 at *;generalize F2=G2 at *;generalize found.map zap=FS at *;generalize PV.dtt (kL found) (tL found)=KD at *;generalize zap near=NP at *;generalize (AF 13).map (fun i=>WO.sg (cd i))=SS at *
 simp[zcv,i0,ag,es,it]
noncomputable def tst:PSt->R Bool:=(andB (truF (bin2 (getV 5) (un1 (getO 4) gLen) gLt)) (notB (truF (zkt 2 (zac (bin2 (bin2 (getO 4) (un1 (kI 1) gNeg) gIx) (kI 0) gIx) nilA) appL))))
omit hg hD in
theorem Zev(G1:PV)(found:List (BF.Row St))(hne:found≠[])(d:Nat)(a b c:Sl):tst (frst S0 G1 F2 found d a b c)=.ok (decide (d<found.length)):=by
 by_cases hd:d<found.length
 ·obtain⟨f',p,rfl⟩:∃f' p,found=f'++[p]:=⟨found.dropLast,found.getLast hne,(List.dropLast_concat_getLast hne).symm⟩
  have l:gIx (.lst ((f'++[p]).map zap)) (.int (-1))=some (zap p):=by
   rw[AW];exact Zb5 (f'.map zap) (zap p)
  have ng:gNeg (.int 1)=some (.int (-1)):=rfl;have g0:gIx (zap p) (.int 0)=some p.1.pv:=rfl
  have cv:zkt 2 (zac (bin2 (bin2 (getO 4) (un1 (kI 1) gNeg) gIx) (kI 0) gIx) nilA) appL (frst S0 G1 F2 (f'++[p]) d a b c)=.ok (.bl false):=by
   refine zoq (L:=zbl) (cs:=[]) (qs:=[p.1.pv]) rfl ?_ (by simp[zbp,St.nf]) rfl (app2 _)
   simp only[frst];generalize (f'++[p]).map zap=FS at *;generalize zap p=NP at *;simp[ng,l,g0]
  have hd':(d:Int)<((f'++[p]).map zap).length:=by rw[AI];omega
  rw[decide_eq_true hd];simp only[frst] at cv ⊢;generalize (f'++[p]).map zap=FS at *;generalize PV.dtt (kL (f'++[p])) (tL (f'++[p]))=KD at *;simp[tst,hd',cv]
 ·rw[decide_eq_false hd]
  have hd':¬ (d:Int)<((found.map zap).length:Nat):=by rw[AI];omega
  simp only[frst];generalize found.map zap=FS at *;simp[tst,hd']
theorem zqp(s0:St)(U:List St)(hUl:U.length<=19999)(hU:∀found,BF.Inv (lead h nms hour) s0 found->∀p∈found,p.1∈U)(hP:∀found,BF.Inv (lead h nms hour) s0 found->∀p∈found,Ok h nms p.1):∀(n d:Nat)(found:List (BF.Row St))(a b c:Sl),BF.Inv (lead h nms hour) s0 found->(∀near,found[d]?=some near->∀p∈found,BF.lt p.2 (near.2++[0]))->d<=found.length->U.length<d+n->∃d' a' b' c',
  whF tst zcv n (frst S0 (F1 h hour D) F2 found d a b c)=.ok (.next (frst S0 (F1 h hour D) F2 (BF.bfs (lead h nms hour) n d found) d' a' b' c'))
 | 0,d,found,a,b,c,I,top,hd,hn=>by
  have:=BF.inv_len (lead h nms hour) s0 U hU I;omega
 | n+1,d,found,a,b,c,I,top,hd,hn=>by
  have hl:=BF.inv_len (lead h nms hour) s0 U hU I;have hne:found≠[]:=by obtain⟨tl,e⟩:=I.h0;rw[e];simp
  have ht:=Zev S0 (F1 h hour D) found hne d a b c;unfold whF BF.bfs;rw[ht];cases e:found[d]? with
  | none=>
   have:¬ d<found.length:=by have:=BL.mp e;omega
   rw[decide_eq_false this];exact⟨d,a,b,c,rfl⟩
  | some near=>
   have hdl:d<found.length:=(AA.mp e).1;rw[decide_eq_true hdl];have nm:near∈found:=AS e;obtain⟨b',c',eb⟩:=Zhv hg hour hD S0 found near d e (hP found I near nm) (by have:=I.len d near e;omega) a b c (by omega)
   obtain⟨I2,⟨tl,e2⟩,t2⟩:=BF.sweep_keep (lead h nms hour) s0 I e (top near e);obtain⟨d',a2,b2,c2,ew⟩:=zqp s0 U hUl hU hP n (d+1) (BF.sweep (lead h nms hour) near found) (.val (zap near)) b' c' I2 t2 (by rw[e2,Aw];omega) (by omega)
   refine⟨d',a2,b2,c2,?_⟩;rw[R.ok_bind,if_pos rfl,eb,R.ok_bind];exact ew
end
structure Found(h:House)(nms:List Str)(hour:Int)(s0:St)(found:List (BF.Row St)):Prop where
 inv:BF.Inv (lead h nms hour) s0 found
 cl:∀p∈found,∀i<13,BF.Cl (lead h nms hour) found p i
 ok:∀p∈found,Ok h nms p.1
 ln:found.length<=19999
section
variable{h : House}{nms ord : List Str}(hg : HG h nms ord)(hour : Int)
include hg
theorem zxz:∃s0:St,Ok h nms s0/\zfu [h.pv,.int hour]=some s0.pv:=by
 obtain⟨y,room,ok,e⟩:=zx0 hg hour;exact⟨⟨y,"",0,0,[]⟩,⟨room,ok⟩,e⟩
theorem Zc7(p:BF.Row St):noFn (zap p)=true:=by simp[zap,noFn,zbp,St.nf]
theorem zs6(s0:St)(h0:Ok h nms s0)(hb:zfu [h.pv,.int hour]=some s0.pv):∃found,Found h nms hour s0 found/\zcx [h.pv,.int hour]=some (.lst (found.map zap)):=by
 obtain⟨D,hD⟩:=Zcd hg;have hP:∀found,BF.Inv (lead h nms hour) s0 found->∀p∈found,Ok h nms p.1:=BF.inv_P _ s0 (Ok h nms) h0 fun s hs i _=>(zo8 hg hour s hs i).1
 have hU:∀found,BF.Inv (lead h nms hour) s0 found->∀p∈found,p.1∈univ nms:=fun found I p hp=>zv4 hg p.1 (hP found I p hp)
 have hUl:=zv5 nms hg.nl;obtain⟨J1,J2⟩:=BF.bfs_all (lead h nms hour) s0 (univ nms) 20000 (by omega) hU
 obtain⟨d',a',b',c',ew⟩:=zqp hg hour hD s0.pv s0 (univ nms) hUl hU hP 20000 0 [(s0,[])] .no .no .no (BF.inv_0 _ s0) (fun near e=>BF.top_0 s0 near e) (by simp) (by omega)
 have hl:=BF.inv_len (lead h nms hour) s0 (univ nms) hU J1;refine⟨BF.bfs (lead h nms hour) 20000 0 [(s0,[])],⟨J1,J2,hP _ J1,by omega⟩,?_⟩
 have nfl:noFn (.lst ((BF.bfs (lead h nms hour) 20000 0 [(s0,[])]).map zap))=true:=by
  have:=ze8 zap (BF.bfs (lead h nms hour) 20000 0 [(s0,[])]) fun p _=>Zc7 hg p
  simpa [noFn] using this
 have r0:zap (s0,[])=.tup [s0.pv,.str ""]:=by
  unfold zap rowS;rw[zev];rfl
 have tk:=s0.tk;have ew:whF tst zcv 20000 [.val s0.pv,.val (F1 h hour D),.val F2,.own (.dtt [s0.key] [.bl true]),.own (.lst [zap (s0,[])]),.val (.int 0),.no,.no,.no]=.ok (.next [.val s0.pv,.val (F1 h hour D),.val F2,.own (.dtt (kL (BF.bfs (lead h nms hour) 20000 0 [(s0,[])])) (tL (BF.bfs (lead h nms hour) 20000 0 [(s0,[])]))),.own (.lst ((BF.bfs (lead h nms hour) 20000 0 [(s0,[])]).map zap)),.val (.int d'),a',b',c']):=ew;rw[r0] at ew
 have dt:zxt (getV 0) (kB true) [.val s0.pv,.val (F1 h hour D),.val F2,.no,.no,.no,.no,.no,.no]=.ok (.dtt [s0.key] [.bl true]):=by
  unfold zxt;rw[show getV 0 [.val s0.pv,.val (F1 h hour D),.val F2,.no,.no,.no,.no,.no,.no]=.ok s0.pv from rfl];simp only[R.ok_bind,x_kB,tk,R.ofO_some]
 have snf:=s0.nf;have hW:=hD.eq;generalize (BF.bfs (lead h nms hour) 20000 0 [(s0,[])]).map zap=FS at *;generalize PV.dtt (kL (BF.bfs (lead h nms hour) 20000 0 [(s0,[])])) (tL (BF.bfs (lead h nms hour) 20000 0 [(s0,[])]))=KD at *
 have fr:zdq [s0.pv,F1 h hour D,F2]=some (.lst FS):=by
  refine zwf rfl ?_;unfold tst at ew;generalize F1 h hour D=G1 at *;generalize F2=G2 at *;generalize PV.dtt [s0.key] [.bl true]=K0 at *;generalize s0.pv=S at *;simp[zgq,PU.start,dt];rw[ew];simp
 have ca:capL [.val h.pv,.val (.int hour),.val D] [2,1,0]=.ok [D,.int hour,h.pv]:=rfl
 have fa:(valA (zaz (zac (getV 0) (zac (getV 1) nilA)) zfu) (lamA zbw [2,1,0] (lamA zbl [] nilA))) [.val h.pv,.val (.int hour),.val D]=.ok [s0.pv,F1 h hour D,F2]:=by
  unfold valA;rw[show zaz (zac (getV 0) (zac (getV 1) nilA)) zfu [.val h.pv,.val (.int hour),.val D]=.ok s0.pv by simp[hb]]
  simp only[R.ok_bind,snf,if_true];rfl
 have cl:zq3 (valA (zaz (zac (getV 0) (zac (getV 1) nilA)) zfu) (lamA zbw [2,1,0] (lamA zbl [] nilA))) zdq [.val h.pv,.val (.int hour),.val D]=.ok (.lst FS):=by
  unfold zq3;rw[fa];simp only[R.ok_bind,fr,R.ofO_some,nfl,if_true]
 refine zan rfl ?_;generalize h.pv=H at *;simp[zmv,PU.start,hW,cl]
end
def zc3:List (BF.Row St)->St->Nat
 | [],_=>0
 | p::f,s=>if p.1=s then 0 else zc3 f s+1
theorem zyn:∀(f:List (BF.Row St))(s:St),s∈f.map (·.1)->∃p,f[zc3 f s]?=some p/\p.1=s
 | [],_,h=>by simp at h
 | p::f,s,h=>by
  unfold zc3
  by_cases e:p.1=s
  ·rw[if_pos e]
   exact⟨p,rfl,e⟩
  ·rw[if_neg e]
   rw[AE] at h;rcases AU.mp h with z | z
   ·exact absurd z.symm e
   ·exact zyn f s z
theorem zym{f:List (BF.Row St)}{s:St}(h:s∈f.map (·.1)):zc3 f s<f.length:=by
 obtain⟨p,e,_⟩:=zyn f s h;exact(AA.mp e).1
def nums:Nat->List (BF.Row St)->List PV
 | _,[]=>[]
 | o,_::f=>.int o::nums (o+1) f
theorem znq:∀(f:List (BF.Row St))(o:Nat)(p:BF.Row St),nums o (f++[p])=nums o f++[.int ((o+f.length:Nat):Int)]
 | [],o,p=>rfl
 | q::f,o,p=>by
  show PV.int o::nums (o+1) (f++[p])=_;rw[znq f (o+1) p,An,show o+1+f.length=o+(f.length+1) by omega]
  rfl
theorem znr:∀(f:List (BF.Row St))(o:Nat)(s:St),s∈f.map (·.1)->zk1 (kL f) (nums o f) s.key=some (.int ((o+zc3 f s:Nat):Int))
 | [],_,_,h=>by simp at h
 | p::f,o,s,h=>by
  show (if p.1.key=s.key then some (PV.int (o:Int)) else zk1 (kL f) (nums (o+1) f) s.key)=_
  unfold zc3
  by_cases e:p.1=s
  ·rw[if_pos (by rw[e]),if_pos e]
   rfl
  ·rw[if_neg fun z=>e (St.kinj z),if_neg e]
   rw[AE] at h;rcases AU.mp h with z | z
   ·exact absurd z.symm e
   ·rw[znr f (o+1) s z,show o+1+zc3 f s=o+(zc3 f s+1) by omega]
def enI(x:Nat×BF.Row St):PV:=.tup [.int x.1,zap x.2]
theorem zy9:∀(l:List Nat)(f:List (BF.Row St)),(l.zipWith (fun (i:Nat) p=>[PV.int (i:Int),p]) (f.map zap)).map PV.tup=(l.zip f).map enI
 | [],_=>by simp
 | _::_,[]=>by simp
 | i::l,p::f=>by
  rw[AE,Bp,AE,zy9 l f,Dp,AE];rfl
theorem Ze2(f:List (BF.Row St)):zod (.lst (f.map zap))=some (((AF f.length).zip f).map enI):=by
 have:=zy9 (AF f.length) f;rw[← this];show some ((numP (f.map zap)).map PV.tup)=_;unfold numP;rw[AI]
theorem zr7{f:List (BF.Row St)}{pre post:List (Nat×BF.Row St)}{x:Nat×BF.Row St}(e:(AF f.length).zip f=pre++x::post):x.1=pre.length/\f=pre.map (·.2)++x.2::post.map (·.2):=by
 have h1:((AF f.length).zip f).map (·.1)=AF f.length:=Fe (by simp)
 have h2:((AF f.length).zip f).map (·.2)=f:=DQ (by simp)
 rw[e] at h1 h2;refine⟨?_,?_⟩
 ·rw[AW,AE] at h1
  have:(AF f.length)[pre.length]?=some x.1:=by
   rw[← h1,As (by simp)]
   simp
  obtain⟨q,q2⟩:=AA.mp this;rw[List.getElem_range] at q2;exact q2.symm
 ·rw[AW,AE] at h2
  exact h2.symm
theorem Zcr{T:PV}{k:List Key}(KS:List (List Key))(PS:List PV)(hk:toTK T=some k):gIxT (.dtt KS PS) T=zk1 KS PS k:=by
 show (toTK T).bind _=_;rw[hk];rfl
noncomputable def nxt(h:House)(nms:List Str)(hour:Int)(found:List (BF.Row St))(p:BF.Row St):List Int:=(AF 13).map fun i=>((zc3 found (lead h nms hour p.1 i):Nat):Int)
section
variable{h : House}{nms ord : List Str}(hg : HG h nms ord)(hour : Int){s0 : St}{found : List (BF.Row St)}(F : Found h nms hour s0 found)
include hg F
theorem zvi(p:BF.Row St)(hp:p∈found)(i:Nat)(hi:i<13):lead h nms hour p.1 i∈found.map (·.1):=by
 obtain⟨q,hq,e,_⟩:=F.cl p hp i hi;exact AJ.mpr ⟨q,hq,e⟩
abbrev npst(h:House)(hour:Int)(found:List (BF.Row St))(D:PV)(s4 a b s7 c d:Sl):PSt:=[.val h.pv,.val (.int hour),.val (.lst (found.map zap)),.val D,s4,a,b,s7,c,d]
theorem np1(D:PV):∃a b,forF (tupT 2 (zat (zai 5) (zat (zai 6) nilT))) zdj (((AF found.length).zip found).map enI) (npst h hour found D (.own (.dtt [] [])) .no .no .no .no .no)=.ok (.next (npst h hour found D (.own (.dtt (kL found) (nums 0 found))) a b .no .no .no)):=by
 obtain⟨ρ',f1,a,b,rfl⟩:=forM (enc:=enI) (xs:=(AF found.length).zip found) (h:=tupT 2 (zat (zai 5) (zat (zai 6) nilT))) (g:=zdj) (ρ:=npst h hour found D (.own (.dtt [] [])) .no .no .no .no .no)
  (I:=fun pre ρ=>∃a b,ρ=npst h hour found D (.own (.dtt (kL (pre.map (·.2))) (nums 0 (pre.map (·.2))))) a b .no .no .no) ⟨_,_,rfl⟩ (by
   rintro pre x post ρ hx ⟨a,b,rfl⟩;obtain⟨hi,hf⟩:=zr7 hx;obtain⟨i,p⟩:=x;have hi:i=pre.length:=hi;have hf:found=pre.map (·.2)++p::post.map (·.2):=hf
   have fresh:p.1 ∉ (pre.map (·.2)).map (·.1):=fun z=>by
    have nd:=F.inv.nd;rw[hf,AW,AE,BK] at nd;exact nd.2.2 p.1 z p.1 (by simp) rfl
   have hany:((kL (pre.map (·.2))).any fun j=>decide (j=p.1.key))=false:=by
    rw[zpr];exact decide_eq_false fresh
   have hlen:=F.ln;have hpl:pre.length<found.length:=by rw[hf];simp
   refine⟨npst h hour found D (.own (.dtt (kL (pre.map (·.2))) (nums 0 (pre.map (·.2))))) (.val (.int i)) (.val (zap p)) .no .no .no,npst h hour found D (.own (.dtt (kL ((pre++[(i,p)]).map (·.2))) (nums 0 ((pre++[(i,p)]).map (·.2))))) (.val (.int i)) (.val (zap p)) .no .no .no,rfl,.inl ?_,_,_,rfl⟩;unfold zdj;rw[zop (ks:=kL (pre.map (·.2))) (ps:=nums 0 (pre.map (·.2))) (p:=.int i) (kp:=p.1.pv) (k:=p.1.key) rfl rfl rfl p.1.tk (by simp[kL];omega),zmf hany]
   have:nums 0 ((pre++[(i,p)]).map (·.2))=nums 0 (pre.map (·.2))++[.int i]:=by
    rw[AW];show nums 0 (pre.map (·.2)++[p])=_;rw[znq,AI,Ed,hi]
   rw[this];simp only[kL,AW];rfl)
 have h2:((AF found.length).zip found).map (·.2)=found:=DQ (by simp)
 rw[h2] at f1;exact⟨a,b,f1⟩
theorem ztl{D:PV}(hD:WD h nms D)(p:BF.Row St)(hp:p∈found):∀l:List Nat,(∀i∈l,i<13)->zci (zai 0) yesB zdi [.no,.val (.dtt (kL found) (nums 0 found)),.val h.pv,.val (.int hour),.val p.1.pv,.val D] (l.map fun i=>WO.sg (cd i))=.ok (l.map fun i=>PV.int ((zc3 found (lead h nms hour p.1 i):Nat):Int))
 | [],_=>rfl
 | i::l,hl=>by
  have ih:=ztl hD p hp l fun j hj=>hl j (by simp[hj])
  have hi:=hl i (by simp)
  obtain⟨X,e1,e2⟩:=foll hg hour hD p.1 (F.ok p hp) i
  have ix:gIxT (.dtt (kL found) (nums 0 found)) (lead h nms hour p.1 i).pv=some (.int ((zc3 found (lead h nms hour p.1 i):Nat):Int)):=by
   rw[Zcr _ _ (St.tk _),znr found 0 _ (zvi hg hour F p hp i hi),Ed]
  have g0:gIx p.1.pv (.int 0)=some (.str p.1.r):=rfl
  have ee:zdi [.val (WO.sg (cd i)),.val (.dtt (kL found) (nums 0 found)),.val h.pv,.val (.int hour),.val p.1.pv,.val D]=.ok (.int ((zc3 found (lead h nms hour p.1 i):Nat):Int)):=by
   generalize (lead h nms hour p.1 i).pv=S' at *;generalize zc3 found (lead h nms hour p.1 i)=PO at *;generalize PV.dtt (kL found) (nums 0 found)=KD at *;generalize WO.sg (cd i)=G at *;generalize p.1.pv=S at *;generalize h.pv=H at *;simp[zdi,g0,e1,e2,ix]
  rw[AE];unfold zci;rw[show zai 0 (WO.sg (cd i)) [.no,.val (.dtt (kL found) (nums 0 found)),.val h.pv,.val (.int hour),.val p.1.pv,.val D]=some [.val (WO.sg (cd i)),.val (.dtt (kL found) (nums 0 found)),.val h.pv,.val (.int hour),.val p.1.pv,.val D] from rfl];simp only[R.ofO_some,R.ok_bind,zx5,if_true,ee,ih];rfl
theorem np2{D:PV}(hD:WD h nms D)(a b:Sl):∃s4 c d,forF (tupT 2 (zat (zai 8) (zat (zai 9) nilT))) zcd (found.map zap) (npst h hour found D (.own (.dtt (kL found) (nums 0 found))) a b (.own (.lst [])) .no .no)=.ok (.next (npst h hour found D s4 a b (.own (.lst (found.map fun p=>jP (nxt h nms hour found p)))) c d)):=by
 obtain⟨ρ',f1,s4,c,d,rfl,_⟩:=forM (enc:=zap) (xs:=found) (h:=tupT 2 (zat (zai 8) (zat (zai 9) nilT))) (g:=zcd) (ρ:=npst h hour found D (.own (.dtt (kL found) (nums 0 found))) a b (.own (.lst [])) .no .no)
  (I:=fun pre ρ=>∃s4 c d,ρ=npst h hour found D s4 a b (.own (.lst (pre.map fun p=>jP (nxt h nms hour found p)))) c d/\(s4=.own (.dtt (kL found) (nums 0 found))\/s4=.val (.dtt (kL found) (nums 0 found)))) ⟨_,_,_,rfl,.inl rfl⟩ (by
   rintro pre p post ρ hx ⟨s4,c,d,rfl,hs4⟩;have pm:p∈found:=by rw[hx];simp
   have hlen:=F.ln;have hpl:pre.length<found.length:=by rw[hx];simp
   have ec:=ztl hg hour F hD p pm (AF 13) fun i hi=>B5.mp hi
   have es:c_SIGNS=.str "0123456789*#w":=rfl;have it:=zsu;have z:(pre.map fun p=>jP (nxt h nms hour found p)).length<16777216:=by simp;omega
   have z13:((AF 13).map fun i=>PV.int ((zc3 found (lead h nms hour p.1 i):Nat):Int)).length<=16777216:=by simp
   have nx:PV.lst ((AF 13).map fun i=>PV.int ((zc3 found (lead h nms hour p.1 i):Nat):Int))=jP (nxt h nms hour found p):=by
    unfold jP nxt;rw[Am];rfl
   refine⟨npst h hour found D s4 a b (.own (.lst (pre.map fun p=>jP (nxt h nms hour found p)))) (.val p.1.pv) (.val (.str (rowS p.2))),npst h hour found D (.val (.dtt (kL found) (nums 0 found))) a b (.own (.lst ((pre++[p]).map fun p=>jP (nxt h nms hour found p)))) (.val p.1.pv) (.val (.str (rowS p.2))),rfl,.inl ?_,_,_,_,rfl,.inr rfl⟩
   rw[AW,FB,← nx];generalize ((AF 13).map fun i=>PV.int ((zc3 found (lead h nms hour p.1 i):Nat):Int))=R13 at *
   simp only[npst];generalize (pre.map fun p=>jP (nxt h nms hour found p))=PN at *
   generalize PV.dtt (kL found) (nums 0 found)=KD at *;generalize (AF 13).map (fun i=>WO.sg (cd i))=SS at *
   generalize found.map zap=FS at *;generalize p.1.pv=S at *;generalize h.pv=H at *;rcases hs4 with rfl | rfl
   ·simp[zcd,es,it,zbh,roS,ec,z13,z]
   ·simp[zcd,es,it,zbh,roS,ec,z13,z])
 exact⟨s4,c,d,f1⟩
theorem Zaq:zd3 [h.pv,.int hour,.lst (found.map zap)]=some (.lst (found.map fun p=>jP (nxt h nms hour found p))):=by
 obtain⟨D,hD⟩:=Zcd hg;obtain⟨a,b,l1⟩:=np1 hg hour F D;obtain⟨s4,c,d,l2⟩:=np2 hg hour F hD a b;have en:=Ze2 found;have it:zem (.lst (found.map zap))=some (found.map zap):=rfl;have hW:=hD.eq;refine zan rfl ?_;simp only[npst] at l1 l2;generalize (found.map fun p=>jP (nxt h nms hour found p))=NX at *
 generalize PV.dtt (kL found) (nums 0 found)=KD at *;generalize ((AF found.length).zip found).map enI=EN at *;generalize hFS:found.map zap=FS at *;generalize h.pv=H at *;simp[zfr,PU.start,hW,newT,en];rw[l1];simp[it];rw[l2];simp
end
theorem zye(k:Nat):∀(js:List Int)(M:Nat)(pss:List (List Int)),(∀j∈js,0<=j/\j<pss.length)->(∀l∈pss,l.length<=M)->M+js.length<16777216->∃q,rowB k js pss=some q/\q.length=pss.length/\(∀l∈q,l.length<=M+js.length)/\∀(m:Nat)(x:Int),x∈q.getD m [] ↔ x∈pss.getD m []\/(x=(k:Int)/\(m:Int)∈js/\m<pss.length)
 | [],M,pss,_,hl,_=>⟨pss,rfl,rfl,by simpa using hl,fun m x=>by simp⟩
 | j::r,M,pss,hj,hl,hM=>by
  obtain⟨h0,h1⟩:=hj j (by simp)
  have hlt:j.toNat<pss.length:=by omega
  obtain⟨l,el⟩:∃l,pss[j.toNat]?=some l:=⟨_,AX hlt⟩;have ll:=hl l (AS el);rw[An] at hM
  have ep:putB k pss j=some (pss.set j.toNat (l++[(k:Int)])):=by
   unfold putB;rw[if_pos h0,el];exact if_pos (by omega)
  obtain⟨q,e,q1,q2,q3⟩:=zye k r (M+1) (pss.set j.toNat (l++[(k:Int)])) (fun i hi=>by rw[Cb];exact hj i (by simp[hi])) (fun m hm=>by
   rcases List.mem_or_eq_of_mem_set hm with h | h
   ·have:=hl m h;omega
   ·rw[h];simp;omega) (by omega)
  refine⟨q,by show (putB k pss j).bind (rowB k r)=_;rw[ep];exact e,by rw[q1,Cb],fun m hm=>by have:=q2 m hm;rw[An];omega,fun m x=>?_⟩
  rw[q3,Cb]
  have g:(pss.set j.toNat (l++[(k:Int)])).getD m []=if m=j.toNat then l++[(k:Int)] else pss.getD m []:=by
   rw[Ag,Ag]
   by_cases h:m=j.toNat
   ·subst h
    rw[Au hlt,if_pos rfl];rfl
   ·rw[Az (Bc h),if_neg h]
  rw[g]
  by_cases h:m=j.toNat
  ·rw[if_pos h]
   have gl:pss.getD m []=l:=by rw[Ag,h,el];rfl
   have mj:(m:Int)=j:=by omega
   rw[gl];simp only[Aj,AU,B7,or_false];constructor
   ·rintro ((z | z) | ⟨z1,z2,z3⟩)
    ·exact .inl z
    ·exact .inr ⟨z,.inl mj,by omega⟩
    ·exact .inr ⟨z1,.inr z2,z3⟩
   ·rintro (z | ⟨z1,z2,z3⟩)
    ·exact .inl (.inl z)
    ·exact .inl (.inr z1)
  ·rw[if_neg h]
   have mj:(m:Int)≠j:=by omega
   simp only[AU,mj,false_or]
theorem zzh:∀(jss:List (List Int))(k0 M:Nat)(pss:List (List Int)),(∀js∈jss,js.length=13/\∀j∈js,0<=j/\j<pss.length)->(∀l∈pss,l.length<=M)->M+13 * jss.length<16777216->
  ∃q,allB k0 jss pss=some q/\q.length=pss.length/\∀(m:Nat)(x:Int),x∈q.getD m [] ↔ x∈pss.getD m []\/∃(t:Nat)(js:List Int),jss[t]?=some js/\x=((k0+t:Nat):Int)/\(m:Int)∈js/\m<pss.length
 | [],k0,M,pss,_,_,_=>⟨pss,rfl,rfl,fun m x=>by simp⟩
 | js::r,k0,M,pss,hj,hl,hM=>by
  rw[An] at hM;obtain⟨h13,hjs⟩:=hj js (by simp)
  obtain⟨q,e,q1,q2,q3⟩:=zye k0 js M pss hjs hl (by omega)
  obtain⟨q',e',q1',q3'⟩:=zzh r (k0+1) (M+13) q (fun i hi=>by rw[q1];exact hj i (by simp[hi])) (fun l h=>by have:=q2 l h;omega) (by omega)
  refine⟨q',by show (rowB k0 js pss).bind (allB (k0+1) r)=_;rw[e];exact e',by rw[q1',q1],fun m x=>?_⟩
  rw[q3',q3,q1];constructor
  ·rintro ((z | ⟨z1,z2,z3⟩) | ⟨t,i,z1,z2,z3,z4⟩)
   ·exact .inl z
   ·exact .inr ⟨0,js,rfl,by simpa using z1,z2,z3⟩
   ·exact .inr ⟨t+1,i,z1,by rw[z2];congr 1;omega,z3,z4⟩
  ·rintro (z | ⟨t,i,z1,z2,z3,z4⟩)
   ·exact .inl (.inl z)
   ·cases t with
    | zero=>
     cases z1;exact .inl (.inr ⟨by simpa using z2,z3,z4⟩)
    | succ t=>exact .inr ⟨t,i,z1,by rw[z2];congr 1;omega,z3,z4⟩
theorem zua:∀js:List Int,zn1 (js.map PV.int)=some js
 | []=>rfl
 | j::js=>by
  show (zn1 (js.map PV.int)).map (j::·)=_;rw[zua js];rfl
theorem zy2:∀jss:List (List Int),jssP (jss.map jP)=some jss
 | []=>rfl
 | js::jss=>by
  show (zn1 (js.map PV.int)).bind (fun js=>(jssP (jss.map jP)).map (js::·))=_
  rw[zua js,zy2 jss];rfl
theorem zvl(jss q:List (List Int))(hl:jss.length<=16777216)(e:allB 0 jss (B4 jss.length [])=some q):zcb [.lst (jss.map jP)]=some (.lst (q.map jP)):=by
 refine zan rfl ?_;show pbF [.val (.lst (jss.map jP)),.no,.no,.no,.no]=_;unfold pbF
 show (match jssP (jss.map jP) with
  | some jss'=>if (jss.map jP).length<=16777216/\5=5 then (match allB 0 jss' (B4 (jss.map jP).length []) with
   | some pss=>R.ok (Fl.ret (.lst (pss.map fun l:List Int=>PV.lst (l.map PV.int))))
   | none=>.no) else .no
  | none=>.no)=_
 rw[zy2]
 show (if (jss.map jP).length<=16777216/\5=5 then (match allB 0 jss (B4 (jss.map jP).length []) with
   | some pss=>R.ok (Fl.ret (.lst (pss.map fun l:List Int=>PV.lst (l.map PV.int))))
   | none=>.no) else .no)=_
 rw[AI,if_pos ⟨hl,rfl⟩,e]
def kindOf:Room->Str
 | .hand _=>"hand"
 | .fin _=>"end"
 | _=>"asked"
def znd:Room->Str
 | .menu t ..=>t
 | .names t ..=>t
 | .hand t=>t
 | .fin t=>t
 | .hours ..=>""
section
variable{h : House}{nms ord : List Str}(hg : HG h nms ord)
include hg
theorem heard(r b:Str)(w v:Int)(room:Room)(tt:W)(ok:OK h nms r b room w v tt):zgs [h.pv,sT r b w v tt]=some (.tup [.str (kindOf room),.str (znd room)]):=by
 refine zan rfl ?_;have n2:=FA.ix_rooms h.rooms r;rw[ok.lk] at n2;have n2:gIx (zam h.rooms) (.str r)=some room.pv:=n2;have hR:=hRo hg;have g0:gIx (sT r b w v tt) (.int 0)=some (.str r):=rfl;have c:c_HEARD=.dct [.inr "menu",.inr "names",.inr "hand",.inr "end"] [.str "asked",.str "asked",.str "hand",.str "end"]:=rfl;have nh:=ok.nh;generalize sT r b w v tt=S at *;generalize zam h.rooms=RM at *;generalize h.pv=H at *;cases room with
 | hours sp l=>exact absurd rfl (nh sp l)
 | menu t ks wr wa=>
  have n2:gIx RM (.str r)=some (.tup [.str "menu",.str t,.tup (ks.map pv2),.tup [.int wr.1,.str wr.2],.tup [.int wa.1,.str wa.2]]):=n2;simp[ziu,PU.start,hR,g0,n2,c,kindOf,znd]
 | names t ks wr wa=>
  have n2:gIx RM (.str r)=some (.tup [.str "names",.str t,.tup (ks.map pv2),.tup [.int wr.1,.str wr.2],.tup [.int wa.1,.str wa.2]]):=n2;simp[ziu,PU.start,hR,g0,n2,c,kindOf,znd]
 | hand t=>
  have n2:gIx RM (.str r)=some (.tup [.str "hand",.str t]):=n2;simp[ziu,PU.start,hR,g0,n2,c,kindOf,znd]
 | fin t=>
  have n2:gIx RM (.str r)=some (.tup [.str "end",.str t]):=n2;simp[ziu,PU.start,hR,g0,n2,c,kindOf,znd]
def outS(h:House)(s:St):Bool:=match FA.lookR h.rooms s.r with
 | some (.hand _)=>true
 | some (.fin _)=>true
 | _=>false
theorem zyp (s:St) (hs:Ok h nms s):∃k t:Str,zgs [h.pv,s.pv]=some (.tup [.str k,.str t])/\decide (k=AN "asked")=!outS h s:=by
 obtain⟨room,ok⟩:=hs;refine⟨_,_,heard hg s.r s.b s.w s.v room s.t ok,?_⟩;unfold outS;rw[ok.lk];cases room with
 | hours sp l=>exact absurd rfl (ok.nh sp l)
 | menu t ks wr wa=>simp[kindOf]
 | names t ks wr wa=>simp[kindOf]
 | hand t=>simp[kindOf];kernel_rfl
 | fin t=>simp[kindOf];kernel_rfl
theorem is_out(s:St)(hs:Ok h nms s):zgz [h.pv,s.pv]=some (.bl (outS h s)):=by
 obtain⟨k,t,e,d⟩:=zyp hg s hs;refine zan rfl ?_;generalize s.pv=S at *;generalize h.pv=H at *;simp[zmw,PU.start,e,d]
end
def oP:Option Nat->PV
 | some x=>.int x
 | none=>.non
def nP(k:Nat):PV:=.int k
def behQ(q:List (List Int))(m:Nat):List Nat:=(q.getD m []).map Int.toNat
theorem gn1(y:Int):gIsN (.int y) .non=some (.bl false):=rfl
theorem gn2:gIsN .non .non=some (.bl true):=rfl
theorem Zcl{i:Nat}{fk fv:PSt->R PV}{ρ:PSt}{ps:List PV}{p:PV}{j:Nat}(h:ρ[i]?=some (.own (.lst ps)))(hv:fv ρ=.ok p)(hk:fk ρ=.ok (.int j))(hj:j<ps.length):zo5 i fk fv ρ=.ok (.next (ρ.set i (.own (.lst (ps.set j p))))):=by
 unfold zo5;rw[h];show (fv ρ >>= _)=_;rw[hv,R.ok_bind,hk,R.ok_bind];show (if 0<=(j:Int)/\(j:Int)<ps.length then _ else _)=_
 rw[if_pos ⟨by omega,by omega⟩]
 rfl
abbrev ost(HV HO FS:PV)(q:List (List Int))(s:BO.S)(d:Nat)(a b:Sl):PSt:=[.val HV,.val HO,.val FS,.own (.lst (s.1.map oP)),.val (.lst (q.map jP)),.own (.lst (s.2.map nP)),.val (.int d),a,b]
section
variable(HV HO FS : PV)(q : List (List Int))
theorem Zdw(s:BO.S)(d m k x:Nat)(o:Option Nat)(hk:s.1[k]?=some o)(hm:s.1[m]?=some (some x))(hl:s.2.length<16777216):zej (ost HV HO FS q s d (.val (.int m)) (.val (.int k)))=.ok (.next (ost HV HO FS q (BO.stepB m s k) d (.val (.int m)) (.val (.int k)))):=by
 obtain⟨c,r⟩:=s;have hk:c[k]?=some o:=hk;have hm:c[m]?=some (some x):=hm;have hl:r.length<16777216:=hl;have ik:atI (c.map oP) (k:Int)=some (oP o):=zbc rfl (by rw[AG,hk];rfl)
 have im:atI (c.map oP) (m:Int)=some (.int x):=zbc rfl (by rw[AG,hm];rfl)
 have kl:k<c.length:=(AA.mp hk).1;unfold BO.stepB;cases o with
 | some y=>
  rw[if_neg (by show ¬ c[k]?=some none;rw[hk];simp)]
  simp only[ost];generalize c.map oP=C at *;generalize q.map jP=Q at *;generalize r.map nP=RR at *;simp[zej,ik,oP,gn1]
 | none=>
  rw[if_pos hk,BO.val_of hm];have st:(c.set k (some (x+1))).map oP=(c.map oP).set k (.int ((x+1:Nat):Int)):=List.map_set
  have e1:zo5 3 (getV 8) (bin2 (bin2 (getO 3) (getV 7) gIx) (kI 1) gAdd) (ost HV HO FS q (c,r) d (.val (.int m)) (.val (.int k)))=.ok (.next (ost HV HO FS q (c.set k (some (x+1)),r) d (.val (.int m)) (.val (.int k)))):=by
   rw[Zcl (ps:=c.map oP) (p:=.int ((x+1:Nat):Int)) (j:=k) rfl ?_ rfl (by simpa using kl),← st]
   ·rfl
   ·simp only[ost]
    generalize c.map oP=C at *;generalize q.map jP=Q at *;generalize r.map nP=RR at *;simp[im]
  have t1:truF (bin2 (bin2 (getO 3) (getV 8) gIx) kN gIsN) (ost HV HO FS q (c,r) d (.val (.int m)) (.val (.int k)))=.ok true:=by
   simp only[ost];generalize c.map oP=C at *;generalize q.map jP=Q at *;generalize r.map nP=RR at *;simp[ik,oP,gn2]
  have a1:appF 5 (getV 8) (ost HV HO FS q (c.set k (some (x+1)),r) d (.val (.int m)) (.val (.int k)))=.ok (.next (ost HV HO FS q (c.set k (some (x+1)),r++[k]) d (.val (.int m)) (.val (.int k)))):=by
   have z:(r.map nP).length<16777216:=by simpa using hl
   simp only[ost,AW,FB];generalize (c.set k (some (x+1))).map oP=C at *;generalize q.map jP=Q at *;generalize r.map nP=RR at *;simp[z,nP]
  show (truF (bin2 (bin2 (getO 3) (getV 8) gIx) kN gIsN) _ >>= fun b=>if b=true then (zo5 3 (getV 8) (bin2 (bin2 (getO 3) (getV 7) gIx) (kI 1) gAdd) _ >>= fun fl=>_) else _)=_
  rw[t1,R.ok_bind,if_pos rfl,e1,R.ok_bind];exact a1
theorem jn0{n:Nat}{out:Nat->Bool}{E:Nat->Nat->Prop}{s:BO.S}{d m:Nat}(j:BO.J n out E s d)(hm:s.2[d]?=some m):BO.Jn n out E s d m []:=⟨j.b,hm,j.le1 m hm,fun k x e hx=>by
  obtain⟨m',h1,h2⟩:=j.frm k x e hx;exact⟨m',by rw[Cf];exact BV _ h1,h2⟩,j.dn,by simp⟩
variable{n : Nat}{out : Nat → Bool}{E : Nat → Nat → Prop}(hb : ∀m, m<n → ∀k, k ∈ behQ q m ↔ (k<n ∧ E k m))(hn : n ≤ 19999)
include hb hn
theorem Zha(s:BO.S)(d m:Nat)(j:BO.J n out E s d)(hm:s.2[d]?=some m)(d1:Nat)(b:Sl):∃b',forF (zai 8) zej ((behQ q m).map nP) (ost HV HO FS q s d1 (.val (.int m)) b)=.ok (.next (ost HV HO FS q ((behQ q m).foldl (BO.stepB m) s) d1 (.val (.int m)) b')):=by
 obtain⟨ρ',f1,b',rfl⟩:=forM (enc:=nP) (xs:=behQ q m) (h:=zai 8) (g:=zej) (ρ:=ost HV HO FS q s d1 (.val (.int m)) b)
  (I:=fun pre ρ=>∃b,ρ=ost HV HO FS q (pre.foldl (BO.stepB m) s) d1 (.val (.int m)) b) ⟨_,rfl⟩ (by
   rintro pre k post ρ hx ⟨b,rfl⟩;have mn:m<n:=j.b.lt (AS hm);have kn:=((hb m mn k).mp (by rw[hx];simp)).1
   have j1:=BO.Jn.all pre [] s (jn0 j hm) fun i hi=>(hb m mn i).mp (by rw[hx];simp[hi])
   rw[Cg];show ∃ρ1 ρ2,_/\_/\∃b,ρ2=ost HV HO FS q (BO.stepB m (pre.foldl (BO.stepB m) s) k) d1 (.val (.int m)) b;generalize pre.foldl (BO.stepB m) s=s' at *;obtain⟨x,ex⟩:=(j1.b.mem m).mp (AS j1.hm);have kl:k<s'.1.length:=by rw[j1.b.len];exact kn
   have:=j1.b.rl;exact⟨_,_,rfl,.inl (Zdw HV HO FS q s' d1 m k x _ (AX kl) ex (by omega)),_,rfl⟩)
 exact⟨b',f1⟩
variable(ql : q.length = n)(qn : ∀m, ∀x ∈ q.getD m [], 0 ≤ x)
include ql qn
theorem o_b5(s:BO.S)(d m:Nat)(j:BO.J n out E s d)(hm:s.2[d]?=some m)(a b:Sl):∃a' b',zei (ost HV HO FS q s d a b)=.ok (.next (ost HV HO FS q ((behQ q m).foldl (BO.stepB m) s) (d+1) a' b')):=by
 obtain⟨b',f1⟩:=Zha HV HO FS q hb hn s d m j hm (d+1) b;have mn:m<n:=j.b.lt (AS hm);have i5:atI (s.2.map nP) (d:Int)=some (.int m):=zbc rfl (by rw[AG,hm];rfl)
 have hq:q[m]?=some (q.getD m []):=by
  rw[Ag,AX (by omega)]
  rfl
 have i4:atI (q.map jP) (m:Int)=some (jP (q.getD m [])):=zbc rfl (by rw[AG,hq];rfl)
 have it:zem (jP (q.getD m []))=some ((behQ q m).map nP):=by
  show some ((q.getD m []).map PV.int)=some (((q.getD m []).map Int.toNat).map nP);rw[Am]
  congr 1
  refine C4 fun x hx=>?_
  have:=qn m x hx;show PV.int x=PV.int ((x.toNat:Nat):Int)
  congr 1
  omega
 have ag:∀(A1 A2 A3 A4 A5 A6 A7 A8:Sl),augF 6 (kI 1) [A1,A2,A3,A4,A5,A6,.val (.int d),A7,A8]=.ok (.next [A1,A2,A3,A4,A5,A6,.val (.int ((d+1:Nat):Int)),A7,A8]):=fun _ _ _ _ _ _ _ _=>rfl
 refine⟨.val (.int m),b',?_⟩;rw[← f1];simp only[ost];generalize (behQ q m).map nP=BQ at *;generalize jP (q.getD m [])=JJ at *;generalize s.1.map oP=C at *;generalize q.map jP=Q at *;generalize s.2.map nP=RR at *;simp[zei,i5,ag,i4,it]
noncomputable def otst:PSt->R Bool:=(truF (bin2 (getV 6) (un1 (getO 5) gLen) gLt))
omit hb hn ql qn in
theorem Zg9(s:BO.S)(d:Nat)(a b:Sl):otst (ost HV HO FS q s d a b)=.ok (decide (d<s.2.length)):=by
 have z:decide (d<s.2.length)=decide ((d:Int)<(s.2.map nP).length):=by
  rw[AI]
  by_cases h:d<s.2.length
  ·rw[decide_eq_true h,decide_eq_true (by omega)]
  ·rw[decide_eq_false h,decide_eq_false (by omega)]
 rw[z];simp only[ost];generalize s.1.map oP=C at *;generalize q.map jP=Q at *;generalize s.2.map nP=RR at *;simp[otst]
theorem ztk:∀(f d:Nat)(s:BO.S)(a b:Sl),BO.J n out E s d->d<=s.2.length->n<d+f->∃d' a' b',whF otst zei f (ost HV HO FS q s d a b)=.ok (.next (ost HV HO FS q (BO.loopB (behQ q) f d s) d' a' b'))
 | 0,d,s,a,b,j,hd,hf=>by have:=j.b.rl;omega
 | f+1,d,s,a,b,j,hd,hf=>by
  have ht:=Zg9 HV HO FS q s d a b;unfold whF BO.loopB;rw[ht];cases e:s.2[d]? with
  | none=>
   have:¬ d<s.2.length:=by have:=BL.mp e;omega
   rw[decide_eq_false this];exact⟨d,a,b,rfl⟩
  | some m=>
   have hdl:d<s.2.length:=(AA.mp e).1;rw[decide_eq_true hdl];have mn:m<n:=j.b.lt (AS e);obtain⟨a1,b1,e5⟩:=o_b5 HV HO FS q hb hn ql qn s d m j e a b;have jn:=BO.Jn.all (behQ q m) [] s (jn0 j e) fun i hi=>(hb m mn i).mp hi
   have dl:=(AA.mp jn.hm).1;obtain⟨d',a',b',ew⟩:=ztk f (d+1) ((behQ q m).foldl (BO.stepB m) s) a1 b1 (j.next (behQ q) hb e) (by omega) (by omega)
   refine⟨d',a',b',?_⟩;rw[R.ok_bind,if_pos rfl,e5,R.ok_bind];exact ew
end
def outN(h:House)(found:List (BF.Row St))(k:Nat):Bool:=match found[k]? with
 | some p=>outS h p.1
 | none=>false
def EN(h:House)(nms:List Str)(hour:Int)(found:List (BF.Row St))(k m:Nat):Prop:=∃p,found[k]?=some p/\∃i,i<13/\zc3 found (lead h nms hour p.1 i)=m
section
variable{h : House}{nms ord : List Str}(hg : HG h nms ord)(hour : Int){s0 : St}{found : List (BF.Row St)}(F : Found h nms hour s0 found)
include hg F
theorem zvk:∃q:List (List Int),zcb [.lst (found.map fun p=>jP (nxt h nms hour found p))]=some (.lst (q.map jP))/\q.length=found.length/\(∀m,∀x∈q.getD m [],0<=x)/\∀m,m<found.length->∀k,k∈behQ q m ↔ (k<found.length/\EN h nms hour found k m):=by
 have hln:=F.ln
 obtain⟨q,e,l,hq⟩:=zzh (found.map (nxt h nms hour found)) 0 0 (B4 found.length []) (by
  intro js hjs;obtain⟨p,hp,rfl⟩:=AJ.mp hjs;refine⟨by simp[nxt],fun j hj=>?_⟩
  unfold nxt at hj;obtain⟨i,hi,rfl⟩:=AJ.mp hj;have:=zym (zvi hg hour F p hp i (B5.mp hi));rw[Bv];omega) (by
  intro l hl;rw[List.eq_of_mem_replicate hl];exact AY _) (by rw[AI];omega)
 have hq':∀(m:Nat)(x:Int),x∈q.getD m [] ↔ ∃t:Nat,x=(t:Int)/\m<found.length/\EN h nms hour found t m:=by
  intro m x;rw[hq,Bv];constructor
  ·rintro (z | ⟨t,js,z1,z2,z3,z4⟩)
   ·rw[Ag,BA] at z
    split at z <;> simp at z
   ·rw[AG] at z1
    cases ep:found[t]? with
    | none=>rw[ep] at z1;cases z1
    | some p=>
     rw[ep] at z1;cases z1;unfold nxt at z3;obtain⟨i,hi,e3⟩:=AJ.mp z3;exact⟨t,by rw[z2,Ed],z4,p,ep,i,B5.mp hi,by omega⟩
  ·rintro⟨t,rfl,hm,p,ep,i,hi,e3⟩
   refine .inr ⟨t,nxt h nms hour found p,by rw[AG,ep];rfl,by rw[Ed],?_,hm⟩
   unfold nxt;exact AJ.mpr ⟨i,B5.mpr hi,by rw[e3]⟩
 refine⟨q,?_,by rw[l,Bv],fun m x hx=>?_,fun m hm k=>?_⟩
 ·have:=zvl (found.map (nxt h nms hour found)) q (by rw[AI];omega) (by rw[AI];exact e)
  rw[Am] at this;exact this
 ·obtain⟨t,rfl,_⟩:=(hq' m x).mp hx
  omega
 ·unfold behQ
  rw[AJ];constructor
  ·rintro⟨x,hx,rfl⟩
   obtain⟨t,rfl,h1,h2⟩:=(hq' m x).mp hx;have h3:=h2;obtain⟨p,ep,_⟩:=h3;have:=(AA.mp ep).1;rw[DI];exact⟨this,h2⟩
  ·rintro⟨h1,h2⟩
   exact⟨(k:Int),(hq' m k).mpr ⟨k,rfl,hm,h2⟩,DI k⟩
theorem cnt0(a b:Sl):zci (tupT 2 (zat (zai 0) (zat (zai 1) nilT))) yesB zfv [.no,.no,.val h.pv] (found.map zap)=.ok (((AF found.length).map fun k=>if outN h found k=true then some 0 else none).map oP):=by
 rw[WO.in_list_comp (fun p=>oP (if outS h p.1=true then some 0 else none)) found fun p hp=>?_]
 ·congr 1
  refine DF fun k=>?_
  rw[AG,Am,AG];cases ep:found[k]? with
  | none=>
   rw[Bx (by have:=BL.mp ep;simpa using this)]
   rfl
  | some p=>
   rw[Bq (AA.mp ep).1];show some _=some (oP (if outN h found k=true then some 0 else none))
   unfold outN;rw[ep]
 ·refine⟨[.val p.1.pv,.val (.str (rowS p.2)),.val h.pv],rfl,?_⟩
  have e:=is_out hg p.1 (F.ok p hp);cases o:outS h p.1 with
  | true=>
   rw[o] at e;generalize p.1.pv=S at *;generalize h.pv=H at *;simp[zfv,e,oP]
  | false=>
   rw[o] at e;generalize p.1.pv=S at *;generalize h.pv=H at *;simp[zfv,e,oP]
omit hg F in
theorem rch0(n:Nat)(out:Nat->Bool):∃EI,zxo (.lst (((AF n).map fun k=>if out k=true then some 0 else none).map oP))=some EI/\zci (tupT 2 (zat (zai 0) (zat (zai 1) nilT))) zff zkl [.no,.no] EI=.ok (((AF n).filter out).map nP):=by
 have e:zxo (.lst (((AF n).map fun k=>if out k=true then some 0 else none).map oP))=some ((AF n).map fun k:Nat=>PV.tup [.int (k:Int),oP (if out k=true then some 0 else none)]):=by
  show some ((numP _).map PV.tup)=_
  congr 1
  unfold numP;refine DF fun k=>?_
  simp only[AI,E1,AG,Bw]
  by_cases hk:k<n
  ·rw[Bq hk]
   rfl
  ·rw[Bx (l:=AF n) (by simpa using hk)]
   rfl
 refine⟨_,e,?_⟩;refine zew (enc:=fun k:Nat=>PV.tup [.int (k:Int),oP (if out k=true then some 0 else none)]) out nP (AF n) fun k _=>⟨[.val (.int k),.val (oP (if out k=true then some 0 else none))],rfl,?_,fun _=>rfl⟩
 cases out k with
 | true=>simp[zff,oP]
 | false=>simp[zff,oP,show gEq .non (.int 0)=some (.bl false) by kernel_rfl]
theorem zrk:∃c:List (Option Nat),zed [h.pv,.int hour,.lst (found.map zap)]=some (.lst (c.map oP))/\BO.Fin_ found.length (outN h found) (EN h nms hour found) c:=by
 obtain⟨q,e2,ql,qn,hb⟩:=zvk hg hour F;have e1:=Zaq hg hour F;have hln:=F.ln;obtain⟨EI,e3,e4⟩:=rch0 found.length (outN h found);have e5:=cnt0 hg hour F .no .no;have J0:=BO.J.start found.length (outN h found) (EN h nms hour found);obtain⟨d',a',b',ew⟩:=ztk h.pv (.int hour) (.lst (found.map zap)) q hb hln ql qn 20000 0 _ .no .no J0 (B3 _) (by omega)
 obtain⟨d2,J1,J2⟩:=BO.loopB_ok (beh:=behQ q) hb 20000 0 _ J0 (by omega)
 refine⟨_,zan rfl ?_,J1.fin J2⟩;generalize BO.loopB (behQ q) 20000 0 _=sF at *;have it:zem (.lst (found.map zap))=some (found.map zap):=rfl;have z0:((H8 (fun k=>if outN h found k=true then some 0 else none) (AF found.length)).map oP).length<=16777216:=by simp;omega
 have z1:(((AF found.length).filter (outN h found)).map nP).length<=16777216:=by
  have:=Ek (outN h found) (AF found.length);rw[E1] at this;rw[AI];omega
 simp only[ost] at ew;generalize (H8 (fun k=>if outN h found k=true then some 0 else none) (AF found.length)).map oP=C0 at *
 generalize ((AF found.length).filter (outN h found)).map nP=R0 at *;generalize (found.map fun p=>jP (nxt h nms hour found p))=NX at *
 generalize q.map jP=Q at *;generalize found.map zap=FS at *;generalize sF.1.map oP=CF at *;generalize sF.2.map nP=RF at *;generalize h.pv=H at *;have ew:whF (truF (bin2 (getV 6) (un1 (getO 5) gLen) gLt)) zei 20000 [.val H,.val (.int hour),.val (.lst FS),.own (.lst C0),.val (.lst Q),.own (.lst R0),.val (.int 0),.no,.no]=_:=ew;simp[zke,PU.start,it,zbh,roS,e5,z0,e1,e2,Zbn,e3,e4,z1,whS];rw[ew];simp
end
theorem sq{f g:PSt->R Fl}{ρ ρ1:PSt}(h:f ρ=.ok (.next ρ1)):seqF f g ρ=g ρ1:=by
 unfold seqF;rw[h];rfl
theorem if_t{t:PSt->R Bool}{f g:PSt->R Fl}{ρ:PSt}(h:t ρ=.ok true):ifF t f g ρ=f ρ:=by
 unfold ifF;rw[h];rfl
theorem if_f{t:PSt->R Bool}{f g:PSt->R Fl}{ρ:PSt}(h:t ρ=.ok false):ifF t f g ρ=g ρ:=by
 unfold ifF;rw[h];rfl
theorem gm1(y:Int):zmx (.int y) .non=some (.bl true):=rfl
theorem gm2:zmx .non .non=some (.bl false):=rfl
theorem zwg(p:BF.Row St):flat (zap p)=true/\pdep (zap p)<=3:=by simp[zap,St.pv,sT,flat,flats,pdep,pdeps]
theorem Zdx(o:Option Nat):flat (oP o)=true/\pdep (oP o)<=3:=by cases o <;> simp[oP,flat,pdep]
theorem o_ne(o:Option Nat):gNe (oP o) (oP o)=some (.bl false):=by
 cases o with
 | none=>kernel_rfl
 | some x=>
  show (if isSc (.int x)=true/\isSc (.int x)=true/\scal (scV (.int x)) (scV (.int x))=true then some (PV.bl (!decide (scV (.int x)=scV (.int x)))) else none)=_
  rw[if_pos ⟨rfl,rfl,rfl⟩];simp
def cK(c:List (Option Nat))(k:Nat):Option Nat:=c.getD k none
def bI(c:List (Option Nat))(x:Nat×BF.Row St):PV:=.tup [zap x.2,oP (cK c x.1)]
def stk(c:List (Option Nat))(L:List (Nat×BF.Row St)):List PV:=(L.filter fun x=>(cK c x.1).isNone).map fun x=>zap x.2
theorem zr6(f:List (BF.Row St))(k:Nat):((AF f.length).zip f)[k]?=f[k]?.map fun p=>(k,p):=by
 unfold List.zip;rw[Bw];cases ep:f[k]? with
 | none=>cases (AF f.length)[k]? <;> rfl
 | some p=>
  rw[Bq (AA.mp ep).1];rfl
theorem Zcx(c:List (Option Nat))(f:List (BF.Row St))(hl:c.length=f.length):(zipP (f.map zap) (c.map oP)).map PV.tup=((AF f.length).zip f).map (bI c):=by
 refine DF fun k=>?_
 unfold zipP;rw[AG,Bw,AG,AG,AG,zr6];cases ep:f[k]? with
 | none=>rfl
 | some p=>
  have hk:=(AA.mp ep).1
  have ec:c[k]?=some (cK c k):=by
   unfold cK;rw[Ag,AX (by omega)]
   rfl
  rw[ec];rfl
section
variable{h : House}{hour : Int}{found : List (BF.Row St)}{c : List (Option Nat)}
theorem zv7(ep:zcx [h.pv,.int hour]=some (.lst (found.map zap)))(eo:zed [h.pv,.int hour,.lst (found.map zap)]=some (.lst (c.map oP)))(hl:c.length=found.length)(hn:found.length<=19999):zmz [h.pv,.int hour]=some (.lst (stk c ((AF found.length).zip found))):=by
 refine zan rfl ?_
 have hz:zipQ (.lst (found.map zap)) (.lst (c.map oP))=.ok (((AF found.length).zip found).map (bI c)):=by
  rw[zy0 _ _ (by
   rw[Eh];refine .inr (Cr.mpr fun p hp=>?_)
   obtain⟨o,_,rfl⟩:=AJ.mp hp;cases o <;> rfl),Zcx c found hl]
 have ec:zci (tupT 2 (zat (zai 0) (zat (zai 1) nilT))) zhp zof [.no,.no] (((AF found.length).zip found).map (bI c))=.ok (stk c ((AF found.length).zip found)):=by
  refine zew (enc:=bI c) (fun x=>(cK c x.1).isNone) (fun x=>zap x.2) _ fun x _=>⟨[.val (zap x.2),.val (oP (cK c x.1))],rfl,?_,fun _=>rfl⟩
  generalize zap x.2=RP;cases cK c x.1 with
  | none=>simp[zhp,oP,gn2]
  | some y=>simp[zhp,oP,gn1]
 have z:(stk c ((AF found.length).zip found)).length<=16777216:=by
  unfold stk;rw[AI];have:=Ek (fun x:Nat×BF.Row St=>(cK c x.1).isNone) ((AF found.length).zip found)
  rw[List.length_zip,E1] at this;omega
 generalize stk c ((AF found.length).zip found)=SK at *;generalize ((AF found.length).zip found).map (bI c)=ZZ at *;generalize found.map zap=FS at *;generalize c.map oP=CO at *;generalize h.pv=H at *;simp[zpf,PU.start,ep,eo,hz,zbh,ec,z]
def ze1(h:House)(L:List (Str×Str))(p:BF.Row St):List (Str×Str):=if outS h p.1=true then (if (L.any fun x=>decide (x.1=p.1.r))=true then L else L++[(p.1.r,rowS p.2)]) else L
def zc0(h:House)(f:List (BF.Row St)):List (Str×Str):=f.foldl (ze1 h) []
def dP(L:List (Str×Str)):PV:=.dct (L.map fun x=>.inr x.1) (L.map fun x=>.str x.2)
def p2(x:Str×Str):PV:=.tup [.str x.1,.str x.2]
theorem zlp(f:List (BF.Row St))(p:BF.Row St):zc0 h (f++[p])=ze1 h (zc0 h f) p:=by
 unfold zc0;rw[Cg];rfl
theorem ztv(L:List (Str×Str))(p:BF.Row St):(ze1 h L p).length<=L.length+1:=by
 unfold ze1
 split
 ·split <;> simp
 ·omega
theorem zjk(f:List (BF.Row St)):∀L,(f.foldl (ze1 h) L).length<=L.length+f.length:=by
 induction f with
 | nil=>intro L;simp
 | cons p f ih=>
  intro L;rw[Bg];have:=ih (ze1 h L p);have:=ztv (h:=h) L p;rw[An];omega
theorem Zax(f:List (BF.Row St)):∀L:List (Str×Str),(L.map (·.1)).Nodup->((f.foldl (ze1 h) L).map (·.1)).Nodup:=by
 induction f with
 | nil=>intro L n;exact n
 | cons p f ih=>
  intro L n;rw[Bg];refine ih _ ?_;unfold ze1
  split
  ·split
   ·exact n
   ·rename_i z
    rw[AW,BK];refine⟨n,by simp,fun a ha b hb e=>z ?_⟩
    obtain⟨x,hx,rfl⟩:=AJ.mp ha;rw[EJ];refine⟨x,hx,decide_eq_true ?_⟩;simp at hb;rw[e,hb]
  ·exact n
theorem Zfi(L:List (Str×Str))(r:Str):((L.map fun x=>(.inr x.1:Key)).any fun j=>decide (j=.inr r))=L.any fun x=>decide (x.1=r):=by
 rw[CN]
 congr 1
 funext x
 simp[CW]
theorem zyd{i:Nat}{fk fv:PSt->R PV}{ρ:PSt}{L:List (Str×Str)}{p:BF.Row St}(hi:ρ[i]?=some (.own (dP L)))(hk:fk ρ=.ok (.str p.1.r))(hv:fv ρ=.ok (.str (rowS p.2)))(ho:outS h p.1=true)(hl:L.length<16777216) :
  zou i fk fv ρ=.ok (.next (ρ.set i (.own (dP (ze1 h L p))))):=by
 have il:i<ρ.length:=(AA.mp hi).1;have z:(L.map fun x=>(.inr x.1:Key)).length<16777216:=by simpa using hl
 unfold zou;rw[hi];show (fk ρ >>= _)=_;rw[hk,R.ok_bind,hv,R.ok_bind];show (if (L.map fun x=>(.inr x.1:Key)).length<16777216 then R.ok (Fl.next (if ((L.map fun x=>(.inr x.1:Key)).any fun j=>decide (j=.inr p.1.r))=true then ρ else ρ.set i (.own (putP (L.map fun x=>.inr x.1) (L.map fun x=>.str x.2) (.inr p.1.r) (.str (rowS p.2)))))) else .no)=_
 rw[if_pos z];unfold ze1 putP;rw[if_pos ho,Zfi]
 by_cases a:(L.any fun x=>decide (x.1=p.1.r))=true
 ·rw[if_pos a,if_pos a]
  have:ρ.set i (.own (dP L))=ρ:=by
   refine DF fun j=>?_
   by_cases e:j=i
   ·subst e
    rw[Au il,hi]
   ·rw[Az (Bc e)]
  rw[this]
 ·rw[if_neg a,if_neg a,if_neg a]
  unfold dP;rw[AW,AW];rfl
theorem zxe(L:List (Str×Str))(hl:L.length<=16777216):zmy (dP L)=some (.lst (L.map p2)):=by
 show (if (L.map fun x=>(.inr x.1:Key)).length<=16777216 then some (PV.lst ((zi6 (L.map fun x=>.inr x.1) (L.map fun x=>.str x.2)).map .tup)) else none)=_
 rw[if_pos (by simpa using hl)]
 congr 2
 unfold zi6
 induction L with
 | nil=>rfl
 | cons x L ih=>
  rw[AE,AE,Bp,AE,ih (by rw[An] at hl;omega),AE]
  rfl
theorem znt:∀(L:List (Str×Str)),(L.map (·.1)).Nodup->∀x∈L,zb3 (L.map fun x=>.inr x.1) (L.map fun x=>.str x.2) (.inr x.1)=some (.str x.2)
 | [],_,x,hx=>by simp at hx
 | y::L,nd,x,hx=>by
  rw[AE,Ay] at nd;show (if (.inr y.1:Key)=.inr x.1 then some (PV.str y.2) else zb3 (L.map fun x=>.inr x.1) (L.map fun x=>.str x.2) (.inr x.1))=_
  rcases AU.mp hx with e | e
  ·rw[e,if_pos rfl]
  ·rw[if_neg fun z=>nd.1 (by rw[CT z];exact AJ.mpr ⟨x,e,rfl⟩)]
   exact znt L nd.2 x e
theorem ztu(L:List (Str×Str))(nd:(L.map (·.1)).Nodup):∃KI,zem (dP L)=some KI/\zci (zai 0) yesB zpn [.no,.val (dP L)] KI=.ok (L.map p2):=by
 have e:zem (dP L)=some (L.map fun x=>PV.str x.1):=by
  show some ((L.map fun x=>(.inr x.1:Key)).map keyP)=_
  rw[Am];rfl
 refine⟨_,e,?_⟩;refine WO.in_list_comp (enc:=fun x:Str×Str=>PV.str x.1) p2 L fun x hx=>⟨[.val (.str x.1),.val (dP L)],rfl,?_⟩
 have g:gIx (dP L) (.str x.1)=some (.str x.2):=znt L nd x hx;generalize dP L=D at *;simp[zpn,g,p2]
end
section
variable{h : House}{nms ord : List Str}(hg : HG h nms ord){hour : Int}{s0 : St}{found : List (BF.Row St)}(F : Found h nms hour s0 found)
include hg F
theorem Zbo(ep:zcx [h.pv,.int hour]=some (.lst (found.map zap))):zqu [h.pv,.int hour]=some (.lst ((zc0 h found).map p2)):=by
 refine zan rfl ?_;have hln:=F.ln
 obtain⟨ρ',f1,a,b,rfl⟩:=forM (enc:=zap) (xs:=found) (h:=tupT 2 (zat (zai 3) (zat (zai 4) nilT))) (g:=zm8) (ρ:=[.val h.pv,.val (.int hour),.own (dP []),.no,.no])
  (I:=fun pre ρ=>∃a b,ρ=[.val h.pv,.val (.int hour),.own (dP (zc0 h pre)),a,b]) ⟨_,_,rfl⟩ (by
   rintro pre p post ρ hx ⟨a,b,rfl⟩;have pm:p∈found:=by rw[hx];simp
   have hpl:pre.length<found.length:=by rw[hx];simp
   have ll:=zjk (h:=h) pre [];have ll:(zc0 h pre).length<=pre.length:=by simpa [zc0] using ll
   refine⟨[.val h.pv,.val (.int hour),.own (dP (zc0 h pre)),.val p.1.pv,.val (.str (rowS p.2))],[.val h.pv,.val (.int hour),.own (dP (zc0 h (pre++[p]))),.val p.1.pv,.val (.str (rowS p.2))],rfl,.inl ?_,_,_,rfl⟩;rw[zlp];have e:=is_out hg p.1 (F.ok p pm);unfold zm8;cases o:outS h p.1 with
   | true=>
    rw[o] at e
    rw[if_t (by
     generalize p.1.pv=S at *;generalize h.pv=H at *;generalize dP (zc0 h pre)=D at *;simp[e]),zyd (h:=h) (L:=zc0 h pre) (p:=p) rfl rfl rfl o (by omega)]
    rfl
   | false=>
    rw[o] at e
    rw[if_f (by
     generalize p.1.pv=S at *;generalize h.pv=H at *;generalize dP (zc0 h pre)=D at *;simp[e])]
    unfold ze1;rw[o];rfl)
 have ll:=zjk (h:=h) found [];have ll:(zc0 h found).length<=found.length:=by simpa [zc0] using ll
 have it:zem (.lst (found.map zap))=some (found.map zap):=rfl;have e2:=zxe (zc0 h found) (by omega)
 have d0:dP []=.dct [] []:=rfl;rw[d0] at f1;generalize dP (zc0 h found)=DD at *;generalize (zc0 h found).map p2=EE at *;generalize found.map zap=FS at *;generalize h.pv=H at *;simp[zuh,PU.start,ep,it];rw[f1];simp[e2]
end
def zcs(a o:Option Nat):Option Nat:=match o with
 | none=>a
 | some y=>match a with
  | none=>some y
  | some z=>if y<z then some y else some z
theorem zlo:∀(os:List (Option Nat)),(∀o∈os,o=none)->os.foldl zcs none=none
 | [],_=>rfl
 | o::os,h=>by
  rw[Bg,h o (by simp)]
  exact zlo os fun x hx=>h x (by simp[hx])
theorem zln:∀(os:List (Option Nat))(a:Option Nat)(y:Nat),os.foldl zcs a=some y->(a=some y\/some y∈os)/\(∀z,a=some z->y<=z)/\∀z,some z∈os->y<=z
 | [],a,y,h=>⟨.inl h,fun z e=>by
   have h:a=some y:=h;rw[h] at e;cases e;exact AY _,by simp⟩
 | o::os,a,y,h=>by
  rw[Bg] at h;obtain⟨h1,h2,h3⟩:=zln os _ y h;cases o with
  | none=>
   refine⟨h1.imp id fun z=>by simp[z],h2,fun z hz=>h3 z (by simpa using hz)⟩
  | some x=>
   cases a with
   | none=>
    have h1:some x=some y\/some y∈os:=h1;refine⟨.inr (by rcases h1 with e | e <;> simp[e]),by simp,fun z hz=>?_⟩
    rcases AU.mp hz with e | e
    ·cases e
     exact h2 x rfl
    ·exact h3 z e
   | some w=>
    by_cases l:x<w
    ·have e1:zcs (some w) (some x)=some x:=if_pos l
     rw[e1] at h1 h2;refine⟨.inr (by rcases h1 with e | e <;> simp[e]),fun z e=>?_,fun z hz=>?_⟩
     ·cases e
      have:=h2 x rfl;omega
     ·rcases AU.mp hz with e | e
      ·cases e
       exact h2 x rfl
      ·exact h3 z e
    ·have e1:zcs (some w) (some x)=some w:=if_neg l
     rw[e1] at h1 h2;refine⟨h1.imp id fun z=>by simp[z],h2,fun z hz=>?_⟩
     ·rcases AU.mp hz with e | e
      ·cases e
       have:=h2 w rfl;omega
      ·exact h3 z e
theorem zqh:∀(os:List (Option Nat))(a:Option Nat),(a≠none\/∃y,some y∈os)->os.foldl zcs a≠none
 | [],a,h=>by
  rcases h with h | ⟨y,h⟩
  ·exact h
  ·simp at h
 | o::os,a,h=>by
  rw[Bg];refine zqh os _ ?_;cases o with
  | none=>exact h.imp id fun ⟨y,hy⟩=>⟨y,by simpa using hy⟩
  | some x=>
   left;cases a with
   | none=>exact fun z=>by cases z
   | some w=>
    show (if x<w then some x else some w)≠none
    split <;> simp
theorem zw9(os:List (Option Nat)):zee [.lst (os.map oP)]=some (oP (os.foldl zcs none)):=by
 refine zan rfl ?_
 obtain⟨ρ',f1,b,rfl⟩:=forM (enc:=oP) (xs:=os) (h:=zai 2) (g:=zck) (ρ:=[.val (.lst (os.map oP)),.val .non,.no])
  (I:=fun pre ρ=>∃b,ρ=[.val (.lst (os.map oP)),.val (oP (pre.foldl zcs none)),b]) ⟨_,rfl⟩ (by
   rintro pre o post ρ hx ⟨b,rfl⟩;refine⟨[.val (.lst (os.map oP)),.val (oP (pre.foldl zcs none)),.val (oP o)],[.val (.lst (os.map oP)),.val (oP ((pre++[o]).foldl zcs none)),.val (oP o)],rfl,.inl ?_,_,rfl⟩;rw[Cg];show _=R.ok (Fl.next [_,.val (oP (zcs (pre.foldl zcs none) o)),_]);generalize pre.foldl zcs none=a;generalize os.map oP=OS;cases o with
   | none=>simp[zck,oP,gm2,zcs]
   | some y=>
    cases a with
    | none=>simp[zck,oP,gm1,gn2,zcs]
    | some z=>
     by_cases l:y<z
     ·have l':(y:Int)<(z:Int):=by omega
      simp[zck,oP,gm1,gn1,zcs,l,l']
     ·have l':¬ (y:Int)<(z:Int):=by omega
      simp[zck,oP,gm1,gn1,zcs,l,l'])
 have it:zem (.lst (os.map oP))=some (os.map oP):=rfl;generalize os.map oP=OS at *;simp[zhg,PU.start,it];rw[f1];simp
theorem Ze8{n:Nat}{out:Nat->Bool}{E:Nat->Nat->Prop}{c:List (Option Nat)}(Fi:BO.Fin_ n out E c)(k:Nat)(hk:k<n)(ho:out k=false)(ms:List Nat)(hms:∀m,m∈ms ↔ (m<n/\E k m)):((ms.map (cK c)).foldl zcs none).map (·+1)=cK c k:=by
 have at_:∀m,m<n->c[m]?=some (cK c m):=fun m hm=>by
  unfold cK;rw[Ag,AX (by rw[Fi.len];exact hm)]
  rfl
 cases e:cK c k with
 | none=>
  rw[zlo _ fun o ho'=>?_]
  ·rfl
  ·obtain⟨m,hm,rfl⟩:=AJ.mp ho'
   obtain⟨m1,m2⟩:=(hms m).mp hm;have:=Fi.none_ k hk ho (by rw[at_ k hk,e]) m m1 m2
   rw[at_ m m1] at this;exact BD this
 | some x=>
  obtain⟨⟨m,m1,m2,y,y1,y2⟩,h2⟩:=Fi.some_ k x hk ho (by rw[at_ k hk,e])
  have ym:some y∈ms.map (cK c):=by
   rw[at_ m m1] at y1;exact AJ.mpr ⟨m,(hms m).mpr ⟨m1,m2⟩,BD y1⟩
  cases el:(ms.map (cK c)).foldl zcs none with
  | none=>exact absurd el (zqh _ _ (.inr ⟨y,ym⟩))
  | some z=>
   obtain⟨q1,_,q3⟩:=zln _ _ z el
   have zm:some z∈ms.map (cK c):=by
    rcases q1 with w | w
    ·cases w
    ·exact w
   obtain⟨m',hm',e'⟩:=AJ.mp zm;obtain⟨a1,a2⟩:=(hms m').mp hm';have b1:=h2 m' z a1 a2 (by rw[at_ m' a1,e'])
   have b2:=q3 y ym;show some (z+1)=some x
   congr 1
   omega
theorem zyu:∀(f:List (BF.Row St))(c:List (Option Nat))(s:St),c.length=f.length->s∈f.map (·.1)->zk1 (kL f) (c.map oP) s.key=some (oP (cK c (zc3 f s)))
 | [],_,_,_,h=>by simp at h
 | p::f,[],_,l,_=>by simp at l
 | p::f,o::c,s,l,h=>by
  show (if p.1.key=s.key then some (oP o) else zk1 (kL f) (c.map oP) s.key)=_
  unfold zc3
  by_cases e:p.1=s
  ·rw[if_pos (by rw[e]),if_pos e]
   rfl
  ·rw[if_neg fun z=>e (St.kinj z),if_neg e]
   rw[AE] at h;rw[An,An] at l;rcases AU.mp h with z | z
   ·exact absurd z.symm e
   ·exact zyu f c s (by omega) z
theorem Zfd(f:List (BF.Row St))(c:List (Option Nat))(l:c.length=f.length):((AF f.length).zip f).map (fun x=>oP (cK c x.1))=c.map oP:=by
 refine DF fun k=>?_
 rw[AG,AG,zr6];cases ep:f[k]? with
 | none=>
  have:=BL.mp ep;rw[Bx (l:=c) (by omega)]
  rfl
 | some p=>
  have hk:=(AA.mp ep).1
  have ec:c[k]?=some (cK c k):=by
   unfold cK;rw[Ag,AX (by omega)]
   rfl
  rw[ec];rfl
theorem Zbe:∀c:List (Option Nat),gIn (.bl false) (.lst (c.map fun _=>PV.bl true))=some (.bl false):=by
 intro c;show (if isSc (.bl false)=true/\(c.map fun _=>PV.bl true).all isSc=true then some (PV.bl (inV (scV (.bl false)) ((c.map fun _=>PV.bl true).map scV))) else none)=_
 rw[if_pos ⟨rfl,by simp[isSc]⟩]
 congr 2
 rw[Am]
 induction c with
 | nil=>rfl
 | cons o c ih=>
  rw[AE];unfold inV at ih ⊢;rw[Bf,ih];rfl
theorem Zeo(o:Option Nat):zeu [oP o]=some (.bl true):=by
 refine zan rfl ?_;cases o with
 | none=>simp[zer,PU.start,oP,gn2]
 | some x=>simp[zer,PU.start,oP,gn1];kernel_rfl
abbrev lsx(X:PV)(h:House)(hour:Int)(found:List (BF.Row St))(c:List (Option Nat))(s5 a b d s9 s10 e g:Sl):PSt:=[.val X,.val h.pv,.val (.int hour),.val (.lst (found.map zap)),.val (.lst (c.map oP)),s5,a,b,d,s9,s10,e,g]
section
variable{h : House}{nms ord : List Str}(hg : HG h nms ord){hour : Int}{s0 : St}{found : List (BF.Row St)}(F : Found h nms hour s0 found){c : List (Option Nat)}(hl : c.length = found.length)(X : PV)
include hg F hl
omit hg F in
theorem at_c(k:Nat)(hk:k<found.length):atI (c.map oP) (k:Int)=some (oP (cK c k)):=by
 refine zbc rfl ?_;rw[AG]
 have ec:c[k]?=some (cK c k):=by
  unfold cK;rw[Ag,AX (by omega)]
  rfl
 rw[ec];rfl
theorem loop1:∃a b d,forF (tupT 2 (zat (zai 6) (zat (tupT 2 (zat (zai 7) (zat (zai 8) nilT))) nilT))) zm7 (((AF found.length).zip found).map enI) (lsx X h hour found c (.own (.dtt [] [])) .no .no .no .no .no .no .no)=.ok (.next (lsx X h hour found c (.own (.dtt (kL found) (c.map oP))) a b d .no .no .no .no)):=by
 obtain⟨ρ',f1,a,b,d,rfl⟩:=forM (enc:=enI) (xs:=(AF found.length).zip found) (h:=tupT 2 (zat (zai 6) (zat (tupT 2 (zat (zai 7) (zat (zai 8) nilT))) nilT))) (g:=zm7) (ρ:=lsx X h hour found c (.own (.dtt [] [])) .no .no .no .no .no .no .no)
  (I:=fun pre ρ=>∃a b d,ρ=lsx X h hour found c (.own (.dtt (kL (pre.map (·.2))) (pre.map fun x=>oP (cK c x.1)))) a b d .no .no .no .no) ⟨_,_,_,rfl⟩ (by
   rintro pre x post ρ hx ⟨a,b,d,rfl⟩;obtain⟨hi,hf⟩:=zr7 hx;obtain⟨i,p⟩:=x;have hi:i=pre.length:=hi;have hf:found=pre.map (·.2)++p::post.map (·.2):=hf
   have fresh:p.1 ∉ (pre.map (·.2)).map (·.1):=fun z=>by
    have nd:=F.inv.nd;rw[hf,AW,AE,BK] at nd;exact nd.2.2 p.1 z p.1 (by simp) rfl
   have hany:((kL (pre.map (·.2))).any fun j=>decide (j=p.1.key))=false:=by
    rw[zpr];exact decide_eq_false fresh
   have hlen:=F.ln;have hpl:pre.length<found.length:=by rw[hf];simp
   refine⟨lsx X h hour found c (.own (.dtt (kL (pre.map (·.2))) (pre.map fun x=>oP (cK c x.1)))) (.val (.int i)) (.val p.1.pv) (.val (.str (rowS p.2))) .no .no .no .no,lsx X h hour found c (.own (.dtt (kL ((pre++[(i,p)]).map (·.2))) ((pre++[(i,p)]).map fun x=>oP (cK c x.1)))) (.val (.int i)) (.val p.1.pv) (.val (.str (rowS p.2))) .no .no .no .no,rfl,.inl ?_,_,_,_,rfl⟩
   have ac:=at_c hl i (by omega)
   unfold zm7
   rw[zop (ks:=kL (pre.map (·.2))) (ps:=pre.map fun x=>oP (cK c x.1)) (p:=oP (cK c i)) (kp:=p.1.pv) (k:=p.1.key) rfl (by
    simp only[lsx];generalize c.map oP=CO at *;generalize oP (cK c i)=O at *;generalize PV.dtt (kL (pre.map (·.2))) (pre.map fun x=>oP (cK c x.1))=DD at *
    generalize found.map zap=FS at *;simp[ac]) rfl p.1.tk (by simp[kL];omega),zmf hany]
   simp only[kL,AW];rfl)
 have h2:((AF found.length).zip found).map (·.2)=found:=DQ (by simp)
 rw[h2,Zfd found c hl] at f1;exact⟨a,b,d,f1⟩
variable(Fi : BO.Fin_ found.length (outN h found) (EN h nms hour found) c)
include Fi
omit hg hl in
theorem Zh3(k:Nat)(p:BF.Row St)(ek:found[k]?=some p)(ho:outS h p.1=false):(((AF 13).map fun i=>cK c (zc3 found (lead h nms hour p.1 i))).foldl zcs none).map (·+1)=cK c k:=by
 have hk:=(AA.mp ek).1;have pm:=AS ek;have:=Ze8 Fi k hk (by unfold outN;rw[ek];exact ho) ((AF 13).map fun i=>zc3 found (lead h nms hour p.1 i)) fun m=>?_
 ·rw[Am] at this
  exact this
 ·constructor
  ·intro hm
   obtain⟨i,hi,rfl⟩:=AJ.mp hm;have hi:=B5.mp hi;obtain⟨q,hq,e,_⟩:=F.cl p pm i hi;exact⟨zym (AJ.mpr ⟨q,hq,e⟩),p,ek,i,hi,rfl⟩
  ·rintro⟨_,p',ep',i,hi,e⟩
   rw[ek] at ep';cases ep';exact AJ.mpr ⟨i,B5.mpr hi,e⟩
omit Fi in
theorem comp3(p:BF.Row St)(pm:p∈found):zci (zai 0) yesB zm3 [.no,.val (.dtt (kL found) (c.map oP)),.val h.pv,.val (.int hour),.val p.1.pv] ((AF 13).map fun i=>WO.sg (cd i))=.ok (((AF 13).map fun i=>cK c (zc3 found (lead h nms hour p.1 i))).map oP):=by
 rw[Am];refine WO.in_list_comp (enc:=fun i=>WO.sg (cd i)) _ (AF 13) fun i hi=>⟨[.val (WO.sg (cd i)),.val (.dtt (kL found) (c.map oP)),.val h.pv,.val (.int hour),.val p.1.pv],rfl,?_⟩
 have hi:=B5.mp hi;have es:=zso hg hour p.1 (F.ok p pm) i
 have ix:gIxT (.dtt (kL found) (c.map oP)) (lead h nms hour p.1 i).pv=some (oP (cK c (zc3 found (lead h nms hour p.1 i)))):=by
  rw[Zcr _ _ (St.tk _),zyu found c _ hl (zvi hg hour F p pm i hi)]
 show _=R.ok (oP (cK c (zc3 found (lead h nms hour p.1 i))));generalize (lead h nms hour p.1 i).pv=S' at *;generalize oP (cK c (zc3 found (lead h nms hour p.1 i)))=O at *;generalize PV.dtt (kL found) (c.map oP)=KD at *;generalize WO.sg (cd i)=G at *;generalize p.1.pv=S at *;generalize h.pv=H at *;simp[zm3,es,ix]
theorem law4(k:Nat)(p:BF.Row St)(ek:found[k]?=some p)(L1:List PV)(L2:List (Str×Str))(z1:L1.length<16777216)(z2:L2.length<16777216)(s5 e g:Sl)(hs5:s5=.own (.dtt (kL found) (c.map oP))\/s5=.val (.dtt (kL found) (c.map oP))):∃s5' e' g',(s5'=.own (.dtt (kL found) (c.map oP))\/s5'=.val (.dtt (kL found) (c.map oP)))/\
  zku (lsx X h hour found c s5 (.val (.int k)) (.val p.1.pv) (.val (.str (rowS p.2))) (.own (.lst L1)) (.own (dP L2)) e g)=.ok (.next (lsx X h hour found c s5' (.val (.int k)) (.val p.1.pv) (.val (.str (rowS p.2))) (.own (.lst (if (cK c k).isNone=true then L1++[zap p] else L1))) (.own (dP (ze1 h L2 p))) e' g')):=by
 have hk:=(AA.mp ek).1;have pm:=AS ek;have ac:=at_c hl k hk;obtain⟨KD,T,eh,dh⟩:=zyp hg p.1 (F.ok p pm)
 have gne:gNe (.str KD) (.str "asked")=some (.bl (outS h p.1)):=by
  show (if isSc (.str KD)=true/\isSc (.str "asked")=true/\scal (scV (.str KD)) (scV (.str "asked"))=true then some (PV.bl (!decide (scV (.str KD)=scV (.str "asked")))) else none)=_
  rw[if_pos ⟨rfl,rfl,rfl⟩]
  have:decide (scV (.str KD)=scV (.str "asked"))=decide (KD=AN "asked"):=by
   congr 1
   exact propext ⟨fun z=>V.str.inj z,fun z=>congrArg V.str z⟩
  rw[this,dh,Bool.not_not]
 have on:=o_ne (cK c k);have g0:gIx p.1.pv (.int 0)=some (.str p.1.r):=rfl
 have A:∃s5' g',(s5'=.own (.dtt (kL found) (c.map oP))\/s5'=.val (.dtt (kL found) (c.map oP)))/\
   (ifF (truF (bin2 (bin2 (zaz (zac (getV 1) (zac (getV 7) nilA)) zgs) (kI 0) gIx) (kS "asked") gNe)) (seqF (zou 10 (bin2 (getV 7) (kI 0) gIx) (getV 8)) (setF 11 (kI 0))) (seqF (frzS 5 (setF 12 (zaz (zac (zfa (itF (kS "0123456789*#w")) (zai 0) yesB zm3 1 [5,1,2,7]) nilA) zee))) (seqF (setF 11 kN) (ifF (truF (bin2 (getV 12) kN zmx)) (setF 11 (bin2 (getV 12) (kI 1) gAdd)) zca)))) (lsx X h hour found c s5 (.val (.int k)) (.val p.1.pv) (.val (.str (rowS p.2))) (.own (.lst L1)) (.own (dP L2)) e g)=.ok (.next (lsx X h hour found c s5' (.val (.int k)) (.val p.1.pv) (.val (.str (rowS p.2))) (.own (.lst L1)) (.own (dP (ze1 h L2 p))) (.val (oP (cK c k))) g')):=by
  cases o:outS h p.1 with
  | true=>
   rw[o] at gne;refine⟨s5,g,hs5,?_⟩
   rw[if_t (by
    simp only[lsx];generalize dP L2=D2 at *;generalize c.map oP=CO at *;generalize found.map zap=FS at *;generalize p.1.pv=S at *;generalize h.pv=H at *;simp[eh,gne]),sq (zyd (h:=h) (L:=L2) (p:=p) rfl (by
    simp only[lsx];generalize dP L2=D2 at *;generalize c.map oP=CO at *;generalize found.map zap=FS at *;generalize p.1.pv=S at *;generalize h.pv=H at *;simp[g0]) rfl o z2)]
   have ck:cK c k=some 0:=by
    have:=(Fi.out0 k hk).mp (by unfold outN;rw[ek];exact o)
    unfold cK;rw[Ag,this];rfl
   rw[ck];rfl
  | false=>
   rw[o] at gne;have du:=Zh3 F Fi k p ek o;have ec:=comp3 hg F hl p pm;have le:=zw9 ((AF 13).map fun i=>cK c (zc3 found (lead h nms hour p.1 i)))
   have ls:ze1 h L2 p=L2:=by
    unfold ze1;rw[o];rfl
   have it:=zsu;have z13:(((AF 13).map fun i=>cK c (zc3 found (lead h nms hour p.1 i))).map oP).length<=16777216:=by simp
   rw[ls,← du];refine⟨.val (.dtt (kL found) (c.map oP)),.val (oP (((AF 13).map fun i=>cK c (zc3 found (lead h nms hour p.1 i))).foldl zcs none)),.inr rfl,?_⟩
   rw[if_f (by
    simp only[lsx];generalize dP L2=D2 at *;generalize c.map oP=CO at *;generalize found.map zap=FS at *;generalize p.1.pv=S at *;generalize h.pv=H at *;rcases hs5 with rfl | rfl <;> simp[eh,gne])]
   simp only[lsx];generalize ((AF 13).map fun i=>cK c (zc3 found (lead h nms hour p.1 i))).foldl zcs none=LE at *
   generalize ((AF 13).map fun i=>cK c (zc3 found (lead h nms hour p.1 i))).map oP=R13 at *
   generalize (AF 13).map (fun i=>WO.sg (cd i))=SS at *
   generalize PV.dtt (kL found) (c.map oP)=DT at *;generalize dP L2=D2 at *;generalize c.map oP=CO at *;generalize found.map zap=FS at *;generalize p.1.pv=S at *;generalize h.pv=H at *;cases LE with
   | none=>rcases hs5 with rfl | rfl <;> simp[it,zbh,roS,ec,z13,le,oP,gm2]
   | some y=>rcases hs5 with rfl | rfl <;> simp[it,zbh,roS,ec,z13,le,oP,gm1]
 obtain⟨s5',g',h5,A⟩:=A;refine⟨s5',.val (oP (cK c k)),g',h5,?_⟩;unfold zku;rw[sq A]
 have B:ifF (truF (bin2 (bin2 (getV 4) (getV 6) gIx) (getV 11) gNe)) (retF (kB false)) zca (lsx X h hour found c s5' (.val (.int k)) (.val p.1.pv) (.val (.str (rowS p.2))) (.own (.lst L1)) (.own (dP (ze1 h L2 p))) (.val (oP (cK c k))) g')=.ok (.next (lsx X h hour found c s5' (.val (.int k)) (.val p.1.pv) (.val (.str (rowS p.2))) (.own (.lst L1)) (.own (dP (ze1 h L2 p))) (.val (oP (cK c k))) g')):=by
  rw[if_f (by
   simp only[lsx];generalize dP (ze1 h L2 p)=D2 at *;generalize c.map oP=CO at *;generalize found.map zap=FS at *;generalize oP (cK c k)=OK' at *;generalize p.1.pv=S at *;generalize h.pv=H at *;simp[ac,on])]
  rfl
 rw[sq B];cases o:cK c k with
 | none=>
  rw[if_t (by
   simp only[lsx];generalize dP (ze1 h L2 p)=D2 at *;generalize c.map oP=CO at *;generalize found.map zap=FS at *;generalize p.1.pv=S at *;generalize h.pv=H at *;simp[oP,gn2]),if_pos (show (none:Option Nat).isNone=true from rfl)]
  unfold zap;simp only[lsx];generalize dP (ze1 h L2 p)=D2 at *;generalize c.map oP=CO at *;generalize found.map _=FS at *;generalize p.1.pv=S at *;generalize h.pv=H at *;simp[z1]
 | some y=>
  rw[if_f (by
   simp only[lsx];generalize dP (ze1 h L2 p)=D2 at *;generalize c.map oP=CO at *;generalize found.map zap=FS at *;generalize p.1.pv=S at *;generalize h.pv=H at *;simp[oP,gn1]),if_neg (show ¬ (some y:Option Nat).isNone=true from AM)]
  rfl
end
end K32
section
set_option maxHeartbeats 400000
namespace K32
open PySem L2 PU MT NM BG NW
theorem zwc(c:List (Option Nat))(L:List (Nat×BF.Row St))(k:Nat)(p:BF.Row St):stk c (L++[(k,p)])=if (cK c k).isNone=true then stk c L++[zap p] else stk c L:=by
 unfold stk;rw[List.filter_append]
 by_cases e:(cK c k).isNone=true
 ·have:[(k,p)].filter (fun x=>(cK c x.1).isNone)=[(k,p)]:=by simp[e]
  rw[if_pos e,this,AW];rfl
 ·have:[(k,p)].filter (fun x=>(cK c x.1).isNone)=[]:=by simp[e]
  rw[if_neg e,this,BY]
theorem zzs(c:List (Option Nat))(L:List (Nat×BF.Row St)):(stk c L).length<=L.length:=by
 unfold stk;rw[AI];exact Ek _ _
section
variable{h : House}{nms ord : List Str}(hg : HG h nms ord){hour : Int}{s0 : St}{found : List (BF.Row St)}(F : Found h nms hour s0 found){c : List (Option Nat)}(hl : c.length = found.length)(X : PV)(Fi : BO.Fin_ found.length (outN h found) (EN h nms hour found) c)
include hg F hl Fi
theorem loop2(a b d:Sl):∃s5 a' b' d' e g,forF (tupT 2 (zat (zai 6) (zat (tupT 2 (zat (zai 7) (zat (zai 8) nilT))) nilT))) zku (((AF found.length).zip found).map enI) (lsx X h hour found c (.own (.dtt (kL found) (c.map oP))) a b d (.own (.lst [])) (.own (dP [])) .no .no)=.ok (.next (lsx X h hour found c s5 a' b' d' (.own (.lst (stk c ((AF found.length).zip found)))) (.own (dP (zc0 h found))) e g)):=by
 obtain⟨ρ',f1,s5,a,b,d,e,g,rfl,_⟩:=forM (enc:=enI) (xs:=(AF found.length).zip found) (h:=tupT 2 (zat (zai 6) (zat (tupT 2 (zat (zai 7) (zat (zai 8) nilT))) nilT))) (g:=zku) (ρ:=lsx X h hour found c (.own (.dtt (kL found) (c.map oP))) a b d (.own (.lst [])) (.own (dP [])) .no .no)
  (I:=fun pre ρ=>∃s5 a b d e g,ρ=lsx X h hour found c s5 a b d (.own (.lst (stk c pre))) (.own (dP (zc0 h (pre.map (·.2))))) e g/\(s5=.own (.dtt (kL found) (c.map oP))\/s5=.val (.dtt (kL found) (c.map oP)))) ⟨_,_,_,_,_,_,rfl,.inl rfl⟩ (by
   rintro pre x post ρ hx ⟨s5,a,b,d,e,g,rfl,h5⟩;obtain⟨hi,hf⟩:=zr7 hx;obtain⟨k,p⟩:=x;have hi:k=pre.length:=hi;have hf:found=pre.map (·.2)++p::post.map (·.2):=hf
   have ek:found[k]?=some p:=by
    rw[hf,hi,As (by simp)]
    simp
   have hpl:pre.length<found.length:=by rw[hf];simp
   have hln:=F.ln;have z1:=zzs c pre;have z2:=zjk (h:=h) (pre.map (·.2)) [];have z2:(zc0 h (pre.map (·.2))).length<=pre.length:=by simpa [zc0] using z2
   obtain⟨s5',e',g',h5',eb⟩:=law4 hg F hl X Fi k p ek (stk c pre) (zc0 h (pre.map (·.2))) (by omega) (by omega) s5 e g h5
   rw[← zwc,← zlp] at eb;have em:(pre++[(k,p)]).map (·.2)=pre.map (·.2)++[p]:=by rw[AW];rfl
   rw[← em] at eb;exact⟨lsx X h hour found c s5 (.val (.int k)) (.val p.1.pv) (.val (.str (rowS p.2))) (.own (.lst (stk c pre))) (.own (dP (zc0 h (pre.map (·.2))))) e g,lsx X h hour found c s5' (.val (.int k)) (.val p.1.pv) (.val (.str (rowS p.2))) (.own (.lst (stk c (pre++[(k,p)])))) (.own (dP (zc0 h ((pre++[(k,p)]).map (·.2))))) e' g',rfl,.inl eb,s5',(.val (.int k)),(.val p.1.pv),(.val (.str (rowS p.2))),e',g',rfl,h5'⟩)
 have h2:((AF found.length).zip found).map (·.2)=found:=DQ (by simp)
 rw[h2] at f1;exact⟨s5,a,b,d,e,g,f1⟩
end
end K32
end
section
set_option maxHeartbeats 1000000
namespace K32
open PySem L2 PU MT NM BG NW
theorem zxa(ns:List Int):zuu [.lst (ns.map .int)]=some (.bl true):=by
 refine zan rfl ?_;obtain⟨h,nms,ord,hg,eh⟩:=house ns;have c6:zar [PV.lst (ns.map PV.int),PV.int 6]=some (PV.int (ns.getD 6 0)):=ziz ns 6;generalize ns.getD 6 0=z6 at c6;have m24:gMod (.int z6) (.int 24)=some (.int (z6 % 24)):=zds (by decide)
 generalize z6 % 24=hour at m24;obtain⟨s0,h0,hb⟩:=zxz hg hour;obtain⟨found,F,ep⟩:=zs6 hg hour s0 h0 hb;obtain⟨c,eo,Fi⟩:=zrk hg hour F;have hl:=Fi.len;have hln:=F.ln;have et:=zv7 ep eo hl hln;have ee:=Zbo hg F ep
 have eu:zoa [h.pv,.int hour]=some (.lst (c.map oP)):=by
  refine zan rfl ?_;generalize found.map zap=FS at *;generalize c.map oP=CO at *;generalize h.pv=H at *;simp[zug,PU.start,ep,eo]
 have en:=Ze2 found;have itc:zem (.lst (c.map oP))=some (c.map oP):=rfl
 have cf:zci (zai 0) yesB zpo [.no] (c.map oP)=.ok (c.map fun _=>PV.bl true):=WO.in_list_comp (enc:=oP) _ c fun o _=>⟨[.val (oP o)],rfl,by
  have:=Zeo o;generalize oP o=O at *;simp[zpo,this]⟩
 have inn:=Zbe c;have zc:(c.map fun _=>PV.bl true).length<=16777216:=by rw[AI];omega
 have ll:(c.map oP).length=(found.map zap).length:=by rw[AI,AI,hl]
 obtain⟨a,b,d,l1⟩:=loop1 hg F hl (.lst (ns.map .int));obtain⟨s5,a',b',d',e',g',l2⟩:=loop2 hg F hl (.lst (ns.map .int)) Fi a b d;have d0:dP []=.dct [] []:=rfl;rw[d0] at l2;have nd:=Zax (h:=h) found [] (by simp)
 obtain⟨KI,ik,ec⟩:=ztu (zc0 h found) nd;have z2:=zjk (h:=h) found []
 have z2:((zc0 h found).map p2).length<=16777216:=by
  rw[AI];have:(zc0 h found).length<=found.length:=by simpa [zc0] using z2
  omega
 have ne1:=ztn (ps:=stk c ((AF found.length).zip found)) fun p hp=>by
  obtain⟨x,_,rfl⟩:=AJ.mp hp;exact zwg x.2
 have ne2:=ztn (ps:=(zc0 h found).map p2) fun p hp=>by
  obtain⟨x,_,rfl⟩:=AJ.mp hp;simp[p2,flat,flats,pdep,pdeps]
 have qe:=Zbl (ps:=c.map oP) fun p hp=>by
  obtain⟨x,_,rfl⟩:=AJ.mp hp;exact Zdx x
 have hrefl:=zrs h hg.g.nd;simp only[lsx] at l1 l2;generalize PV.dtt (kL found) (c.map oP)=KD at *;generalize stk c ((AF found.length).zip found)=SK at *;generalize ((AF found.length).zip found).map enI=EE at *;generalize (c.map fun _=>PV.bl true)=BT at *
 generalize (zc0 h found).map p2=LP at *;generalize dP (zc0 h found)=DL at *;generalize found.map zap=FS at *;generalize c.map oP=CO at *;generalize ns.map PV.int=NS at *;generalize h.pv=H at *;have il:gIsi "list" (.lst CO)=some (.bl true):=rfl;simp[zxj,PU.start,eh,c6,m24,ep,eu,il,ll,itc,zbh,cf,zc,inn,newT,en];rw[l1];simp[en];rw[l2];simp[et,ee,ne1,ik,roS,ec,z2,ne2,zbh,hrefl,eh,eu,qe]
end K32
end
namespace K32
open PySem PySem.Spec PyProof.Rows L2 PU
seal EV EO EN EA ET EW SV SVs TGt TGts TCt TCts EI ETs ED EOI EL
def top(i:Nat):Stmt:=BB.main.body.getD i (.Pass ⟨0,0,0,0⟩)
structure Txt(w:Ar)(K:A0)(mg:Str->Option A9):Prop where
 n_bool:mg "bool"=none
 n_dict:mg "dict"=none
 n_enumerate:mg "enumerate"=none
 n_int:mg "int"=none
 n_isinstance:mg "isinstance"=none
 n_len:mg "len"=none
 n_list:mg "list"=none
 n_range:mg "range"=none
 n_tuple:mg "tuple"=none
 n_zip:mg "zip"=none
 c_CODE_END:@Con (tw w) K mg "CODE_END" c_CODE_END
 c_HEARD:@Con (tw w) K mg "HEARD" c_HEARD
 c_SIGNS:@Con (tw w) K mg "SIGNS" c_SIGNS
 c_WAIT:@Con (tw w) K mg "WAIT" c_WAIT
end K32
namespace K32
open PySem PySem.Spec PyProof.Rows L2 PU
seal EV EO EN EA ET EW SV SVs TGt TGts TCt TCts EI ETs ED EOI EL
variable{P : Ak}{w : Ar}{K : A0}{mg : Str → Option A9}{base : Heap}
abbrev zfi:Stmt:=top 37
theorem zbe:FnScope ["_law_cell","_law_many","_law_found","_law_number","_law_k"] ["_law_cell","_law_many"] (zad zfi):=fsc
theorem za8 (T:Txt w K mg) (hs:Hs K mg "_law_numbers" zfi):@PF (tw w) P w K mg base 1 "_law_numbers" zaw:=
 letI:TW:=tw w
 pf_h (g:=zd1) hs zbe fun _ _ _ _ _ _ _ hr=>have hu:=hr.units;(zab (zdy 2 zbe.nd (zdz zag)) (zab (zau 3 zbe.nd (zaq zw4 (eo_w 0) zae)) (zab (zc2 (za2 (opEq hu) zb6 (EV.o (zaq zdk (eo_w 0) zae)) zae) (zab (zb8 (zgv rfl T.n_range (ev_v 1)) (zax 4 zbe.nd) (zab (zcp 2 (zaq zdk (eo_w 3) zae)) (zaf (zau 3 zbe.nd (zaq zw4 (eo_w 3) zae))))) (zaf (SV.frz 2 (zav (ev_v 2))))) za4) (zab (zau 3 zbe.nd (zaq zdk (eo_w 3) zae)) (zab (zb8 (zgv rfl T.n_range (zaq zd0 (eo_w 1) zae)) (zax 4 zbe.nd) (zab (zau 3 zbe.nd (zaq zdk (EV.o (zaq zti (EV.o (zaq zd0 (EV.o (zaq zd0 (eo_w 3) (eo_w 4))) zae)) zae)) zae)) (zaf (zcp 2 (zaq zdk (EV.o (zaq zti (eo_w 3) zae)) zae))))) (zaf (zav (zm0 (eo_v 2) (zf1 za1) zf2))))))))
abbrev zha:Stmt:=top 38
theorem zbf:FnScope ["_law_cell","_law_letters","_law_some","_law_size","_law_at","_law_names_here","_law_turn","_law_name","_law_k"] ["_law_cell"] (zad zha):=fsc
theorem zgc (T:Txt w K mg) (hs:Hs K mg "_law_names" zha) (za8:@PF (tw w) P w K mg base 1 "_law_numbers" zaw):@PF (tw w) P w K mg base 2 "_law_names" zft:=
 letI:TW:=tw w
 pf_h (g:=zhf) hs zbf fun _ _ _ _ _ _ _ hr=>have hu:=hr.units;(zab (zau 1 zbf.nd zay) (zab (zau 2 zbf.nd (zaj za8 hr (zaa (ev_v 0) (zaa za1 zag)))) (zab (zau 3 zbf.nd (zaq zd0 zae (EV.o (zaq zdk (EV.o (zah (ixP hu) (eo_w 2) zae)) zae)))) (zab (zau 4 zbf.nd (zaq zdk (EV.o (zah (ixP hu) (eo_w 2) zae)) (eo_w 3))) (zab (zdy 5 zbf.nd (zdz zag)) (zab (zb8 (zgv rfl T.n_range za1) (zax 6 zbf.nd) (zab (zau 7 zbf.nd zay) (zab (zb8 (zgv rfl T.n_range (ev_v 3)) (zax 8 zbf.nd) (zaf (zau 7 zbf.nd (zaq zd0 (eo_w 7) (EV.o (zah (ixP hu) (eo_w 1) (EV.o (zaq zdk (EV.o (zaq zd0 (EV.o (zah (ixP hu) (eo_w 2) (eo_w 8))) (EV.o (zaq zti (EV.o (zaq zti zae (eo_w 6))) (EV.o (Zbh cInt rfl T.n_int rfl (EV.o (zoc (opEq hu) (eo_w 8) (eo_w 4))))))))) zae)))))))) (zaf (zcp 5 (ev_v 7)))))) (zaf (SV.frz 5 (zav (ev_v 5))))))))))
abbrev zcy:Stmt:=top 40
theorem za5:FnScope ["_law_names_here","_law_cell","_law_low","_law_some","_law_words","_law_k","_law_word","_law_wrong"] ["_law_names_here","_law_cell","_law_low"] (zad zcy):=fsc
theorem zcn (T:Txt w K mg) (hs:Hs K mg "_law_room_of_names" zcy) (za8:@PF (tw w) P w K mg base 1 "_law_numbers" zaw):@PF (tw w) P w K mg base 2 "_law_room_of_names" zb2:=
 letI:TW:=tw w
 pf_h (g:=zb1) hs za5 fun _ _ _ _ _ _ _ hr=>have hu:=hr.units;(zab (zau 3 za5.nd (zaj za8 hr (zaa (ev_v 1) (zaa za1 zag)))) (zab (zdy 4 za5.nd (zdz zag)) (zab (zb8 (zix rfl T.n_enumerate (EN.v (zdz (zaa zay (zaa zay (zaa zay (zaa zay (zaa zay (zaa zay zag))))))))) (zfx rfl (za0 (zax 5 za5.nd) (za0 (zax 6 za5.nd) zdt))) (zaf (zc2 (EW.et (zuw (za2 (opEq hu) zb6 (EV.o (zaq zdk (EV.o (zah (ixP hu) (eo_w 3) (eo_w 5))) zae)) zae) (zpj (za2 opLt zis (EV.o (zk4 cLen rfl T.n_len rfl (eo_v 4))) zae)))) (zaf (zcp 4 (za9 (zaa (ev_v 6) (zaa (zah (ixP hu) (eo_w 0) (EV.o (zaq zdk (EV.o (zaq zw4 (EV.o (zah (ixP hu) (eo_w 3) (eo_w 5))) zae)) (eo_w 2)))) zag))))) za4))) (zab (zc2 (za2 (opEq hu) zb6 (EV.o (zk4 cLen rfl T.n_len rfl (eo_v 4))) zae) (zaf (zcp 4 (za9 (zaa zay (zaa (zah (ixP hu) (eo_w 0) zae) zag))))) za4) (zab (zau 7 za5.nd (za9 (zaa za1 (zaa (zah (ixP hu) (eo_w 0) (EV.o (zaq zdk (EV.o (zah (ixP hu) (eo_w 3) zae)) (eo_w 2)))) zag)))) (zaf (zav (za9 (zaa zay (zaa zay (zaa (Zbh zze rfl T.n_tuple rfl (eo_v 4)) (zaa (ev_v 7) (zaa (za9 (zaa za1 (zaa (zah (ixP hu) (eo_w 0) (EV.o (zaq zdk (EV.o (zah (ixP hu) (eo_w 3) zae)) (eo_w 2)))) zag))) zag)))))))))))))
abbrev zfj:Stmt:=top 36
theorem zkz:FnScope ["_law_script","_law_k"] ["_law_script","_law_k"] (zad zfj):=fsc
theorem za3 (T:Txt w K mg) (hs:Hs K mg "_law_cell_at" zfj):@PF (tw w) P w K mg base 1 "_law_cell_at" zar:=
 letI:TW:=tw w
 pf_h (g:=zd2) hs zkz fun _ _ _ _ _ _ _ hr=>have hu:=hr.units;(zab (zc2 (za2 opLt zis (eo_w 1) (EV.o (zk4 cLen rfl T.n_len rfl (eo_w 0)))) (zaf (zav (zah (ixP hu) (eo_w 0) (eo_w 1)))) za4) (zaf (zav za1)))
abbrev zil:Stmt:=top 39
theorem zdl:FnScope ["_law_names_here","_law_text","_law_cell","_law_low","_law_some","_law_keys","_law_k","_law_key","_law_wrong"] ["_law_names_here","_law_text","_law_cell","_law_low"] (zad zil):=fsc
theorem zhd (T:Txt w K mg) (hs:Hs K mg "_law_menu" zil) (za8:@PF (tw w) P w K mg base 1 "_law_numbers" zaw):@PF (tw w) P w K mg base 2 "_law_menu" zgy:=
 letI:TW:=tw w
 pf_h (g:=zit) hs zdl fun _ _ _ _ _ _ _ hr=>have hu:=hr.units;(zab (zau 4 zdl.nd (zaj za8 hr (zaa (ev_v 2) (zaa za1 zag)))) (zab (zdy 5 zdl.nd (zdz zag)) (zab (zb8 (zix rfl T.n_enumerate zay) (zfx rfl (za0 (zax 6 zdl.nd) (za0 (zax 7 zdl.nd) zdt))) (zaf (zc2 (za2 (opEq hu) zb6 (EV.o (zaq zdk (EV.o (zah (ixP hu) (eo_w 4) (eo_w 6))) zae)) zae) (zaf (zcp 5 (za9 (zaa (ev_v 7) (zaa (zah (ixP hu) (EV.o (zaq zd0 (EV.o (zm0 (eo_w 0) zf2 (zf1 (ev_v 3)))) (EN.o (zdz (zaa zay zag))))) (EV.o (zaq zdk (EV.o (zah (ixP hu) (eo_w 4) (EV.o (zaq zd0 (eo_w 6) zae)))) (EV.o (zaq zd0 (eo_w 3) zae))))) zag))))) za4))) (zab (zau 8 zdl.nd (za9 (zaa (zaq zd0 zae (EV.o (zaq zdk (EV.o (zah (ixP hu) (eo_w 4) zae)) zae))) (zaa (zah (ixP hu) (eo_w 0) (EV.o (zaq zdk (EV.o (zah (ixP hu) (eo_w 4) zae)) (eo_w 3)))) zag)))) (zaf (zav (za9 (zaa zay (zaa (ev_v 1) (zaa (Zbh zze rfl T.n_tuple rfl (eo_v 5)) (zaa (ev_v 8) (zaa (za9 (zaa (zaq zd0 zae (EV.o (zaq zdk (EV.o (zah (ixP hu) (eo_w 4) zae)) zae))) (zaa (zah (ixP hu) (eo_w 0) (EV.o (zaq zdk (EV.o (zah (ixP hu) (eo_w 4) zae)) (eo_w 3)))) zag))) zag))))))))))))
abbrev zhc:Stmt:=top 41
theorem zbx:FnScope ["_law_script","_law_names_here","_law_low","_law_rooms","_law_k","_law_some","_law_span","_law_letters"] ["_law_script"] (zad zhc):=fsc
theorem zeq (T:Txt w K mg) (hs:Hs K mg "_law_house" zhc) (zgc:@PF (tw w) P w K mg base 2 "_law_names" zft) (za3:@PF (tw w) P w K mg base 1 "_law_cell_at" zar) (zhd:@PF (tw w) P w K mg base 2 "_law_menu" zgy) (zcn:@PF (tw w) P w K mg base 2 "_law_room_of_names" zb2) (za8:@PF (tw w) P w K mg base 1 "_law_numbers" zaw):@PF (tw w) P w K mg base 3 "_law_house" zef:=
 letI:TW:=tw w
 pf_h (g:=zhh) hs zbx fun _ _ _ _ _ _ _ hr=>have hu:=hr.units;(zab (zau 1 zbx.nd (zaj zgc hr (zaa (zaj za3 hr (zaa (ev_v 0) (zaa za1 zag))) zag))) (zab (zau 2 zbx.nd (zah (ixP hu) (EN.o (zdz (zaa za1 (zaa za1 (zaa za1 zag))))) (EV.o (zaq zdk (EV.o (zaj za3 hr (zaa (ev_v 0) (zaa za1 zag)))) zae)))) (zab (zdy 3 zbx.nd zhj) (zab (zb8 (zgv rfl T.n_range za1) (zax 4 zbx.nd) (zaf (zfy 3 hu (zah (ixP hu) (eo_w 1) (eo_w 4)) (zaj zhd hr (zaa (ev_v 1) (zaa (zah (ixP hu) (EN.o (zdz (zaa zay (zaa zay zag)))) (eo_w 4)) (zaa (zaq zd0 (EV.o (zaj za3 hr (zaa (ev_v 0) (zaa (zaq zd0 zae (eo_w 4)) zag)))) (EV.o (zaq zti zae (eo_w 4)))) (zaa (ev_v 2) zag)))))))) (zab (zfy 3 hu (zah (ixP hu) (eo_w 1) zae) (zaj zcn hr (zaa (ev_v 1) (zaa (zaj za3 hr (zaa (ev_v 0) (zaa za1 zag))) (zaa (ev_v 2) zag))))) (zab (zau 5 zbx.nd (zaj za8 hr (zaa (zaj za3 hr (zaa (ev_v 0) (zaa za1 zag))) (zaa za1 zag)))) (zab (zau 6 zbx.nd (za9 (zaa (zaq zdk (EV.o (zah (ixP hu) (eo_w 5) zae)) zae) (zaa (zaq zd0 zae (EV.o (zaq zdk (EV.o (zah (ixP hu) (eo_w 5) zae)) zae))) (zaa (zah (ixP hu) (eo_w 1) (EV.o (zah (ixP hu) (EN.o (zdz (zaa za1 (zaa za1 (zaa za1 (zaa za1 zag)))))) (EV.o (zaq zdk (EV.o (zah (ixP hu) (eo_w 5) zae)) zae))))) zag))))) (zab (zfy 3 hu (zah (ixP hu) (eo_w 1) zae) (za9 (zaa zay (zaa (za9 (zaa (ev_v 6) zag)) (zaa (zah (ixP hu) (eo_w 1) (EV.o (zah (ixP hu) (EN.o (zdz (zaa za1 (zaa za1 (zaa za1 (zaa za1 zag)))))) (EV.o (zaq zdk (EV.o (zah (ixP hu) (eo_w 5) zae)) zae))))) zag))))) (zab (zc2 (za2 (opEq hu) zb6 (eo_w 2) zae) (zaf (zfy 3 hu (zah (ixP hu) (eo_w 1) zae) (za9 (zaa zay (zaa (za9 zag) (zaa (zah (ixP hu) (eo_w 1) (EV.o (zaq zdk (EV.o (zah (ixP hu) (eo_w 5) zae)) zae))) zag)))))) za4) (zab (zfy 3 hu (zah (ixP hu) (eo_w 1) zae) (za9 (zaa zay (zaa zay zag)))) (zab (zfy 3 hu (zah (ixP hu) (eo_w 1) zae) (za9 (zaa zay (zaa zay zag)))) (zab (zfy 3 hu (zah (ixP hu) (eo_w 1) zae) (za9 (zaa zay (zaa (zah (ixP hu) (EN.o (zdz (zaa zay (zaa zay zag)))) (EV.o (zaq zdk (EV.o (zaq zw4 (EV.o (zaj za3 hr (zaa (ev_v 0) (zaa za1 zag)))) zae)) zae))) zag)))) (zab (zc2 (za2 (opEq hu) zb6 (eo_w 2) zae) (zaf (zfy 3 hu (zah (ixP hu) (eo_w 1) zae) (za9 (zaa zay (zaa (za9 (zaa (zaq zd0 (EV.o (zm0 (eo_w 6) zf2 (zf1 za1))) (EV.o (za9 (zaa (zah (ixP hu) (eo_w 1) zae) zag)))) zag)) (zaa (zah (ixP hu) (eo_w 1) (EV.o (zaq zdk (EV.o (zah (ixP hu) (eo_w 5) zae)) zae))) zag)))))) za4) (zab (zau 7 zbx.nd (EN.v (zdz (zaa (za9 (zaa zay (zaa zay zag))) (zaa (za9 (zaa zay (zaa zay zag))) (zaa (za9 (zaa zay (zaa zay zag))) (zaa (za9 (zaa zay (zaa zay zag))) (zaa (za9 (zaa zay (zaa zay zag))) zag)))))))) (zaf (SV.frz 3 (zav (EN.v (Zbq (zpm zay (zah (ixP hu) (eo_w 1) (EV.o (zaq zdk (EV.o (zah (ixP hu) (eo_w 5) zae)) (eo_w 2)))) (zpm zay (ev_v 7) (zpm zay (ev_v 3) Ze5))))))))))))))))))))))
abbrev zmc:Stmt:=top 1
theorem zhs:FnScope ["room","hour","since","till","name"] ["room","hour"] (zad zmc):=fsc
theorem zj3 (T:Txt w K mg) (hs:Hs K mg "handed" zmc):@PF (tw w) P w K mg base 1 "handed" zjo:=
 letI:TW:=tw w
 pf_h (g:=zjm) hs zhs fun _ _ _ _ _ _ _ hr=>have hu:=hr.units;(zab (zb8 (zdh (zah (ixP hu) (eo_w 0) zae)) (zfx rfl (za0 (zax 2 zhs.nd) (za0 (zax 3 zhs.nd) (za0 (zax 4 zhs.nd) zdt)))) (zaf (zc2 (zxn opLe opLt Zba zis (eo_w 2) (eo_w 1) (eo_w 3)) (zaf (zav (ev_v 4))) za4))) (zaf (zav (zah (ixP hu) (eo_w 0) zae))))
abbrev zjy:Stmt:=top 2
theorem zii:FnScope ["H","hour","name","come"] ["H","hour","name"] (zad zjy):=fsc
theorem zin (T:Txt w K mg) (hs:Hs K mg "come_to" zjy) (zj3:@PF (tw w) P w K mg base 1 "handed" zjo):@PF (tw w) P w K mg base 2 "come_to" zh5:=
 letI:TW:=tw w
 pf_h (g:=zkf) hs zii fun _ _ _ _ _ _ _ hr=>have hu:=hr.units;(zab (zau 3 zii.nd (ev_v 2)) (zab (zlz 300 (za2 (opEq hu) zb6 (EV.o (zah (ixP hu) (EV.o (zah (ixP hu) (EV.o (zah (ixP hu) (eo_w 0) zdg)) (eo_w 3))) zae)) zdg) (zaf (zau 3 zii.nd (zaj zj3 hr (zaa (zah (ixP hu) (EV.o (zah (ixP hu) (eo_w 0) zdg)) (eo_w 3)) (zaa (ev_v 1) zag)))))) (zaf (zav (ev_v 3)))))
abbrev zj1:Stmt:=top 14
theorem zrc:FnScope ["H","hour","name","back"] ["H","hour","name","back"] (zad zj1):=fsc
theorem zcg (T:Txt w K mg) (hs:Hs K mg "arrival" zj1) (zin:@PF (tw w) P w K mg base 2 "come_to" zh5):@PF (tw w) P w K mg base 3 "arrival" zb4:=
 letI:TW:=tw w
 pf_h (g:=zkh) hs zrc fun _ _ _ _ _ _ _ hr=>have hu:=hr.units;(zaf (zav (za9 (zaa (zaj zin hr (zaa (ev_v 0) (zaa (ev_v 1) (zaa (ev_v 2) zag)))) (zaa (ev_v 3) (zaa za1 (zaa za1 (zaa zay zag))))))))
abbrev zox:Stmt:=top 13
theorem zwe:FnScope ["H","hour"] ["H","hour"] (zad zox):=fsc
theorem zmk (T:Txt w K mg) (hs:Hs K mg "begin" zox) (zcg:@PF (tw w) P w K mg base 3 "arrival" zb4):@PF (tw w) P w K mg base 4 "begin" zfu:=
 letI:TW:=tw w
 pf_h (g:=zpg) hs zwe fun _ _ _ _ _ _ _ hr=>have hu:=hr.units;(zaf (zav (zaj zcg hr (zaa (ev_v 0) (zaa (ev_v 1) (zaa (zah (ixP hu) (eo_w 0) zdg) (zaa zay zag)))))))
abbrev zey:Stmt:=top 21
theorem zd9:FnScope ["H","hour","state","bound","wrong"] ["H","hour","state"] (zad zey):=fsc
theorem zdc (T:Txt w K mg) (hs:Hs K mg "by_wrong_key" zey) (zcg:@PF (tw w) P w K mg base 3 "arrival" zb4):@PF (tw w) P w K mg base 4 "by_wrong_key" zbq:=
 letI:TW:=tw w
 pf_h (g:=zdn) hs zd9 fun _ _ _ _ _ _ _ hr=>have hu:=hr.units;(zab (zau 3 zd9.nd (zah (ixP hu) (EV.o (zah (ixP hu) (EV.o (zah (ixP hu) (eo_w 0) zdg)) (EV.o (zah (ixP hu) (eo_w 2) zae)))) zae)) (zab (zau 4 zd9.nd (zaq zd0 (EV.o (zah (ixP hu) (eo_w 2) zae)) zae)) (zab (zc2 (za2 (opEq hu) zb6 (eo_w 4) (EV.o (zah (ixP hu) (eo_w 3) zae))) (zaf (zav (zaj zcg hr (zaa (ev_v 0) (zaa (ev_v 1) (zaa (zah (ixP hu) (eo_w 3) zae) (zaa (zah (ixP hu) (eo_w 2) zae) zag))))))) za4) (zaf (zav (za9 (zaa (zah (ixP hu) (eo_w 2) zae) (zaa (zah (ixP hu) (eo_w 2) zae) (zaa (ev_v 4) (zaa (zah (ixP hu) (eo_w 2) zae) (zaa zay zag)))))))))))
abbrev zme:Stmt:=top 20
theorem zjw:FnScope ["H","hour","ways","state","key","typed","target"] ["H","hour","ways","state","key"] (zad zme):=fsc
theorem zj4 (T:Txt w K mg) (hs:Hs K mg "by_key" zme) (zdc:@PF (tw w) P w K mg base 4 "by_wrong_key" zbq) (zcg:@PF (tw w) P w K mg base 3 "arrival" zb4):@PF (tw w) P w K mg base 5 "by_key" zd4:=
 letI:TW:=tw w
 pf_h (g:=zfs) hs zjw fun _ _ _ _ _ _ _ hr=>have hu:=hr.units;(zab (zau 5 zjw.nd (zaq zd0 (EV.o (zah (ixP hu) (eo_w 3) zae)) (eo_w 4))) (zab (zc2 (za2 (Zak hu) zrr (eo_w 5) (eo_w 2)) (zaf (zav (zaj zdc hr (zaa (ev_v 0) (zaa (ev_v 1) (zaa (ev_v 3) zag)))))) za4) (zab (zau 6 zjw.nd (Zbi (za2 (opEq hu) zb6 (EV.o (zah (ixP hu) (eo_w 2) (eo_w 5))) zdg) (zah (ixP hu) (eo_w 3) zae) (zah (ixP hu) (eo_w 2) (eo_w 5)))) (zab (zc2 (za2 zrm zh0 (eo_w 6) (EV.o zeg)) (zaf (zav (za9 (zaa (zah (ixP hu) (eo_w 3) zae) (zaa (zah (ixP hu) (eo_w 3) zae) (zaa (zah (ixP hu) (eo_w 3) zae) (zaa (zah (ixP hu) (eo_w 3) zae) (zaa (ev_v 5) zag)))))))) za4) (zab (zc2 (za2 (opEq hu) zb6 (eo_w 6) zdg) (zaf (zav (zaj zdc hr (zaa (ev_v 0) (zaa (ev_v 1) (zaa (ev_v 3) zag)))))) za4) (zaf (zav (zaj zcg hr (zaa (ev_v 0) (zaa (ev_v 1) (zaa (ev_v 6) (zaa (zah (ixP hu) (eo_w 3) zae) zag))))))))))))
abbrev zj0:Stmt:=top 22
theorem zik:FnScope ["H","hour","state","bound","waits"] ["H","hour","state"] (zad zj0):=fsc
theorem ziq (T:Txt w K mg) (hs:Hs K mg "by_wait" zj0) (zcg:@PF (tw w) P w K mg base 3 "arrival" zb4):@PF (tw w) P w K mg base 4 "by_wait" zh6:=
 letI:TW:=tw w
 pf_h (g:=zh2) hs zik fun _ _ _ _ _ _ _ hr=>have hu:=hr.units;(zab (zau 3 zik.nd (zah (ixP hu) (EV.o (zah (ixP hu) (EV.o (zah (ixP hu) (eo_w 0) zdg)) (EV.o (zah (ixP hu) (eo_w 2) zae)))) zae)) (zab (zau 4 zik.nd (zaq zd0 (EV.o (zah (ixP hu) (eo_w 2) zae)) zae)) (zab (zc2 (za2 (opEq hu) zb6 (eo_w 4) (EV.o (zah (ixP hu) (eo_w 3) zae))) (zaf (zav (zaj zcg hr (zaa (ev_v 0) (zaa (ev_v 1) (zaa (zah (ixP hu) (eo_w 3) zae) (zaa (zah (ixP hu) (eo_w 2) zae) zag))))))) za4) (zaf (zav (za9 (zaa (zah (ixP hu) (eo_w 2) zae) (zaa (zah (ixP hu) (eo_w 2) zae) (zaa (zah (ixP hu) (eo_w 2) zae) (zaa (ev_v 4) (zaa zay zag)))))))))))
abbrev zmd:Stmt:=top 19
theorem znh:FnScope ["H","hour","ways","state","sign","kind"] ["H","hour","ways","state","sign"] (zad zmd):=fsc
theorem zdb (T:Txt w K mg) (hs:Hs K mg "follow" zmd) (ziq:@PF (tw w) P w K mg base 4 "by_wait" zh6) (zj4:@PF (tw w) P w K mg base 5 "by_key" zd4):@PF (tw w) P w K mg base 6 "follow" zb7:=
 letI:TW:=tw w
 pf_h (g:=zes) hs znh fun _ _ _ _ _ _ _ hr=>have hu:=hr.units;(zab (zau 5 znh.nd (zah (ixP hu) (EV.o (zah (ixP hu) (EV.o (zah (ixP hu) (eo_w 0) zdg)) (EV.o (zah (ixP hu) (eo_w 3) zae)))) zae)) (zab (zc2 (EW.et (zuv (za2 (opEq hu) zb6 (eo_w 5) zdg) (zqv (za2 (opEq hu) zb6 (eo_w 5) zdg)))) (zaf (zav (ev_v 3))) za4) (zab (zc2 (za2 (opEq hu) zb6 (eo_w 4) (EV.o (zob rfl T.c_WAIT))) (zaf (zav (zaj ziq hr (zaa (ev_v 0) (zaa (ev_v 1) (zaa (ev_v 3) zag)))))) za4) (zaf (zav (zaj zj4 hr (zaa (ev_v 0) (zaa (ev_v 1) (zaa (ev_v 2) (zaa (ev_v 3) (zaa (ev_v 4) zag)))))))))))
theorem zmt (T:Txt w K mg) (zdb:@PF (tw w) P w K mg base 6 "follow" zb7):@LamB (tw w) P w K mg base 6 zbw ["state","sign"] zg0:=
 letI:TW:=tw w
 ⟨.of rfl rfl rfl (by decide +kernel) (by decide +kernel) (by decide +kernel) (by decide +kernel) (by decide +kernel),fun _ _ _ _ us h=>match us,h with | [_,_],_=>rfl,fun f c cl A outer s H hr=>by
  have hu:=hr.units;exact(zaj zdb hr (zaa (ev_v 4) (zaa (ev_v 3) (zaa (zah (ixP hu) (eo_w 2) (EV.o (zah (ixP hu) (eo_w 0) zae))) (zaa (ev_v 0) (zaa (ev_v 1) zag))))))⟩
theorem zms (T:Txt w K mg):@LamB (tw w) P w K mg base 6 zbl ["state"] zlt:=
 letI:TW:=tw w
 ⟨.of rfl rfl rfl (by decide +kernel) (by decide +kernel) (by decide +kernel) (by decide +kernel) (by decide +kernel),fun _ _ _ _ us h=>match us,h with | [_],_=>rfl,fun f c cl A outer s H hr=>by
  have hu:=hr.units;exact zpk⟩
theorem lamT (T:Txt w K mg) (zdb:@PF (tw w) P w K mg base 6 "follow" zb7):@LamT (tw w) P w K mg base 6 appL:=by
 letI:TW:=tw w
 intro L qs cs p e;unfold appL at e;split at e
 ·rename_i hL;subst hL;obtain⟨h1,h2⟩:=ztw e;exact⟨_,_,zmt T zdb,h1,h2⟩
 split at e
 ·rename_i hL;subst hL;obtain⟨h1,h2⟩:=ztw e;exact⟨_,_,zms T,h1,h2⟩
 cases e
abbrev zc8:Stmt:=top 8
theorem zbz:FnScope ["codes","counts","code","size"] ["codes"] (zad zc8):=fsc
theorem zcz (T:Txt w K mg) (hs:Hs K mg "beginning_counts" zc8):@PF (tw w) P w K mg base 1 "beginning_counts" zbo:=
 letI:TW:=tw w
 pf_h (g:=zde) hs zbz fun _ _ _ _ _ _ _ hr=>have hu:=hr.units;(zab (zdy 1 zbz.nd zhj) (zab (zb8 (zdh (ev_v 0)) (zax 2 zbz.nd) (zaf (zb8 (zkk rfl T.n_range za1 (zaq zd0 (EV.o (zk4 cLen rfl T.n_len rfl (eo_w 2))) zae)) (zax 3 zbz.nd) (zaf (zfy 1 hu (zgu (eo_w 2) zf2 (zf1 (ev_v 3))) (zaq zd0 (EV.o (Zbk (eo_v 1) (zgu (eo_w 2) zf2 (zf1 (ev_v 3))) za1)) zae)))))) (zaf (SV.frz 1 (zav (ev_v 1))))))
abbrev zma:Stmt:=top 6
theorem zjv:FnScope ["letters","letter","key","held"] ["letters","letter"] (zad zma):=fsc
theorem zj2 (T:Txt w K mg) (hs:Hs K mg "key_of" zma):@PF (tw w) P w K mg base 1 "key_of" zjn:=
 letI:TW:=tw w
 pf_h (g:=zjl) hs zjv fun _ _ _ _ _ _ _ hr=>have hu:=hr.units;(zab (zb8 (zdh (ev_v 0)) (zfx rfl (za0 (zax 2 zjv.nd) (za0 (zax 3 zjv.nd) zdt))) (zaf (zc2 (za2 (opIn hu) zpe (eo_w 1) (eo_w 3)) (zaf (zav (ev_v 2))) za4))) (zaf (zav zeg)))
abbrev zjz:Stmt:=top 5
theorem zij:FnScope ["letters","word","keys"] ["letters","word"] (zad zjz):=fsc
theorem zio (T:Txt w K mg) (hs:Hs K mg "code_of" zjz) (zj2:@PF (tw w) P w K mg base 1 "key_of" zjn):@PF (tw w) P w K mg base 2 "code_of" zgt:=
 letI:TW:=tw w
 pf_h (g:=zkg) hs zij fun _ _ _ _ _ _ _ hr=>have hu:=hr.units;(zab (zos false 2 zij.nd (N':=["letter","letters"]) (cok zij) (zdh (ev_v 1)) (fun _ _ _ _ _=>(tc_n 0)) (fun _ _ _ _ _=>(zaj zj2 hr (zaa (ev_v 1) (zaa (ev_v 0) zag))))) (zaf (zav (Zbi (za2 (opIn hu) zpe (EV.o zeg) (eo_w 2)) zeg (Zhy Zgt Zhf zay (eo_w 2))))))
abbrev zea:Stmt:=top 9
theorem zfz:FnScope ["code","counts","size"] ["code","counts"] (zad zea):=fsc
theorem zdv (T:Txt w K mg) (hs:Hs K mg "own_beginning" zea):@PF (tw w) P w K mg base 1 "own_beginning" zdf:=
 letI:TW:=tw w
 pf_h (g:=zdd) hs zfz fun _ _ _ _ _ _ _ hr=>have hu:=hr.units;(zab (zb8 (zkk rfl T.n_range za1 (zk4 cLen rfl T.n_len rfl (eo_w 0))) (zax 2 zfz.nd) (zaf (zc2 (za2 (opEq hu) zb6 (EV.o (zah (ixP hu) (eo_w 1) (EV.o (zgu (eo_w 0) zf2 (zf1 (ev_v 2)))))) zae) (zaf (zav (zgu (eo_w 0) zf2 (zf1 (ev_v 2))))) za4))) (zaf (zav (ev_v 0))))
abbrev zf9:Stmt:=top 7
theorem zc6:FnScope ["letters","words","codes","counts"] ["letters","words"] (zad zf9):=fsc
theorem zfo (T:Txt w K mg) (hs:Hs K mg "beginnings" zf9) (zio:@PF (tw w) P w K mg base 2 "code_of" zgt) (zcz:@PF (tw w) P w K mg base 1 "beginning_counts" zbo) (zdv:@PF (tw w) P w K mg base 1 "own_beginning" zdf):@PF (tw w) P w K mg base 3 "beginnings" zdr:=
 letI:TW:=tw w
 pf_h (g:=zgr) hs zc6 fun _ _ _ _ _ _ _ hr=>have hu:=hr.units;(zab (zos false 2 zc6.nd (N':=["word","letters"]) (cok zc6) (zdh (ev_v 1)) (fun _ _ _ _ _=>(tc_n 0)) (fun _ _ _ _ _=>(zaq zd0 (EV.o (zaj zio hr (zaa (ev_v 1) (zaa (ev_v 0) zag)))) (EV.o (zob rfl T.c_CODE_END))))) (zab (zau 3 zc6.nd (zaj zcz hr (zaa (ev_v 2) zag))) (zaf (zav (EN.v (ziw (N':=["word","code","counts"]) (cok zc6) (zzb rfl T.n_zip (ev_v 1) (ev_v 2)) (fun _ _ _ _ _=>(zpu rfl (zen (tc_n 0) (zen (tc_n 1) zlx)))) (fun _ _ _ _ _=>(za9 (zaa (ev_v 0) (zaa (zaj zdv hr (zaa (ev_v 1) (zaa (ev_v 2) zag))) zag))))))))))
abbrev zf5:Stmt:=top 18
theorem zc5:FnScope ["letters","names","ways","word","beginning","size"] ["letters","names"] (zad zf5):=fsc
theorem zfl (T:Txt w K mg) (hs:Hs K mg "names_ways" zf5) (zfo:@PF (tw w) P w K mg base 3 "beginnings" zdr):@PF (tw w) P w K mg base 4 "names_ways" zet:=
 letI:TW:=tw w
 pf_h (g:=zgo) hs zc5 fun _ _ _ _ _ _ _ hr=>have hu:=hr.units;(zab (zdy 2 zc5.nd zhj) (zab (zb8 (zdh (zaj zfo hr (zaa (ev_v 0) (zaa (EN.v (Zbp Zfe rfl T.n_list rfl (eo_w 1))) zag)))) (zfx rfl (za0 (zax 3 zc5.nd) (za0 (zax 4 zc5.nd) zdt))) (zab (zb8 (zkk rfl T.n_range za1 (zk4 cLen rfl T.n_len rfl (eo_w 4))) (zax 5 zc5.nd) (zaf (zfy 2 hu (zgu (eo_w 4) zf2 (zf1 (ev_v 5))) zeg))) (zaf (zfy 2 hu (ev_v 4) (zah (ixP hu) (eo_w 1) (eo_w 3)))))) (zaf (SV.frz 2 (zav (ev_v 2))))))
abbrev zg9:Stmt:=top 17
theorem zi3:FnScope ["H","name","room"] ["H","name"] (zad zg9):=fsc
theorem zdp (T:Txt w K mg) (hs:Hs K mg "room_ways" zg9) (zfl:@PF (tw w) P w K mg base 4 "names_ways" zet):@PF (tw w) P w K mg base 5 "room_ways" zas:=
 letI:TW:=tw w
 pf_h (g:=zdm) hs zi3 fun _ _ _ _ _ _ _ hr=>have hu:=hr.units;(zab (zau 2 zi3.nd (zah (ixP hu) (EV.o (zah (ixP hu) (eo_w 0) zdg)) (eo_w 1))) (zab (zc2 (za2 (opEq hu) zb6 (EV.o (zah (ixP hu) (eo_w 2) zae)) zdg) (zaf (zav (EN.v (Zbp zzf rfl T.n_dict rfl (EV.o (zah (ixP hu) (eo_w 2) zae)))))) za4) (zab (zc2 (za2 (opEq hu) zb6 (EV.o (zah (ixP hu) (eo_w 2) zae)) zdg) (zaf (zav (zaj zfl hr (zaa (zah (ixP hu) (eo_w 0) zdg) (zaa (EN.v (Zbp zzf rfl T.n_dict rfl (EV.o (zah (ixP hu) (eo_w 2) zae)))) zag))))) za4) (zaf (zav (EN.v zhj))))))
abbrev zf7:Stmt:=top 16
theorem zfg:FnScope ["H","ways","name"] ["H"] (zad zf7):=fsc
theorem zda (T:Txt w K mg) (hs:Hs K mg "house_ways" zf7) (zdp:@PF (tw w) P w K mg base 5 "room_ways" zas):@PF (tw w) P w K mg base 6 "house_ways" zby:=
 letI:TW:=tw w
 pf_h (g:=zgp) hs zfg fun _ _ _ _ _ _ _ hr=>have hu:=hr.units;(zab (zdy 1 zfg.nd zhj) (zab (zb8 (zdh (zah (ixP hu) (eo_w 0) zdg)) (zax 2 zfg.nd) (zaf (zfy 1 hu (ev_v 2) (zaj zdp hr (zaa (ev_v 0) (zaa (ev_v 2) zag)))))) (zaf (SV.frz 1 (zav (ev_v 1))))))
abbrev zf8:Stmt:=top 26
theorem zbn:FnScope ["start","lead","is_last","known","found","done","near","sign","thing"] ["start","lead","is_last"] (zad zf8):=fsc
theorem zfn (T:Txt w K mg) (hs:Hs K mg "first_rows" zf8) (LT:@LamT (tw w) P w K mg base 6 appL):@PFN (tw w) P w K mg base 8 "first_rows" zdq:=
 letI:TW:=tw w
 Zdg (g:=zgq) hs zbn fun _ _ _ _ _ _ _ hr=>have hu:=hr.units;(zhq (znn _ _) (zdy 3 zbn.nd (zxr hu (ev_v 0) zpk)) (zhq (znn _ _) (zdy 4 zbn.nd (zdz (zaa (za9 (zaa (ev_v 0) (zaa zay zag))) zag))) (zhq (zhr _ _) (zau 5 zbn.nd za1) (zhq (zvy (zf4 (zhr _ _) (zf4 (zvn _ _) (zun (zf4 (zhr _ _) (zqn (zf4 (zrh _ _ _) (zf4 (zvo _ _) (zqn zvj zli))) zli)))))) (zlz 20000 (EW.et (zuw (za2 opLt zis (eo_w 5) (EV.o (zk4 cLen rfl T.n_len rfl (eo_v 4)))) (zpj (zy7 (zh7 (EV.o (zm1 2 LT hr (zaa (zah (ixP hu) (EV.o (zah (ixP hu) (eo_v 4) (EV.o (Zez za1)))) zae) zag)))))))) (zab (zau 6 zbn.nd (zah (ixP hu) (eo_v 4) (eo_w 5))) (zab (zyb 5 zbn.nd za1) (zaf (zb8 (zdh (zob rfl T.c_SIGNS)) (zax 7 zbn.nd) (zab (zau 8 zbn.nd (zm1 1 LT hr (zaa (zah (ixP hu) (eo_w 6) zae) (zaa (ev_v 7) zag)))) (zaf (zc2 (za2 (zw3 hu) zpd (eo_w 8) (eo_v 3)) (zab (zor 3 hu (ev_v 8) zpk) (zab (zcp 4 (za9 (zaa (ev_v 8) (zaa (zaq zd0 (EV.o (zah (ixP hu) (eo_w 6) zae)) (eo_w 7)) zag)))) (zaf (zc2 (zh7 (EV.o (zm1 2 LT hr (zaa (ev_v 8) zag)))) (zaf zwb) za4)))) za4)))))))) (zv9 4)))))
abbrev zep:Stmt:=top 27
theorem zng:FnScope ["H","hour","ways"] ["H","hour"] (zad zep):=fsc
theorem zpi:∀y∈zbw.scope.names,y.2=.free->(zad zep).names.lookup y.1=some .cell:=by decide +kernel
theorem zph:∀y∈zbl.scope.names,y.2=.free->(zad zep).names.lookup y.1=some .cell:=by decide +kernel
theorem zc9 {f:Addr} {fd:By} (T:Txt w K mg) (F:Fun K "places" "places" zep f fd) (hm:mg "places"=some (.ref f)) (hb:Binds K fd ["H","hour"] []) {cP:Addr} (hcode:fd.code=.ref cP) (hhd:Dx K cP PT=true) (hKb:K.In base) (hbn:∃bm o,mg "__builtins__"=some (.ref bm)/\bm≠Ba/\bm≠mainGlobals/\base.get? bm=some o/\o.cls=.type "module"/\o.dict=some Ba/\o.data=.plain) (zda:@PF (tw w) P w K mg base 6 "house_ways" zby) (zfn:@PFN (tw w) P w K mg base 8 "first_rows" zdq) (zmk:@PF (tw w) P w K mg base 4 "begin" zfu):@PFN (tw w) P w K mg base 9 "places" zcx:=
 letI:TW:=tw w
 zww F zng hm hb (g:=zmv) (hr:=(zxp _ _ _ (zxq _))) fun cdv hcdv A outer s H E hr=>by
  have hu:=hr.units;exact(zhq (zhr _ _) (zau 2 zng.nd (zaj zda hr (zaa (ev_v 0) zag))) (zzq (zxs zfn hr (Ze3 (zaj zmk hr (zaa (ev_v 0) (zaa (ev_v 1) zag))) (zza (L:=zbw) (idx:=[2,1,0]) (lp:=zyw ⟨0,0,0,0⟩ zk6) (c:=cP) (P:=PT) ⟨rfl,rfl,hcdv.trans hcode,En hKb hhd,AO.mpr rfl,hbn,rfl,zpi,rfl,by decide +kernel,rfl⟩ (zza (L:=zbl) (idx:=[]) (lp:=zyw ⟨0,0,0,0⟩ zk5) (c:=cP) (P:=PT) ⟨rfl,rfl,hcdv.trans hcode,En hKb hhd,AO.mpr rfl,hbn,rfl,zph,rfl,by decide +kernel,rfl⟩ Ze4))))))
abbrev zc7:Stmt:=top 32
theorem zcw:FnScope ["nexts","behind","number","following","place"] ["nexts"] (zad zc7):=fsc
theorem zdu (T:Txt w K mg) (hs:Hs K mg "places_behind" zc7):@PF (tw w) P w K mg base 1 "places_behind" zcb:=
 letI:TW:=tw w
 pf_h (g:=zgn) hs zcw fun _ _ _ _ _ _ _ hr=>by
  have hu:=hr.units;refine zq9 (nt:=1) (idx:=[]) (h:=zai 0) ?_ (fun p=>⟨[.val p],fun ρ=>rfl⟩) ?_ ?_
  ·refine zws 1 zcw.nd rfl (.inl rfl) (N':=["following"]) (show CompOk ["nexts","behind","number","following","place"] (zad zc7) _ ["following"] 1 [] from ⟨rfl,by decide +kernel,by decide +kernel,by decide +kernel,rfl,by decide +kernel⟩) rfl (zdh (ev_v 0)) ?_ (zjj (by decide))
   intro _ _ _ _ _;exact zsl 0 (show HS (["following"]:List Str) from by decide +kernel) rfl (.inl rfl)
  ·refine Zdf E2 rfl rfl T.n_enumerate zcw.nd rfl rfl rfl (.inl rfl) (.inl rfl) (.inl rfl) (by first | exact Dc rfl | exact DZ rfl) (by first | exact Dc rfl | exact DZ rfl) (by decide) (by decide) (zbm rfl) (fun _=>rfl) rfl rfl rfl rfl ?_
   exact Zdd E2 rfl rfl zcw.nd rfl rfl rfl rfl (.inl rfl) (.inl rfl) (.inl rfl) (.inl rfl) (.inl rfl) (by first | exact Dc rfl | exact DZ rfl) (by decide) (by decide) (by decide) (by decide) (by decide) (by decide) (by decide) (by decide) rfl rfl (zbm rfl) (fun _ _=>rfl) (fun _=>rfl) rfl
  ·exact zz9 rfl (.inl rfl) (by decide) (by decide)
abbrev zfh:Stmt:=top 28
theorem za7:FnScope ["H","hour","found","ways","numbers","number","place","nexts","state","row"] ["H","hour","found"] (zad zfh):=fsc
theorem zez (T:Txt w K mg) (hs:Hs K mg "next_places" zfh) (zda:@PF (tw w) P w K mg base 6 "house_ways" zby) (zdb:@PF (tw w) P w K mg base 6 "follow" zb7):@PF (tw w) P w K mg base 7 "next_places" zd3:=
 letI:TW:=tw w
 pf_h (g:=zfr) hs za7 fun _ _ _ _ _ _ _ hr=>have hu:=hr.units;(zab (zau 3 za7.nd (zaj zda hr (zaa (ev_v 0) zag))) (zab (zdy 4 za7.nd zu2) (zab (zb8 (zix rfl T.n_enumerate (ev_v 2)) (zfx rfl (za0 (zax 5 za7.nd) (za0 (zax 6 za7.nd) zdt))) (zaf (zor 4 hu (zah (ixP hu) (eo_w 6) zae) (ev_v 5)))) (zab (zdy 7 za7.nd (zdz zag)) (zab (zb8 (zdh (ev_v 2)) (zfx rfl (za0 (zax 8 za7.nd) (za0 (zax 9 za7.nd) zdt))) (zaf (SV.frz 4 (zcp 7 (EN.v (ziw (N':=["sign","numbers","H","hour","state","ways"]) (cok za7) (zdh (zob rfl T.c_SIGNS)) (fun _ _ _ _ _=>(tc_n 0)) (fun _ _ _ _ _=>(zah (ixT hu) (eo_w 1) (EV.o (zaj zdb hr (zaa (ev_v 2) (zaa (ev_v 3) (zaa (zah (ixP hu) (eo_w 5) (EV.o (zah (ixP hu) (eo_w 4) zae))) (zaa (ev_v 4) (zaa (ev_v 0) zag))))))))))))))) (zaf (SV.frz 7 (zav (ev_v 7)))))))))
abbrev zow:Stmt:=top 23
theorem zpz:FnScope ["H","state","room"] ["H","state"] (zad zow):=fsc
theorem zht (T:Txt w K mg) (hs:Hs K mg "heard" zow):@PF (tw w) P w K mg base 1 "heard" zgs:=
 letI:TW:=tw w
 pf_h (g:=ziu) hs zpz fun _ _ _ _ _ _ _ hr=>have hu:=hr.units;(zab (zau 2 zpz.nd (zah (ixP hu) (EV.o (zah (ixP hu) (eo_w 0) zdg)) (EV.o (zah (ixP hu) (eo_w 1) zae)))) (zaf (zav (za9 (zaa (zah (ixP hu) (EV.o (zob rfl T.c_HEARD)) (EV.o (zah (ixP hu) (eo_w 2) zae))) (zaa (zah (ixP hu) (eo_w 2) zae) zag))))))
abbrev zmb:Stmt:=top 29
theorem zsq:FnScope ["H","state"] ["H","state"] (zad zmb):=fsc
theorem zge (T:Txt w K mg) (hs:Hs K mg "is_out" zmb) (zht:@PF (tw w) P w K mg base 1 "heard" zgs):@PF (tw w) P w K mg base 2 "is_out" zgz:=
 letI:TW:=tw w
 pf_h (g:=zmw) hs zsq fun _ _ _ _ _ _ _ hr=>have hu:=hr.units;(zaf (zav (zoc (opNe hu) (EV.o (zah (ixP hu) (EV.o (zaj zht hr (zaa (ev_v 0) (zaa (ev_v 1) zag)))) zae)) zdg)))
abbrev zjx:Stmt:=top 31
theorem zb5:FnScope ["H","hour","found","counts","behind","reached","done","near","number"] ["H","hour","found"] (zad zjx):=fsc
theorem ze6 (T:Txt w K mg) (hs:Hs K mg "outs_of" zjx) (zge:@PF (tw w) P w K mg base 2 "is_out" zgz) (zdu:@PF (tw w) P w K mg base 1 "places_behind" zcb) (zez:@PF (tw w) P w K mg base 7 "next_places" zd3):@PF (tw w) P w K mg base 8 "outs_of" zed:=
 letI:TW:=tw w
 pf_h (g:=zke) hs zb5 fun _ _ _ _ _ _ _ hr=>have hu:=hr.units;(zab (zos true 3 zb5.nd (N':=["state","row","H"]) (cok zb5) (zdh (ev_v 2)) (fun _ _ _ _ _=>(zpu rfl (zen (tc_n 0) (zen (tc_n 1) zlx)))) (fun _ _ _ _ _=>(Zbi (zh7 (EV.o (zaj zge hr (zaa (ev_v 2) (zaa (ev_v 0) zag))))) za1 zeg))) (zab (zau 4 zb5.nd (zaj zdu hr (zaa (zaj zez hr (zaa (ev_v 0) (zaa (ev_v 1) (zaa (ev_v 2) zag)))) zag))) (zab (zwa 5 zb5.nd (N':=["number","count"]) (cok zb5) (Zbr rfl T.n_enumerate (eo_v 3)) (fun _ _ _ _ _=>(zpu rfl (zen (tc_n 0) (zen (tc_n 1) zlx)))) (fun _ _ _ _ _=>(ev_v 0)) (ht:=fun _ _ _ _ _=>(zu0 (za2 (opEq hu) zb6 (eo_w 1) zae)))) (zab (zau 6 zb5.nd za1) (zab (zlz 20000 (za2 opLt zis (eo_w 6) (EV.o (zk4 cLen rfl T.n_len rfl (eo_v 5)))) (zab (zau 7 zb5.nd (zah (ixP hu) (eo_v 5) (eo_w 6))) (zab (zyb 6 zb5.nd za1) (zaf (zb8 (zdh (zah (ixP hu) (eo_w 4) (eo_w 7))) (zax 8 zb5.nd) (zaf (zc2 (za2 zrm zh0 (EV.o (zah (ixP hu) (eo_v 3) (eo_w 8))) (EV.o zeg)) (zab (zzr 3 (ev_v 8) (zaq zd0 (EV.o (zah (ixP hu) (eo_v 3) (eo_w 7))) zae)) (zaf (zcp 5 (ev_v 8)))) za4))))))) (zaf (SV.frz 3 (zav (ev_v 3)))))))))
abbrev zss:Stmt:=top 30
theorem zzx:FnScope ["H","hour"] ["H","hour"] (zad zss):=fsc
theorem zmj (T:Txt w K mg) (hs:Hs K mg "outs" zss) (ze6:@PF (tw w) P w K mg base 8 "outs_of" zed) (zc9:@PFN (tw w) P w K mg base 9 "places" zcx):@PF (tw w) P w K mg base 10 "outs" zoa:=
 letI:TW:=tw w
 pf_h (g:=zug) hs zzx fun _ _ _ _ _ _ _ hr=>have hu:=hr.units;(zaf (zav (zaj ze6 hr (zaa (ev_v 0) (zaa (ev_v 1) (zaa (EN.v (zm2 zc9 hr (zaa (ev_v 0) (zaa (ev_v 1) zag)))) zag))))))
abbrev zhb:Stmt:=top 42
theorem zeo:FnScope ["_law_nexts","_law_least_here","_law_far"] ["_law_nexts"] (zad zhb):=fsc
theorem zgd (T:Txt w K mg) (hs:Hs K mg "_law_least" zhb):@PF (tw w) P w K mg base 1 "_law_least" zee:=
 letI:TW:=tw w
 pf_h (g:=zhg) hs zeo fun _ _ _ _ _ _ _ hr=>have hu:=hr.units;(zab (zau 1 zeo.nd zeg) (zab (zb8 (zdh (ev_v 0)) (zax 2 zeo.nd) (zaf (zc2 (EW.et (zuw (za2 zyq zn0 (eo_w 2) (EV.o zeg)) (zpj (EW.et (zuv (za2 zrm zh0 (eo_w 1) (EV.o zeg)) (zqv (za2 opLt zis (eo_w 2) (eo_w 1)))))))) (zaf (zau 1 zeo.nd (ev_v 2))) za4))) (zaf (zav (ev_v 1)))))
abbrev zov:Stmt:=top 33
theorem zl5:FnScope ["H","hour","found"] ["H","hour"] (zad zov):=fsc
theorem zmi (T:Txt w K mg) (hs:Hs K mg "traps" zov) (zc9:@PFN (tw w) P w K mg base 9 "places" zcx) (ze6:@PF (tw w) P w K mg base 8 "outs_of" zed):@PF (tw w) P w K mg base 10 "traps" zmz:=
 letI:TW:=tw w
 pf_h (g:=zpf) hs zl5 fun _ _ _ _ _ _ _ hr=>have hu:=hr.units;(zab (zau 2 zl5.nd (EN.v (zm2 zc9 hr (zaa (ev_v 0) (zaa (ev_v 1) zag))))) (zaf (zav (EN.v (ziw (N':=["place","count"]) (cok zl5) (zzb rfl T.n_zip (ev_v 2) (zaj ze6 hr (zaa (ev_v 0) (zaa (ev_v 1) (zaa (ev_v 2) zag))))) (fun _ _ _ _ _=>(zpu rfl (zen (tc_n 0) (zen (tc_n 1) zlx)))) (fun _ _ _ _ _=>(ev_v 0)) (ht:=fun _ _ _ _ _=>(zu0 (za2 zrm zh0 (eo_w 1) (EV.o zeg)))))))))
abbrev zst:Stmt:=top 34
theorem zl8:FnScope ["H","hour","rows","state","row"] ["H","hour"] (zad zst):=fsc
theorem zo2 (T:Txt w K mg) (hs:Hs K mg "ends" zst) (zc9:@PFN (tw w) P w K mg base 9 "places" zcx) (zge:@PF (tw w) P w K mg base 2 "is_out" zgz):@PF (tw w) P w K mg base 10 "ends" zqu:=
 letI:TW:=tw w
 pf_h (g:=zuh) hs zl8 fun _ _ _ _ _ _ _ hr=>have hu:=hr.units;(zab (zdy 2 zl8.nd zhj) (zab (zb8 (zdh (EN.v (zm2 zc9 hr (zaa (ev_v 0) (zaa (ev_v 1) zag))))) (zfx rfl (za0 (zax 3 zl8.nd) (za0 (zax 4 zl8.nd) zdt))) (zaf (zc2 (zh7 (EV.o (zaj zge hr (zaa (ev_v 0) (zaa (ev_v 3) zag))))) (zaf (zsm 2 (zah (ixP hu) (eo_w 3) zae) (ev_v 4))) za4))) (zaf (zav (EN.v (zu3 rfl T.n_list (eo_v 2)))))))
abbrev zf6:Stmt:=top 43
theorem zl6:FnScope ["_law_far"] ["_law_far"] (zad zf6):=fsc
theorem zfm (T:Txt w K mg) (hs:Hs K mg "_law_is_far" zf6):@PF (tw w) P w K mg base 1 "_law_is_far" zeu:=
 letI:TW:=tw w
 pf_h (g:=zer) hs zl6 fun _ _ _ _ _ _ _ hr=>have hu:=hr.units;(zaf (zav (Zhx (zoc zrm (eo_w 0) (EV.o zeg)) (zuy (zy6 (zuz Za7 rfl T.n_isinstance rfl T.n_int (by decide +kernel) (eo_w 0)) (zuy (Zey (zuz zxh rfl T.n_isinstance rfl T.n_bool (by decide +kernel) (eo_w 0)))))))))
abbrev zsr:Stmt:=top 15
theorem zzw:FnScope ["H","hour","state","sign"] ["H","hour","state","sign"] (zad zsr):=fsc
theorem zo1 (T:Txt w K mg) (hs:Hs K mg "step" zsr) (zdb:@PF (tw w) P w K mg base 6 "follow" zb7) (zdp:@PF (tw w) P w K mg base 5 "room_ways" zas):@PF (tw w) P w K mg base 7 "step" zn9:=
 letI:TW:=tw w
 pf_h (g:=zuf) hs zzw fun _ _ _ _ _ _ _ hr=>have hu:=hr.units;(zaf (zav (zaj zdb hr (zaa (ev_v 0) (zaa (ev_v 1) (zaa (zaj zdp hr (zaa (ev_v 0) (zaa (zah (ixP hu) (eo_w 2) zae) zag))) (zaa (ev_v 2) (zaa (ev_v 3) zag))))))))
abbrev zl9:Stmt:=top 44
theorem zcr:FnScope ["_law_script","_law_house_here","_law_hour","_law_told","_law_fars","_law_numbers_here","_law_k","_law_state","_law_row","_law_stuck","_law_last","_law_due","_law_least_here"] ["_law_script"] (zad zl9):=fsc
theorem Zdv {f:Addr} {fd:By} (T:Txt w K mg) (F:Fun K "law" "law" zl9 f fd) (zeq:@PF (tw w) P w K mg base 3 "_law_house" zef) (za3:@PF (tw w) P w K mg base 1 "_law_cell_at" zar) (zc9:@PFN (tw w) P w K mg base 9 "places" zcx) (zmj:@PF (tw w) P w K mg base 10 "outs" zoa) (zfm:@PF (tw w) P w K mg base 1 "_law_is_far" zeu) (zht:@PF (tw w) P w K mg base 1 "heard" zgs) (zgd:@PF (tw w) P w K mg base 1 "_law_least" zee) (zo1:@PF (tw w) P w K mg base 7 "step" zn9) (zmi:@PF (tw w) P w K mg base 10 "traps" zmz) (zo2:@PF (tw w) P w K mg base 10 "ends" zqu):FnOk P w K mg base CX0 11 f fd ["_law_script"] (@spP (tw w) K 1 zuu):=
 letI:TW:=(tw w)
 have main:FnOk P w K mg base CX0 (10+1) f fd ["_law_script"] (spP K 1 (runF 1 13 zxj)):=by
  refine Zg8 (N:=["_law_script","_law_house_here","_law_hour","_law_told","_law_fars","_law_numbers_here","_law_k","_law_state","_law_row","_law_stuck","_law_last","_law_due","_law_least_here"]) (ps:=["_law_script"]) (k:=10) (g:=zxj) F zcr ?_;intro cdv A outer s H E hr;have hu:=hr.units;exact(zab (zau 1 zcr.nd (zaj zeq hr (zaa (ev_v 0) zag))) (zab (zau 2 zcr.nd (zaq zdk (EV.o (zaj za3 hr (zaa (ev_v 0) (zaa za1 zag)))) zae)) (zab (zau 3 zcr.nd (EN.v (zm2 zc9 hr (zaa (ev_v 1) (zaa (ev_v 2) zag))))) (zab (zau 4 zcr.nd (zaj zmj hr (zaa (ev_v 1) (zaa (ev_v 2) zag)))) (zab (zc2 (EW.et (zuv (zy7 (zh7 (EV.o (zuz zxg rfl T.n_isinstance rfl T.n_list (by decide +kernel) (eo_w 4))))) (zuv (za2 (opNe hu) zka (EV.o (zk4 cLen rfl T.n_len rfl (eo_w 4))) (EV.o (zk4 cLen rfl T.n_len rfl (eo_w 3)))) (zqv (za2 (opIn hu) zpe (EV.o zpk) (EN.o (ziw (N':=["_law_far"]) (cok zcr) (zdh (ev_v 4)) (fun _ _ _ _ _=>(tc_n 0)) (fun _ _ _ _ _=>(zaj zfm hr (zaa (ev_v 0) zag)))))))))) (zaf (zav zpk)) za4) (zab (zdy 5 zcr.nd zu2) (zab (zb8 (zix rfl T.n_enumerate (ev_v 3)) (zfx rfl (za0 (zax 6 zcr.nd) (za0 (zfx rfl (za0 (zax 7 zcr.nd) (za0 (zax 8 zcr.nd) zdt))) zdt))) (zaf (zor 5 hu (ev_v 7) (zah (ixP hu) (eo_w 4) (eo_w 6))))) (zab (zdy 9 zcr.nd (zdz zag)) (zab (zdy 10 zcr.nd zhj) (zab (zb8 (zix rfl T.n_enumerate (ev_v 3)) (zfx rfl (za0 (zax 6 zcr.nd) (za0 (zfx rfl (za0 (zax 7 zcr.nd) (za0 (zax 8 zcr.nd) zdt))) zdt))) (zab (zc2 (za2 (opNe hu) zka (EV.o (zah (ixP hu) (EV.o (zaj zht hr (zaa (ev_v 1) (zaa (ev_v 7) zag)))) zae)) zdg) (zab (zsm 10 (zah (ixP hu) (eo_w 7) zae) (ev_v 8)) (zaf (zau 11 zcr.nd za1))) (zab (SV.frz 5 (zau 12 zcr.nd (zaj zgd hr (zaa (EN.v (ziw (N':=["_law_sign","_law_numbers_here","_law_house_here","_law_hour","_law_state"]) (cok zcr) (zdh zay) (fun _ _ _ _ _=>(tc_n 0)) (fun _ _ _ _ _=>(zah (ixT hu) (eo_w 1) (EV.o (zaj zo1 hr (zaa (ev_v 2) (zaa (ev_v 3) (zaa (ev_v 4) (zaa (ev_v 0) zag)))))))))) zag)))) (zab (zau 11 zcr.nd zeg) (zaf (zc2 (za2 zyq zn0 (eo_w 12) (EV.o zeg)) (zaf (zau 11 zcr.nd (zaq zd0 (eo_w 12) zae))) za4))))) (zab (zc2 (za2 (opNe hu) zka (EV.o (zah (ixP hu) (eo_w 4) (eo_w 6))) (eo_w 11)) (zaf (zav zpk)) za4) (zaf (zc2 (za2 zrm zh0 (eo_w 11) (EV.o zeg)) (zaf (zcp 9 (za9 (zaa (ev_v 7) (zaa (ev_v 8) zag))))) za4))))) (zab (SV.frz 10 (zc2 (EW.et (zuv (za2 (opNe hu) zka (EV.o (zaj zmi hr (zaa (ev_v 1) (zaa (ev_v 2) zag)))) (eo_v 9)) (zqv (za2 (opNe hu) zka (EV.o (zaj zo2 hr (zaa (ev_v 1) (zaa (ev_v 2) zag)))) (EN.o (ziw (N':=["_law_name","_law_last"]) (cok zcr) (zdh (ev_v 10)) (fun _ _ _ _ _=>(tc_n 0)) (fun _ _ _ _ _=>(za9 (zaa (ev_v 0) (zaa (zah (ixP hu) (eo_w 1) (eo_w 0)) zag)))))))))) (zaf (zav zpk)) za4)) (zaf (zav (zy6 (zoc (opEq hu) (eo_w 1) (EV.o (zaj zeq hr (zaa (ev_v 0) zag)))) (zuy (zoc (opEq hu) (EV.o (zaj zmj hr (zaa (ev_v 1) (zaa (ev_v 2) zag)))) (eo_w 4)))))))))))))))))
 main
end K32
namespace K32
open PySem PySem.Spec PyProof.Rows L2 PU
seal EV EO EN EA ET EW SV SVs TGt TGts TCt TCts EI ETs ED EOI EL
theorem all_mk {l:FP} {w:Ar} {K:A0} {h:Heap} {mg:Str->Option A9} {fa:Addr} (X:K.In h) (G:h.Ns mainGlobals mg) (hfa:mg "law"=some (.ref fa))
  {f23 f35:Addr} {od23 an23 od35 an35:Option Addr} {sl23 sl35:Array (Option A9)} {oc23 kV23 dc23 pm23 cd23 ct23 oc35 kV35 dc35 pm35 cd35 ct35:A9}
  (h0:Has K "_law_numbers" zfi)
  (h1:Has K "_law_names" zha)
  (h2:Has K "_law_room_of_names" zcy)
  (h3:Has K "_law_cell_at" zfj)
  (h4:Has K "_law_menu" zil)
  (h5:Has K "_law_house" zhc)
  (h6:Has K "handed" zmc)
  (h7:Has K "come_to" zjy)
  (h8:Has K "arrival" zj1)
  (h9:Has K "begin" zox)
  (h10:Has K "by_wrong_key" zey)
  (h11:Has K "by_key" zme)
  (h12:Has K "by_wait" zj0)
  (h13:Has K "follow" zmd)
  (h14:Has K "beginning_counts" zc8)
  (h15:Has K "key_of" zma)
  (h16:Has K "code_of" zjz)
  (h17:Has K "own_beginning" zea)
  (h18:Has K "beginnings" zf9)
  (h19:Has K "names_ways" zf5)
  (h20:Has K "room_ways" zg9)
  (h21:Has K "house_ways" zf7)
  (h22:Has K "first_rows" zf8)
  (a23:BP K mainGlobals "places"=some (some (.ref f23))) (l23:K.lookup f23=some ⟨oc23,od23,.func (Bj "places" "places" (zeh zep) (zbr zep) (zad zep) .none kV23 dc23 pm23 an23 cd23 ct23),sl23⟩) (c23:Cd K cd23 "places"=true) (k23:CA K (.ref f23)=true)
  (h24:Has K "places_behind" zc7)
  (h25:Has K "next_places" zfh)
  (h26:Has K "heard" zow)
  (h27:Has K "is_out" zmb)
  (h28:Has K "outs_of" zjx)
  (h29:Has K "outs" zss)
  (h30:Has K "_law_least" zhb)
  (h31:Has K "traps" zov)
  (h32:Has K "ends" zst)
  (h33:Has K "_law_is_far" zf6)
  (h34:Has K "step" zsr)
  (a35:BP K mainGlobals "law"=some (some (.ref f35))) (l35:K.lookup f35=some ⟨oc35,od35,.func (Bj "law" "law" (zeh zl9) (zbr zl9) (zad zl9) .none kV35 dc35 pm35 an35 cd35 ct35),sl35⟩) (c35:Cd K cd35 "law"=true) (k35:CA K (.ref f35)=true)
  {cP:Addr} (hcode:cd23=.ref cP) (hhd:Dx K cP PT=true)
  (z_bool:BP K mainGlobals "bool"=some none)
  (z_dict:BP K mainGlobals "dict"=some none)
  (z_enumerate:BP K mainGlobals "enumerate"=some none)
  (z_int:BP K mainGlobals "int"=some none)
  (z_isinstance:BP K mainGlobals "isinstance"=some none)
  (z_len:BP K mainGlobals "len"=some none)
  (z_list:BP K mainGlobals "list"=some none)
  (z_range:BP K mainGlobals "range"=some none)
  (z_tuple:BP K mainGlobals "tuple"=some none)
  (z_zip:BP K mainGlobals "zip"=some none)
  (c_CODE_END:@Con (tw w) K mg "CODE_END" c_CODE_END)
  (c_HEARD:@Con (tw w) K mg "HEARD" c_HEARD)
  (c_SIGNS:@Con (tw w) K mg "SIGNS" c_SIGNS)
  (c_WAIT:@Con (tw w) K mg "WAIT" c_WAIT)
  : ∃fd:By,(∀(s:AD) (v:A9),GV s fd ⟨[v],[]⟩ [("_law_script",v)])/\∀base:Heap,K.In base->base.Ns mainGlobals mg->(∃bm o,mg "__builtins__"=some (.ref bm)/\bm≠Ba/\bm≠mainGlobals/\base.get? bm=some o/\o.cls=.type "module"/\o.dict=some Ba/\o.data=.plain)->FnOk l.prog w K mg base CX0 11 fa fd ["_law_script"] (@spP (tw w) K 1 zuu):=by
 have e:=hfa.symm.trans (Ds X G a35);cases e;have T:Txt w K mg:=⟨BU X G z_bool,BU X G z_dict,BU X G z_enumerate,BU X G z_int,BU X G z_isinstance,BU X G z_len,BU X G z_list,BU X G z_range,BU X G z_tuple,BU X G z_zip,c_CODE_END,c_HEARD,c_SIGNS,c_WAIT⟩;have F23:=zuk (st:=zep) l23 c23 k23;have b23:=F23.binds (ps:=["H","hour"]) fun _ _ _ _ _ _ us hl=>match us,hl with | [_,_],_=>rfl
 have F35:=zuk (st:=zl9) l35 c35 k35;refine⟨Bj "law" "law" (zeh zl9) (zbr zl9) (zad zl9) .none kV35 dc35 pm35 an35 cd35 ct35,fun s v=>.of_eq rfl,fun base hKb _ hbn=>?_⟩
 have p_law_numbers:=za8 (P:=l.prog) (base:=base) T (h0.fn X G);have p_law_names:=zgc (P:=l.prog) (base:=base) T (h1.fn X G) p_law_numbers;have p_law_room_of_names:=zcn (P:=l.prog) (base:=base) T (h2.fn X G) p_law_numbers;have p_law_cell_at:=za3 (P:=l.prog) (base:=base) T (h3.fn X G);have p_law_menu:=zhd (P:=l.prog) (base:=base) T (h4.fn X G) p_law_numbers;have p_law_house:=zeq (P:=l.prog) (base:=base) T (h5.fn X G) p_law_names p_law_cell_at p_law_menu p_law_room_of_names p_law_numbers;have p_handed:=zj3 (P:=l.prog) (base:=base) T (h6.fn X G);have p_come_to:=zin (P:=l.prog) (base:=base) T (h7.fn X G) p_handed;have p_arrival:=zcg (P:=l.prog) (base:=base) T (h8.fn X G) p_come_to;have p_begin:=zmk (P:=l.prog) (base:=base) T (h9.fn X G) p_arrival;have p_by_wrong_key:=zdc (P:=l.prog) (base:=base) T (h10.fn X G) p_arrival;have p_by_key:=zj4 (P:=l.prog) (base:=base) T (h11.fn X G) p_by_wrong_key p_arrival;have p_by_wait:=ziq (P:=l.prog) (base:=base) T (h12.fn X G) p_arrival;have p_follow:=zdb (P:=l.prog) (base:=base) T (h13.fn X G) p_by_wait p_by_key;have LT:=lamT (P:=l.prog) (base:=base) T p_follow;have p_beginning_counts:=zcz (P:=l.prog) (base:=base) T (h14.fn X G);have p_key_of:=zj2 (P:=l.prog) (base:=base) T (h15.fn X G);have p_code_of:=zio (P:=l.prog) (base:=base) T (h16.fn X G) p_key_of;have p_own_beginning:=zdv (P:=l.prog) (base:=base) T (h17.fn X G);have p_beginnings:=zfo (P:=l.prog) (base:=base) T (h18.fn X G) p_code_of p_beginning_counts p_own_beginning;have p_names_ways:=zfl (P:=l.prog) (base:=base) T (h19.fn X G) p_beginnings;have p_room_ways:=zdp (P:=l.prog) (base:=base) T (h20.fn X G) p_names_ways;have p_house_ways:=zda (P:=l.prog) (base:=base) T (h21.fn X G) p_room_ways;have p_first_rows:=zfn (P:=l.prog) (base:=base) T (h22.fn X G) LT;have p_places:=zc9 (P:=l.prog) (base:=base) T F23 (Ds X G a23) b23 hcode hhd hKb hbn p_house_ways p_first_rows p_begin;have p_places_behind:=zdu (P:=l.prog) (base:=base) T (h24.fn X G);have p_next_places:=zez (P:=l.prog) (base:=base) T (h25.fn X G) p_house_ways p_follow;have p_heard:=zht (P:=l.prog) (base:=base) T (h26.fn X G);have p_is_out:=zge (P:=l.prog) (base:=base) T (h27.fn X G) p_heard;have p_outs_of:=ze6 (P:=l.prog) (base:=base) T (h28.fn X G) p_is_out p_places_behind p_next_places;have p_outs:=zmj (P:=l.prog) (base:=base) T (h29.fn X G) p_outs_of p_places;have p_law_least:=zgd (P:=l.prog) (base:=base) T (h30.fn X G);have p_traps:=zmi (P:=l.prog) (base:=base) T (h31.fn X G) p_places p_outs_of;have p_ends:=zo2 (P:=l.prog) (base:=base) T (h32.fn X G) p_places p_is_out;have p_law_is_far:=zfm (P:=l.prog) (base:=base) T (h33.fn X G);have p_step:=zo1 (P:=l.prog) (base:=base) T (h34.fn X G) p_follow p_room_ways;exact Zdv T F35 p_law_house p_law_cell_at p_places p_outs p_law_is_far p_heard p_law_least p_step p_traps p_ends
theorem walk{l:FP}{q:Ak}{loose:List Str}{XP:(Str->Option A9)->Heap->Prop}{YP:Ar->Heap->Prop}{d:DefRec}{K:Params->A0}(hn:l.most=some 63)(hdf:d.params.defaults=[])
  (hY:∀(w:Ar)(h:Heap),YP w h->(K w.params).In h) (hT:∀(w:Ar)(h:Heap),YP w h->∀P∈[PT],h.get? P=some (D5 #[])) (hC:∀(w:Ar),∀P∈[PT],∃c,Dx (K w.params) c P=true) (hL:∀(w:Ar),∀P∈[PT],(K w.params).lookup P=none)
  (F:∀(w:Ar)(mg:Str->Option A9)(fa:Addr)(h:Heap),(K w.params).In h->h.Ns mainGlobals mg->mg d.name=some (.ref fa)->
   ∃fd:By,(∀(s:AD) (u:A9),GV s fd ⟨[u],[]⟩ [("_law_script",u)])/\∀base:Heap,(K w.params).In base->base.Ns mainGlobals mg->(∃bm o,mg "__builtins__"=some (.ref bm)/\bm≠Ba/\bm≠mainGlobals/\base.get? bm=some o/\o.cls=.type "module"/\o.dict=some Ba/\o.data=.plain)->FnOk l.prog w (K w.params) mg base CX0 11 fa fd ["_law_script"] (@spP (tw w) (K w.params) 1 zuu)) :
  PySem.W.WalkO q loose XP YP l.row.toRowW d [] (fun f vs=>HH f vs):=
 L2.walk_ofT (n:=63) (k:=11) (x:="_law_script") (CX:=fun _=>CX0) (sp:=fun w=>@spP (tw w) (K w.params) 1 zuu) hn (by decide) hdf ⟨rfl,by decide,by decide⟩ [PT] hY hT hC hL F
  (fun w _ a ns hl hT hS=>letI:TW:=tw w;⟨rfl,tabs0 (ts:=[PT]) rfl hT,_,_,zrb hS,zxa ns,fun v _ _ r=>r⟩) fun _ _ _ _ _ z=>z
end K32
def PySem.W.Fast.tw9193046437265874291:Nat:=0
def PySem.W.Fast.tw2454250779428220786:Nat:=0
def PySem.W.Fast.tw7289863671454535054:Nat:=0
def PySem.W.Fast.tw2120482270540503649:Nat:=0
def PySem.W.Fast.tw11305085117742191431:Nat:=0
def PySem.W.Fast.tw13890661919380805512:Nat:=0
def PySem.W.Fast.tw15875646747825981670:Nat:=0
def PySem.W.Fast.tw17966056402584828110:Nat:=0
def PySem.W.Fast.tw14181847713259661412:Nat:=0
def PySem.W.Fast.tw16200942470345276514:Nat:=0
def PySem.W.Fast.tw1135337994805677706:Nat:=0
def PySem.W.Fast.tw18301526114725097441:Nat:=0
def PySem.W.Fast.tw15209894903276950324:Nat:=0
def PySem.W.Fast.tw17822363704571288575:Nat:=0
def PySem.W.Fast.tw14640577930531028604:Nat:=0
def PySem.W.Fast.tw18141612838145899061:Nat:=0
def PySem.W.Fast.tw10175652903205649876:Nat:=0
def PySem.W.Fast.tw14057201054833964189:Nat:=0
def PySem.W.Fast.tw7907245686245379359:Nat:=0
def PySem.W.Fast.tw17848957214684663053:Nat:=0
def PySem.W.Fast.tw9075461209575014999:Nat:=0
def PySem.W.Fast.tw15219466413453725388:Nat:=0
def PySem.W.Fast.tw4265865283910244616:Nat:=0
def PySem.W.Fast.tw1898284359882489025:Nat:=0
def PySem.W.Fast.tw5899121340179209304:Nat:=0
def PySem.W.Fast.tw6015414857190944192:Nat:=0
def PySem.W.Fast.tw16021820864047610037:Nat:=0
open PySem PySem.W PyProof.Rows
set_option maxRecDepth 100000 in
set_option maxHeartbeats 0 in
theorem PySem.Challenge.cw_menutree_k32_whole_ways_out_holds : PySem.Challenge.rw_menutree_k32_whole_ways_out.Holds := by
 w_on;o_law;km_head;(case hw=>w_witness2)
 k_fill
 refine K32.walk (l:=PySem.Challenge.rw_menutree_k32_whole_ways_out) rfl rfl (fun w h Y=>PySem.W.km_in_of Y) (fun w h Y=>PySem.W.km_tabs_of Y) ?C ?L ?F
 case F=>
  intro w mg fa h KX G hmg;refine' K32.all_mk KX G hmg ?h0 ?h1 ?h2 ?h3 ?h4 ?h5 ?h6 ?h7 ?h8 ?h9 ?h10 ?h11 ?h12 ?h13 ?h14 ?h15 ?h16 ?h17 ?h18 ?h19 ?h20 ?h21 ?h22 ?a23 ?l23 ?c23 ?k23 ?h24 ?h25 ?h26 ?h27 ?h28 ?h29 ?h30 ?h31 ?h32 ?h33 ?h34 ?a35 ?l35 ?c35 ?k35 ?hcode ?hhd ?z_bool ?z_dict ?z_enumerate ?z_int ?z_isinstance ?z_len ?z_list ?z_range ?z_tuple ?z_zip ?q_CODE_END ?q_HEARD ?q_SIGNS ?q_WAIT
  (case h0 | h1 | h2 | h3 | h4 | h5 | h6 | h7 | h8 | h9 | h10 | h11 | h12 | h13 | h14 | h15 | h16 | h17 | h18 | h19 | h20 | h21 | h22 | h24 | h25 | h26 | h27 | h28 | h29 | h30 | h31 | h32 | h33 | h34=>(refine' PU.Has.of ?n1 ?n2 ?n3 ?n4;(case n1=>k_is);(case n2=>k_is);(case n3=>k_is);(case n4=>k_is)))
  (case a23=>k_is)
  (case l23=>k_is)
  (case c23=>k_is)
  (case k23=>k_is)
  (case a35=>k_is)
  (case l35=>k_is)
  (case c35=>k_is)
  (case k35=>k_is)
  (case hcode=>exact rfl)
  (case hhd=>exact rfl)
  (case z_bool=>k_is)
  (case z_dict=>k_is)
  (case z_enumerate=>k_is)
  (case z_int=>k_is)
  (case z_isinstance=>k_is)
  (case z_len=>k_is)
  (case z_list=>k_is)
  (case z_range=>k_is)
  (case z_tuple=>k_is)
  (case z_zip=>k_is)
  (case q_CODE_END=>(refine' PU.con_str KX G ?n1;(case n1=>k_is)))
  (case q_HEARD=>(refine' PU.con_dct [(AN "menu",_,_),(AN "names",_,_),(AN "hand",_,_),(AN "end",_,_)] (xs:=[.str (AN "asked"),.str (AN "asked"),.str (AN "hand"),.str (AN "end")]) KX G ?n1 ?n2 ?n3 ?n4 ?n5 ?n6 ?n7 ?n8;(case n1=>k_is);(case n2=>k_is);(case n3=>exact rfl);(case n4=>decide);(case n5=>decide +kernel);(case n6=>show 4<=sizeLine;decide);(case n7=>exact .cons ⟨_,rfl⟩ (.cons ⟨_,rfl⟩ (.cons ⟨_,rfl⟩ (.cons ⟨_,rfl⟩ (.nil)))));(case n8=>intro H;exact⟨_,_,rfl,rfl,_,_,rfl,rfl,_,_,rfl,rfl,_,_,rfl,rfl,rfl⟩)))
  (case q_SIGNS=>(refine' PU.con_str KX G ?n1;(case n1=>k_is)))
  (case q_WAIT=>(refine' PU.con_str KX G ?n1;(case n1=>k_is)))
 case C=>
  intro w P hP;cases AO.mp hP;exact⟨150,rfl⟩
 case L=>
  intro w P hP;cases AO.mp hP;exact rfl
